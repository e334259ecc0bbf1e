import Derived.Test.YtmpfgdmdnghhgaaW9
namespace Go.Proofs.Ytmpfgdmdnghhgaa
open Go.RowKit Wr

/-- the bounds that the ring and the bits keep -/
structure PB (s : Rd) : Prop where
  at0 : 0 ≤ s.at_
  at1 : s.at_ < 4096
  r0 : 0 ≤ s.reach
  r1 : s.reach ≤ 4096
  w1 : s.window ≤ 4096
  b0 : 0 ≤ s.hold
  b1 : s.hold < 1099511627776
  n0 : 0 ≤ s.have_
  n1 : s.have_ ≤ 40

theorem put_PB {s : Rd} (h : PB s) (c : Int) : PB (put s c) := by
  have h1 := h.at0; have h2 := h.r0; have h3 := h.r1; have h4 := h.w1
  refine ⟨?_, ?_, ?_, ?_, h.w1, h.b0, h.b1, h.n0, h.n1⟩
  · show 0 ≤ (s.at_ + 1) % 4096; omega
  · show (s.at_ + 1) % 4096 < 4096; omega
  · show 0 ≤ if s.reach < s.window then s.reach + 1 else s.reach; split <;> omega
  · show (if s.reach < s.window then s.reach + 1 else s.reach) ≤ 4096; split <;> omega

theorem put_left (s : Rd) (c : Int) : (put s c).left = s.left - 1 := rfl
theorem put_len (s : Rd) (c : Int) : (put s c).out.length = s.out.length + 1 := by simp [put, addRing]

theorem copy_succ : ∀ (n : Nat) (s : Rd) (d : Int), copyGo (n + 1) s d = put (copyGo n s d) (agoP (copyGo n s d) d)
  | 0, _, _ => rfl
  | n + 1, s, d => by
    have := copy_succ n (put s (agoP s d)) d
    exact this
theorem copy_keeps (d : Int) (s : Rd) (h : PB s) : ∀ n : Nat, PB (copyGo n s d) ∧ (copyGo n s d).left = s.left - n ∧ (copyGo n s d).out.length = s.out.length + n ∧ (copyGo n s d).length = s.length ∧ (copyGo n s d).last = s.last
  | 0 => ⟨h, by show s.left = _; omega, rfl, rfl, rfl⟩
  | n + 1 => by
    obtain ⟨h1, h2, h3, h4, h5⟩ := copy_keeps d s h n
    rw [copy_succ]
    exact ⟨put_PB h1 _, by rw [put_left, h2]; omega, by rw [put_len, h3]; omega, by rw [← h4]; rfl, by rw [← h5]; rfl⟩

section
variable {w : World} {B b : Nat} {s : Rd}
theorem Rep.next {w' : World} {t : Rd} {v : Value} (hbB : b < B) (hB : B ≤ w.heap.size) (hown : w.ownsRow B 5 1 v s.out.length (s.out.map (Value.int .u8))) (hr : Row w' b t v) (hon : On b w w') (ho : t.out = s.out) :
    Rep w' B b t ∧ Fr B b w w' := ⟨Rep.on hbB hB hon hr hown ho, hon.fr hB⟩

theorem fillTo_out (s : Rd) : (fillTo s).out = s.out := by unfold fillTo; split <;> rfl
theorem endBlock_out (s : Rd) : (endBlock s).out = s.out := by
  unfold endBlock
  split
  · split
    · exact fillTo_out s
    · exact fillTo_out s
  · rfl
theorem endCommand_out (s : Rd) : (endCommand s).out = s.out := by
  unfold endCommand
  split
  · exact endBlock_out _
  · rfl

theorem endBlock_rep (hR : Rep w B b s) (h : PB s) :
    Calls Try.prog 87 #[.pointer (some ⟨b, 0, none⟩)] w fun e w' => e = .returned (.tuple #[]) ∧ Rep w' B b (endBlock s) ∧ Fr B b w w' := by
  obtain ⟨hbB, hB, v, hr, hown⟩ := hR
  refine (endBlock_any hr h.b0 h.b1 h.n0 h.n1).mono ?_
  rintro e w' ⟨rfl, hr', hon⟩
  exact ⟨rfl, Rep.next hbB hB hown hr' hon (endBlock_out s)⟩
theorem endCommand_rep (hR : Rep w B b s) (h : PB s) :
    Calls Try.prog 93 #[.pointer (some ⟨b, 0, none⟩)] w fun e w' => e = .returned (.tuple #[]) ∧ Rep w' B b (endCommand s) ∧ Fr B b w w' := by
  obtain ⟨hbB, hB, v, hr, hown⟩ := hR
  refine (endCommand_any hr h.b0 h.b1 h.n0 h.n1).mono ?_
  rintro e w' ⟨rfl, hr', hon⟩
  exact ⟨rfl, Rep.next hbB hB hown hr' hon (endCommand_out s)⟩

set_option maxHeartbeats 400000 in
theorem useByte_any (hR : Rep w B b s) (x : Int) (h : PB s) (h1 : 0 ≤ x) (h2 : x ≤ 255) (h6 : 0 ≤ s.left) (h7 : s.left ≤ 4096) (h8 : s.out.length ≤ 17592186044416) :
    Calls Try.prog 72 #[.pointer (some ⟨b, 0, none⟩), .int .i64 x] w fun e w' => e = .returned (.tuple #[]) ∧ Rep w' B b (useByte s x) ∧ Fr B b w w' := by
  by_cases hk : s.kind = 1
  · have hP := put_any hR x h.at0 h.at1 h.r0 h.w1 h.r1 (by omega) (by omega) h8
    have HE : Hid (useByte s x = if (put s x).left = 0 then endBlock (put s x) else put s x) := by simp only [Hid, useByte, if_pos hk]
    have hpb := put_PB h x
    obtain ⟨hbB, hB, v, hr, hown⟩ := hR
    have c4 := hr.c_kind
    rw [hk] at c4
    clear hk
    by_cases hl : (put s x).left = 0
    · rw [if_pos hl] at HE
      have Hl : Hid ((put s x).left = 0) := hl
      clear hl
      go_enter Try.func72, Try.ntmps72
      go_wp2_with (first
        | (go_at_call 89; refine hP.mono ?_; rintro e w1 ⟨rfl, hR1, hfr1⟩; have hR1' := hR1; obtain ⟨_, hB1, v1, hr1, hown1⟩ := hR1'; have d5 := hr1.c_left; rw [Hl.out] at d5)
        | (go_at_call 87; refine (endBlock_rep hR1 hpb).mono ?_; rintro e w2 ⟨rfl, hR2, hfr2⟩))
      go_end0
      rw [HE.out]
      exact ⟨rfl, hR2, hfr1.trans hfr2⟩
    · rw [if_neg hl] at HE
      have hlb : ((put s x).left == 0) = false := beq_eq_false_iff_ne.2 hl
      clear hl
      go_enter Try.func72, Try.ntmps72
      go_wp2_with (go_at_call 89; refine hP.mono ?_; rintro e w1 ⟨rfl, hR1, hfr1⟩; have hR1' := hR1; obtain ⟨_, hB1, v1, hr1, hown1⟩ := hR1'; have d5 := hr1.c_left)
      go_end0
      rw [HE.out]
      exact ⟨rfl, hR1, hfr1⟩
  · have hkb : (s.kind == 1) = false := beq_eq_false_iff_ne.2 hk
    have HE : Hid (useByte s x = if ({ s with left := s.left - 1 } : Rd).left = 0 then endBlock { s with left := s.left - 1 } else { s with left := s.left - 1 }) := by simp only [Hid, useByte, if_neg hk]
    obtain ⟨hbB, hB, v, hr, hown⟩ := hR
    have c4 := hr.c_kind
    have c5 := hr.c_left
    have hfz := hr.free
    have hr1 := hr.left (s.left - 1)
    clear hk
    by_cases hl : s.left - 1 = 0
    · rw [if_pos hl] at HE
      have hE := endBlock_any hr1 h.b0 h.b1 h.n0 h.n1
      have hlb : (s.left - 1 == 0) = true := beq_iff_eq.2 hl
      clear hl
      go_enter Try.func72, Try.ntmps72
      go_wp2_with (go_at_call 87; refine hE.mono ?_; rintro e w2 ⟨rfl, hr2, hon2⟩)
      go_end0
      rw [HE.out]
      exact ⟨rfl, Rep.next hbB hB hown hr2 (((On.refl b w).set _ _).trans hon2) (endBlock_out _)⟩
    · rw [if_neg hl] at HE
      have hlb : (s.left - 1 == 0) = false := beq_eq_false_iff_ne.2 hl
      clear hl
      go_enter Try.func72, Try.ntmps72
      go_wp2
      go_end0
      rw [HE.out]
      exact ⟨rfl, Rep.next hbB hB hown hr1 ((On.refl b w).set _ _) rfl⟩
end
end Go.Proofs.Ytmpfgdmdnghhgaa
