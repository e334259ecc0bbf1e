import Derived.Test.YtmpfgdmdnghhgaaW13
import Derived.Test.YtmpfgdmdnghhgaaInv2
import Derived.Test.YtmpfgdmdnghhgaaRing
import Derived.Laws.BytesString
namespace Go.Proofs.Ytmpfgdmdnghhgaa
open Go.RowKit Wr

/-- what 'use' wants of the state and of the value that was read -/
structure UseOk (s : Rd) (x : Int) : Prop where
  pb : PB s
  x0 : 0 ≤ x
  x1 : x ≤ 4095
  p0 : 0 ≤ s.part
  p9 : s.part ≤ 9
  l0 : 0 ≤ s.left
  l1 : s.left ≤ 4096
  o1 : s.out.length ≤ 8796093022208
  u3 : s.part = 3 → x ≤ 255
  u4 : s.part = 4 ∨ s.part = 5 → (0 ≤ s.mstep ∧ s.mstep ≤ 4) ∧ (0 ≤ s.mat ∧ s.mat ≤ s.msize ∧ s.msize ≤ 272) ∧ (s.mstep = 2 → s.mat < s.mwanted ∧ 1 ≤ s.mwanted ∧ s.mwanted ≤ 4) ∧ (s.mstep = 3 → x ≤ 15) ∧
    (s.mstep = 4 → x ≤ 63 ∧ 13 ≤ s.mrepeat ∧ s.mrepeat ≤ 15 ∧ (s.mrepeat = 13 → 1 ≤ s.mat))
  u6 : s.part = 6 → x < 272
  u7 : s.part = 7 → 0 ≤ s.least ∧ s.least ≤ 4096
  u8 : s.part = 8 → x < 16 ∧ (∀ i, i < 4 → 0 ≤ s.near i) ∧ 0 ≤ s.length
  u9 : s.part = 9 → 0 ≤ s.least ∧ s.least ≤ 4096 ∧ 0 ≤ s.length

section
variable {w : World} {B b : Nat} {s : Rd}

theorem useWindow_out (s : Rd) (x : Int) : (useWindow s x).out = s.out := by unfold useWindow; split <;> rfl
theorem useBlock_out (s : Rd) (x : Int) : (useBlock s x).out = s.out := by
  unfold useBlock
  dsimp only
  split
  · split
    · rw [endBlock_out, fillTo_out]
    · rw [fillTo_out]
  · rfl
theorem size_tail (t : Rd) : (if fillOk t then (if ({ fillTo t with part := 3 } : Rd).left = 0 then endBlock { fillTo t with part := 3 } else { fillTo t with part := 3 }) else fillTo t).out = t.out := by
  split
  · split
    · rw [endBlock_out]; exact fillTo_out _
    · exact fillTo_out _
  · exact fillTo_out _
theorem useSize_out (s : Rd) (x : Int) : (useSize s x).out = s.out := by
  unfold useSize
  by_cases hk : s.kind = 2
  · rw [if_pos hk]; rfl
  · rw [if_neg hk]
    exact size_tail { s with left := if s.kind = 1 then x + 1 else x }

set_option maxHeartbeats 1000000 in
theorem use_any (hR : Rep w B b s) (x : Int) (h : UseOk s x) :
    Calls Try.prog 60 #[.pointer (some ⟨b, 0, none⟩), .int .i64 x] w fun e w' => e = .returned (.tuple #[]) ∧ Rep w' B b (use s x) ∧ Fr B b w w' := by
  have hR0 := hR
  obtain ⟨hbB, hB, v, hr, hown⟩ := hR
  have c2 := hr.c_part
  have hc : s.part = 0 ∨ s.part = 1 ∨ s.part = 2 ∨ s.part = 3 ∨ (s.part = 4 ∨ s.part = 5) ∨ s.part = 6 ∨ s.part = 7 ∨ s.part = 8 ∨ s.part = 9 := by have := h.p0; have := h.p9; omega
  have hpb := h.pb
  rcases hc with e | e | e | e | e | e | e | e | e
  · have HE : Hid (use s x = useWindow s x) := by simp [Hid, use, e]
    have hC := useWindow_any hr x h.x0
    rw [e] at c2
    clear e
    go_enter Try.func60, Try.ntmps60
    go_wp2_with (go_at_call 69; refine hC.mono ?_; rintro e w1 ⟨rfl, hr1, hon1⟩)
    go_end0
    rw [HE.out]
    exact ⟨rfl, Rep.next hbB hB hown hr1 hon1 (useWindow_out s x)⟩
  · have HE : Hid (use s x = useBlock s x) := by simp [Hid, use, e]
    have hC := useBlock_any hr x h.x0 h.x1 hpb.b0 hpb.b1 hpb.n0 hpb.n1
    rw [e] at c2
    clear e
    go_enter Try.func60, Try.ntmps60
    go_wp2_with (go_at_call 70; refine hC.mono ?_; rintro e w1 ⟨rfl, hr1, hon1⟩)
    go_end0
    rw [HE.out]
    exact ⟨rfl, Rep.next hbB hB hown hr1 hon1 (useBlock_out s x)⟩
  · have HE : Hid (use s x = useSize s x) := by simp [Hid, use, e]
    have hC := useSize_any hr x h.x0 h.x1 hpb.b0 hpb.b1 hpb.n0 hpb.n1
    rw [e] at c2
    clear e
    go_enter Try.func60, Try.ntmps60
    go_wp2_with (go_at_call 71; refine hC.mono ?_; rintro e w1 ⟨rfl, hr1, hon1⟩)
    go_end0
    rw [HE.out]
    exact ⟨rfl, Rep.next hbB hB hown hr1 hon1 (useSize_out s x)⟩
  · have HE : Hid (use s x = useByte s x) := by simp [Hid, use, e]
    have hC := useByte_any hR0 x hpb h.x0 (h.u3 e) h.l0 h.l1 (by have := h.o1; omega)
    rw [e] at c2
    clear e
    go_enter Try.func60, Try.ntmps60
    go_wp2_with (go_at_call 72; refine hC.mono ?_; rintro e w1 ⟨rfl, hR1, hfr1⟩)
    go_end0
    rw [HE.out]
    exact ⟨rfl, hR1, hfr1⟩
  · have HE : Hid (use s x = useCode s x) := by rcases e with e | e <;> simp [Hid, use, e]
    obtain ⟨⟨m0, m4⟩, ⟨a0, a1, a2⟩, g2, g3, g4⟩ := h.u4 e
    have hC := useCode_any hR0 x h.x0 h.x1 m0 m4 a0 a1 a2 g2 g3 g4
    clear g2 g3 g4
    rcases e with e | e
    · rw [e] at c2
      clear e
      go_enter Try.func60, Try.ntmps60
      go_wp2_with (go_at_call 73; refine hC.mono ?_; rintro e w1 ⟨rfl, hR1, hfr1⟩)
      go_end0
      rw [HE.out]
      exact ⟨rfl, hR1, hfr1⟩
    · rw [e] at c2
      clear e
      go_enter Try.func60, Try.ntmps60
      go_wp2_with (go_at_call 73; refine hC.mono ?_; rintro e w1 ⟨rfl, hR1, hfr1⟩)
      go_end0
      rw [HE.out]
      exact ⟨rfl, hR1, hfr1⟩
  · have HE : Hid (use s x = useLetter s x) := by simp [Hid, use, e]
    have hC := useLetter_any hR0 x hpb h.x0 (h.u6 e) h.l0 h.l1 (by have := h.o1; omega)
    rw [e] at c2
    clear e
    go_enter Try.func60, Try.ntmps60
    go_wp2_with (go_at_call 74; refine hC.mono ?_; rintro e w1 ⟨rfl, hR1, hfr1⟩)
    go_end0
    rw [HE.out]
    exact ⟨rfl, hR1, hfr1⟩
  · have HE : Hid (use s x = { s with length := s.least + x, part := 8 }) := by simp [Hid, use, e]
    have c1 := hr.c_least
    have c3 := hr.c_length
    have hfz := hr.free
    have u7 := h.u7 e
    have x1 := h.x1
    have x0 := h.x0
    rw [e] at c2
    clear e
    go_enter Try.func60, Try.ntmps60
    go_wp2
    go_end0
    rw [HE.out]
    exact ⟨rfl, Rep.next hbB hB hown ((hr.length _).part 8) (((On.refl b w).set _ _).set _ _) rfl⟩
  · have HE : Hid (use s x = useDistance s x) := by simp [Hid, use, e]
    have hC := useDistance_any hR0 x hpb h.x0 (h.u8 e).1 (h.u8 e).2.1 (h.u8 e).2.2 h.l0 h.l1 h.o1
    rw [e] at c2
    clear e
    go_enter Try.func60, Try.ntmps60
    go_wp2_with (go_at_call 75; refine hC.mono ?_; rintro e w1 ⟨rfl, hR1, hfr1⟩)
    go_end0
    rw [HE.out]
    exact ⟨rfl, hR1, hfr1⟩
  · have HE : Hid (use s x = useCopy { s with near := nearAdd s.near (s.least + x) } (s.least + x)) := by simp [Hid, use, e]
    have c1 := hr.c_least
    have u9 := h.u9 e
    have x1 := h.x1
    have x0 := h.x0
    have hN := nearAdd_any hr (s.least + x)
    have hC := fun (W : World) (hW : Rep W B b { s with near := nearAdd s.near (s.least + x) }) => useCopy_any hW (s.least + x) ⟨hpb.at0, hpb.at1, hpb.r0, hpb.r1, hpb.w1, hpb.b0, hpb.b1, hpb.n0, hpb.n1⟩ (by omega) u9.2.2 h.l0 h.l1 h.o1
    rw [e] at c2
    clear e
    go_enter Try.func60, Try.ntmps60
    go_wp2_with (first
      | (go_at_call 76; refine hN.mono ?_; rintro e w1 ⟨rfl, hr1, hon1⟩; have hR1 := Rep.next hbB hB hown hr1 hon1 rfl)
      | (go_at_call 77; refine (hC _ hR1.1).mono ?_; rintro e w2 ⟨rfl, hR2, hfr2⟩))
    go_end0
    rw [HE.out]
    exact ⟨rfl, hR2, hR1.2.trans hfr2⟩

/-- what 'step' wants -/
structure StepOk (s : Rd) : Prop where
  pb : PB s
  p0 : 0 ≤ s.part
  p11 : s.part ≤ 11
  m : s.part = 4 ∨ s.part = 5 → 0 ≤ s.mstep ∧ s.mstep ≤ 4
  wd : s.part ≤ 9 → s.part ≠ 6 → s.part ≠ 8 → 0 ≤ width s ∧ width s ≤ 12
  lc : s.part = 6 → ∀ i : Nat, i < 13 → 0 ≤ s.lcnt i ∧ s.lcnt i ≤ 300
  dc : s.part = 8 → ∀ i : Nat, i < 13 → 0 ≤ s.dcnt i ∧ s.dcnt i ≤ 300
  use : s.part ≤ 9 → ¬ s.have_ < (peek s).2 → UseOk (drop s (peek s).2) (peek s).1

theorem next_any {v : Value} (hr : Row w b s v) (h : StepOk s) (hp : s.part ≤ 9) :
    Calls Try.prog 59 #[.pointer (some ⟨b, 0, none⟩)] w fun e w' =>
      e = .returned (.tuple #[.int .i64 (if s.have_ < (peek s).2 then 0 else (peek s).1), .bool (!decide (s.have_ < (peek s).2))]) ∧
      Row w' b (if s.have_ < (peek s).2 then s else drop s (peek s).2) v ∧ On b w w' := by
  by_cases e6 : s.part = 6
  · exact next_letters hr h.pb e6 (h.lc e6)
  by_cases e8 : s.part = 8
  · exact next_distances hr h.pb e8 (h.dc e8)
  exact next_number hr h.pb h.p0 hp e6 e8 h.m (h.wd hp e6 e8).1 (h.wd hp e6 e8).2

set_option maxHeartbeats 400000 in
theorem step_any (hR : Rep w B b s) (h : StepOk s) :
    Calls Try.prog 49 #[.pointer (some ⟨b, 0, none⟩)] w fun e w' => e = .returned (.bool (Wr.step s).isSome) ∧ Rep w' B b ((Wr.step s).getD s) ∧ Fr B b w w' := by
  have hR0 := hR
  obtain ⟨hbB, hB, v, hr, hown⟩ := hR
  have c2 := hr.c_part
  by_cases e10 : s.part = 10
  · have HE : Hid (Wr.step s = none) := by simp [Hid, Wr.step, e10]
    rw [e10] at c2
    clear e10 h
    go_enter Try.func49, Try.ntmps49
    go_wp2
    go_ret
    rw [HE.out]
    exact ⟨rfl, hR0, Fr.refl _ _ _⟩
  by_cases e11 : s.part = 11
  · have HE : Hid (Wr.step s = none) := by simp [Hid, Wr.step, e11]
    rw [e11] at c2
    clear e10 e11 h
    go_enter Try.func49, Try.ntmps49
    go_wp2
    go_ret
    rw [HE.out]
    exact ⟨rfl, hR0, Fr.refl _ _ _⟩
  have hp9 : s.part ≤ 9 := by have := h.p11; omega
  have hN := next_any hr h hp9
  have b10 : (s.part == 10) = false := beq_eq_false_iff_ne.2 e10
  have b11 : (s.part == 11) = false := beq_eq_false_iff_ne.2 e11
  have hst : Wr.step s = if s.have_ < (peek s).2 then none else some (use (drop s (peek s).2) (peek s).1) := by
    rw [Wr.step, if_neg (by omega)]
  by_cases hlt : s.have_ < (peek s).2
  · have HE : Hid (Wr.step s = none) := by rw [Hid, hst, if_pos hlt]
    rw [if_pos hlt, if_pos hlt, decide_eq_true hlt] at hN
    clear hst hlt h e10 e11
    go_enter Try.func49, Try.ntmps49
    go_wp2_with (go_at_call 59; refine hN.mono ?_; rintro e w1 ⟨rfl, hr1, hon1⟩)
    go_ret
    rw [HE.out]
    exact ⟨rfl, Rep.next hbB hB hown hr1 hon1 rfl⟩
  · have HE : Hid (Wr.step s = some (use (drop s (peek s).2) (peek s).1)) := by rw [Hid, hst, if_neg hlt]
    have hU := h.use hp9 hlt
    rw [if_neg hlt, if_neg hlt, decide_eq_false hlt] at hN
    clear hst hlt h e10 e11 hp9
    have hU2 := fun (W : World) (hW : Rep W B b (drop s (peek s).2)) => use_any hW (peek s).1 hU
    clear hU
    generalize peek s = r at *
    obtain ⟨r1, r2⟩ := r
    simp only at hN hU2 HE
    go_enter Try.func49, Try.ntmps49
    go_wp2_with (first
      | (go_at_call 59; refine hN.mono ?_; rintro e w1 ⟨rfl, hr1, hon1⟩; have hR1 := Rep.next hbB hB hown hr1 hon1 rfl)
      | (go_at_call 60; refine (hU2 _ hR1.1).mono ?_; rintro e w2 ⟨rfl, hR2, hfr2⟩))
    go_ret
    rw [HE.out]
    exact ⟨rfl, hR2, hR1.2.trans hfr2⟩
end
end Go.Proofs.Ytmpfgdmdnghhgaa

namespace Go.Proofs.Ytmpfgdmdnghhgaa
open Go.RowKit Wr

theorem pb_of {s : Rd} (h : Base s) (h5 : s.have_ ≤ 19) : PB s := by
  have h1 := h.b1
  have h2 : (2 : Int) ^ s.have_.toNat ≤ 524288 := pow_mono (show s.have_.toNat ≤ 19 by omega)
  have h3 := h.r1
  have h4 := h.w1
  exact ⟨h.at0, h.at1, h.r0, by omega, h.w1, h.b0, by omega, h.n0, by omega⟩

theorem mok_use {s : Rd} {S W x : Int} (m : MOk s S W) (h5 : S ≤ 272) (h4 : 4 ≤ S) (f3 : s.mstep = 3 → x ≤ 15) (f4 : s.mstep = 4 → x ≤ 63) :
    (0 ≤ s.mstep ∧ s.mstep ≤ 4) ∧ (0 ≤ s.mat ∧ s.mat ≤ s.msize ∧ s.msize ≤ 272) ∧ (s.mstep = 2 → s.mat < s.mwanted ∧ 1 ≤ s.mwanted ∧ s.mwanted ≤ 4) ∧ (s.mstep = 3 → x ≤ 15) ∧
    (s.mstep = 4 → x ≤ 63 ∧ 13 ≤ s.mrepeat ∧ s.mrepeat ≤ 15 ∧ (s.mrepeat = 13 → 1 ≤ s.mat)) := by
  have h1 := m.size
  have h2 := m.at0
  rcases m.step with ⟨e, e1⟩ | ⟨e, e1⟩ | ⟨e, e1, e2, e3, _⟩ | ⟨e, e1, _⟩ | ⟨e, e1, _, e2, e3, e4⟩
  · exact ⟨by omega, by omega, fun _ => by omega, f3, fun _ => by omega⟩
  · exact ⟨by omega, by omega, fun _ => by omega, f3, fun _ => by omega⟩
  · exact ⟨by omega, by omega, fun _ => by omega, f3, fun _ => by omega⟩
  · exact ⟨by omega, by omega, fun _ => by omega, f3, fun _ => by omega⟩
  · exact ⟨by omega, by omega, fun _ => by omega, f3, fun k => ⟨f4 k, e2, e3, e4⟩⟩

theorem step_ok {s : Rd} (h : Inv s) (h19 : s.have_ ≤ 19) (hp : psi s ≤ 8796093022208) : StepOk s := by
  have hI := h
  obtain ⟨hb, hP⟩ := h
  have pr := part_range hP
  have n0 := hb.n0
  have l0 := hb.l0
  have mk : s.part = 4 ∨ s.part = 5 → ∃ S W, MOk s S W ∧ S ≤ 272 ∧ 4 ≤ S := by
    intro e
    rcases hP with hc | ⟨hl, hc⟩
    · omega
    · rcases hc with e' | ⟨e', m⟩ | ⟨e', m, _⟩ | ⟨cl, cd, hc⟩
      · omega
      · exact ⟨272, 9, m, by omega, by omega⟩
      · exact ⟨16, 4, m, by omega, by omega⟩
      · omega
  have cds : s.part = 6 ∨ s.part = 7 ∨ s.part = 8 ∨ s.part = 9 → Cod s.lcnt s.lsym 272 ∧ Cod s.dcnt s.dsym 16 ∧ (s.part = 7 → 3 ≤ s.least ∧ s.least ≤ 265) ∧ (s.part = 8 → 3 ≤ s.length) ∧ (s.part = 9 → 3 ≤ s.length ∧ 0 ≤ s.more ∧ s.more ≤ 11 ∧ s.least = 2 ^ s.more.toNat) := by
    intro e
    rcases hP with hc | ⟨hl, hc⟩
    · omega
    · rcases hc with e' | ⟨e', m⟩ | ⟨e', m, _⟩ | ⟨cl, cd, e' | ⟨e', k1, k2, k3, k4⟩ | ⟨e', k1, k2⟩ | ⟨e', k1, k2, k3, k4, k5⟩⟩
      · omega
      · omega
      · omega
      · exact ⟨cl, cd, fun _ => by omega, fun _ => by omega, fun _ => by omega⟩
      · exact ⟨cl, cd, fun _ => by omega, fun _ => by omega, fun _ => by omega⟩
      · exact ⟨cl, cd, fun _ => by omega, fun _ => by omega, fun _ => by omega⟩
      · exact ⟨cl, cd, fun _ => by omega, fun _ => by omega, fun _ => ⟨k1, k3, k4, k5⟩⟩
  refine ⟨pb_of hb h19, pr.1, pr.2, fun e => ?_, fun h9 h6 h8 => width_bounds hI h9 h6 h8, fun e i _ => ?_, fun e i _ => ?_, fun h9 hn => ?_⟩
  · obtain ⟨S, W, m, h1, h2⟩ := mk e
    exact (mok_use (x := 0) m h1 h2 (fun _ => by omega) (fun _ => by omega)).1
  · have c := (cds (by omega)).1
    have := c.lo i; have := c.hi i; omega
  · have c := (cds (by omega)).2.1
    have := c.lo i; have := c.hi i; omega
  · have pf := peek_facts hI h9 hn
    generalize (peek s).1 = x at *
    generalize (peek s).2 = n at *
    have hd := drop_Base hb n pf.n0 pf.nh
    have ho : (s.out.length : Int) ≤ 8796093022208 := by unfold psi at hp; omega
    refine ⟨pb_of hd (by have := pf.n0; show s.have_ - n ≤ 19; omega), pf.x0, pf.x1, pr.1, h9, hd.l0, hd.l1, by show s.out.length ≤ _; omega, fun e => (pf.f3 e).1, fun e => ?_, fun e => pf.f6 e, fun e => ?_, fun e => ?_, fun e => ?_⟩
    · obtain ⟨S, W, m, h1, h2⟩ := mk e
      have f4 := pf.f4 e
      have := mok_use (s := s) (x := x) m h1 h2 f4.2.1 f4.2.2
      exact this
    · have := (cds (Or.inr (Or.inl e))).2.2.1 e
      show 0 ≤ s.least ∧ s.least ≤ 4096
      omega
    · have := (cds (Or.inr (Or.inr (Or.inl e)))).2.2.2.1 e
      exact ⟨pf.f8 e, fun i hi => by have := (hb.near i hi).1; show 0 ≤ s.near i; omega, by show 0 ≤ s.length; omega⟩
    · have := (cds (Or.inr (Or.inr (Or.inr e)))).2.2.2.2 e
      have p1 := pow_pos2 s.more.toNat
      have p2 := pow_bound s.more.toNat (by omega)
      show 0 ≤ s.least ∧ s.least ≤ 4096 ∧ 0 ≤ s.length
      omega

section
variable {w : World} {B b : Nat} {s : Rd}

set_option maxHeartbeats 1000000 in
theorem take_any (hR : Rep w B b s) (c : Int) (h : Inv s) (h11 : s.part = 10 ∨ s.have_ ≤ 11) (hp : psi s ≤ 4398046511104) (c0 : 0 ≤ c) (c1 : c ≤ 255) :
    Calls Try.prog 38 #[.pointer (some ⟨b, 0, none⟩), .int .u8 c] w fun e w' => e = .returned (.tuple #[]) ∧ Rep w' B b (Wr.take s c) ∧ Fr B b w w' := by
  obtain ⟨hbB, hB, v, hr, hown⟩ := hR
  have d0 := hr.c_hold
  have d1 := hr.c_have_
  have d2 := hr.c_part
  have d3 := hr.c_trailing
  have hfz := hr.free
  by_cases e10 : s.part = 10
  · have HE : Hid (Wr.take s c = { s with trailing := true }) := by rw [Hid, Wr.take, if_pos e10]
    rw [e10] at d2
    clear e10 h11 h
    go_enter Try.func38, Try.ntmps38
    go_wp2
    refine bodyPost_ret (results_none rfl _ _ _) rfl ?_
    rw [HE.out]
    exact ⟨rfl, Rep.next hbB hB hown (hr.trailing true) ((On.refl b w).set _ _) rfl⟩
  · have HE : Hid (Wr.take s c = drive (more8 s c)) := by rw [Hid, Wr.take, if_neg e10]
    have b10 : (s.part == 10) = false := beq_eq_false_iff_ne.2 e10
    have hn : s.have_ ≤ 11 := by omega
    have hI := more8_inv h c c0 c1
    have h19 : (more8 s c).have_ ≤ 19 := by show s.have_ + 8 ≤ 19; omega
    have hps : psi (more8 s c) ≤ 8796093022208 := by
      have e : psi (more8 s c) = s.out.length + s.left + 512 * (s.have_ + 8) := rfl
      unfold psi at hp
      omega
    have n0 := h.1.n0
    have q0 := h.1.b0
    have q1 := h.1.b1
    have q2 : (2 : Int) ^ s.have_.toNat ≤ 2048 := pow_mono (show s.have_.toNat ≤ 11 by omega)
    have q3 := pow_pos2 s.have_.toNat
    have m0 : 0 ≤ c * 2 ^ s.have_.toNat := Int.mul_nonneg c0 (by omega)
    have m1 : c * 2 ^ s.have_.toNat ≤ 255 * 2 ^ s.have_.toNat := Int.mul_le_mul_of_nonneg_right c1 (by omega)
    clear e10 h11 h hp
    go_enter Try.func38, Try.ntmps38
    go_wp2
    go_region
    go_wp2
    go_loopg [] (mu (more8 s c)) (fun g wr => ∃ t, mu t ≤ g ∧ t.have_ ≤ 19 ∧ Inv t ∧ psi t ≤ 8796093022208 ∧ Hid (drive t = drive (more8 s c)) ∧ Rep wr B b t ∧ Fr B b w wr)
    case atStart =>
      refine ⟨more8 s c, Nat.le_refl _, h19, hI, hps, rfl, ?_⟩
      exact Rep.next hbB hB hown (((hr.hold _).have_ _).drew) ((((On.refl b w).set _ _).set _ _).drew) rfl
    case round =>
      obtain ⟨t, k1, k0, k2, k3, k4, k5, k6⟩ := hrel
      clear d0 d1 d2 d3 hfz hr hown hI hps h19
      have hS := step_any k5 (step_ok k2 k0 k3)
      cases hst : Wr.step t with
      | none =>
        rw [hst] at hS
        have HD : Hid (drive (more8 s c) = t) := by rw [Hid, ← k4.out, drive_none hst]
        clear hst k4 k5
        go_wp2_with (go_at_call 49; refine hS.mono ?_; rintro e w1 ⟨rfl, hR1, hfr1⟩)
        go_end0
        rw [HE.out, HD.out]
        exact ⟨rfl, hR1, k6.trans hfr1⟩
      | some u =>
        obtain ⟨g1, g2, g3, g4⟩ := step_goes k2 hst
        have HD : Hid (drive u = drive (more8 s c)) := by rw [Hid, ← k4.out, drive_some k2 hst]
        rw [hst] at hS
        clear hst k4 k5 k2
        go_wp2_with (go_at_call 49; refine hS.mono ?_; rintro e w1 ⟨rfl, hR1, hfr1⟩)
        go_roundg (mu u)
        case measure => omega
        case rel => exact ⟨u, Nat.le_refl _, by omega, g1, by omega, HD, hR1, k6.trans hfr1⟩
end
end Go.Proofs.Ytmpfgdmdnghhgaa

namespace Go.Proofs.Ytmpfgdmdnghhgaa
open Go.RowKit Wr

theorem run_out {w : World} {B : Nat} {v : Value} {l : List Int} (h : w.ownsRow B 5 1 v l.length (l.map (Value.int .u8))) :
    (convert 37 9 v).run Try.prog w = .ok (.string (outStr l)) w := by
  obtain ⟨h1, h2⟩ := h
  rcases h2 with ⟨h3, h4⟩ | ⟨g, cap, cur, hv, hg, hh, hn, hc, hs, ht⟩
  · rw [h3, run_convert_bytes_string w 37 9 5 none 0 0 Try.underlying37 Try.underlying5 Try.underlying9]
    have e : l = [] := List.length_eq_zero_iff.1 h4
    subst e
    simp [Conv.bytesToString, Sem.run_pure, outStr]
  · rw [hv, run_convert_bytes_string w 37 9 5 _ _ _ Try.underlying37 Try.underlying5 Try.underlying9]
    refine run_bytesToString w ⟨g, 0, none⟩ l.length cap l ?_
    have hl := run_loadCells_list (P := Try.prog) w ⟨g, 0, none⟩ (l.map (Value.int .u8)) (fun j x hx => by
      have hadd : (⟨g, 0, none⟩ : Addr).add j = ⟨g, j, none⟩ := by unfold Addr.add; split <;> simp_all
      rw [hadd, cell_of_row w g j cur 5 (0, 0) hh, ← Array.getElem?_toList]
      have hx' := hx
      rw [← ht, List.getElem?_take] at hx'
      split at hx'
      · exact hx'
      · cases hx')
    rw [List.length_map] at hl
    exact hl

section
variable {w : World} {B b : Nat} {s : Rd}

set_option maxHeartbeats 1000000 in
theorem Read_any (hr : Row w b s (.slice none 0 0)) (ho : s.out = []) (h : Wr.Rest s) (x : ByteArray) (hx : x.size ≤ 268435456) (hp : psi s ≤ 1099511627776) :
    Calls Try.prog 28 #[.pointer (some ⟨b, 0, none⟩), .string x] w fun e w' =>
      e = .returned (.string (outStr (feed s x.data.toList).out)) ∧ Row w' b { feed s x.data.toList with out := [] } (.slice none 0 0) ∧ On b w w' := by
  have hR0 : Rep w w.heap.size b s := ⟨hr.lt, Nat.le_refl _, .slice none 0 0, hr, by rw [ho]; exact World.ownsRow_nil _ _ _ _⟩
  have hbB := hr.lt
  clear hr ho
  go_enter Try.func28, Try.ntmps28
  go_wp2
  go_loopw [5] (fun vi wr => ∃ (k : Nat) (t : Rd), k ≤ x.size ∧ vi = .int .i64 k ∧ Wr.Rest t ∧ psi t ≤ 1099511627776 + 4096 * k ∧ Hid (feed t (x.data.toList.drop k) = feed s x.data.toList) ∧ Rep wr w.heap.size b t ∧ Fr w.heap.size b w wr) (fun vi _ => x.size - (intOf vi).toNat)
  case atStart => exact ⟨0, s, by omega, rfl, h, by omega, rfl, hR0, Fr.refl _ _ _⟩
  case round =>
    obtain ⟨k, t, hk, rfl, ht, hpt, HF, hRt, hfr⟩ := hrel
    clear hR0 h hp
    have hRt0 := hRt
    obtain ⟨_, hBt, v, hrt, hown⟩ := hRt
    have d2 := hrt.c_part
    have d3 := hrt.c_trailing
    by_cases hend : k < x.size ∧ ¬ (t.part = 11 ∨ t.trailing = true)
    · obtain ⟨hlt, hgo⟩ := hend
      have hlen : k < x.data.toList.length := by simpa using hlt
      have e : x.data.toList.drop k = x[k] :: x.data.toList.drop (k + 1) := by
        rw [List.drop_eq_getElem_cons hlen]; rfl
      have b11 : (t.part != 11) = true := by simpa using fun e => hgo (Or.inl e)
      have btr : t.trailing = false := by cases h : t.trailing; rfl; exact absurd (Or.inr h) hgo
      obtain ⟨tr, tp⟩ := take_rest ht (x[k].toNat : Int) (by omega) (by have := x[k].toNat_lt; omega) (fun e => hgo (Or.inl e))
      have h10 : t.part = 10 ∨ t.have_ ≤ 11 := by
        have p1 := (part_range ht.1.2).2
        have p2 : t.part ≠ 11 := fun e => hgo (Or.inl e)
        rcases ht.2 with h | h
        · left; omega
        · right; exact h
      have hT := take_any hRt0 (x[k].toNat : Int) ht.1 h10 (by omega) (by omega) (by have := x[k].toNat_lt; omega)
      have HF' : Hid (feed (Wr.take t x[k].toNat) (x.data.toList.drop (k + 1)) = feed s x.data.toList) := by
        have := HF.out
        rw [e, feed_go hgo] at this
        exact this
      rw [btr] at d3
      clear HF e hgo btr
      go_wp2_with (go_at_call 38; refine hT.mono ?_; rintro e w1 ⟨rfl, hR1, hfr1⟩)
      go_roundw
      case rel => exact ⟨k + 1, _, by omega, by go_num, tr, by omega, HF', hR1, hfr.trans hfr1⟩
      case measure => simp [intOf]; omega
    · have HE : Hid (feed s x.data.toList = t) := by
        have hq := HF.out
        by_cases hlt : k < x.size
        · have hst : t.part = 11 ∨ t.trailing = true := by
            by_cases hst : t.part = 11 ∨ t.trailing = true
            · exact hst
            · exact absurd ⟨hlt, hst⟩ hend
          rw [feed_stop hst] at hq
          exact hq.symm
        · rw [List.drop_eq_nil_of_le (by simp; omega)] at hq
          exact hq.symm
      have hcv := run_out hown
      have dv := hrt.c_out
      have hfz := hrt.free
      have hw1 : Row (wr.setCell ⟨b, 5246, none⟩ (.slice none 0 0)) b { t with out := [] } (.slice none 0 0) := hrt.out _ _
      have hon1 : On b w (wr.setCell ⟨b, 5246, none⟩ (.slice none 0 0)) := by
        have := hfr.set 5246 (.slice none 0 0)
        exact ⟨this.os, this.tape, this.output, this.size, this.block⟩
      have hv : ∃ a n c, v = .slice a n c := by
        rcases hown.2 with ⟨h3, _⟩ | ⟨g, cap, cur, hv, _⟩
        · exact ⟨_, _, _, h3⟩
        · exact ⟨_, _, _, hv⟩
      obtain ⟨va, vn, vc, rfl⟩ := hv
      by_cases hlt : k < x.size
      · by_cases h11 : t.part = 11
        · rw [h11] at d2
          clear h11 hend HF
          go_wp2
          go_ret
          rw [HE.out]
          exact ⟨rfl, hw1, hon1⟩
        · have b11 : (t.part != 11) = true := by simpa using h11
          have htr : t.trailing = true := by
            by_cases h : t.trailing = true
            · exact h
            · exact absurd ⟨hlt, fun hh => hh.elim h11 h⟩ hend
          rw [htr] at d3
          clear h11 hend HF htr
          go_wp2
          go_ret
          rw [HE.out]
          exact ⟨rfl, hw1, hon1⟩
      · clear hend HF
        go_wp2
        go_ret
        rw [HE.out]
        exact ⟨rfl, hw1, hon1⟩

set_option maxHeartbeats 400000 in
theorem Errno_any {v : Value} (hr : Row w b s v) : Calls Try.prog 29 #[.pointer (some ⟨b, 0, none⟩)] w fun e w' => e = .returned (.int .i64 (errno s)) ∧ w' = w := by
  have d2 := hr.c_part
  have d3 := hr.c_trailing
  by_cases h11 : s.part = 11
  · have HE : Hid (errno s = 2) := by simp [Hid, errno, h11]
    rw [h11] at d2
    clear h11
    go_enter Try.func29, Try.ntmps29
    go_wp2
    go_ret
    rw [HE.out]
    exact ⟨rfl, rfl⟩
  · have b11 : (s.part == 11) = false := beq_eq_false_iff_ne.2 h11
    by_cases h10 : s.part = 10
    · rw [h10] at d2
      cases ht : s.trailing
      · have HE : Hid (errno s = 0) := by simp [Hid, errno, h10, ht]
        rw [ht] at d3
        clear h11 h10 ht b11
        go_enter Try.func29, Try.ntmps29
        go_wp2
        go_ret
        rw [HE.out]
        exact ⟨rfl, rfl⟩
      · have HE : Hid (errno s = 3) := by simp [Hid, errno, h10, ht]
        rw [ht] at d3
        clear h11 h10 ht b11
        go_enter Try.func29, Try.ntmps29
        go_wp2
        go_ret
        rw [HE.out]
        exact ⟨rfl, rfl⟩
    · have HE : Hid (errno s = 1) := by simp [Hid, errno, h10, h11]
      have b10 : (s.part != 10) = true := by simpa using h10
      clear h11 h10
      go_enter Try.func29, Try.ntmps29
      go_wp2
      go_ret
      rw [HE.out]
      exact ⟨rfl, rfl⟩
end
end Go.Proofs.Ytmpfgdmdnghhgaa

namespace Go.Proofs.Ytmpfgdmdnghhgaa
open Go.RowKit Wr

def readerCells : Array Value := ((List.range 5247).map (cellsOf initRd (.slice none 0 0))).toArray

theorem reader_cells : (((Try.zeroCells94.setIfInBounds 1142 (Value.int IntKind.i64 1)).setIfInBounds 1143 (Value.int IntKind.i64 2)).setIfInBounds 1144 (Value.int IntKind.i64 3)).setIfInBounds 1145 (Value.int IntKind.i64 4) = readerCells := by kernel_rfl

theorem readerCells_size : readerCells.size = 5247 := by simp [readerCells]
theorem reader_row (w : World) : Row (w.alloc (.cells readerCells 94)) w.heap.size initRd (.slice none 0 0) := by
  have h := World.rowIs_alloc w readerCells 94 (cellsOf initRd (.slice none 0 0)) (fun i hi => by
    rw [readerCells_size] at hi
    unfold readerCells
    simp [hi])
  rw [readerCells_size] at h
  exact h

set_option maxHeartbeats 400000 in
theorem NewRecent_any (w : World) : Calls Try.prog 37 #[] w fun e w' => e = .returned (.agg #[.int .i64 1, .int .i64 2, .int .i64 3, .int .i64 4]) ∧ Below w.heap.size w w' := by
  go_enter Try.func37, Try.ntmps37
  go_wp2
  exact bodyPost_ret (v := .agg #[.int .i64 1, .int .i64 2, .int .i64 3, .int .i64 4]) (by simp [results, Try.results37, go_sem]) rfl ⟨rfl, below_alloc _ _⟩

set_option maxHeartbeats 400000 in
theorem New_any (w : World) : Calls Try.prog 27 #[] w fun e w' => ∃ b, e = .returned (.pointer (some ⟨b, 0, none⟩)) ∧ w.heap.size ≤ b ∧ Row w' b initRd (.slice none 0 0) ∧ Below w.heap.size w w' := by
  go_enter Try.func27, Try.ntmps27
  go_wp2_with (go_at_call 37; refine (NewRecent_any _).mono ?_; rintro e w1 ⟨rfl, hb1⟩)
  go_ret
  refine ⟨w1.heap.size, rfl, hb1.size, ?_, ?_⟩
  · rw [reader_cells]
    exact reader_row w1
  · exact hb1.trans ((below_alloc w1 _).mono hb1.size)

set_option maxHeartbeats 400000 in
theorem Decode_any (w : World) (x : ByteArray) (hx : x.size ≤ 268435456) :
    Calls Try.prog 8 #[.string x] w fun e w' =>
      e = .returned (.tuple #[.string (outStr (feed initRd x.data.toList).out), .int .i64 (errno (feed initRd x.data.toList))]) ∧ Below w.heap.size w w' := by
  have he : errno { feed initRd x.data.toList with out := [] } = errno (feed initRd x.data.toList) := rfl
  have hR := fun (W : World) (b : Nat) (h : Row W b initRd (.slice none 0 0)) => Read_any h rfl init_rest x hx (by decide)
  generalize feed initRd x.data.toList = t at *
  have HE : Hid (errno { t with out := [] } = errno t) := he
  clear he
  go_enter Try.func8, Try.ntmps8
  go_wp2_with (first
    | (go_at_call 27; refine (New_any _).mono ?_; rintro e w1 ⟨b, rfl, hb0, hr1, hb1⟩)
    | (go_at_call 28; refine (hR _ _ hr1).mono ?_; rintro e w2 ⟨rfl, hr2, hon2⟩)
    | (go_at_call 29; refine (Errno_any hr2).mono ?_; rintro e w3 ⟨rfl, rfl⟩; rw [HE.out]))
  go_ret2
  exact ⟨rfl, hb1.trans ⟨hon2.os, hon2.tape, hon2.output, hon2.size, fun k hk => hon2.block k (by have := hb1.size; omega) (by omega)⟩⟩

end Go.Proofs.Ytmpfgdmdnghhgaa
