import Derived.Test.YtmpfgdmdnghhgaaW13
namespace Go.Proofs.Ytmpfgdmdnghhgaa
open Go.RowKit Wr

/-- what 'use' wants of the state and of the value that was read -/
structure UseOk (s : Rd) (x : Int) : Prop where
  pb : PB s
  x0 : 0 ≤ x
  x1 : x ≤ 4095
  p0 : 0 ≤ s.part
  p9 : s.part ≤ 9
  l0 : 0 ≤ s.left
  l1 : s.left ≤ 4096
  o1 : s.out.length ≤ 8796093022208
  u3 : s.part = 3 → x ≤ 255
  u4 : s.part = 4 ∨ s.part = 5 → (0 ≤ s.mstep ∧ s.mstep ≤ 4) ∧ (0 ≤ s.mat ∧ s.mat ≤ s.msize ∧ s.msize ≤ 272) ∧ (s.mstep = 2 → s.mat < s.mwanted ∧ 1 ≤ s.mwanted ∧ s.mwanted ≤ 4) ∧ (s.mstep = 3 → x ≤ 15) ∧
    (s.mstep = 4 → x ≤ 63 ∧ 13 ≤ s.mrepeat ∧ s.mrepeat ≤ 15 ∧ (s.mrepeat = 13 → 1 ≤ s.mat))
  u6 : s.part = 6 → x < 272
  u7 : s.part = 7 → 0 ≤ s.least ∧ s.least ≤ 4096
  u8 : s.part = 8 → x < 16 ∧ (∀ i, i < 4 → 0 ≤ s.near i) ∧ 0 ≤ s.length
  u9 : s.part = 9 → 0 ≤ s.least ∧ s.least ≤ 4096 ∧ 0 ≤ s.length

section
variable {w : World} {B b : Nat} {s : Rd}

theorem useWindow_out (s : Rd) (x : Int) : (useWindow s x).out = s.out := by unfold useWindow; split <;> rfl
theorem useBlock_out (s : Rd) (x : Int) : (useBlock s x).out = s.out := by
  unfold useBlock
  dsimp only
  split
  · split
    · rw [endBlock_out, fillTo_out]
    · rw [fillTo_out]
  · rfl
theorem size_tail (t : Rd) : (if fillOk t then (if ({ fillTo t with part := 3 } : Rd).left = 0 then endBlock { fillTo t with part := 3 } else { fillTo t with part := 3 }) else fillTo t).out = t.out := by
  split
  · split
    · rw [endBlock_out]; exact fillTo_out _
    · exact fillTo_out _
  · exact fillTo_out _
theorem useSize_out (s : Rd) (x : Int) : (useSize s x).out = s.out := by
  unfold useSize
  by_cases hk : s.kind = 2
  · rw [if_pos hk]; rfl
  · rw [if_neg hk]
    exact size_tail { s with left := if s.kind = 1 then x + 1 else x }

set_option maxHeartbeats 1000000 in
theorem use_any (hR : Rep w B b s) (x : Int) (h : UseOk s x) :
    Calls Try.prog 60 #[.pointer (some ⟨b, 0, none⟩), .int .i64 x] w fun e w' => e = .returned (.tuple #[]) ∧ Rep w' B b (use s x) ∧ Fr B b w w' := by
  have hR0 := hR
  obtain ⟨hbB, hB, v, hr, hown⟩ := hR
  have c2 := hr.c_part
  have hc : s.part = 0 ∨ s.part = 1 ∨ s.part = 2 ∨ s.part = 3 ∨ (s.part = 4 ∨ s.part = 5) ∨ s.part = 6 ∨ s.part = 7 ∨ s.part = 8 ∨ s.part = 9 := by have := h.p0; have := h.p9; omega
  have hpb := h.pb
  rcases hc with e | e | e | e | e | e | e | e | e
  · have HE : Hid (use s x = useWindow s x) := by simp [Hid, use, e]
    have hC := useWindow_any hr x h.x0
    rw [e] at c2
    clear e
    go_enter Try.func60, Try.ntmps60
    go_wp2_with (go_at_call 69; refine hC.mono ?_; rintro e w1 ⟨rfl, hr1, hon1⟩)
    go_end0
    rw [HE.out]
    exact ⟨rfl, Rep.next hbB hB hown hr1 hon1 (useWindow_out s x)⟩
  · have HE : Hid (use s x = useBlock s x) := by simp [Hid, use, e]
    have hC := useBlock_any hr x h.x0 h.x1 hpb.b0 hpb.b1 hpb.n0 hpb.n1
    rw [e] at c2
    clear e
    go_enter Try.func60, Try.ntmps60
    go_wp2_with (go_at_call 70; refine hC.mono ?_; rintro e w1 ⟨rfl, hr1, hon1⟩)
    go_end0
    rw [HE.out]
    exact ⟨rfl, Rep.next hbB hB hown hr1 hon1 (useBlock_out s x)⟩
  · have HE : Hid (use s x = useSize s x) := by simp [Hid, use, e]
    have hC := useSize_any hr x h.x0 h.x1 hpb.b0 hpb.b1 hpb.n0 hpb.n1
    rw [e] at c2
    clear e
    go_enter Try.func60, Try.ntmps60
    go_wp2_with (go_at_call 71; refine hC.mono ?_; rintro e w1 ⟨rfl, hr1, hon1⟩)
    go_end0
    rw [HE.out]
    exact ⟨rfl, Rep.next hbB hB hown hr1 hon1 (useSize_out s x)⟩
  · have HE : Hid (use s x = useByte s x) := by simp [Hid, use, e]
    have hC := useByte_any hR0 x hpb h.x0 (h.u3 e) h.l0 h.l1 (by have := h.o1; omega)
    rw [e] at c2
    clear e
    go_enter Try.func60, Try.ntmps60
    go_wp2_with (go_at_call 72; refine hC.mono ?_; rintro e w1 ⟨rfl, hR1, hfr1⟩)
    go_end0
    rw [HE.out]
    exact ⟨rfl, hR1, hfr1⟩
  · have HE : Hid (use s x = useCode s x) := by rcases e with e | e <;> simp [Hid, use, e]
    obtain ⟨⟨m0, m4⟩, ⟨a0, a1, a2⟩, g2, g3, g4⟩ := h.u4 e
    have hC := useCode_any hR0 x h.x0 h.x1 m0 m4 a0 a1 a2 g2 g3 g4
    clear g2 g3 g4
    rcases e with e | e
    · rw [e] at c2
      clear e
      go_enter Try.func60, Try.ntmps60
      go_wp2_with (go_at_call 73; refine hC.mono ?_; rintro e w1 ⟨rfl, hR1, hfr1⟩)
      go_end0
      rw [HE.out]
      exact ⟨rfl, hR1, hfr1⟩
    · rw [e] at c2
      clear e
      go_enter Try.func60, Try.ntmps60
      go_wp2_with (go_at_call 73; refine hC.mono ?_; rintro e w1 ⟨rfl, hR1, hfr1⟩)
      go_end0
      rw [HE.out]
      exact ⟨rfl, hR1, hfr1⟩
  · have HE : Hid (use s x = useLetter s x) := by simp [Hid, use, e]
    have hC := useLetter_any hR0 x hpb h.x0 (h.u6 e) h.l0 h.l1 (by have := h.o1; omega)
    rw [e] at c2
    clear e
    go_enter Try.func60, Try.ntmps60
    go_wp2_with (go_at_call 74; refine hC.mono ?_; rintro e w1 ⟨rfl, hR1, hfr1⟩)
    go_end0
    rw [HE.out]
    exact ⟨rfl, hR1, hfr1⟩
  · have HE : Hid (use s x = { s with length := s.least + x, part := 8 }) := by simp [Hid, use, e]
    have c1 := hr.c_least
    have c3 := hr.c_length
    have hfz := hr.free
    have u7 := h.u7 e
    have x1 := h.x1
    have x0 := h.x0
    rw [e] at c2
    clear e
    go_enter Try.func60, Try.ntmps60
    go_wp2
    go_end0
    rw [HE.out]
    exact ⟨rfl, Rep.next hbB hB hown ((hr.length _).part 8) (((On.refl b w).set _ _).set _ _) rfl⟩
  · have HE : Hid (use s x = useDistance s x) := by simp [Hid, use, e]
    have hC := useDistance_any hR0 x hpb h.x0 (h.u8 e).1 (h.u8 e).2.1 (h.u8 e).2.2 h.l0 h.l1 h.o1
    rw [e] at c2
    clear e
    go_enter Try.func60, Try.ntmps60
    go_wp2_with (go_at_call 75; refine hC.mono ?_; rintro e w1 ⟨rfl, hR1, hfr1⟩)
    go_end0
    rw [HE.out]
    exact ⟨rfl, hR1, hfr1⟩
  · have HE : Hid (use s x = useCopy { s with near := nearAdd s.near (s.least + x) } (s.least + x)) := by simp [Hid, use, e]
    have c1 := hr.c_least
    have u9 := h.u9 e
    have x1 := h.x1
    have x0 := h.x0
    have hN := nearAdd_any hr (s.least + x)
    have hC := fun (W : World) (hW : Rep W B b { s with near := nearAdd s.near (s.least + x) }) => useCopy_any hW (s.least + x) ⟨hpb.at0, hpb.at1, hpb.r0, hpb.r1, hpb.w1, hpb.b0, hpb.b1, hpb.n0, hpb.n1⟩ (by omega) u9.2.2 h.l0 h.l1 h.o1
    rw [e] at c2
    clear e
    go_enter Try.func60, Try.ntmps60
    go_wp2_with (first
      | (go_at_call 76; refine hN.mono ?_; rintro e w1 ⟨rfl, hr1, hon1⟩; have hR1 := Rep.next hbB hB hown hr1 hon1 rfl)
      | (go_at_call 77; refine (hC _ hR1.1).mono ?_; rintro e w2 ⟨rfl, hR2, hfr2⟩))
    go_end0
    rw [HE.out]
    exact ⟨rfl, hR2, hR1.2.trans hfr2⟩

/-- what 'step' wants -/
structure StepOk (s : Rd) : Prop where
  pb : PB s
  p0 : 0 ≤ s.part
  p11 : s.part ≤ 11
  m : s.part = 4 ∨ s.part = 5 → 0 ≤ s.mstep ∧ s.mstep ≤ 4
  wd : s.part ≤ 9 → s.part ≠ 6 → s.part ≠ 8 → 0 ≤ width s ∧ width s ≤ 12
  lc : s.part = 6 → ∀ i : Nat, i < 13 → 0 ≤ s.lcnt i ∧ s.lcnt i ≤ 300
  dc : s.part = 8 → ∀ i : Nat, i < 13 → 0 ≤ s.dcnt i ∧ s.dcnt i ≤ 300
  use : s.part ≤ 9 → ¬ s.have_ < (peek s).2 → UseOk (drop s (peek s).2) (peek s).1

theorem next_any {v : Value} (hr : Row w b s v) (h : StepOk s) (hp : s.part ≤ 9) :
    Calls Try.prog 59 #[.pointer (some ⟨b, 0, none⟩)] w fun e w' =>
      e = .returned (.tuple #[.int .i64 (if s.have_ < (peek s).2 then 0 else (peek s).1), .bool (!decide (s.have_ < (peek s).2))]) ∧
      Row w' b (if s.have_ < (peek s).2 then s else drop s (peek s).2) v ∧ On b w w' := by
  by_cases e6 : s.part = 6
  · exact next_letters hr h.pb e6 (h.lc e6)
  by_cases e8 : s.part = 8
  · exact next_distances hr h.pb e8 (h.dc e8)
  exact next_number hr h.pb h.p0 hp e6 e8 h.m (h.wd hp e6 e8).1 (h.wd hp e6 e8).2

set_option maxHeartbeats 400000 in
theorem step_any (hR : Rep w B b s) (h : StepOk s) :
    Calls Try.prog 49 #[.pointer (some ⟨b, 0, none⟩)] w fun e w' => e = .returned (.bool (Wr.step s).isSome) ∧ Rep w' B b ((Wr.step s).getD s) ∧ Fr B b w w' := by
  have hR0 := hR
  obtain ⟨hbB, hB, v, hr, hown⟩ := hR
  have c2 := hr.c_part
  by_cases e10 : s.part = 10
  · have HE : Hid (Wr.step s = none) := by simp [Hid, Wr.step, e10]
    rw [e10] at c2
    clear e10 h
    go_enter Try.func49, Try.ntmps49
    go_wp2
    go_ret
    rw [HE.out]
    exact ⟨rfl, hR0, Fr.refl _ _ _⟩
  by_cases e11 : s.part = 11
  · have HE : Hid (Wr.step s = none) := by simp [Hid, Wr.step, e11]
    rw [e11] at c2
    clear e10 e11 h
    go_enter Try.func49, Try.ntmps49
    go_wp2
    go_ret
    rw [HE.out]
    exact ⟨rfl, hR0, Fr.refl _ _ _⟩
  have hp9 : s.part ≤ 9 := by have := h.p11; omega
  have hN := next_any hr h hp9
  have b10 : (s.part == 10) = false := beq_eq_false_iff_ne.2 e10
  have b11 : (s.part == 11) = false := beq_eq_false_iff_ne.2 e11
  have hst : Wr.step s = if s.have_ < (peek s).2 then none else some (use (drop s (peek s).2) (peek s).1) := by
    rw [Wr.step, if_neg (by omega)]
  by_cases hlt : s.have_ < (peek s).2
  · have HE : Hid (Wr.step s = none) := by rw [Hid, hst, if_pos hlt]
    rw [if_pos hlt, if_pos hlt, decide_eq_true hlt] at hN
    clear hst hlt h e10 e11
    go_enter Try.func49, Try.ntmps49
    go_wp2_with (go_at_call 59; refine hN.mono ?_; rintro e w1 ⟨rfl, hr1, hon1⟩)
    go_ret
    rw [HE.out]
    exact ⟨rfl, Rep.next hbB hB hown hr1 hon1 rfl⟩
  · have HE : Hid (Wr.step s = some (use (drop s (peek s).2) (peek s).1)) := by rw [Hid, hst, if_neg hlt]
    have hU := h.use hp9 hlt
    rw [if_neg hlt, if_neg hlt, decide_eq_false hlt] at hN
    clear hst hlt h e10 e11 hp9
    have hU2 := fun (W : World) (hW : Rep W B b (drop s (peek s).2)) => use_any hW (peek s).1 hU
    clear hU
    generalize peek s = r at *
    obtain ⟨r1, r2⟩ := r
    simp only at hN hU2 HE
    go_enter Try.func49, Try.ntmps49
    go_wp2_with (first
      | (go_at_call 59; refine hN.mono ?_; rintro e w1 ⟨rfl, hr1, hon1⟩; have hR1 := Rep.next hbB hB hown hr1 hon1 rfl)
      | (go_at_call 60; refine (hU2 _ hR1.1).mono ?_; rintro e w2 ⟨rfl, hR2, hfr2⟩))
    go_ret
    rw [HE.out]
    exact ⟨rfl, hR2, hR1.2.trans hfr2⟩
end
end Go.Proofs.Ytmpfgdmdnghhgaa
