import Derived.Test.YtmpfgdmdnghhgaaW6
namespace Go.Proofs.Ytmpfgdmdnghhgaa
open Go.RowKit Wr

theorem fillTo_bounds (s : Rd) (h1 : 0 ≤ s.hold) (h2 : s.hold < 1099511627776) (h3 : 0 ≤ s.have_) (h4 : s.have_ ≤ 40) :
    0 ≤ (fillTo s).hold ∧ (fillTo s).hold < 1099511627776 ∧ 0 ≤ (fillTo s).have_ ∧ (fillTo s).have_ ≤ 40 := by
  unfold fillTo
  split
  · have hp := pow_lt64 (s.have_ % 8).toNat (by omega)
    refine ⟨Int.ediv_nonneg h1 (by omega), ?_, ?_, ?_⟩
    · have := Int.ediv_le_self (2 ^ (s.have_ % 8).toNat) h1
      show s.hold / _ < _
      omega
    · show 0 ≤ s.have_ - s.have_ % 8; omega
    · show s.have_ - s.have_ % 8 ≤ 40; omega
  · exact ⟨h1, h2, h3, h4⟩

section
variable {w : World} {b : Nat} {s : Rd} {v : Value}

set_option maxHeartbeats 400000 in
theorem Give_any (hr : Row w b s v) (x : Int) (hx : 0 ≤ x) (hx2 : x ≤ 4095) (hs0 : 0 ≤ s.mstep) (hs4 : s.mstep ≤ 4) (h0 : 0 ≤ s.mat) (h1 : s.mat ≤ s.msize) (h2 : s.msize ≤ 272)
    (g2 : s.mstep = 2 → s.mat < s.mwanted ∧ 1 ≤ s.mwanted ∧ s.mwanted ≤ 4) (g3 : s.mstep = 3 → x ≤ 15)
    (g4 : s.mstep = 4 → x ≤ 63 ∧ 13 ≤ s.mrepeat ∧ s.mrepeat ≤ 15 ∧ (s.mrepeat = 13 → 1 ≤ s.mat)) :
    Calls Try.prog 90 #[.pointer (some ⟨b, 6, none⟩), .int .i64 x] w fun e w' =>
      e = .returned (.int .i64 (give s x).2) ∧ Row w' b (give s x).1 v ∧ On b w w' := by
  have c0 := hr.c_mstep
  have c1 := hr.c_mwanted
  have hfz := hr.free
  have hc : s.mstep = 0 ∨ s.mstep = 1 ∨ s.mstep = 2 ∨ s.mstep = 3 ∨ s.mstep = 4 := by omega
  rcases hc with e | e | e | e | e
  · by_cases hx1 : x = 1
    · subst hx1
      have HE : Hid (give s 1 = ({ s with mstep := 3 }, 0)) := by simp only [Hid, give, if_pos e]; rfl
      rw [e] at c0
      clear e g2 g3 g4
      go_enter Try.func90, Try.ntmps90
      go_wp2
      go_ret
      rw [HE.out]
      exact ⟨rfl, (hr.mstep 1).mstep 3, ((On.refl b w).set _ _).set _ _⟩
    · have HE : Hid (give s x = ({ s with mstep := 1 }, 0)) := by simp only [Hid, give, if_pos e]; rw [if_neg hx1]
      have hb : (x == 1) = false := beq_eq_false_iff_ne.2 hx1
      rw [e] at c0
      clear e g2 g3 g4 hx1
      go_enter Try.func90, Try.ntmps90
      go_wp2
      go_ret
      rw [HE.out]
      exact ⟨rfl, hr.mstep 1, (On.refl b w).set _ _⟩
  · have HE : Hid (give s x = ({ s with mwanted := x + 1, mstep := 2 }, 0)) := by simp only [Hid, give, e]; rfl
    rw [e] at c0
    clear e g2 g3 g4
    go_enter Try.func90, Try.ntmps90
    go_wp2
    go_ret
    rw [HE.out]
    exact ⟨rfl, (hr.mwanted _).mstep _, ((On.refl b w).set _ _).set _ _⟩
  · have HE : Hid (give s x = nameP s x) := by simp only [Hid, give, e]; rfl
    have hN := name_any hr x h0 (g2 e).1 (g2 e).2.1 (g2 e).2.2
    rw [e] at c0
    clear e g2 g3 g4
    go_enter Try.func90, Try.ntmps90
    go_wp2_with (go_at_call 112; refine hN.mono ?_; rintro e w2 ⟨rfl, hr3, hon3⟩)
    go_ret
    rw [HE.out]
    exact ⟨rfl, hr3, hon3⟩
  · have HE : Hid (give s x = lengthP s x) := by simp only [Hid, give, e]; rfl
    have hN := mlength_any hr x h0 h1 h2 hx (g3 e)
    rw [e] at c0
    clear e g2 g3 g4
    go_enter Try.func90, Try.ntmps90
    go_wp2_with (go_at_call 113; refine hN.mono ?_; rintro e w2 ⟨rfl, hr3, hon3⟩)
    go_ret
    rw [HE.out]
    exact ⟨rfl, hr3, hon3⟩
  · have HE : Hid (give s x = times s x) := by simp only [Hid, give, e]; rfl
    have hN := times_any hr x h0 (g4 e).2.2.2 h1 h2 hx (g4 e).1 (g4 e).2.1 (g4 e).2.2.1
    rw [e] at c0
    clear e g2 g3 g4
    go_enter Try.func90, Try.ntmps90
    go_wp2_with (go_at_call 114; refine hN.mono ?_; rintro e w2 ⟨rfl, hr3, hon3⟩)
    go_ret
    rw [HE.out]
    exact ⟨rfl, hr3, hon3⟩

set_option maxHeartbeats 400000 in
theorem endCommand_any (hr : Row w b s v) (h1 : 0 ≤ s.hold) (h2 : s.hold < 1099511627776) (h3 : 0 ≤ s.have_) (h4 : s.have_ ≤ 40) :
    Calls Try.prog 93 #[.pointer (some ⟨b, 0, none⟩)] w fun e w' => e = .returned (.tuple #[]) ∧ Row w' b (endCommand s) v ∧ On b w w' := by
  have c2 := hr.c_part
  have c5 := hr.c_left
  have hfz := hr.free
  by_cases hl : s.left = 0
  · have HE : Hid (endCommand s = endBlock { s with part := 6 }) := by simp only [Hid, endCommand, if_pos hl]
    have hr1 := hr.part 6
    have hN := endBlock_any hr1 h1 h2 h3 h4
    rw [hl] at c5
    clear hl
    go_enter Try.func93, Try.ntmps93
    go_wp2_with (go_at_call 87; refine hN.mono ?_; rintro e w2 ⟨rfl, hr3, hon3⟩)
    go_end0
    rw [HE.out]
    exact ⟨rfl, hr3, ((On.refl b w).set _ _).trans hon3⟩
  · have HE : Hid (endCommand s = { s with part := 6 }) := by simp only [Hid, endCommand, if_neg hl]
    have hb : (s.left == 0) = false := beq_eq_false_iff_ne.2 hl
    clear hl
    go_enter Try.func93, Try.ntmps93
    go_wp2
    go_end0
    rw [HE.out]
    exact ⟨rfl, hr.part 6, (On.refl b w).set _ _⟩

set_option maxHeartbeats 400000 in
theorem useWindow_any (hr : Row w b s v) (x : Int) (h1 : 0 ≤ x) :
    Calls Try.prog 69 #[.pointer (some ⟨b, 0, none⟩), .int .i64 x] w fun e w' => e = .returned (.tuple #[]) ∧ Row w' b (useWindow s x) v ∧ On b w w' := by
  have c2 := hr.c_part
  have c3 := hr.c_window
  have hfz := hr.free
  by_cases h8 : 8 < x
  · have HE : Hid (useWindow s x = fault s) := by simp only [Hid, useWindow, if_pos h8]
    go_enter Try.func69, Try.ntmps69
    go_wp2
    refine bodyPost_ret (results_none rfl _ _ _) rfl ?_
    rw [HE.out]
    exact ⟨rfl, hr.part 11, (On.refl b w).set _ _⟩
  · have HE : Hid (useWindow s x = { s with window := 16 * 2 ^ x.toNat, part := 1 }) := by simp only [Hid, useWindow, if_neg h8]
    have hp := pow_lt64 x.toNat (by omega)
    have hp8 : (2 : Int) ^ x.toNat ≤ 256 := pow_mono (show x.toNat ≤ 8 by omega)
    go_enter Try.func69, Try.ntmps69
    go_wp2
    go_end0
    rw [HE.out]
    exact ⟨rfl, (hr.window _).part _, ((On.refl b w).set _ _).set _ _⟩

set_option maxHeartbeats 400000 in
theorem useBlock_any (hr : Row w b s v) (x : Int) (g1 : 0 ≤ x) (g2 : x ≤ 4095) (h1 : 0 ≤ s.hold) (h2 : s.hold < 1099511627776) (h3 : 0 ≤ s.have_) (h4 : s.have_ ≤ 40) :
    Calls Try.prog 70 #[.pointer (some ⟨b, 0, none⟩), .int .i64 x] w fun e w' => e = .returned (.tuple #[]) ∧ Row w' b (useBlock s x) v ∧ On b w w' := by
  have c2 := hr.c_part
  have c3 := hr.c_last
  have c4 := hr.c_kind
  have hfz := hr.free
  have hr1 := (hr.last (x % 2 == 1)).kind (x / 2)
  obtain ⟨t, HT⟩ : ∃ t : Rd, Hid (t = { s with last := x % 2 == 1, kind := x / 2 }) := ⟨_, rfl⟩
  by_cases hk : x / 2 = 0
  · have hF := fill_any hr1 h1 h2 h3 h4
    have hk' : (x / 2 != 0) = false := by rw [hk]; rfl
    cases hok : fillOk t
    · have HE : Hid (useBlock s x = fillTo t) := by simp only [Hid, useBlock, if_pos hk, ← HT.out, hok]; rfl
      rw [← HT.out] at hr1 hF
      rw [hok] at hF
      clear hk hok
      go_enter Try.func70, Try.ntmps70
      go_wp2_with (go_at_call 86; refine hF.mono ?_; rintro e w2 ⟨rfl, hr3, hon3⟩)
      go_end0
      rw [HE.out]
      exact ⟨rfl, hr3, (((On.refl b w).set _ _).set _ _).trans hon3⟩
    · have HE : Hid (useBlock s x = endBlock (fillTo t)) := by simp only [Hid, useBlock, if_pos hk, ← HT.out, hok]; rfl
      have hft : 0 ≤ (fillTo t).hold ∧ (fillTo t).hold < 1099511627776 ∧ 0 ≤ (fillTo t).have_ ∧ (fillTo t).have_ ≤ 40 := by
        rw [HT.out]; exact fillTo_bounds _ h1 h2 h3 h4
      rw [← HT.out] at hr1 hF
      rw [hok] at hF
      clear hk hok
      go_enter Try.func70, Try.ntmps70
      go_wp2_with (first
        | (go_at_call 86; refine hF.mono ?_; rintro e w2 ⟨rfl, hr3, hon3⟩)
        | (go_at_call 87; refine (endBlock_any hr3 hft.1 hft.2.1 hft.2.2.1 hft.2.2.2).mono ?_; rintro e w4 ⟨rfl, hr4, hon4⟩))
      go_end0
      rw [HE.out]
      exact ⟨rfl, hr4, ((((On.refl b w).set _ _).set _ _).trans hon3).trans hon4⟩
  · have HE : Hid (useBlock s x = { s with last := x % 2 == 1, kind := x / 2, part := 2 }) := by simp only [Hid, useBlock, if_neg hk]
    have hk' : (x / 2 != 0) = true := by simpa using hk
    clear hk HT
    go_enter Try.func70, Try.ntmps70
    go_wp2
    refine bodyPost_ret (results_none rfl _ _ _) rfl ?_
    rw [HE.out]
    exact ⟨rfl, hr1.part 2, (((On.refl b w).set _ _).set _ _).set _ _⟩
end
end Go.Proofs.Ytmpfgdmdnghhgaa
