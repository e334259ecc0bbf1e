import Derived.Test.YtmpfgdmdnghhgaaW7
namespace Go.Proofs.Ytmpfgdmdnghhgaa
open Go.RowKit Wr

section
variable {w : World} {b : Nat} {s : Rd} {v : Value}

theorem Row.lets (hr : Row w b s v) (f g : Nat → Int) : Row (w.setCells b 569 (codeCells f g)) b { s with lcnt := f, lsym := g } v := by
  refine hr.cells _ _ _ fun j _ => ?_
  rw [codeCells_length]
  by_cases h : 569 ≤ j ∧ j < 569 + 285
  · rw [if_pos h, codeCells_get _ _ _ (by omega)]
    by_cases h13 : j < 582
    · rw [if_pos (by omega)]
      unfold cellsOf
      repeat rw [if_neg (by omega)]
      rw [if_pos (by omega)]
      rfl
    · rw [if_neg (by omega)]
      unfold cellsOf
      repeat rw [if_neg (by omega)]
      rw [if_pos (by omega), show j - 569 - 13 = j - 582 by omega]
      rfl
  · rw [if_neg h]
    have h1 : ¬ (569 ≤ j ∧ j < 569 + 13) := by omega
    have h2 : ¬ (582 ≤ j ∧ j < 582 + 272) := by omega
    simp only [cellsOf, if_neg h1, if_neg h2]

theorem Row.dists (hr : Row w b s v) (f g : Nat → Int) : Row (w.setCells b 854 (codeCells f g)) b { s with dcnt := f, dsym := g } v := by
  refine hr.cells _ _ _ fun j _ => ?_
  rw [codeCells_length]
  by_cases h : 854 ≤ j ∧ j < 854 + 285
  · rw [if_pos h, codeCells_get _ _ _ (by omega)]
    by_cases h13 : j < 867
    · rw [if_pos (by omega)]
      unfold cellsOf
      repeat rw [if_neg (by omega)]
      rw [if_pos (by omega)]
      rfl
    · rw [if_neg (by omega)]
      unfold cellsOf
      repeat rw [if_neg (by omega)]
      rw [if_pos (by omega), show j - 854 - 13 = j - 867 by omega]
      rfl
  · rw [if_neg h]
    have h1 : ¬ (854 ≤ j ∧ j < 854 + 13) := by omega
    have h2 : ¬ (867 ≤ j ∧ j < 867 + 272) := by omega
    simp only [cellsOf, if_neg h1, if_neg h2]

set_option maxHeartbeats 400000 in
theorem useSize_any (hr : Row w b s v) (x : Int) (g1 : 0 ≤ x) (g2 : x ≤ 4095) (h1 : 0 ≤ s.hold) (h2 : s.hold < 1099511627776) (h3 : 0 ≤ s.have_) (h4 : s.have_ ≤ 40) :
    Calls Try.prog 71 #[.pointer (some ⟨b, 0, none⟩), .int .i64 x] w fun e w' => e = .returned (.tuple #[]) ∧ Row w' b (useSize s x) v ∧ On b w w' := by
  have c2 := hr.c_part
  have c4 := hr.c_kind
  have c5 := hr.c_left
  have hfz := hr.free
  by_cases hk : s.kind = 2
  · have HE : Hid (useSize s x = { Wr.begin { s with left := x + 1 } 272 9 with part := 4 }) := by simp only [Hid, useSize, if_pos hk]
    have hN := Letters_any (hr.left (x + 1))
    rw [hk] at c4
    clear hk
    go_enter Try.func71, Try.ntmps71
    go_wp2_with (go_at_call 88; refine hN.mono ?_; rintro e w2 ⟨rfl, hr3, hon3⟩; have d2 := hr3.c_part; have df := hr3.free)
    refine bodyPost_ret (results_none rfl _ _ _) rfl ?_
    rw [HE.out]
    exact ⟨rfl, hr3.part 4, (((On.refl b w).set _ _).trans hon3).set _ _⟩
  · have hkb : (s.kind == 2) = false := beq_eq_false_iff_ne.2 hk
    obtain ⟨t, HT⟩ : ∃ t : Rd, Hid (t = { s with left := if s.kind = 1 then x + 1 else x }) := ⟨_, rfl⟩
    have HE : Hid (useSize s x = if fillOk t then (if ({ fillTo t with part := 3 } : Rd).left = 0 then endBlock { fillTo t with part := 3 } else { fillTo t with part := 3 }) else fillTo t) := by
      simp only [Hid, useSize, if_neg hk, ← HT.out]
    have hrt : ∀ W, Row W b { s with left := if s.kind = 1 then x + 1 else x } v → Row W b t v := fun W h => by rw [HT.out]; exact h
    have hF := fun (W : World) (h : Row W b t v) => fill_any h (by rw [HT.out]; exact h1) (by rw [HT.out]; exact h2) (by rw [HT.out]; exact h3) (by rw [HT.out]; exact h4)
    have hft : 0 ≤ (fillTo t).hold ∧ (fillTo t).hold < 1099511627776 ∧ 0 ≤ (fillTo t).have_ ∧ (fillTo t).have_ ≤ 40 := by
      rw [HT.out]; exact fillTo_bounds _ h1 h2 h3 h4
    have hE := fun (W : World) (h : Row W b { fillTo t with part := 3 } v) => endBlock_any h hft.1 hft.2.1 hft.2.2.1 hft.2.2.2
    have htl : (fillTo t).left = t.left := by unfold fillTo; split <;> rfl
    clear hk hft
    by_cases hk1 : s.kind = 1
    · have hr1 : Row _ b t v := hrt _ (by rw [if_pos hk1]; exact (hr.left x).left (x + 1))
      rw [hk1] at c4
      have htl2 : t.left = x + 1 := by rw [HT.out, if_pos hk1]
      clear hk1 hrt HT hkb
      have HE' : Hid (useSize s x = if fillOk t then { fillTo t with part := 3 } else fillTo t) := by
        rw [Hid, HE.out]
        have : ¬ ({ fillTo t with part := 3 } : Rd).left = 0 := by show ¬ (fillTo t).left = 0; omega
        rw [if_neg this]
      clear HE
      cases hok : fillOk t
      · rw [hok] at hF HE'
        go_enter Try.func71, Try.ntmps71
        go_wp2_with (go_at_call 86; refine (hF _ hr1).mono ?_; rintro e w2 ⟨rfl, hr3, hon3⟩)
        refine bodyPost_ret (results_none rfl _ _ _) rfl ?_
        rw [HE'.out]
        exact ⟨rfl, hr3, (((On.refl b w).set _ _).set _ _).trans hon3⟩
      · rw [hok] at hF HE'
        have Hl : Hid ((fillTo t).left = x + 1) := by rw [Hid, htl, htl2]
        clear htl htl2 hok
        go_enter Try.func71, Try.ntmps71
        go_wp2_with (go_at_call 86; refine (hF _ hr1).mono ?_; rintro e w2 ⟨rfl, hr3, hon3⟩; have d2 := hr3.c_part; have d5 := hr3.c_left; rw [Hl.out] at d5; have df := hr3.free)
        go_end0
        rw [HE'.out]
        exact ⟨rfl, hr3.part 3, ((((On.refl b w).set _ _).set _ _).trans hon3).set _ _⟩
    · have hr1 : Row _ b t v := hrt _ (by rw [if_neg hk1]; exact hr.left x)
      have hkb1 : (s.kind == 1) = false := beq_eq_false_iff_ne.2 hk1
      have htl2 : t.left = x := by rw [HT.out, if_neg hk1]
      clear hk1 hrt HT
      cases hok : fillOk t
      · rw [hok] at hF HE
        go_enter Try.func71, Try.ntmps71
        go_wp2_with (go_at_call 86; refine (hF _ hr1).mono ?_; rintro e w2 ⟨rfl, hr3, hon3⟩)
        refine bodyPost_ret (results_none rfl _ _ _) rfl ?_
        rw [HE.out]
        exact ⟨rfl, hr3, ((On.refl b w).set _ _).trans hon3⟩
      · rw [hok] at hF HE
        have Hl : Hid ((fillTo t).left = x) := by rw [Hid, htl, htl2]
        clear htl htl2 hok
        by_cases hx0 : x = 0
        · subst hx0
          have HE' : Hid (useSize s 0 = endBlock { fillTo t with part := 3 }) := by rw [Hid, HE.out, if_pos rfl, if_pos Hl.out]
          clear HE
          go_enter Try.func71, Try.ntmps71
          go_wp2_with (first
            | (go_at_call 86; refine (hF _ hr1).mono ?_; rintro e w2 ⟨rfl, hr3, hon3⟩; have d2 := hr3.c_part; have d5 := hr3.c_left; rw [Hl.out] at d5; have df := hr3.free; have hr4 := hr3.part 3)
            | (go_at_call 87; refine (hE _ hr4).mono ?_; rintro e w5 ⟨rfl, hr5, hon5⟩))
          go_end0
          rw [HE'.out]
          exact ⟨rfl, hr5, ((((On.refl b w).set _ _).trans hon3).set _ _).trans hon5⟩
        · have HE' : Hid (useSize s x = { fillTo t with part := 3 }) := by rw [Hid, HE.out, if_pos rfl, if_neg (by show ¬ (fillTo t).left = 0; rw [Hl.out]; exact hx0)]
          have hxb : (x == 0) = false := beq_eq_false_iff_ne.2 hx0
          clear HE hx0
          go_enter Try.func71, Try.ntmps71
          go_wp2_with (go_at_call 86; refine (hF _ hr1).mono ?_; rintro e w2 ⟨rfl, hr3, hon3⟩; have d2 := hr3.c_part; have d5 := hr3.c_left; rw [Hl.out] at d5; have df := hr3.free)
          go_end0
          rw [HE'.out]
          exact ⟨rfl, hr3.part 3, (((On.refl b w).set _ _).trans hon3).set _ _⟩
end
end Go.Proofs.Ytmpfgdmdnghhgaa
