import Derived.Test.YtmpfgdmdnghhgaaW11
namespace Go.Proofs.Ytmpfgdmdnghhgaa
open Go.RowKit Wr

theorem lay_out (s : Rd) (x n : Int) : (lay s x n).1.out = s.out ∧ (lay s x n).1.part = s.part := by
  unfold lay
  split
  · exact ⟨rfl, rfl⟩
  · dsimp only
    split
    · exact ⟨rfl, rfl⟩
    · split <;> exact ⟨rfl, rfl⟩
theorem give_out (s : Rd) (x : Int) : (give s x).1.out = s.out ∧ (give s x).1.part = s.part := by
  unfold give
  split
  · exact ⟨rfl, rfl⟩
  split
  · exact ⟨rfl, rfl⟩
  split
  · unfold nameP
    split
    · exact ⟨rfl, rfl⟩
    split
    · exact ⟨rfl, rfl⟩
    · dsimp only; split <;> exact ⟨rfl, rfl⟩
  split
  · unfold lengthP
    split
    · exact lay_out _ _ _
    split <;> exact ⟨rfl, rfl⟩
  · unfold times
    dsimp only
    split
    · exact lay_out _ _ _
    split
    · exact lay_out _ _ _
    · exact lay_out _ _ _
theorem lay_said (s : Rd) (x n : Int) : (lay s x n).2 = 0 ∨ (lay s x n).2 = 1 ∨ (lay s x n).2 = 2 := by
  unfold lay
  split
  · exact Or.inr (Or.inr rfl)
  · dsimp only
    split
    · exact Or.inl rfl
    · split
      · exact Or.inr (Or.inl rfl)
      · exact Or.inr (Or.inr rfl)
theorem give_said (s : Rd) (x : Int) : (give s x).2 = 0 ∨ (give s x).2 = 1 ∨ (give s x).2 = 2 := by
  unfold give
  split
  · exact Or.inl rfl
  split
  · exact Or.inl rfl
  split
  · unfold nameP
    split
    · exact Or.inr (Or.inr rfl)
    split
    · exact Or.inr (Or.inr rfl)
    · dsimp only
      split
      · exact Or.inl rfl
      · exact Or.inr (Or.inl rfl)
  split
  · unfold lengthP
    split
    · exact lay_said _ _ _
    split
    · exact Or.inr (Or.inr rfl)
    · exact Or.inl rfl
  · unfold times
    dsimp only
    split
    · exact lay_said _ _ _
    split
    · exact lay_said _ _ _
    · exact lay_said _ _ _

section
variable {w : World} {B b : Nat} {s : Rd}

set_option maxHeartbeats 1000000 in
theorem useCode_any (hR : Rep w B b s) (x : Int) (hx : 0 ≤ x) (hx2 : x ≤ 4095) (hs0 : 0 ≤ s.mstep) (hs4 : s.mstep ≤ 4) (h0 : 0 ≤ s.mat) (h1 : s.mat ≤ s.msize) (h2 : s.msize ≤ 272)
    (g2 : s.mstep = 2 → s.mat < s.mwanted ∧ 1 ≤ s.mwanted ∧ s.mwanted ≤ 4) (g3 : s.mstep = 3 → x ≤ 15)
    (g4 : s.mstep = 4 → x ≤ 63 ∧ 13 ≤ s.mrepeat ∧ s.mrepeat ≤ 15 ∧ (s.mrepeat = 13 → 1 ≤ s.mat)) :
    Calls Try.prog 73 #[.pointer (some ⟨b, 0, none⟩), .int .i64 x] w fun e w' => e = .returned (.tuple #[]) ∧ Rep w' B b (useCode s x) ∧ Fr B b w w' := by
  obtain ⟨hbB, hB, v, hr, hown⟩ := hR
  have hG := Give_any hr x hx hx2 hs0 hs4 h0 h1 h2 g2 g3 g4
  have hgo := give_out s x
  have hgs := give_said s x
  have HE : Hid (useCode s x = if (give s x).2 = 2 then fault (give s x).1 else if (give s x).2 = 0 then (give s x).1
      else if (give s x).1.part = 4 then { Wr.begin { (give s x).1 with lcnt := (give s x).1.mcnt, lsym := (give s x).1.msym } 16 4 with part := 5 }
      else { (give s x).1 with dcnt := (give s x).1.mcnt, dsym := (give s x).1.msym, part := 6 }) := rfl
  generalize give s x = r at *
  clear g2 g3 g4
  have Hout : Hid (r.1.out = s.out) := hgo.1
  clear hgo
  by_cases e2 : r.2 = 2
  · have HE' : Hid (useCode s x = fault r.1) := by rw [Hid, HE.out, if_pos e2]
    rw [e2] at hG
    clear HE hgs e2
    go_enter Try.func73, Try.ntmps73
    go_wp2_with (go_at_call 90; refine hG.mono ?_; rintro e w1 ⟨rfl, hr1, hon1⟩; have d2 := hr1.c_part; have df := hr1.free)
    refine bodyPost_ret (results_none rfl _ _ _) rfl ?_
    rw [HE'.out]
    exact ⟨rfl, Rep.next hbB hB hown (hr1.part 11) (hon1.set _ _) Hout.out⟩
  · by_cases e0 : r.2 = 0
    · have HE' : Hid (useCode s x = r.1) := by rw [Hid, HE.out, if_neg e2, if_pos e0]
      rw [e0] at hG
      clear HE hgs e2 e0
      go_enter Try.func73, Try.ntmps73
      go_wp2_with (go_at_call 90; refine hG.mono ?_; rintro e w1 ⟨rfl, hr1, hon1⟩)
      refine bodyPost_ret (results_none rfl _ _ _) rfl ?_
      rw [HE'.out]
      exact ⟨rfl, Rep.next hbB hB hown hr1 hon1 Hout.out⟩
    · have e1 : r.2 = 1 := by omega
      obtain ⟨C, HC⟩ : ∃ C, Hid (C = codeCells r.1.mcnt r.1.msym) := ⟨_, rfl⟩
      have HI : Hid ((Try.prog.info? 87).map (·.size) = some C.toArray.size) := by rw [Hid, HC.out, List.size_toArray, codeCells_length]; exact info_code
      have H1 : Hid (C.toArray.all (·.oneCell') = true) := by rw [Hid, HC.out]; exact all_oneCell_toArray (codeCells_one _ _)
      have HT : ∀ W, Row W b r.1 v → ∀ o, o + 285 ≤ 5247 → W.there b o C.toArray.size := fun W h o ho => by rw [HC.out, List.size_toArray, codeCells_length]; exact h.there o 285 ho
      have hCd := fun (W : World) (h : Row W b r.1 v) => Code_any h
      rw [← HC.out] at hCd
      have hLt := fun (W : World) (h : Row W b r.1 v) => h.lets r.1.mcnt r.1.msym
      rw [← HC.out] at hLt
      have hDs := fun (W : World) (h : Row W b r.1 v) => h.dists r.1.mcnt r.1.msym
      rw [← HC.out] at hDs
      clear HC
      rw [e1] at hG
      by_cases e4 : r.1.part = 4
      · have HE' : Hid (useCode s x = { Wr.begin { r.1 with lcnt := r.1.mcnt, lsym := r.1.msym } 16 4 with part := 5 }) := by rw [Hid, HE.out, if_neg e2, if_neg e0, if_pos e4]
        have He4 : Hid (r.1.part = 4) := e4
        clear HE hgs e2 e0 e1 e4
        go_enter Try.func73, Try.ntmps73
        go_wp2_with (first
          | (go_at_call 90; refine hG.mono ?_; rintro e w1 ⟨rfl, hr1, hon1⟩; have d2 := hr1.c_part; rw [He4.out] at d2)
          | (go_at_call 91; refine (hCd _ hr1).mono ?_; rintro e w2 ⟨rfl, hr2, hon2⟩)
          | (refine wpList_store_mid rfl 87 _ _ rfl b 569 C.toArray rfl rfl (HT _ hr2  569 (by omega)) HI.out H1.out ?_)
          | (go_at_call 92; refine (Distances_any (hLt _ hr2)).mono ?_; rintro e w3 ⟨rfl, hr3, hon3⟩; have d3 := hr3.c_part; have df := hr3.free))
        refine bodyPost_ret (results_none rfl _ _ _) rfl ?_
        rw [HE'.out]
        exact ⟨rfl, Rep.next hbB hB hown (hr3.part 5) (((((hon1.trans hon2).cells b _ _).trans hon3)).set _ _) Hout.out⟩
      · have HE' : Hid (useCode s x = { r.1 with dcnt := r.1.mcnt, dsym := r.1.msym, part := 6 }) := by rw [Hid, HE.out, if_neg e2, if_neg e0, if_neg e4]
        have hb4 : (r.1.part == 4) = false := beq_eq_false_iff_ne.2 e4
        clear HE hgs e2 e0 e1 e4
        go_enter Try.func73, Try.ntmps73
        go_wp2_with (first
          | (go_at_call 90; refine hG.mono ?_; rintro e w1 ⟨rfl, hr1, hon1⟩; have d2 := hr1.c_part)
          | (go_at_call 91; refine (hCd _ hr1).mono ?_; rintro e w2 ⟨rfl, hr2, hon2⟩; have hr3 := hDs _ hr2; have d3 := hr3.c_part; have df := hr3.free)
          | (refine wpList_store_mid rfl 87 _ _ rfl b 854 C.toArray rfl rfl (HT _ hr2  854 (by omega)) HI.out H1.out ?_))
        go_end0
        rw [HE'.out]
        exact ⟨rfl, Rep.next hbB hB hown (hr3.part 6) (((hon1.trans hon2).cells b _ _).set _ _) Hout.out⟩

set_option maxHeartbeats 400000 in
theorem width_any {v : Value} (hr : Row w b s v) (hm : s.part = 4 ∨ s.part = 5 → 0 ≤ s.mstep ∧ s.mstep ≤ 4) (p0 : 0 ≤ s.part) (p9 : s.part ≤ 9) (p6 : s.part ≠ 6) (p8 : s.part ≠ 8) :
    Calls Try.prog 68 #[.pointer (some ⟨b, 0, none⟩)] w fun e w' => e = .returned (.int .i64 (width s)) ∧ w' = w := by
  have c2 := hr.c_part
  have c4 := hr.c_kind
  have c10 := hr.c_more
  have hc : s.part = 0 ∨ s.part = 1 ∨ s.part = 2 ∨ s.part = 3 ∨ s.part = 4 ∨ s.part = 5 ∨ s.part = 7 ∨ s.part = 9 := by omega
  clear p0 p9 p6 p8
  rcases hc with e | e | e | e | e | e | e | e
  · have HE : Hid (width s = 4) := by simp [Hid, width, e]
    rw [e] at c2
    clear e
    clear hm hr
    go_enter Try.func68, Try.ntmps68
    go_wp2
    go_ret
    rw [HE.out]
    exact ⟨rfl, rfl⟩
  · have HE : Hid (width s = 3) := by simp [Hid, width, e]
    rw [e] at c2
    clear e
    clear hm hr
    go_enter Try.func68, Try.ntmps68
    go_wp2
    go_ret
    rw [HE.out]
    exact ⟨rfl, rfl⟩
  · by_cases hk : s.kind = 3
    · have HE : Hid (width s = 8) := by simp [Hid, width, e, hk]
      rw [e] at c2
      rw [hk] at c4
      clear e hk
      go_enter Try.func68, Try.ntmps68
      go_wp2
      go_ret
      rw [HE.out]
      exact ⟨rfl, rfl⟩
    · have HE : Hid (width s = 12) := by simp [Hid, width, e, hk]
      have hkb : (s.kind == 3) = false := beq_eq_false_iff_ne.2 hk
      rw [e] at c2
      clear e hk
      go_enter Try.func68, Try.ntmps68
      go_wp2
      go_ret
      rw [HE.out]
      exact ⟨rfl, rfl⟩
  · have HE : Hid (width s = 8) := by simp [Hid, width, e]
    rw [e] at c2
    clear e
    clear hm hr
    go_enter Try.func68, Try.ntmps68
    go_wp2
    go_ret
    rw [HE.out]
    exact ⟨rfl, rfl⟩
  · have HE : Hid (width s = mWidth s) := by simp [Hid, width, e]
    have hW := Width_any hr (hm (by omega)).1 (hm (by omega)).2
    rw [e] at c2
    clear e
    clear hm hr
    go_enter Try.func68, Try.ntmps68
    go_wp2_with (go_at_call 85; refine hW.mono ?_; rintro e w1 ⟨rfl, rfl⟩)
    go_ret
    rw [HE.out]
    exact ⟨rfl, rfl⟩
  · have HE : Hid (width s = mWidth s) := by simp [Hid, width, e]
    have hW := Width_any hr (hm (by omega)).1 (hm (by omega)).2
    rw [e] at c2
    clear e
    clear hm hr
    go_enter Try.func68, Try.ntmps68
    go_wp2_with (go_at_call 85; refine hW.mono ?_; rintro e w1 ⟨rfl, rfl⟩)
    go_ret
    rw [HE.out]
    exact ⟨rfl, rfl⟩
  · have HE : Hid (width s = s.more) := by simp [Hid, width, e]
    rw [e] at c2
    clear e
    clear hm hr
    go_enter Try.func68, Try.ntmps68
    go_wp2
    go_ret
    rw [HE.out]
    exact ⟨rfl, rfl⟩
  · have HE : Hid (width s = s.more) := by simp [Hid, width, e]
    rw [e] at c2
    clear e
    clear hm hr
    go_enter Try.func68, Try.ntmps68
    go_wp2
    go_ret
    rw [HE.out]
    exact ⟨rfl, rfl⟩

end
end Go.Proofs.Ytmpfgdmdnghhgaa
