import Derived.Test.YtmpfgdmdnghhgaaW5
namespace Go.Proofs.Ytmpfgdmdnghhgaa
open Go.RowKit Wr

theorem On.of_below (b : Nat) {w w' : World} (h : Below w.heap.size w w') : On b w w' := ⟨h.os, h.tape, h.output, h.size, fun k hk _ => h.block k hk⟩

section
variable {w : World} {b : Nat} {s : Rd} {v : Value}

set_option maxHeartbeats 400000 in
theorem mlength_any (hr : Row w b s v) (x : Int) (h0 : 0 ≤ s.mat) (h1 : s.mat ≤ s.msize) (h2 : s.msize ≤ 272) (h3 : 0 ≤ x) (h4 : x ≤ 15) :
    Calls Try.prog 113 #[.pointer (some ⟨b, 6, none⟩), .int .i64 x] w fun e w' =>
      e = .returned (.int .i64 (lengthP s x).2) ∧ Row w' b (lengthP s x).1 v ∧ On b w w' := by
  have c0 := hr.c_mat
  have c1 := hr.c_mrepeat
  have c2 := hr.c_mstep
  have hfz := hr.free
  by_cases h12 : x ≤ 12
  · have HE : Hid (lengthP s x = lay s x 1) := by simp only [Hid, lengthP, if_pos h12]
    have hL := lay_any hr x 1 h0 h1 h2 (by omega) (by omega)
    go_enter Try.func113, Try.ntmps113
    go_wp2_with (go_at_call 127; refine hL.mono ?_; rintro e w2 ⟨rfl, hr3, hon3⟩)
    go_ret
    rw [HE.out]
    exact ⟨rfl, hr3, hon3⟩
  · by_cases h13 : x = 13
    · subst h13
      by_cases hm : s.mat = 0
      · have HE : Hid (lengthP s 13 = (s, 2)) := by simp only [Hid, lengthP, if_neg h12, hm]; rfl
        rw [hm] at c0
        clear hm h0 h1
        go_enter Try.func113, Try.ntmps113
        go_wp2
        go_ret
        rw [HE.out]
        exact ⟨rfl, hr, On.refl _ _⟩
      · have HE : Hid (lengthP s 13 = ({ s with mrepeat := 13, mstep := 4 }, 0)) := by simp only [Hid, lengthP, if_neg h12]; rw [if_neg (fun h => hm h.2)]
        have hb0 : (s.mat == 0) = false := beq_eq_false_iff_ne.2 hm
        clear hm
        go_enter Try.func113, Try.ntmps113
        go_wp2
        go_ret
        rw [HE.out]
        exact ⟨rfl, (hr.mrepeat _).mstep _, ((On.refl b w).set _ _).set _ _⟩
    · have HE : Hid (lengthP s x = ({ s with mrepeat := x, mstep := 4 }, 0)) := by simp only [Hid, lengthP, if_neg h12]; rw [if_neg (fun h => h13 h.1)]
      have hb0 : (x == 13) = false := beq_eq_false_iff_ne.2 h13
      clear h13
      go_enter Try.func113, Try.ntmps113
      go_wp2
      go_ret
      rw [HE.out]
      exact ⟨rfl, (hr.mrepeat _).mstep _, ((On.refl b w).set _ _).set _ _⟩

set_option maxRecDepth 100000 in
set_option maxHeartbeats 1000000 in
theorem name_any (hr : Row w b s v) (x : Int) (h0 : 0 ≤ s.mat) (h1 : s.mat < s.mwanted) (h2 : 1 ≤ s.mwanted) (h3 : s.mwanted ≤ 4) :
    Calls Try.prog 112 #[.pointer (some ⟨b, 6, none⟩), .int .i64 x] w fun e w' =>
      e = .returned (.int .i64 (nameP s x).2) ∧ Row w' b (nameP s x).1 v ∧ On b w w' := by
  have c0 := hr.c_mat
  have c1 := hr.c_msize
  have c2 := hr.c_mwanted
  have hfz := hr.free
  by_cases hbig : s.msize ≤ x
  · have HE : Hid (nameP s x = (s, 2)) := by simp only [Hid, nameP]; rw [if_pos (Or.inl hbig)]
    go_enter Try.func112, Try.ntmps112
    go_wp2
    go_ret
    rw [HE.out]
    exact ⟨rfl, hr, On.refl _ _⟩
  · have hnb : ¬ (s.msize ≤ x ∨ 272 ≤ s.mat) := by omega
    have hcs : ∃ u, w.cell? ⟨b, 297 + s.mat.toNat, none⟩ = some (.int .i64 u) := ⟨_, hr.c_msym _ (by omega)⟩
    obtain ⟨u, hcs⟩ := hcs
    by_cases hm : 0 < s.mat
    · have cp := hr.c_msym (s.mat.toNat - 1) (by omega)
      have e1 : (s.mat - 1).toNat = s.mat.toNat - 1 := by omega
      by_cases hle : x ≤ s.msym (s.mat.toNat - 1)
      · have HE : Hid (nameP s x = (s, 2)) := by simp only [Hid, nameP]; rw [if_neg hnb, e1, if_pos ⟨hm, hle⟩]
        clear e1
        go_enter Try.func112, Try.ntmps112
        go_wp2
        go_quiet (fail)
        go_wp2
        go_ret
        rw [HE.out]
        exact ⟨rfl, hr.drewN _, (On.refl _ _).drewN _⟩
      · have hno : ¬ (0 < s.mat ∧ x ≤ s.msym (s.mat - 1).toNat) := by rw [e1]; omega
        clear e1
        by_cases hmore : s.mat + 1 < s.mwanted
        · have HE : Hid (nameP s x = ({ s with msym := upd s.msym s.mat.toNat x, mat := s.mat + 1 }, 0)) := by
            simp only [Hid, nameP]; rw [if_neg hnb, if_neg hno, if_pos hmore]
          go_enter Try.func112, Try.ntmps112
          go_wp2
          go_quiet (fail)
          go_wp2
          go_region
          go_wp2
          go_region
          go_wp2
          go_ret
          rw [HE.out]
          exact ⟨rfl, (((hr.drewN _).msym _ (by omega) _).mat _).drew, ((((On.refl b w).drewN _).set _ _).set _ _).drew⟩
        · have HE : Hid (nameP s x = ({ s with msym := upd s.msym s.mat.toNat x, mat := s.mat + 1, mcnt := simpleCnt s.mwanted }, 1)) := by
            simp only [Hid, nameP]; rw [if_neg hnb, if_neg hno, if_neg hmore]
          go_enter Try.func112, Try.ntmps112
          go_wp2
          go_quiet (fail)
          go_wp2
          go_region
          go_wp2
          go_region
          go_wp2_with fail
          refine (simpleCounts_any _ _ h2 h3).mono ?_
          rintro e w2 ⟨rfl, hb2⟩
          have hr2 := Row.of_block (((hr.drewN _).msym _ (by omega) x).mat (s.mat + 1)).drew (hb2.block b (by simpa using hr.lt))
          have hon2 := ((((On.refl b w).drewN _).set _ _).set _ _).drew.trans (On.of_below b hb2)
          have HI : Hid ((Try.prog.info? 85).map (·.size) = some (ints 13 (simpleCnt s.mwanted)).toArray.size) := info_13
          have H1 : Hid ((ints 13 (simpleCnt s.mwanted)).toArray.all (·.oneCell') = true) := all_oneCell_toArray (ints_one 13 _)
          have ht2 := hr2.there 284 13 (by omega)
          clear hb2
          go_wp2_with (refine wpList_store_mid rfl 85 _ _ rfl b 284 (ints 13 (simpleCnt s.mwanted)).toArray rfl rfl ht2 HI.out H1.out ?_)
          go_ret
          rw [HE.out]
          exact ⟨rfl, hr2.cnts _, hon2.cells b _ _⟩
    · have hno : ¬ (0 < s.mat ∧ x ≤ s.msym (s.mat - 1).toNat) := fun h => hm h.1
      have hd : decide (0 < s.mat) = false := by simpa using hm
      by_cases hmore : s.mat + 1 < s.mwanted
      · have HE : Hid (nameP s x = ({ s with msym := upd s.msym s.mat.toNat x, mat := s.mat + 1 }, 0)) := by
          simp only [Hid, nameP]; rw [if_neg hnb, if_neg hno, if_pos hmore]
        go_enter Try.func112, Try.ntmps112
        go_wp2
        go_quiet (fail)
        go_wp2
        go_region
        go_wp2
        go_region
        go_wp2
        go_ret
        rw [HE.out]
        exact ⟨rfl, (((hr.drewN _).msym _ (by omega) _).mat _).drew, ((((On.refl b w).drewN _).set _ _).set _ _).drew⟩
      · have HE : Hid (nameP s x = ({ s with msym := upd s.msym s.mat.toNat x, mat := s.mat + 1, mcnt := simpleCnt s.mwanted }, 1)) := by
          simp only [Hid, nameP]; rw [if_neg hnb, if_neg hno, if_neg hmore]
        go_enter Try.func112, Try.ntmps112
        go_wp2
        go_quiet (fail)
        go_wp2
        go_region
        go_wp2
        go_region
        go_wp2_with fail
        refine (simpleCounts_any _ _ h2 h3).mono ?_
        rintro e w2 ⟨rfl, hb2⟩
        have hr2 := Row.of_block (((hr.drewN _).msym _ (by omega) x).mat (s.mat + 1)).drew (hb2.block b (by simpa using hr.lt))
        have hon2 := ((((On.refl b w).drewN _).set _ _).set _ _).drew.trans (On.of_below b hb2)
        have HI : Hid ((Try.prog.info? 85).map (·.size) = some (ints 13 (simpleCnt s.mwanted)).toArray.size) := info_13
        have H1 : Hid ((ints 13 (simpleCnt s.mwanted)).toArray.all (·.oneCell') = true) := all_oneCell_toArray (ints_one 13 _)
        have ht2 := hr2.there 284 13 (by omega)
        clear hb2
        go_wp2_with (refine wpList_store_mid rfl 85 _ _ rfl b 284 (ints 13 (simpleCnt s.mwanted)).toArray rfl rfl ht2 HI.out H1.out ?_)
        go_ret
        rw [HE.out]
        exact ⟨rfl, hr2.cnts _, hon2.cells b _ _⟩
end
end Go.Proofs.Ytmpfgdmdnghhgaa
