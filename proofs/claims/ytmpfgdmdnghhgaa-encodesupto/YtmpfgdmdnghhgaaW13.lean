import Derived.Test.YtmpfgdmdnghhgaaW10
namespace Go.Proofs.Ytmpfgdmdnghhgaa
open Go.RowKit Wr
section
variable {w : World} {B b : Nat} {s : Rd}

set_option maxHeartbeats 1000000 in
theorem useCopy_any (hR : Rep w B b s) (d : Int) (h : PB s) (hd : 0 ≤ d) (h5 : 0 ≤ s.length) (h6 : 0 ≤ s.left) (h7 : s.left ≤ 4096) (h8 : s.out.length ≤ 8796093022208) :
    Calls Try.prog 77 #[.pointer (some ⟨b, 0, none⟩), .int .i64 d] w fun e w' => e = .returned (.tuple #[]) ∧ Rep w' B b (useCopy s d) ∧ Fr B b w w' := by
  have hR0 := hR
  obtain ⟨hbB, hB, v, hr, hown⟩ := hR
  have c1 := hr.c_reach
  have c2 := hr.c_length
  have c3 := hr.c_left
  have c4 := hr.c_part
  have hfz := hr.free
  have hr1 := h.r1
  by_cases hfar : s.reach < d
  · have HE : Hid (useCopy s d = fault s) := by rw [Hid, useCopy, if_pos (Or.inl hfar)]
    clear hR0
    go_enter Try.func77, Try.ntmps77
    go_wp2
    go_quiet (fail)
    go_wp2
    refine bodyPost_ret (results_none rfl _ _ _) rfl ?_
    rw [HE.out]
    exact ⟨rfl, Rep.next hbB hB hown ((hr.drewN _).part 11) (((On.refl b w).drewN _).set _ _) rfl⟩
  · have hgd : decide (s.reach < d) = false := by simpa using hfar
    by_cases hlong : s.left < s.length
    · have HE : Hid (useCopy s d = fault s) := by rw [Hid, useCopy, if_pos (Or.inr hlong)]
      clear hR0
      go_enter Try.func77, Try.ntmps77
      go_wp2
      go_quiet (fail)
      go_wp2
      refine bodyPost_ret (results_none rfl _ _ _) rfl ?_
      rw [HE.out]
      exact ⟨rfl, Rep.next hbB hB hown ((hr.drewN _).part 11) (((On.refl b w).drewN _).set _ _) rfl⟩
    · have HE : Hid (useCopy s d = endCommand (copyGo s.length.toNat s d)) := by rw [Hid, useCopy, if_neg (by omega)]
      go_enter Try.func77, Try.ntmps77
      go_wp2
      go_quiet (fail)
      go_wp2
      go_loopw [4] (fun vi wr => ∃ k : Nat, (k : Int) ≤ s.length ∧ vi = .int .i64 k ∧ Rep wr B b (copyGo k s d) ∧ Fr B b w wr) (fun vi _ => s.length.toNat - (intOf vi).toNat)
      case atStart => exact ⟨0, by omega, rfl, hR0, ((On.refl b w).drewN _).fr hB⟩
      case round =>
        obtain ⟨k, hk, rfl, hRk, hfrk⟩ := hrel
        clear c1 c2 c3 c4 hfz hR0 hown hr
        obtain ⟨k1, k2, k3, k4, _⟩ := copy_keeps d s h k
        have hRk0 := hRk
        obtain ⟨_, hBk, vk, hrk, hownk⟩ := hRk
        have c2 := hrk.c_length
        rw [k4] at c2
        clear k4
        by_cases hlt : (k : Int) < s.length
        · have HS := copy_succ k s d
          have hA := ago_any hrk d k1.at0 k1.at1 hd (by omega)
          have hP := put_any hRk0 (agoP (copyGo k s d) d) k1.at0 k1.at1 k1.r0 k1.w1 k1.r1 (by omega) (by omega) (by omega)
          have HS' : Hid (copyGo (k + 1) s d = put (copyGo k s d) (agoP (copyGo k s d) d)) := HS
          clear HS k2 k3
          go_wp2_with (first
            | (go_at_call 97; refine hA.mono ?_; rintro e w1 ⟨rfl, rfl⟩)
            | (go_at_call 89; refine hP.mono ?_; rintro e w1 ⟨rfl, hR1, hfr1⟩))
          go_roundw
          case rel => exact ⟨k + 1, by omega, by go_num, by rw [HS'.out]; exact hR1, hfrk.trans hfr1⟩
          case measure => simp [intOf]; omega
        · have hkn : s.length.toNat = k := by omega
          have HE' : Hid (useCopy s d = endCommand (copyGo k s d)) := by rw [Hid, HE.out, hkn]
          clear hkn k2 k3
          have hE := endCommand_rep hRk0 k1
          go_wp2_with (go_at_call 93; refine hE.mono ?_; rintro e w1 ⟨rfl, hR1, hfr1⟩)
          go_end0
          rw [HE'.out]
          exact ⟨rfl, hR1, hfrk.trans hfr1⟩

set_option maxHeartbeats 400000 in
theorem useLetter_any (hR : Rep w B b s) (x : Int) (h : PB s) (h1 : 0 ≤ x) (h2 : x < 272) (h6 : 0 ≤ s.left) (h7 : s.left ≤ 4096) (h8 : s.out.length ≤ 17592186044416) :
    Calls Try.prog 74 #[.pointer (some ⟨b, 0, none⟩), .int .i64 x] w fun e w' => e = .returned (.tuple #[]) ∧ Rep w' B b (useLetter s x) ∧ Fr B b w w' := by
  by_cases hx : x < 256
  · have HE : Hid (useLetter s x = endCommand (put s x)) := by rw [Hid, useLetter, if_pos hx]
    have hP := put_any hR x h.at0 h.at1 h.r0 h.w1 h.r1 (by omega) (by omega) h8
    have hpb := put_PB h x
    clear hR
    go_enter Try.func74, Try.ntmps74
    go_wp2_with (first
      | (go_at_call 89; refine hP.mono ?_; rintro e w1 ⟨rfl, hR1, hfr1⟩)
      | (go_at_call 93; refine (endCommand_rep hR1 hpb).mono ?_; rintro e w2 ⟨rfl, hR2, hfr2⟩))
    refine bodyPost_ret (results_none rfl _ _ _) rfl ?_
    rw [HE.out]
    exact ⟨rfl, hR2, hfr1.trans hfr2⟩
  · have HE : Hid (useLetter s x = { s with least := lenLeast (x - 256), more := lenMore (x - 256), part := 7 }) := by rw [Hid, useLetter, if_neg hx]
    obtain ⟨hbB, hB, v, hr, hown⟩ := hR
    have c1 := hr.c_least
    have c2 := hr.c_more
    have c4 := hr.c_part
    have hfz := hr.free
    have hL := length_any (x - 256) w (by omega) (by omega)
    go_enter Try.func74, Try.ntmps74
    go_wp2_with (go_at_call 94; refine hL.mono ?_; rintro e w1 ⟨rfl, rfl⟩)
    go_end0
    rw [HE.out]
    exact ⟨rfl, Rep.next hbB hB hown (((hr.least _).more _).part 7) ((((On.refl b _).set _ _).set _ _).set _ _) rfl⟩

set_option maxHeartbeats 400000 in
theorem useDistance_any (hR : Rep w B b s) (x : Int) (h : PB s) (h1 : 0 ≤ x) (h2 : x < 16) (hn : ∀ i, i < 4 → 0 ≤ s.near i) (h5 : 0 ≤ s.length) (h6 : 0 ≤ s.left) (h7 : s.left ≤ 4096) (h8 : s.out.length ≤ 8796093022208) :
    Calls Try.prog 75 #[.pointer (some ⟨b, 0, none⟩), .int .i64 x] w fun e w' => e = .returned (.tuple #[]) ∧ Rep w' B b (useDistance s x) ∧ Fr B b w w' := by
  obtain ⟨hbB, hB, v, hr, hown⟩ := hR
  by_cases hx : x < 4
  · obtain ⟨t, HT⟩ : ∃ t : Rd, Hid (t = if 0 < x then { s with near := nearAdd s.near (s.near x.toNat) } else s) := ⟨_, rfl⟩
    have HE : Hid (useDistance s x = useCopy t (s.near x.toNat)) := by rw [Hid, useDistance, if_pos hx, HT.out]
    have hU := nearUse_any hr x h1 hx
    rw [← HT.out] at hU
    have hto : t.out = s.out := by rw [HT.out]; split <;> rfl
    have hpt : PB t := by rw [HT.out]; split <;> exact ⟨h.at0, h.at1, h.r0, h.r1, h.w1, h.b0, h.b1, h.n0, h.n1⟩
    have htl : t.length = s.length ∧ t.left = s.left := by rw [HT.out]; split <;> exact ⟨rfl, rfl⟩
    have hC := fun (W : World) (hW : Rep W B b t) => useCopy_any hW (s.near x.toNat) hpt (hn _ (by omega)) (by rw [htl.1]; exact h5) (by rw [htl.2]; exact h6) (by rw [htl.2]; exact h7) (by rw [hto]; exact h8)
    clear hpt htl hn
    have Hto : Hid (t.out = s.out) := hto
    clear hto HT
    go_enter Try.func75, Try.ntmps75
    go_wp2_with (first
      | (go_at_call 95; refine hU.mono ?_; rintro e w1 ⟨rfl, hr1, hon1⟩; have hR1 := Rep.next hbB hB hown hr1 hon1 Hto.out)
      | (go_at_call 77; refine (hC _ hR1.1).mono ?_; rintro e w2 ⟨rfl, hR2, hfr2⟩))
    refine bodyPost_ret (results_none rfl _ _ _) rfl ?_
    rw [HE.out]
    exact ⟨rfl, hR2, hR1.2.trans hfr2⟩
  · have HE : Hid (useDistance s x = { s with least := distLeast x, more := distMore x, part := 9 }) := by rw [Hid, useDistance, if_neg hx]
    have c1 := hr.c_least
    have c2 := hr.c_more
    have c4 := hr.c_part
    have hfz := hr.free
    have hL := distance_any x w (by omega) (by omega)
    clear hn
    go_enter Try.func75, Try.ntmps75
    go_wp2_with (go_at_call 96; refine hL.mono ?_; rintro e w1 ⟨rfl, rfl⟩)
    go_end0
    rw [HE.out]
    exact ⟨rfl, Rep.next hbB hB hown (((hr.least _).more _).part 9) ((((On.refl b _).set _ _).set _ _).set _ _) rfl⟩
end
end Go.Proofs.Ytmpfgdmdnghhgaa

namespace Go.Proofs.Ytmpfgdmdnghhgaa
open Go.RowKit Wr

theorem lay_out (s : Rd) (x n : Int) : (lay s x n).1.out = s.out ∧ (lay s x n).1.part = s.part := by
  unfold lay
  split
  · exact ⟨rfl, rfl⟩
  · dsimp only
    split
    · exact ⟨rfl, rfl⟩
    · split <;> exact ⟨rfl, rfl⟩
theorem give_out (s : Rd) (x : Int) : (give s x).1.out = s.out ∧ (give s x).1.part = s.part := by
  unfold give
  split
  · exact ⟨rfl, rfl⟩
  split
  · exact ⟨rfl, rfl⟩
  split
  · unfold nameP
    split
    · exact ⟨rfl, rfl⟩
    split
    · exact ⟨rfl, rfl⟩
    · dsimp only; split <;> exact ⟨rfl, rfl⟩
  split
  · unfold lengthP
    split
    · exact lay_out _ _ _
    split <;> exact ⟨rfl, rfl⟩
  · unfold times
    dsimp only
    split
    · exact lay_out _ _ _
    split
    · exact lay_out _ _ _
    · exact lay_out _ _ _
theorem lay_said (s : Rd) (x n : Int) : (lay s x n).2 = 0 ∨ (lay s x n).2 = 1 ∨ (lay s x n).2 = 2 := by
  unfold lay
  split
  · exact Or.inr (Or.inr rfl)
  · dsimp only
    split
    · exact Or.inl rfl
    · split
      · exact Or.inr (Or.inl rfl)
      · exact Or.inr (Or.inr rfl)
theorem give_said (s : Rd) (x : Int) : (give s x).2 = 0 ∨ (give s x).2 = 1 ∨ (give s x).2 = 2 := by
  unfold give
  split
  · exact Or.inl rfl
  split
  · exact Or.inl rfl
  split
  · unfold nameP
    split
    · exact Or.inr (Or.inr rfl)
    split
    · exact Or.inr (Or.inr rfl)
    · dsimp only
      split
      · exact Or.inl rfl
      · exact Or.inr (Or.inl rfl)
  split
  · unfold lengthP
    split
    · exact lay_said _ _ _
    split
    · exact Or.inr (Or.inr rfl)
    · exact Or.inl rfl
  · unfold times
    dsimp only
    split
    · exact lay_said _ _ _
    split
    · exact lay_said _ _ _
    · exact lay_said _ _ _

section
variable {w : World} {B b : Nat} {s : Rd}

set_option maxHeartbeats 1000000 in
theorem useCode_any (hR : Rep w B b s) (x : Int) (hx : 0 ≤ x) (hx2 : x ≤ 4095) (hs0 : 0 ≤ s.mstep) (hs4 : s.mstep ≤ 4) (h0 : 0 ≤ s.mat) (h1 : s.mat ≤ s.msize) (h2 : s.msize ≤ 272)
    (g2 : s.mstep = 2 → s.mat < s.mwanted ∧ 1 ≤ s.mwanted ∧ s.mwanted ≤ 4) (g3 : s.mstep = 3 → x ≤ 15)
    (g4 : s.mstep = 4 → x ≤ 63 ∧ 13 ≤ s.mrepeat ∧ s.mrepeat ≤ 15 ∧ (s.mrepeat = 13 → 1 ≤ s.mat)) :
    Calls Try.prog 73 #[.pointer (some ⟨b, 0, none⟩), .int .i64 x] w fun e w' => e = .returned (.tuple #[]) ∧ Rep w' B b (useCode s x) ∧ Fr B b w w' := by
  obtain ⟨hbB, hB, v, hr, hown⟩ := hR
  have hG := Give_any hr x hx hx2 hs0 hs4 h0 h1 h2 g2 g3 g4
  have hgo := give_out s x
  have hgs := give_said s x
  have HE : Hid (useCode s x = if (give s x).2 = 2 then fault (give s x).1 else if (give s x).2 = 0 then (give s x).1
      else if (give s x).1.part = 4 then { Wr.begin { (give s x).1 with lcnt := (give s x).1.mcnt, lsym := (give s x).1.msym } 16 4 with part := 5 }
      else { (give s x).1 with dcnt := (give s x).1.mcnt, dsym := (give s x).1.msym, part := 6 }) := rfl
  generalize give s x = r at *
  clear g2 g3 g4
  have Hout : Hid (r.1.out = s.out) := hgo.1
  clear hgo
  by_cases e2 : r.2 = 2
  · have HE' : Hid (useCode s x = fault r.1) := by rw [Hid, HE.out, if_pos e2]
    rw [e2] at hG
    clear HE hgs e2
    go_enter Try.func73, Try.ntmps73
    go_wp2_with (go_at_call 90; refine hG.mono ?_; rintro e w1 ⟨rfl, hr1, hon1⟩; have d2 := hr1.c_part; have df := hr1.free)
    refine bodyPost_ret (results_none rfl _ _ _) rfl ?_
    rw [HE'.out]
    exact ⟨rfl, Rep.next hbB hB hown (hr1.part 11) (hon1.set _ _) Hout.out⟩
  · by_cases e0 : r.2 = 0
    · have HE' : Hid (useCode s x = r.1) := by rw [Hid, HE.out, if_neg e2, if_pos e0]
      rw [e0] at hG
      clear HE hgs e2 e0
      go_enter Try.func73, Try.ntmps73
      go_wp2_with (go_at_call 90; refine hG.mono ?_; rintro e w1 ⟨rfl, hr1, hon1⟩)
      refine bodyPost_ret (results_none rfl _ _ _) rfl ?_
      rw [HE'.out]
      exact ⟨rfl, Rep.next hbB hB hown hr1 hon1 Hout.out⟩
    · have e1 : r.2 = 1 := by omega
      obtain ⟨C, HC⟩ : ∃ C, Hid (C = codeCells r.1.mcnt r.1.msym) := ⟨_, rfl⟩
      have HI : Hid ((Try.prog.info? 87).map (·.size) = some C.toArray.size) := by rw [Hid, HC.out, List.size_toArray, codeCells_length]; exact info_code
      have H1 : Hid (C.toArray.all (·.oneCell') = true) := by rw [Hid, HC.out]; exact all_oneCell_toArray (codeCells_one _ _)
      have HT : ∀ W, Row W b r.1 v → ∀ o, o + 285 ≤ 5247 → W.there b o C.toArray.size := fun W h o ho => by rw [HC.out, List.size_toArray, codeCells_length]; exact h.there o 285 ho
      have hCd := fun (W : World) (h : Row W b r.1 v) => Code_any h
      rw [← HC.out] at hCd
      have hLt := fun (W : World) (h : Row W b r.1 v) => h.lets r.1.mcnt r.1.msym
      rw [← HC.out] at hLt
      have hDs := fun (W : World) (h : Row W b r.1 v) => h.dists r.1.mcnt r.1.msym
      rw [← HC.out] at hDs
      clear HC
      rw [e1] at hG
      by_cases e4 : r.1.part = 4
      · have HE' : Hid (useCode s x = { Wr.begin { r.1 with lcnt := r.1.mcnt, lsym := r.1.msym } 16 4 with part := 5 }) := by rw [Hid, HE.out, if_neg e2, if_neg e0, if_pos e4]
        have He4 : Hid (r.1.part = 4) := e4
        clear HE hgs e2 e0 e1 e4
        go_enter Try.func73, Try.ntmps73
        go_wp2_with (first
          | (go_at_call 90; refine hG.mono ?_; rintro e w1 ⟨rfl, hr1, hon1⟩; have d2 := hr1.c_part; rw [He4.out] at d2)
          | (go_at_call 91; refine (hCd _ hr1).mono ?_; rintro e w2 ⟨rfl, hr2, hon2⟩)
          | (refine wpList_store_mid rfl 87 _ _ rfl b 569 C.toArray rfl rfl (HT _ hr2  569 (by omega)) HI.out H1.out ?_)
          | (go_at_call 92; refine (Distances_any (hLt _ hr2)).mono ?_; rintro e w3 ⟨rfl, hr3, hon3⟩; have d3 := hr3.c_part; have df := hr3.free))
        refine bodyPost_ret (results_none rfl _ _ _) rfl ?_
        rw [HE'.out]
        exact ⟨rfl, Rep.next hbB hB hown (hr3.part 5) (((((hon1.trans hon2).cells b _ _).trans hon3)).set _ _) Hout.out⟩
      · have HE' : Hid (useCode s x = { r.1 with dcnt := r.1.mcnt, dsym := r.1.msym, part := 6 }) := by rw [Hid, HE.out, if_neg e2, if_neg e0, if_neg e4]
        have hb4 : (r.1.part == 4) = false := beq_eq_false_iff_ne.2 e4
        clear HE hgs e2 e0 e1 e4
        go_enter Try.func73, Try.ntmps73
        go_wp2_with (first
          | (go_at_call 90; refine hG.mono ?_; rintro e w1 ⟨rfl, hr1, hon1⟩; have d2 := hr1.c_part)
          | (go_at_call 91; refine (hCd _ hr1).mono ?_; rintro e w2 ⟨rfl, hr2, hon2⟩; have hr3 := hDs _ hr2; have d3 := hr3.c_part; have df := hr3.free)
          | (refine wpList_store_mid rfl 87 _ _ rfl b 854 C.toArray rfl rfl (HT _ hr2  854 (by omega)) HI.out H1.out ?_))
        go_end0
        rw [HE'.out]
        exact ⟨rfl, Rep.next hbB hB hown (hr3.part 6) (((hon1.trans hon2).cells b _ _).set _ _) Hout.out⟩

set_option maxHeartbeats 400000 in
theorem width_any {v : Value} (hr : Row w b s v) (hm : s.part = 4 ∨ s.part = 5 → 0 ≤ s.mstep ∧ s.mstep ≤ 4) (p0 : 0 ≤ s.part) (p9 : s.part ≤ 9) (p6 : s.part ≠ 6) (p8 : s.part ≠ 8) :
    Calls Try.prog 68 #[.pointer (some ⟨b, 0, none⟩)] w fun e w' => e = .returned (.int .i64 (width s)) ∧ w' = w := by
  have c2 := hr.c_part
  have c4 := hr.c_kind
  have c10 := hr.c_more
  have hc : s.part = 0 ∨ s.part = 1 ∨ s.part = 2 ∨ s.part = 3 ∨ s.part = 4 ∨ s.part = 5 ∨ s.part = 7 ∨ s.part = 9 := by omega
  clear p0 p9 p6 p8
  rcases hc with e | e | e | e | e | e | e | e
  · have HE : Hid (width s = 4) := by simp [Hid, width, e]
    rw [e] at c2
    clear e
    clear hm hr
    go_enter Try.func68, Try.ntmps68
    go_wp2
    go_ret
    rw [HE.out]
    exact ⟨rfl, rfl⟩
  · have HE : Hid (width s = 3) := by simp [Hid, width, e]
    rw [e] at c2
    clear e
    clear hm hr
    go_enter Try.func68, Try.ntmps68
    go_wp2
    go_ret
    rw [HE.out]
    exact ⟨rfl, rfl⟩
  · by_cases hk : s.kind = 3
    · have HE : Hid (width s = 8) := by simp [Hid, width, e, hk]
      rw [e] at c2
      rw [hk] at c4
      clear e hk
      go_enter Try.func68, Try.ntmps68
      go_wp2
      go_ret
      rw [HE.out]
      exact ⟨rfl, rfl⟩
    · have HE : Hid (width s = 12) := by simp [Hid, width, e, hk]
      have hkb : (s.kind == 3) = false := beq_eq_false_iff_ne.2 hk
      rw [e] at c2
      clear e hk
      go_enter Try.func68, Try.ntmps68
      go_wp2
      go_ret
      rw [HE.out]
      exact ⟨rfl, rfl⟩
  · have HE : Hid (width s = 8) := by simp [Hid, width, e]
    rw [e] at c2
    clear e
    clear hm hr
    go_enter Try.func68, Try.ntmps68
    go_wp2
    go_ret
    rw [HE.out]
    exact ⟨rfl, rfl⟩
  · have HE : Hid (width s = mWidth s) := by simp [Hid, width, e]
    have hW := Width_any hr (hm (by omega)).1 (hm (by omega)).2
    rw [e] at c2
    clear e
    clear hm hr
    go_enter Try.func68, Try.ntmps68
    go_wp2_with (go_at_call 85; refine hW.mono ?_; rintro e w1 ⟨rfl, rfl⟩)
    go_ret
    rw [HE.out]
    exact ⟨rfl, rfl⟩
  · have HE : Hid (width s = mWidth s) := by simp [Hid, width, e]
    have hW := Width_any hr (hm (by omega)).1 (hm (by omega)).2
    rw [e] at c2
    clear e
    clear hm hr
    go_enter Try.func68, Try.ntmps68
    go_wp2_with (go_at_call 85; refine hW.mono ?_; rintro e w1 ⟨rfl, rfl⟩)
    go_ret
    rw [HE.out]
    exact ⟨rfl, rfl⟩
  · have HE : Hid (width s = s.more) := by simp [Hid, width, e]
    rw [e] at c2
    clear e
    clear hm hr
    go_enter Try.func68, Try.ntmps68
    go_wp2
    go_ret
    rw [HE.out]
    exact ⟨rfl, rfl⟩
  · have HE : Hid (width s = s.more) := by simp [Hid, width, e]
    rw [e] at c2
    clear e
    clear hm hr
    go_enter Try.func68, Try.ntmps68
    go_wp2
    go_ret
    rw [HE.out]
    exact ⟨rfl, rfl⟩

end
end Go.Proofs.Ytmpfgdmdnghhgaa

namespace Go.Proofs.Ytmpfgdmdnghhgaa
open Go.RowKit Wr

theorem findGo_range (cnt sym : Nat → Int) (hold have_ : Int) (h : 0 ≤ have_) : ∀ (f len : Nat) (bits first ahead : Int), 0 ≤ (findGo cnt sym hold have_ f len bits first ahead).2 ∧ (findGo cnt sym hold have_ f len bits first ahead).2 ≤ have_ + 1
  | 0, len, bits, first, ahead => ⟨by show 0 ≤ have_ + 1; omega, Int.le_refl _⟩
  | f + 1, len, bits, first, ahead => by
    unfold findGo
    split
    · rename_i hl
      split
      · exact ⟨by show (0 : Int) ≤ (len : Int); omega, by show (len : Int) ≤ have_ + 1; omega⟩
      · exact findGo_range cnt sym hold have_ h f _ _ _ _
    · exact ⟨by show 0 ≤ have_ + 1; omega, Int.le_refl _⟩
theorem find_range (cnt sym : Nat → Int) (hold have_ : Int) (h : 0 ≤ have_) : 0 ≤ (find cnt sym hold have_).2 ∧ (find cnt sym hold have_).2 ≤ have_ + 1 := findGo_range cnt sym hold have_ h _ _ _ _ _

section
variable {w : World} {B b : Nat} {s : Rd} {v : Value}

set_option maxHeartbeats 1000000 in
theorem next_letters (hr : Row w b s v) (h : PB s) (hp : s.part = 6) (hc : ∀ i : Nat, i < 13 → 0 ≤ s.lcnt i ∧ s.lcnt i ≤ 300) :
    Calls Try.prog 59 #[.pointer (some ⟨b, 0, none⟩)] w fun e w' =>
      e = .returned (.tuple #[.int .i64 (if s.have_ < (peek s).2 then 0 else (peek s).1), .bool (!decide (s.have_ < (peek s).2))]) ∧
      Row w' b (if s.have_ < (peek s).2 then s else drop s (peek s).2) v ∧ On b w w' := by
  have HP : Hid (peek s = find s.lcnt s.lsym s.hold s.have_) := by simp [Hid, peek, hp]
  have hF := fun (W : World) (hW : Row W b s v) => Find_any W b 569 s.lcnt s.lsym s.hold s.have_ (fun i hi => hW.c_lcnt i hi) (fun i hi => hW.c_lsym i hi) hc h.b0 h.b1 h.n0 h.n1
  have hfr := find_range s.lcnt s.lsym s.hold s.have_ h.n0
  rw [HP.out]
  clear HP
  obtain ⟨h1, h2, h3, h4⟩ : 0 ≤ s.hold ∧ s.hold < 1099511627776 ∧ 0 ≤ s.have_ ∧ s.have_ ≤ 40 := ⟨h.b0, h.b1, h.n0, h.n1⟩
  generalize find s.lcnt s.lsym s.hold s.have_ = r at *
  obtain ⟨r1, r2⟩ := r
  simp only at hF hfr ⊢
  have c0 := hr.c_hold
  have c1 := hr.c_have_
  have c2 := hr.c_part
  have hfz := hr.free
  rw [hp] at c2
  clear hc hp h
  by_cases hlt : s.have_ < r2
  · have hd : decide (s.have_ < r2) = true := by simpa using hlt
    rw [if_pos hlt, if_pos hlt, hd]
    clear hd
    go_enter Try.func59, Try.ntmps59
    go_wp2
    go_quiet ((go_at_call 67; exact Calls.quiet_of_same (hF _ (hr.drewN _))))
    go_wp2
    go_ret2
    exact ⟨rfl, hr.drewN _, (On.refl b w).drewN _⟩
  · have hd : decide (s.have_ < r2) = false := by simpa using hlt
    rw [if_neg hlt, if_neg hlt, hd]
    clear hd
    go_enter Try.func59, Try.ntmps59
    go_wp2
    go_quiet ((go_at_call 67; exact Calls.quiet_of_same (hF _ (hr.drewN _))))
    go_wp2
    go_ret2
    exact ⟨rfl, ((hr.drewN _).hold _).have_ _, (((On.refl b w).drewN _).set _ _).set _ _⟩

set_option maxHeartbeats 1000000 in
theorem next_distances (hr : Row w b s v) (h : PB s) (hp : s.part = 8) (hc : ∀ i : Nat, i < 13 → 0 ≤ s.dcnt i ∧ s.dcnt i ≤ 300) :
    Calls Try.prog 59 #[.pointer (some ⟨b, 0, none⟩)] w fun e w' =>
      e = .returned (.tuple #[.int .i64 (if s.have_ < (peek s).2 then 0 else (peek s).1), .bool (!decide (s.have_ < (peek s).2))]) ∧
      Row w' b (if s.have_ < (peek s).2 then s else drop s (peek s).2) v ∧ On b w w' := by
  have HP : Hid (peek s = find s.dcnt s.dsym s.hold s.have_) := by simp [Hid, peek, hp]
  have hF := fun (W : World) (hW : Row W b s v) => Find_any W b 854 s.dcnt s.dsym s.hold s.have_ (fun i hi => hW.c_dcnt i hi) (fun i hi => hW.c_dsym i hi) hc h.b0 h.b1 h.n0 h.n1
  have hfr := find_range s.dcnt s.dsym s.hold s.have_ h.n0
  rw [HP.out]
  clear HP
  obtain ⟨h1, h2, h3, h4⟩ : 0 ≤ s.hold ∧ s.hold < 1099511627776 ∧ 0 ≤ s.have_ ∧ s.have_ ≤ 40 := ⟨h.b0, h.b1, h.n0, h.n1⟩
  generalize find s.dcnt s.dsym s.hold s.have_ = r at *
  obtain ⟨r1, r2⟩ := r
  simp only at hF hfr ⊢
  have c0 := hr.c_hold
  have c1 := hr.c_have_
  have c2 := hr.c_part
  have hfz := hr.free
  rw [hp] at c2
  clear hc hp h
  by_cases hlt : s.have_ < r2
  · have hd : decide (s.have_ < r2) = true := by simpa using hlt
    rw [if_pos hlt, if_pos hlt, hd]
    clear hd
    go_enter Try.func59, Try.ntmps59
    go_wp2
    go_quiet ((go_at_call 67; exact Calls.quiet_of_same (hF _ (hr.drewN _))))
    go_wp2
    go_ret2
    exact ⟨rfl, hr.drewN _, (On.refl b w).drewN _⟩
  · have hd : decide (s.have_ < r2) = false := by simpa using hlt
    rw [if_neg hlt, if_neg hlt, hd]
    clear hd
    go_enter Try.func59, Try.ntmps59
    go_wp2
    go_quiet ((go_at_call 67; exact Calls.quiet_of_same (hF _ (hr.drewN _))))
    go_wp2
    go_ret2
    exact ⟨rfl, ((hr.drewN _).hold _).have_ _, (((On.refl b w).drewN _).set _ _).set _ _⟩

set_option maxHeartbeats 1000000 in
theorem next_number (hr : Row w b s v) (h : PB s) (p0 : 0 ≤ s.part) (p9 : s.part ≤ 9) (p6 : s.part ≠ 6) (p8 : s.part ≠ 8) (hms : s.part = 4 ∨ s.part = 5 → 0 ≤ s.mstep ∧ s.mstep ≤ 4) (w0 : 0 ≤ width s) (w12 : width s ≤ 12) :
    Calls Try.prog 59 #[.pointer (some ⟨b, 0, none⟩)] w fun e w' =>
      e = .returned (.tuple #[.int .i64 (if s.have_ < (peek s).2 then 0 else (peek s).1), .bool (!decide (s.have_ < (peek s).2))]) ∧
      Row w' b (if s.have_ < (peek s).2 then s else drop s (peek s).2) v ∧ On b w w' := by
  have HP : Hid (peek s = (s.hold % 2 ^ (width s).toNat, width s)) := by simp [Hid, peek, p6, p8]
  have hW := width_any hr hms p0 p9 p6 p8
  rw [HP.out]
  clear HP
  obtain ⟨h1, h2, h3, h4⟩ : 0 ≤ s.hold ∧ s.hold < 1099511627776 ∧ 0 ≤ s.have_ ∧ s.have_ ≤ 40 := ⟨h.b0, h.b1, h.n0, h.n1⟩
  have hp := pow_lt64 (width s).toNat (by omega)
  have hm := bits_mask s.hold (width s).toNat h1 (by omega) (by omega)
  generalize width s = n at *
  simp only
  have c0 := hr.c_hold
  have c1 := hr.c_have_
  have c2 := hr.c_part
  have hfz := hr.free
  have b6 : (s.part == 6) = false := beq_eq_false_iff_ne.2 p6
  have b8 : (s.part == 8) = false := beq_eq_false_iff_ne.2 p8
  clear p6 p8 h hms
  by_cases hlt : s.have_ < n
  · have hd : decide (s.have_ < n) = true := by simpa using hlt
    rw [if_pos hlt, if_pos hlt, hd]
    clear hd
    go_enter Try.func59, Try.ntmps59
    go_wp2_with (go_at_call 68; refine hW.mono ?_; rintro e w1 ⟨rfl, rfl⟩)
    go_ret2
    exact ⟨rfl, hr, On.refl b _⟩
  · have hd : decide (s.have_ < n) = false := by simpa using hlt
    rw [if_neg hlt, if_neg hlt, hd]
    clear hd
    go_enter Try.func59, Try.ntmps59
    go_wp2_with (go_at_call 68; refine hW.mono ?_; rintro e w1 ⟨rfl, rfl⟩)
    go_ret2
    exact ⟨rfl, (hr.hold _).have_ _, ((On.refl b _).set _ _).set _ _⟩
end
end Go.Proofs.Ytmpfgdmdnghhgaa
