import Derived.Test.YtmpfgdmdnghhgaaW4
import Derived.Deep.LoopGhost
import Derived.Deep.RegionWith
namespace Go.Proofs.Ytmpfgdmdnghhgaa
open Go.RowKit Wr

theorem fill_start (f : Nat → Int) (a : Nat) (x : Int) : fillLen f a x 0 = f := by
  funext j
  unfold fillLen
  rw [if_neg (by omega)]
theorem fill_step (f : Nat → Int) (a : Nat) (x : Int) (k : Nat) : upd (fillLen f a x k) (a + k) x = fillLen f a x (k + 1) := by
  funext j
  unfold upd fillLen
  by_cases h : j = a + k
  · rw [if_pos h, if_pos (by omega)]
  · rw [if_neg h]
    by_cases h2 : a ≤ j ∧ j < a + k
    · rw [if_pos h2, if_pos (by omega)]
    · rw [if_neg h2, if_neg (by omega)]

section
variable {w : World} {b : Nat} {s : Rd} {v : Value}

set_option maxRecDepth 100000 in
set_option maxHeartbeats 1000000 in
theorem lay_any (hr : Row w b s v) (x times : Int) (h0 : 0 ≤ s.mat) (h1 : s.mat ≤ s.msize) (h2 : s.msize ≤ 272) (h3 : 1 ≤ times) (h4 : times ≤ 80) :
    Calls Try.prog 127 #[.pointer (some ⟨b, 6, none⟩), .int .i64 x, .int .i64 times] w fun e w' =>
      e = .returned (.int .i64 (lay s x times).2) ∧ Row w' b (lay s x times).1 v ∧ On b w w' := by
  have c0 := hr.c_mat
  have c1 := hr.c_msize
  by_cases hbig : s.msize < s.mat + times
  · have HE : Hid (lay s x times = (s, 2)) := by rw [Hid, lay, if_pos (Or.inl hbig)]
    go_enter Try.func127, Try.ntmps127
    go_wp2
    go_ret
    rw [HE.out]
    exact ⟨rfl, hr, On.refl _ _⟩
  · have hfree := hr.free
    have hnb : ¬ (s.msize < s.mat + times ∨ 272 < s.mat + times) := by omega
    go_enter Try.func127, Try.ntmps127
    go_wp2
    go_loopg [] (times.toNat) (fun g wr => ∃ k : Nat, k + g = times.toNat ∧ Row wr b { s with mlen := fillLen s.mlen s.mat.toNat x k, mat := s.mat + k } v ∧ On b w wr)
    case atStart =>
      refine ⟨0, by omega, ?_, On.refl _ _⟩
      rw [fill_start]
      simpa using hr
    case round =>
      obtain ⟨k, hk, hrk, honk⟩ := hrel
      have HR : Hid (Row w b s v) := hr
      clear c0 c1 hr hfree
      have c0 : wr.cell? ⟨b, 10, none⟩ = some (.int .i64 (s.mat + k)) := hrk.c_mat
      have hfz := hrk.free
      by_cases hlt : (k : Int) < times
      · have hcl : ∃ u, wr.cell? ⟨b, 12 + (s.mat + k).toNat, none⟩ = some (.int .i64 u) := ⟨_, hrk.c_mlen _ (by omega)⟩
        obtain ⟨u, hcl⟩ := hcl
        go_wp2
        go_region
        go_wp2
        go_roundg (gk - 1)
        case measure => omega
        case rel =>
          refine ⟨k + 1, by omega, ?_, ((honk.set _ _).set _ _).drew⟩
          have R := (hrk.mlen (s.mat + k).toNat (by omega) x).mat (s.mat + k + 1)
          have e1 := fill_step s.mlen s.mat.toNat x k
          have e2 : (s.mat + k).toNat = s.mat.toNat + k := by omega
          rw [e2] at R
          simp only [e1] at R
          have e3 : s.mat + k + 1 = s.mat + ((k + 1 : Nat) : Int) := by omega
          rw [e3] at R
          rw [e2, e3]
          exact R.drew
      · have hkt : (k : Int) = times := by omega
        obtain ⟨t, HT⟩ : ∃ t : Rd, Hid (t = { s with mlen := fillLen s.mlen s.mat.toNat x times.toNat, mat := s.mat + times }) := ⟨_, rfl⟩
        have hrt : Row wr b t v := by
          rw [HT.out]
          have e1 : times.toNat = k := by omega
          rw [e1, ← hkt]
          exact hrk
        have ht1 : t.mat = s.mat + times := by rw [HT.out]
        have ht2 : t.msize = s.msize := by rw [HT.out]
        have HL : Hid (lay s x times = if t.mat < t.msize then (t, 0) else
            if (countGo t.mlen t.mat.toNat).2 = 4096 then ({ t with mcnt := (countGo t.mlen t.mat.toNat).1, msym := (orderGo (countGo t.mlen t.mat.toNat).1 t.msym t.mlen t.mat.toNat).1 }, 1)
            else ({ t with mcnt := (countGo t.mlen t.mat.toNat).1 }, 2)) := by
          rw [HT.out, Hid, lay, if_neg hnb]
        have ht1a : t.mat ≤ s.mat + times := by omega
        have ht1b : s.mat + times ≤ t.mat := by omega
        have ht1c : 0 ≤ t.mat ∧ t.mat ≤ 272 := by omega
        have d0 := hrt.c_mat
        have d1 := hrt.c_msize
        clear HT ht1 ht2 hrk c0 hkt
        by_cases hfull : t.mat < t.msize
        · have HE : Hid (lay s x times = (t, 0)) := by
            have := HL.out
            rw [if_pos hfull] at this
            exact this
          clear HL
          go_wp2
          go_region
          go_wp2
          go_ret
          rw [HE.out]
          exact ⟨rfl, hrt.drew, honk.drew⟩
        · have hC := fun (W : World) (h : Row W b t v) => count_any h t.mat.toNat (by omega)
          have hcb := count_bounds t.mlen t.mat.toNat
          by_cases hsum : (countGo t.mlen t.mat.toNat).2 = 4096
          · have HE : Hid (lay s x times = ({ t with mcnt := (countGo t.mlen t.mat.toNat).1, msym := (orderGo (countGo t.mlen t.mat.toNat).1 t.msym t.mlen t.mat.toNat).1 }, 1)) := by
              have := HL.out
              rw [if_neg hfull, if_pos hsum] at this
              exact this
            rw [hsum] at hC
            clear HL hsum
            go_wp2
            go_region
            go_wp2
            go_region_with (go_at_call 136; refine (hC _ hrt.drew.drew).mono ?_; rintro e w' ⟨rfl, hr1, hon1⟩)
            have e0 : w'.cell? ⟨b, 10, none⟩ = some (.int .i64 t.mat) := hr1.c_mat
            clear d0 d1 hC
            have hO := fun (W : World) (h : Row W b { t with mcnt := (countGo t.mlen t.mat.toNat).1 } v) => order_any h t.mat.toNat (by omega) (fun j => by
              show 0 ≤ (countGo t.mlen t.mat.toNat).1 j ∧ (countGo t.mlen t.mat.toNat).1 j ≤ 300
              have := hcb.1 j
              omega)
            clear hcb
            go_wp2
            go_region_with (go_at_call 137; refine (hO _ hr1.drew).mono ?_; rintro e w' ⟨rfl, hr2, hon2⟩)
            go_wp2
            go_ret
            rw [HE.out]
            exact ⟨rfl, hr2, (honk.drew.drew.trans hon1).drew.trans hon2⟩
          · have HE : Hid (lay s x times = ({ t with mcnt := (countGo t.mlen t.mat.toNat).1 }, 2)) := by
              have := HL.out
              rw [if_neg hfull, if_neg hsum] at this
              exact this
            have hsum' : ((countGo t.mlen t.mat.toNat).2 == 4096) = false := beq_eq_false_iff_ne.2 hsum
            rw [hsum'] at hC
            clear HL hsum hsum' hcb
            go_wp2
            go_region
            go_wp2
            go_region_with (go_at_call 136; refine (hC _ hrt.drew.drew).mono ?_; rintro e w' ⟨rfl, hr1, hon1⟩)
            go_wp2
            go_ret
            rw [HE.out]
            exact ⟨rfl, hr1, honk.drew.drew.trans hon1⟩

set_option maxHeartbeats 400000 in
theorem times_any (hr : Row w b s v) (x : Int) (h0 : 0 ≤ s.mat) (h7 : s.mrepeat = 13 → 1 ≤ s.mat) (h1 : s.mat ≤ s.msize) (h2 : s.msize ≤ 272) (h3 : 0 ≤ x) (h4 : x ≤ 63) (h5 : 13 ≤ s.mrepeat) (h6 : s.mrepeat ≤ 15) :
    Calls Try.prog 114 #[.pointer (some ⟨b, 6, none⟩), .int .i64 x] w fun e w' =>
      e = .returned (.int .i64 (times s x).2) ∧ Row w' b (times s x).1 v ∧ On b w w' := by
  have c0 := hr.c_mstep
  have c1 := hr.c_mrepeat
  have hfz := hr.free
  have hr1 := hr.mstep 3
  have hL := fun (W : World) (h : Row W b { s with mstep := 3 } v) (y n : Int) (hn1 : 1 ≤ n) (hn2 : n ≤ 80) => lay_any h y n (by show 0 ≤ s.mat; omega) h1 h2 hn1 hn2
  have hc : s.mrepeat = 13 ∨ s.mrepeat = 14 ∨ s.mrepeat = 15 := by omega
  rcases hc with e | e | e
  · have HE : Hid (times s x = lay { s with mstep := 3 } (before { s with mstep := 3 }) (3 + x)) := by simp only [Hid, times, if_pos e]
    have hB := fun (W : World) (h : Row W b { s with mstep := 3 } v) => before_any h (h7 e) (by show s.mat ≤ 272; omega)
    rw [e] at c1
    clear e h5 h6 h7
    go_enter Try.func114, Try.ntmps114
    go_wp2_with (first
      | (go_at_call 128; refine (hB _ hr1).mono ?_; rintro e w1 ⟨rfl, hr2, hon2⟩)
      | (go_at_call 127; refine (hL _ hr2 _ _ (by omega) (by omega)).mono ?_; rintro e w2 ⟨rfl, hr3, hon3⟩))
    go_ret
    rw [HE.out]
    exact ⟨rfl, hr3, (((On.refl b w).set _ _).trans hon2).trans hon3⟩
  · have HE : Hid (times s x = lay { s with mstep := 3 } 0 (3 + x)) := by simp only [Hid, times, e]; rfl
    rw [e] at c1
    clear e h5 h6 h7
    go_enter Try.func114, Try.ntmps114
    go_wp2_with (go_at_call 127; refine (hL _ hr1 _ _ (by omega) (by omega)).mono ?_; rintro e w2 ⟨rfl, hr3, hon3⟩)
    go_ret
    rw [HE.out]
    exact ⟨rfl, hr3, ((On.refl b w).set _ _).trans hon3⟩
  · have HE : Hid (times s x = lay { s with mstep := 3 } 0 (11 + x)) := by simp only [Hid, times, e]; rfl
    rw [e] at c1
    clear e h5 h6 h7
    go_enter Try.func114, Try.ntmps114
    go_wp2_with (go_at_call 127; refine (hL _ hr1 _ _ (by omega) (by omega)).mono ?_; rintro e w2 ⟨rfl, hr3, hon3⟩)
    go_ret
    rw [HE.out]
    exact ⟨rfl, hr3, ((On.refl b w).set _ _).trans hon3⟩
end
end Go.Proofs.Ytmpfgdmdnghhgaa

namespace Go.Proofs.Ytmpfgdmdnghhgaa
open Go.RowKit Wr

theorem On.of_below (b : Nat) {w w' : World} (h : Below w.heap.size w w') : On b w w' := ⟨h.os, h.tape, h.output, h.size, fun k hk _ => h.block k hk⟩

section
variable {w : World} {b : Nat} {s : Rd} {v : Value}

set_option maxHeartbeats 400000 in
theorem mlength_any (hr : Row w b s v) (x : Int) (h0 : 0 ≤ s.mat) (h1 : s.mat ≤ s.msize) (h2 : s.msize ≤ 272) (h3 : 0 ≤ x) (h4 : x ≤ 15) :
    Calls Try.prog 113 #[.pointer (some ⟨b, 6, none⟩), .int .i64 x] w fun e w' =>
      e = .returned (.int .i64 (lengthP s x).2) ∧ Row w' b (lengthP s x).1 v ∧ On b w w' := by
  have c0 := hr.c_mat
  have c1 := hr.c_mrepeat
  have c2 := hr.c_mstep
  have hfz := hr.free
  by_cases h12 : x ≤ 12
  · have HE : Hid (lengthP s x = lay s x 1) := by simp only [Hid, lengthP, if_pos h12]
    have hL := lay_any hr x 1 h0 h1 h2 (by omega) (by omega)
    go_enter Try.func113, Try.ntmps113
    go_wp2_with (go_at_call 127; refine hL.mono ?_; rintro e w2 ⟨rfl, hr3, hon3⟩)
    go_ret
    rw [HE.out]
    exact ⟨rfl, hr3, hon3⟩
  · by_cases h13 : x = 13
    · subst h13
      by_cases hm : s.mat = 0
      · have HE : Hid (lengthP s 13 = (s, 2)) := by simp only [Hid, lengthP, if_neg h12, hm]; rfl
        rw [hm] at c0
        clear hm h0 h1
        go_enter Try.func113, Try.ntmps113
        go_wp2
        go_ret
        rw [HE.out]
        exact ⟨rfl, hr, On.refl _ _⟩
      · have HE : Hid (lengthP s 13 = ({ s with mrepeat := 13, mstep := 4 }, 0)) := by simp only [Hid, lengthP, if_neg h12]; rw [if_neg (fun h => hm h.2)]
        have hb0 : (s.mat == 0) = false := beq_eq_false_iff_ne.2 hm
        clear hm
        go_enter Try.func113, Try.ntmps113
        go_wp2
        go_ret
        rw [HE.out]
        exact ⟨rfl, (hr.mrepeat _).mstep _, ((On.refl b w).set _ _).set _ _⟩
    · have HE : Hid (lengthP s x = ({ s with mrepeat := x, mstep := 4 }, 0)) := by simp only [Hid, lengthP, if_neg h12]; rw [if_neg (fun h => h13 h.1)]
      have hb0 : (x == 13) = false := beq_eq_false_iff_ne.2 h13
      clear h13
      go_enter Try.func113, Try.ntmps113
      go_wp2
      go_ret
      rw [HE.out]
      exact ⟨rfl, (hr.mrepeat _).mstep _, ((On.refl b w).set _ _).set _ _⟩

set_option maxRecDepth 100000 in
set_option maxHeartbeats 1000000 in
theorem name_any (hr : Row w b s v) (x : Int) (h0 : 0 ≤ s.mat) (h1 : s.mat < s.mwanted) (h2 : 1 ≤ s.mwanted) (h3 : s.mwanted ≤ 4) :
    Calls Try.prog 112 #[.pointer (some ⟨b, 6, none⟩), .int .i64 x] w fun e w' =>
      e = .returned (.int .i64 (nameP s x).2) ∧ Row w' b (nameP s x).1 v ∧ On b w w' := by
  have c0 := hr.c_mat
  have c1 := hr.c_msize
  have c2 := hr.c_mwanted
  have hfz := hr.free
  by_cases hbig : s.msize ≤ x
  · have HE : Hid (nameP s x = (s, 2)) := by simp only [Hid, nameP]; rw [if_pos (Or.inl hbig)]
    go_enter Try.func112, Try.ntmps112
    go_wp2
    go_ret
    rw [HE.out]
    exact ⟨rfl, hr, On.refl _ _⟩
  · have hnb : ¬ (s.msize ≤ x ∨ 272 ≤ s.mat) := by omega
    have hcs : ∃ u, w.cell? ⟨b, 297 + s.mat.toNat, none⟩ = some (.int .i64 u) := ⟨_, hr.c_msym _ (by omega)⟩
    obtain ⟨u, hcs⟩ := hcs
    by_cases hm : 0 < s.mat
    · have cp := hr.c_msym (s.mat.toNat - 1) (by omega)
      have e1 : (s.mat - 1).toNat = s.mat.toNat - 1 := by omega
      by_cases hle : x ≤ s.msym (s.mat.toNat - 1)
      · have HE : Hid (nameP s x = (s, 2)) := by simp only [Hid, nameP]; rw [if_neg hnb, e1, if_pos ⟨hm, hle⟩]
        clear e1
        go_enter Try.func112, Try.ntmps112
        go_wp2
        go_quiet (fail)
        go_wp2
        go_ret
        rw [HE.out]
        exact ⟨rfl, hr.drewN _, (On.refl _ _).drewN _⟩
      · have hno : ¬ (0 < s.mat ∧ x ≤ s.msym (s.mat - 1).toNat) := by rw [e1]; omega
        clear e1
        by_cases hmore : s.mat + 1 < s.mwanted
        · have HE : Hid (nameP s x = ({ s with msym := upd s.msym s.mat.toNat x, mat := s.mat + 1 }, 0)) := by
            simp only [Hid, nameP]; rw [if_neg hnb, if_neg hno, if_pos hmore]
          go_enter Try.func112, Try.ntmps112
          go_wp2
          go_quiet (fail)
          go_wp2
          go_region
          go_wp2
          go_region
          go_wp2
          go_ret
          rw [HE.out]
          exact ⟨rfl, (((hr.drewN _).msym _ (by omega) _).mat _).drew, ((((On.refl b w).drewN _).set _ _).set _ _).drew⟩
        · have HE : Hid (nameP s x = ({ s with msym := upd s.msym s.mat.toNat x, mat := s.mat + 1, mcnt := simpleCnt s.mwanted }, 1)) := by
            simp only [Hid, nameP]; rw [if_neg hnb, if_neg hno, if_neg hmore]
          go_enter Try.func112, Try.ntmps112
          go_wp2
          go_quiet (fail)
          go_wp2
          go_region
          go_wp2
          go_region
          go_wp2_with fail
          refine (simpleCounts_any _ _ h2 h3).mono ?_
          rintro e w2 ⟨rfl, hb2⟩
          have hr2 := Row.of_block (((hr.drewN _).msym _ (by omega) x).mat (s.mat + 1)).drew (hb2.block b (by simpa using hr.lt))
          have hon2 := ((((On.refl b w).drewN _).set _ _).set _ _).drew.trans (On.of_below b hb2)
          have HI : Hid ((Try.prog.info? 85).map (·.size) = some (ints 13 (simpleCnt s.mwanted)).toArray.size) := info_13
          have H1 : Hid ((ints 13 (simpleCnt s.mwanted)).toArray.all (·.oneCell') = true) := all_oneCell_toArray (ints_one 13 _)
          have ht2 := hr2.there 284 13 (by omega)
          clear hb2
          go_wp2_with (refine wpList_store_mid rfl 85 _ _ rfl b 284 (ints 13 (simpleCnt s.mwanted)).toArray rfl rfl ht2 HI.out H1.out ?_)
          go_ret
          rw [HE.out]
          exact ⟨rfl, hr2.cnts _, hon2.cells b _ _⟩
    · have hno : ¬ (0 < s.mat ∧ x ≤ s.msym (s.mat - 1).toNat) := fun h => hm h.1
      have hd : decide (0 < s.mat) = false := by simpa using hm
      by_cases hmore : s.mat + 1 < s.mwanted
      · have HE : Hid (nameP s x = ({ s with msym := upd s.msym s.mat.toNat x, mat := s.mat + 1 }, 0)) := by
          simp only [Hid, nameP]; rw [if_neg hnb, if_neg hno, if_pos hmore]
        go_enter Try.func112, Try.ntmps112
        go_wp2
        go_quiet (fail)
        go_wp2
        go_region
        go_wp2
        go_region
        go_wp2
        go_ret
        rw [HE.out]
        exact ⟨rfl, (((hr.drewN _).msym _ (by omega) _).mat _).drew, ((((On.refl b w).drewN _).set _ _).set _ _).drew⟩
      · have HE : Hid (nameP s x = ({ s with msym := upd s.msym s.mat.toNat x, mat := s.mat + 1, mcnt := simpleCnt s.mwanted }, 1)) := by
          simp only [Hid, nameP]; rw [if_neg hnb, if_neg hno, if_neg hmore]
        go_enter Try.func112, Try.ntmps112
        go_wp2
        go_quiet (fail)
        go_wp2
        go_region
        go_wp2
        go_region
        go_wp2_with fail
        refine (simpleCounts_any _ _ h2 h3).mono ?_
        rintro e w2 ⟨rfl, hb2⟩
        have hr2 := Row.of_block (((hr.drewN _).msym _ (by omega) x).mat (s.mat + 1)).drew (hb2.block b (by simpa using hr.lt))
        have hon2 := ((((On.refl b w).drewN _).set _ _).set _ _).drew.trans (On.of_below b hb2)
        have HI : Hid ((Try.prog.info? 85).map (·.size) = some (ints 13 (simpleCnt s.mwanted)).toArray.size) := info_13
        have H1 : Hid ((ints 13 (simpleCnt s.mwanted)).toArray.all (·.oneCell') = true) := all_oneCell_toArray (ints_one 13 _)
        have ht2 := hr2.there 284 13 (by omega)
        clear hb2
        go_wp2_with (refine wpList_store_mid rfl 85 _ _ rfl b 284 (ints 13 (simpleCnt s.mwanted)).toArray rfl rfl ht2 HI.out H1.out ?_)
        go_ret
        rw [HE.out]
        exact ⟨rfl, hr2.cnts _, hon2.cells b _ _⟩
end
end Go.Proofs.Ytmpfgdmdnghhgaa

namespace Go.Proofs.Ytmpfgdmdnghhgaa
open Go.RowKit Wr

theorem fillTo_bounds (s : Rd) (h1 : 0 ≤ s.hold) (h2 : s.hold < 1099511627776) (h3 : 0 ≤ s.have_) (h4 : s.have_ ≤ 40) :
    0 ≤ (fillTo s).hold ∧ (fillTo s).hold < 1099511627776 ∧ 0 ≤ (fillTo s).have_ ∧ (fillTo s).have_ ≤ 40 := by
  unfold fillTo
  split
  · have hp := pow_lt64 (s.have_ % 8).toNat (by omega)
    refine ⟨Int.ediv_nonneg h1 (by omega), ?_, ?_, ?_⟩
    · have := Int.ediv_le_self (2 ^ (s.have_ % 8).toNat) h1
      show s.hold / _ < _
      omega
    · show 0 ≤ s.have_ - s.have_ % 8; omega
    · show s.have_ - s.have_ % 8 ≤ 40; omega
  · exact ⟨h1, h2, h3, h4⟩

section
variable {w : World} {b : Nat} {s : Rd} {v : Value}

set_option maxHeartbeats 400000 in
theorem Give_any (hr : Row w b s v) (x : Int) (hx : 0 ≤ x) (hx2 : x ≤ 4095) (hs0 : 0 ≤ s.mstep) (hs4 : s.mstep ≤ 4) (h0 : 0 ≤ s.mat) (h1 : s.mat ≤ s.msize) (h2 : s.msize ≤ 272)
    (g2 : s.mstep = 2 → s.mat < s.mwanted ∧ 1 ≤ s.mwanted ∧ s.mwanted ≤ 4) (g3 : s.mstep = 3 → x ≤ 15)
    (g4 : s.mstep = 4 → x ≤ 63 ∧ 13 ≤ s.mrepeat ∧ s.mrepeat ≤ 15 ∧ (s.mrepeat = 13 → 1 ≤ s.mat)) :
    Calls Try.prog 90 #[.pointer (some ⟨b, 6, none⟩), .int .i64 x] w fun e w' =>
      e = .returned (.int .i64 (give s x).2) ∧ Row w' b (give s x).1 v ∧ On b w w' := by
  have c0 := hr.c_mstep
  have c1 := hr.c_mwanted
  have hfz := hr.free
  have hc : s.mstep = 0 ∨ s.mstep = 1 ∨ s.mstep = 2 ∨ s.mstep = 3 ∨ s.mstep = 4 := by omega
  rcases hc with e | e | e | e | e
  · by_cases hx1 : x = 1
    · subst hx1
      have HE : Hid (give s 1 = ({ s with mstep := 3 }, 0)) := by simp only [Hid, give, if_pos e]; rfl
      rw [e] at c0
      clear e g2 g3 g4
      go_enter Try.func90, Try.ntmps90
      go_wp2
      go_ret
      rw [HE.out]
      exact ⟨rfl, (hr.mstep 1).mstep 3, ((On.refl b w).set _ _).set _ _⟩
    · have HE : Hid (give s x = ({ s with mstep := 1 }, 0)) := by simp only [Hid, give, if_pos e]; rw [if_neg hx1]
      have hb : (x == 1) = false := beq_eq_false_iff_ne.2 hx1
      rw [e] at c0
      clear e g2 g3 g4 hx1
      go_enter Try.func90, Try.ntmps90
      go_wp2
      go_ret
      rw [HE.out]
      exact ⟨rfl, hr.mstep 1, (On.refl b w).set _ _⟩
  · have HE : Hid (give s x = ({ s with mwanted := x + 1, mstep := 2 }, 0)) := by simp only [Hid, give, e]; rfl
    rw [e] at c0
    clear e g2 g3 g4
    go_enter Try.func90, Try.ntmps90
    go_wp2
    go_ret
    rw [HE.out]
    exact ⟨rfl, (hr.mwanted _).mstep _, ((On.refl b w).set _ _).set _ _⟩
  · have HE : Hid (give s x = nameP s x) := by simp only [Hid, give, e]; rfl
    have hN := name_any hr x h0 (g2 e).1 (g2 e).2.1 (g2 e).2.2
    rw [e] at c0
    clear e g2 g3 g4
    go_enter Try.func90, Try.ntmps90
    go_wp2_with (go_at_call 112; refine hN.mono ?_; rintro e w2 ⟨rfl, hr3, hon3⟩)
    go_ret
    rw [HE.out]
    exact ⟨rfl, hr3, hon3⟩
  · have HE : Hid (give s x = lengthP s x) := by simp only [Hid, give, e]; rfl
    have hN := mlength_any hr x h0 h1 h2 hx (g3 e)
    rw [e] at c0
    clear e g2 g3 g4
    go_enter Try.func90, Try.ntmps90
    go_wp2_with (go_at_call 113; refine hN.mono ?_; rintro e w2 ⟨rfl, hr3, hon3⟩)
    go_ret
    rw [HE.out]
    exact ⟨rfl, hr3, hon3⟩
  · have HE : Hid (give s x = times s x) := by simp only [Hid, give, e]; rfl
    have hN := times_any hr x h0 (g4 e).2.2.2 h1 h2 hx (g4 e).1 (g4 e).2.1 (g4 e).2.2.1
    rw [e] at c0
    clear e g2 g3 g4
    go_enter Try.func90, Try.ntmps90
    go_wp2_with (go_at_call 114; refine hN.mono ?_; rintro e w2 ⟨rfl, hr3, hon3⟩)
    go_ret
    rw [HE.out]
    exact ⟨rfl, hr3, hon3⟩

set_option maxHeartbeats 400000 in
theorem endCommand_any (hr : Row w b s v) (h1 : 0 ≤ s.hold) (h2 : s.hold < 1099511627776) (h3 : 0 ≤ s.have_) (h4 : s.have_ ≤ 40) :
    Calls Try.prog 93 #[.pointer (some ⟨b, 0, none⟩)] w fun e w' => e = .returned (.tuple #[]) ∧ Row w' b (endCommand s) v ∧ On b w w' := by
  have c2 := hr.c_part
  have c5 := hr.c_left
  have hfz := hr.free
  by_cases hl : s.left = 0
  · have HE : Hid (endCommand s = endBlock { s with part := 6 }) := by simp only [Hid, endCommand, if_pos hl]
    have hr1 := hr.part 6
    have hN := endBlock_any hr1 h1 h2 h3 h4
    rw [hl] at c5
    clear hl
    go_enter Try.func93, Try.ntmps93
    go_wp2_with (go_at_call 87; refine hN.mono ?_; rintro e w2 ⟨rfl, hr3, hon3⟩)
    go_end0
    rw [HE.out]
    exact ⟨rfl, hr3, ((On.refl b w).set _ _).trans hon3⟩
  · have HE : Hid (endCommand s = { s with part := 6 }) := by simp only [Hid, endCommand, if_neg hl]
    have hb : (s.left == 0) = false := beq_eq_false_iff_ne.2 hl
    clear hl
    go_enter Try.func93, Try.ntmps93
    go_wp2
    go_end0
    rw [HE.out]
    exact ⟨rfl, hr.part 6, (On.refl b w).set _ _⟩

set_option maxHeartbeats 400000 in
theorem useWindow_any (hr : Row w b s v) (x : Int) (h1 : 0 ≤ x) :
    Calls Try.prog 69 #[.pointer (some ⟨b, 0, none⟩), .int .i64 x] w fun e w' => e = .returned (.tuple #[]) ∧ Row w' b (useWindow s x) v ∧ On b w w' := by
  have c2 := hr.c_part
  have c3 := hr.c_window
  have hfz := hr.free
  by_cases h8 : 8 < x
  · have HE : Hid (useWindow s x = fault s) := by simp only [Hid, useWindow, if_pos h8]
    go_enter Try.func69, Try.ntmps69
    go_wp2
    refine bodyPost_ret (results_none rfl _ _ _) rfl ?_
    rw [HE.out]
    exact ⟨rfl, hr.part 11, (On.refl b w).set _ _⟩
  · have HE : Hid (useWindow s x = { s with window := 16 * 2 ^ x.toNat, part := 1 }) := by simp only [Hid, useWindow, if_neg h8]
    have hp := pow_lt64 x.toNat (by omega)
    have hp8 : (2 : Int) ^ x.toNat ≤ 256 := pow_mono (show x.toNat ≤ 8 by omega)
    go_enter Try.func69, Try.ntmps69
    go_wp2
    go_end0
    rw [HE.out]
    exact ⟨rfl, (hr.window _).part _, ((On.refl b w).set _ _).set _ _⟩

set_option maxHeartbeats 400000 in
theorem useBlock_any (hr : Row w b s v) (x : Int) (g1 : 0 ≤ x) (g2 : x ≤ 4095) (h1 : 0 ≤ s.hold) (h2 : s.hold < 1099511627776) (h3 : 0 ≤ s.have_) (h4 : s.have_ ≤ 40) :
    Calls Try.prog 70 #[.pointer (some ⟨b, 0, none⟩), .int .i64 x] w fun e w' => e = .returned (.tuple #[]) ∧ Row w' b (useBlock s x) v ∧ On b w w' := by
  have c2 := hr.c_part
  have c3 := hr.c_last
  have c4 := hr.c_kind
  have hfz := hr.free
  have hr1 := (hr.last (x % 2 == 1)).kind (x / 2)
  obtain ⟨t, HT⟩ : ∃ t : Rd, Hid (t = { s with last := x % 2 == 1, kind := x / 2 }) := ⟨_, rfl⟩
  by_cases hk : x / 2 = 0
  · have hF := fill_any hr1 h1 h2 h3 h4
    have hk' : (x / 2 != 0) = false := by rw [hk]; rfl
    cases hok : fillOk t
    · have HE : Hid (useBlock s x = fillTo t) := by simp only [Hid, useBlock, if_pos hk, ← HT.out, hok]; rfl
      rw [← HT.out] at hr1 hF
      rw [hok] at hF
      clear hk hok
      go_enter Try.func70, Try.ntmps70
      go_wp2_with (go_at_call 86; refine hF.mono ?_; rintro e w2 ⟨rfl, hr3, hon3⟩)
      go_end0
      rw [HE.out]
      exact ⟨rfl, hr3, (((On.refl b w).set _ _).set _ _).trans hon3⟩
    · have HE : Hid (useBlock s x = endBlock (fillTo t)) := by simp only [Hid, useBlock, if_pos hk, ← HT.out, hok]; rfl
      have hft : 0 ≤ (fillTo t).hold ∧ (fillTo t).hold < 1099511627776 ∧ 0 ≤ (fillTo t).have_ ∧ (fillTo t).have_ ≤ 40 := by
        rw [HT.out]; exact fillTo_bounds _ h1 h2 h3 h4
      rw [← HT.out] at hr1 hF
      rw [hok] at hF
      clear hk hok
      go_enter Try.func70, Try.ntmps70
      go_wp2_with (first
        | (go_at_call 86; refine hF.mono ?_; rintro e w2 ⟨rfl, hr3, hon3⟩)
        | (go_at_call 87; refine (endBlock_any hr3 hft.1 hft.2.1 hft.2.2.1 hft.2.2.2).mono ?_; rintro e w4 ⟨rfl, hr4, hon4⟩))
      go_end0
      rw [HE.out]
      exact ⟨rfl, hr4, ((((On.refl b w).set _ _).set _ _).trans hon3).trans hon4⟩
  · have HE : Hid (useBlock s x = { s with last := x % 2 == 1, kind := x / 2, part := 2 }) := by simp only [Hid, useBlock, if_neg hk]
    have hk' : (x / 2 != 0) = true := by simpa using hk
    clear hk HT
    go_enter Try.func70, Try.ntmps70
    go_wp2
    refine bodyPost_ret (results_none rfl _ _ _) rfl ?_
    rw [HE.out]
    exact ⟨rfl, hr1.part 2, (((On.refl b w).set _ _).set _ _).set _ _⟩
end
end Go.Proofs.Ytmpfgdmdnghhgaa
