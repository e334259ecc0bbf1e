import Derived.Test.YtmpfgdmdnghhgaaW4
import Derived.Deep.LoopGhost
import Derived.Deep.RegionWith
namespace Go.Proofs.Ytmpfgdmdnghhgaa
open Go.RowKit Wr

theorem fill_start (f : Nat → Int) (a : Nat) (x : Int) : fillLen f a x 0 = f := by
  funext j
  unfold fillLen
  rw [if_neg (by omega)]
theorem fill_step (f : Nat → Int) (a : Nat) (x : Int) (k : Nat) : upd (fillLen f a x k) (a + k) x = fillLen f a x (k + 1) := by
  funext j
  unfold upd fillLen
  by_cases h : j = a + k
  · rw [if_pos h, if_pos (by omega)]
  · rw [if_neg h]
    by_cases h2 : a ≤ j ∧ j < a + k
    · rw [if_pos h2, if_pos (by omega)]
    · rw [if_neg h2, if_neg (by omega)]

section
variable {w : World} {b : Nat} {s : Rd} {v : Value}

set_option maxRecDepth 100000 in
set_option maxHeartbeats 1000000 in
theorem lay_any (hr : Row w b s v) (x times : Int) (h0 : 0 ≤ s.mat) (h1 : s.mat ≤ s.msize) (h2 : s.msize ≤ 272) (h3 : 1 ≤ times) (h4 : times ≤ 80) :
    Calls Try.prog 127 #[.pointer (some ⟨b, 6, none⟩), .int .i64 x, .int .i64 times] w fun e w' =>
      e = .returned (.int .i64 (lay s x times).2) ∧ Row w' b (lay s x times).1 v ∧ On b w w' := by
  have c0 := hr.c_mat
  have c1 := hr.c_msize
  by_cases hbig : s.msize < s.mat + times
  · have HE : Hid (lay s x times = (s, 2)) := by rw [Hid, lay, if_pos (Or.inl hbig)]
    go_enter Try.func127, Try.ntmps127
    go_wp2
    go_ret
    rw [HE.out]
    exact ⟨rfl, hr, On.refl _ _⟩
  · have hfree := hr.free
    have hnb : ¬ (s.msize < s.mat + times ∨ 272 < s.mat + times) := by omega
    go_enter Try.func127, Try.ntmps127
    go_wp2
    go_loopg [] (times.toNat) (fun g wr => ∃ k : Nat, k + g = times.toNat ∧ Row wr b { s with mlen := fillLen s.mlen s.mat.toNat x k, mat := s.mat + k } v ∧ On b w wr)
    case atStart =>
      refine ⟨0, by omega, ?_, On.refl _ _⟩
      rw [fill_start]
      simpa using hr
    case round =>
      obtain ⟨k, hk, hrk, honk⟩ := hrel
      have HR : Hid (Row w b s v) := hr
      clear c0 c1 hr hfree
      have c0 : wr.cell? ⟨b, 10, none⟩ = some (.int .i64 (s.mat + k)) := hrk.c_mat
      have hfz := hrk.free
      by_cases hlt : (k : Int) < times
      · have hcl : ∃ u, wr.cell? ⟨b, 12 + (s.mat + k).toNat, none⟩ = some (.int .i64 u) := ⟨_, hrk.c_mlen _ (by omega)⟩
        obtain ⟨u, hcl⟩ := hcl
        go_wp2
        go_region
        go_wp2
        go_roundg (gk - 1)
        case measure => omega
        case rel =>
          refine ⟨k + 1, by omega, ?_, ((honk.set _ _).set _ _).drew⟩
          have R := (hrk.mlen (s.mat + k).toNat (by omega) x).mat (s.mat + k + 1)
          have e1 := fill_step s.mlen s.mat.toNat x k
          have e2 : (s.mat + k).toNat = s.mat.toNat + k := by omega
          rw [e2] at R
          simp only [e1] at R
          have e3 : s.mat + k + 1 = s.mat + ((k + 1 : Nat) : Int) := by omega
          rw [e3] at R
          rw [e2, e3]
          exact R.drew
      · have hkt : (k : Int) = times := by omega
        obtain ⟨t, HT⟩ : ∃ t : Rd, Hid (t = { s with mlen := fillLen s.mlen s.mat.toNat x times.toNat, mat := s.mat + times }) := ⟨_, rfl⟩
        have hrt : Row wr b t v := by
          rw [HT.out]
          have e1 : times.toNat = k := by omega
          rw [e1, ← hkt]
          exact hrk
        have ht1 : t.mat = s.mat + times := by rw [HT.out]
        have ht2 : t.msize = s.msize := by rw [HT.out]
        have HL : Hid (lay s x times = if t.mat < t.msize then (t, 0) else
            if (countGo t.mlen t.mat.toNat).2 = 4096 then ({ t with mcnt := (countGo t.mlen t.mat.toNat).1, msym := (orderGo (countGo t.mlen t.mat.toNat).1 t.msym t.mlen t.mat.toNat).1 }, 1)
            else ({ t with mcnt := (countGo t.mlen t.mat.toNat).1 }, 2)) := by
          rw [HT.out, Hid, lay, if_neg hnb]
        have ht1a : t.mat ≤ s.mat + times := by omega
        have ht1b : s.mat + times ≤ t.mat := by omega
        have ht1c : 0 ≤ t.mat ∧ t.mat ≤ 272 := by omega
        have d0 := hrt.c_mat
        have d1 := hrt.c_msize
        clear HT ht1 ht2 hrk c0 hkt
        by_cases hfull : t.mat < t.msize
        · have HE : Hid (lay s x times = (t, 0)) := by
            have := HL.out
            rw [if_pos hfull] at this
            exact this
          clear HL
          go_wp2
          go_region
          go_wp2
          go_ret
          rw [HE.out]
          exact ⟨rfl, hrt.drew, honk.drew⟩
        · have hC := fun (W : World) (h : Row W b t v) => count_any h t.mat.toNat (by omega)
          have hcb := count_bounds t.mlen t.mat.toNat
          by_cases hsum : (countGo t.mlen t.mat.toNat).2 = 4096
          · have HE : Hid (lay s x times = ({ t with mcnt := (countGo t.mlen t.mat.toNat).1, msym := (orderGo (countGo t.mlen t.mat.toNat).1 t.msym t.mlen t.mat.toNat).1 }, 1)) := by
              have := HL.out
              rw [if_neg hfull, if_pos hsum] at this
              exact this
            rw [hsum] at hC
            clear HL hsum
            go_wp2
            go_region
            go_wp2
            go_region_with (go_at_call 136; refine (hC _ hrt.drew.drew).mono ?_; rintro e w' ⟨rfl, hr1, hon1⟩)
            have e0 : w'.cell? ⟨b, 10, none⟩ = some (.int .i64 t.mat) := hr1.c_mat
            clear d0 d1 hC
            have hO := fun (W : World) (h : Row W b { t with mcnt := (countGo t.mlen t.mat.toNat).1 } v) => order_any h t.mat.toNat (by omega) (fun j => by
              show 0 ≤ (countGo t.mlen t.mat.toNat).1 j ∧ (countGo t.mlen t.mat.toNat).1 j ≤ 300
              have := hcb.1 j
              omega)
            clear hcb
            go_wp2
            go_region_with (go_at_call 137; refine (hO _ hr1.drew).mono ?_; rintro e w' ⟨rfl, hr2, hon2⟩)
            go_wp2
            go_ret
            rw [HE.out]
            exact ⟨rfl, hr2, (honk.drew.drew.trans hon1).drew.trans hon2⟩
          · have HE : Hid (lay s x times = ({ t with mcnt := (countGo t.mlen t.mat.toNat).1 }, 2)) := by
              have := HL.out
              rw [if_neg hfull, if_neg hsum] at this
              exact this
            have hsum' : ((countGo t.mlen t.mat.toNat).2 == 4096) = false := beq_eq_false_iff_ne.2 hsum
            rw [hsum'] at hC
            clear HL hsum hsum' hcb
            go_wp2
            go_region
            go_wp2
            go_region_with (go_at_call 136; refine (hC _ hrt.drew.drew).mono ?_; rintro e w' ⟨rfl, hr1, hon1⟩)
            go_wp2
            go_ret
            rw [HE.out]
            exact ⟨rfl, hr1, honk.drew.drew.trans hon1⟩

set_option maxHeartbeats 400000 in
theorem times_any (hr : Row w b s v) (x : Int) (h0 : 0 ≤ s.mat) (h7 : s.mrepeat = 13 → 1 ≤ s.mat) (h1 : s.mat ≤ s.msize) (h2 : s.msize ≤ 272) (h3 : 0 ≤ x) (h4 : x ≤ 63) (h5 : 13 ≤ s.mrepeat) (h6 : s.mrepeat ≤ 15) :
    Calls Try.prog 114 #[.pointer (some ⟨b, 6, none⟩), .int .i64 x] w fun e w' =>
      e = .returned (.int .i64 (times s x).2) ∧ Row w' b (times s x).1 v ∧ On b w w' := by
  have c0 := hr.c_mstep
  have c1 := hr.c_mrepeat
  have hfz := hr.free
  have hr1 := hr.mstep 3
  have hL := fun (W : World) (h : Row W b { s with mstep := 3 } v) (y n : Int) (hn1 : 1 ≤ n) (hn2 : n ≤ 80) => lay_any h y n (by show 0 ≤ s.mat; omega) h1 h2 hn1 hn2
  have hc : s.mrepeat = 13 ∨ s.mrepeat = 14 ∨ s.mrepeat = 15 := by omega
  rcases hc with e | e | e
  · have HE : Hid (times s x = lay { s with mstep := 3 } (before { s with mstep := 3 }) (3 + x)) := by simp only [Hid, times, if_pos e]
    have hB := fun (W : World) (h : Row W b { s with mstep := 3 } v) => before_any h (h7 e) (by show s.mat ≤ 272; omega)
    rw [e] at c1
    clear e h5 h6 h7
    go_enter Try.func114, Try.ntmps114
    go_wp2_with (first
      | (go_at_call 128; refine (hB _ hr1).mono ?_; rintro e w1 ⟨rfl, hr2, hon2⟩)
      | (go_at_call 127; refine (hL _ hr2 _ _ (by omega) (by omega)).mono ?_; rintro e w2 ⟨rfl, hr3, hon3⟩))
    go_ret
    rw [HE.out]
    exact ⟨rfl, hr3, (((On.refl b w).set _ _).trans hon2).trans hon3⟩
  · have HE : Hid (times s x = lay { s with mstep := 3 } 0 (3 + x)) := by simp only [Hid, times, e]; rfl
    rw [e] at c1
    clear e h5 h6 h7
    go_enter Try.func114, Try.ntmps114
    go_wp2_with (go_at_call 127; refine (hL _ hr1 _ _ (by omega) (by omega)).mono ?_; rintro e w2 ⟨rfl, hr3, hon3⟩)
    go_ret
    rw [HE.out]
    exact ⟨rfl, hr3, ((On.refl b w).set _ _).trans hon3⟩
  · have HE : Hid (times s x = lay { s with mstep := 3 } 0 (11 + x)) := by simp only [Hid, times, e]; rfl
    rw [e] at c1
    clear e h5 h6 h7
    go_enter Try.func114, Try.ntmps114
    go_wp2_with (go_at_call 127; refine (hL _ hr1 _ _ (by omega) (by omega)).mono ?_; rintro e w2 ⟨rfl, hr3, hon3⟩)
    go_ret
    rw [HE.out]
    exact ⟨rfl, hr3, ((On.refl b w).set _ _).trans hon3⟩
end
end Go.Proofs.Ytmpfgdmdnghhgaa
