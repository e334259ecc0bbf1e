import Derived.Test.YtmpfgdmdnghhgaaW10
namespace Go.Proofs.Ytmpfgdmdnghhgaa
open Go.RowKit Wr
section
variable {w : World} {B b : Nat} {s : Rd}

set_option maxHeartbeats 1000000 in
theorem useCopy_any (hR : Rep w B b s) (d : Int) (h : PB s) (hd : 0 ≤ d) (h5 : 0 ≤ s.length) (h6 : 0 ≤ s.left) (h7 : s.left ≤ 4096) (h8 : s.out.length ≤ 8796093022208) :
    Calls Try.prog 77 #[.pointer (some ⟨b, 0, none⟩), .int .i64 d] w fun e w' => e = .returned (.tuple #[]) ∧ Rep w' B b (useCopy s d) ∧ Fr B b w w' := by
  have hR0 := hR
  obtain ⟨hbB, hB, v, hr, hown⟩ := hR
  have c1 := hr.c_reach
  have c2 := hr.c_length
  have c3 := hr.c_left
  have c4 := hr.c_part
  have hfz := hr.free
  have hr1 := h.r1
  by_cases hfar : s.reach < d
  · have HE : Hid (useCopy s d = fault s) := by rw [Hid, useCopy, if_pos (Or.inl hfar)]
    clear hR0
    go_enter Try.func77, Try.ntmps77
    go_wp2
    go_quiet (fail)
    go_wp2
    refine bodyPost_ret (results_none rfl _ _ _) rfl ?_
    rw [HE.out]
    exact ⟨rfl, Rep.next hbB hB hown ((hr.drewN _).part 11) (((On.refl b w).drewN _).set _ _) rfl⟩
  · have hgd : decide (s.reach < d) = false := by simpa using hfar
    by_cases hlong : s.left < s.length
    · have HE : Hid (useCopy s d = fault s) := by rw [Hid, useCopy, if_pos (Or.inr hlong)]
      clear hR0
      go_enter Try.func77, Try.ntmps77
      go_wp2
      go_quiet (fail)
      go_wp2
      refine bodyPost_ret (results_none rfl _ _ _) rfl ?_
      rw [HE.out]
      exact ⟨rfl, Rep.next hbB hB hown ((hr.drewN _).part 11) (((On.refl b w).drewN _).set _ _) rfl⟩
    · have HE : Hid (useCopy s d = endCommand (copyGo s.length.toNat s d)) := by rw [Hid, useCopy, if_neg (by omega)]
      go_enter Try.func77, Try.ntmps77
      go_wp2
      go_quiet (fail)
      go_wp2
      go_loopw [4] (fun vi wr => ∃ k : Nat, (k : Int) ≤ s.length ∧ vi = .int .i64 k ∧ Rep wr B b (copyGo k s d) ∧ Fr B b w wr) (fun vi _ => s.length.toNat - (intOf vi).toNat)
      case atStart => exact ⟨0, by omega, rfl, hR0, ((On.refl b w).drewN _).fr hB⟩
      case round =>
        obtain ⟨k, hk, rfl, hRk, hfrk⟩ := hrel
        clear c1 c2 c3 c4 hfz hR0 hown hr
        obtain ⟨k1, k2, k3, k4, _⟩ := copy_keeps d s h k
        have hRk0 := hRk
        obtain ⟨_, hBk, vk, hrk, hownk⟩ := hRk
        have c2 := hrk.c_length
        rw [k4] at c2
        clear k4
        by_cases hlt : (k : Int) < s.length
        · have HS := copy_succ k s d
          have hA := ago_any hrk d k1.at0 k1.at1 hd (by omega)
          have hP := put_any hRk0 (agoP (copyGo k s d) d) k1.at0 k1.at1 k1.r0 k1.w1 k1.r1 (by omega) (by omega) (by omega)
          have HS' : Hid (copyGo (k + 1) s d = put (copyGo k s d) (agoP (copyGo k s d) d)) := HS
          clear HS k2 k3
          go_wp2_with (first
            | (go_at_call 97; refine hA.mono ?_; rintro e w1 ⟨rfl, rfl⟩)
            | (go_at_call 89; refine hP.mono ?_; rintro e w1 ⟨rfl, hR1, hfr1⟩))
          go_roundw
          case rel => exact ⟨k + 1, by omega, by go_num, by rw [HS'.out]; exact hR1, hfrk.trans hfr1⟩
          case measure => simp [intOf]; omega
        · have hkn : s.length.toNat = k := by omega
          have HE' : Hid (useCopy s d = endCommand (copyGo k s d)) := by rw [Hid, HE.out, hkn]
          clear hkn k2 k3
          have hE := endCommand_rep hRk0 k1
          go_wp2_with (go_at_call 93; refine hE.mono ?_; rintro e w1 ⟨rfl, hR1, hfr1⟩)
          go_end0
          rw [HE'.out]
          exact ⟨rfl, hR1, hfrk.trans hfr1⟩

set_option maxHeartbeats 400000 in
theorem useLetter_any (hR : Rep w B b s) (x : Int) (h : PB s) (h1 : 0 ≤ x) (h2 : x < 272) (h6 : 0 ≤ s.left) (h7 : s.left ≤ 4096) (h8 : s.out.length ≤ 17592186044416) :
    Calls Try.prog 74 #[.pointer (some ⟨b, 0, none⟩), .int .i64 x] w fun e w' => e = .returned (.tuple #[]) ∧ Rep w' B b (useLetter s x) ∧ Fr B b w w' := by
  by_cases hx : x < 256
  · have HE : Hid (useLetter s x = endCommand (put s x)) := by rw [Hid, useLetter, if_pos hx]
    have hP := put_any hR x h.at0 h.at1 h.r0 h.w1 h.r1 (by omega) (by omega) h8
    have hpb := put_PB h x
    clear hR
    go_enter Try.func74, Try.ntmps74
    go_wp2_with (first
      | (go_at_call 89; refine hP.mono ?_; rintro e w1 ⟨rfl, hR1, hfr1⟩)
      | (go_at_call 93; refine (endCommand_rep hR1 hpb).mono ?_; rintro e w2 ⟨rfl, hR2, hfr2⟩))
    refine bodyPost_ret (results_none rfl _ _ _) rfl ?_
    rw [HE.out]
    exact ⟨rfl, hR2, hfr1.trans hfr2⟩
  · have HE : Hid (useLetter s x = { s with least := lenLeast (x - 256), more := lenMore (x - 256), part := 7 }) := by rw [Hid, useLetter, if_neg hx]
    obtain ⟨hbB, hB, v, hr, hown⟩ := hR
    have c1 := hr.c_least
    have c2 := hr.c_more
    have c4 := hr.c_part
    have hfz := hr.free
    have hL := length_any (x - 256) w (by omega) (by omega)
    go_enter Try.func74, Try.ntmps74
    go_wp2_with (go_at_call 94; refine hL.mono ?_; rintro e w1 ⟨rfl, rfl⟩)
    go_end0
    rw [HE.out]
    exact ⟨rfl, Rep.next hbB hB hown (((hr.least _).more _).part 7) ((((On.refl b _).set _ _).set _ _).set _ _) rfl⟩

set_option maxHeartbeats 400000 in
theorem useDistance_any (hR : Rep w B b s) (x : Int) (h : PB s) (h1 : 0 ≤ x) (h2 : x < 16) (hn : ∀ i, i < 4 → 0 ≤ s.near i) (h5 : 0 ≤ s.length) (h6 : 0 ≤ s.left) (h7 : s.left ≤ 4096) (h8 : s.out.length ≤ 8796093022208) :
    Calls Try.prog 75 #[.pointer (some ⟨b, 0, none⟩), .int .i64 x] w fun e w' => e = .returned (.tuple #[]) ∧ Rep w' B b (useDistance s x) ∧ Fr B b w w' := by
  obtain ⟨hbB, hB, v, hr, hown⟩ := hR
  by_cases hx : x < 4
  · obtain ⟨t, HT⟩ : ∃ t : Rd, Hid (t = if 0 < x then { s with near := nearAdd s.near (s.near x.toNat) } else s) := ⟨_, rfl⟩
    have HE : Hid (useDistance s x = useCopy t (s.near x.toNat)) := by rw [Hid, useDistance, if_pos hx, HT.out]
    have hU := nearUse_any hr x h1 hx
    rw [← HT.out] at hU
    have hto : t.out = s.out := by rw [HT.out]; split <;> rfl
    have hpt : PB t := by rw [HT.out]; split <;> exact ⟨h.at0, h.at1, h.r0, h.r1, h.w1, h.b0, h.b1, h.n0, h.n1⟩
    have htl : t.length = s.length ∧ t.left = s.left := by rw [HT.out]; split <;> exact ⟨rfl, rfl⟩
    have hC := fun (W : World) (hW : Rep W B b t) => useCopy_any hW (s.near x.toNat) hpt (hn _ (by omega)) (by rw [htl.1]; exact h5) (by rw [htl.2]; exact h6) (by rw [htl.2]; exact h7) (by rw [hto]; exact h8)
    clear hpt htl hn
    have Hto : Hid (t.out = s.out) := hto
    clear hto HT
    go_enter Try.func75, Try.ntmps75
    go_wp2_with (first
      | (go_at_call 95; refine hU.mono ?_; rintro e w1 ⟨rfl, hr1, hon1⟩; have hR1 := Rep.next hbB hB hown hr1 hon1 Hto.out)
      | (go_at_call 77; refine (hC _ hR1.1).mono ?_; rintro e w2 ⟨rfl, hR2, hfr2⟩))
    refine bodyPost_ret (results_none rfl _ _ _) rfl ?_
    rw [HE.out]
    exact ⟨rfl, hR2, hR1.2.trans hfr2⟩
  · have HE : Hid (useDistance s x = { s with least := distLeast x, more := distMore x, part := 9 }) := by rw [Hid, useDistance, if_neg hx]
    have c1 := hr.c_least
    have c2 := hr.c_more
    have c4 := hr.c_part
    have hfz := hr.free
    have hL := distance_any x w (by omega) (by omega)
    clear hn
    go_enter Try.func75, Try.ntmps75
    go_wp2_with (go_at_call 96; refine hL.mono ?_; rintro e w1 ⟨rfl, rfl⟩)
    go_end0
    rw [HE.out]
    exact ⟨rfl, Rep.next hbB hB hown (((hr.least _).more _).part 9) ((((On.refl b _).set _ _).set _ _).set _ _) rfl⟩
end
end Go.Proofs.Ytmpfgdmdnghhgaa
