import Derived.Test.YtmpfgdmdnghhgaaGreatQ4
namespace Go.Proofs.YtmpfgdmdnghhgaaGreat
open Go.RowKit Wr

set_option maxHeartbeats 400000 in
theorem pick_big (w : World) (c n : Int) (h1 : -9223372036854775808 ≤ c) (h2 : c ≤ 9223372036854775807) (h3 : 1 ≤ n) (h4 : n ≤ 1099511627776) :
    Calls Tryz.prog 12 #[.int .i64 c, .int .i64 n] w fun e w' => e = .returned (.int .i64 (pickP c n)) ∧ w' = w := by
  by_cases hc : c < 0
  · have HE : Hid (pickP c n = -((c + 1).tmod n)) := by
      rw [Hid, pickP, if_pos hc, ← Int.neg_tmod, Int.tmod_eq_emod_of_nonneg (by omega)]
    go_enter Tryz.func12, Tryz.ntmps12
    go_wp2
    go_ret
    rw [HE.out]
    exact ⟨rfl, rfl⟩
  · have HE : Hid (pickP c n = c % n) := by rw [Hid, pickP, if_neg hc]
    go_enter Tryz.func12, Tryz.ntmps12
    go_wp2
    go_ret
    rw [HE.out]
    exact ⟨rfl, rfl⟩

set_option maxHeartbeats 400000 in
theorem kbegins_any (w : World) (s t : ByteArray) (h1 : t.size ≤ s.size) (h2 : s.extract 0 t.size = t) (_hs : s.size ≤ 1099511627776) : Calls Tryz.prog 13 #[.string s, .string t] w fun e w' => e = .returned (.bool true) ∧ w' = w := by
  go_enter Tryz.func13, Tryz.ntmps13
  go_wp2
  go_ret
  exact ⟨rfl, rfl⟩

set_option maxRecDepth 100000 in
set_option maxHeartbeats 1000000 in
theorem Prefixes_any (w : World) (x l : Int) (a : Option Addr) (len cap : Nat) (c : Nat → Int × ByteArray) (x0 : -9223372036854775808 ≤ x) (x1 : x ≤ 9223372036854775807) (l0 : -9223372036854775808 ≤ l) (l1 : l ≤ 9223372036854775807)
    (hc : IsCalls w a len c) (hb : bulk c len ≤ 2097152) (n : Int) (n0 : -9223372036854775808 ≤ n) (n1 : n ≤ 9223372036854775807) (T : ByteArray) (hT : T.size ≤ 1048576) :
    Calls Tryz.prog 5 #[.int .i64 x, .int .i64 l, .slice a len cap, .int .i64 n, .string T] w fun e w' => e = .returned (.bool true) ∧ Below w.heap.size w w' := by
  have hM := made_any w x l a len cap c x0 x1 l0 l1 hc (by omega)
  have hSz : (endOut (runS c (initS x l) len)).size ≤ 67108864 := by
    have := endOut_size c x l len
    omega
  have hlong := finS_long (runS c (initS x l) len).u (runS c (initS x l) len).P
  have hlo : 0 < (endOut (runS c (initS x l) len)).size := hlong
  have hff := run_back c x l len
  have hpz := plain_size c (initS x l) len
  have hp0 : (initS x l).k.plain.size = 0 := rfl
  clear hlong
  generalize endOut (runS c (initS x l) len) = eo at *
  generalize runS c (initS x l) len = rl at *
  have hpb := pickP_bounds n (eo.size : Int) (by omega)
  have hPk := fun W => pick_big W n (eo.size : Int) n0 n1 (by omega) (by omega)
  obtain ⟨m, hm⟩ := Int.eq_ofNat_of_zero_le hpb.1
  rw [hm] at hPk hpb
  have hml : m < eo.size := by omega
  have hU : ∀ W k q, WkRow W k q { rl.k with out := eo } → W.cell? ⟨k, 2, none⟩ = some (.string eo) ∧ W.cell? ⟨k, 1, none⟩ = some (.string rl.k.plain) := fun W k q h => ⟨World.rowIs.cell h (by omega), World.rowIs.cell h (by omega)⟩
  have hme : m ≤ eo.size := by omega
  have hme2 : (m : Int) ≤ (eo.size : Int) := by omega
  have hme0 : (0 : Int) ≤ (m : Int) := by omega
  have hms : (eo.extract 0 m).size = m := by rw [ByteArray.size_extract]; omega
  have hD1 := fun W => Decode_any W (eo.extract 0 m) (by omega)
  have hD2 := fun W => Decode_any W eo (by omega)
  have hD3 := fun W => Decode_any W (eo ++ T) (by rw [ByteArray.size_append]; omega)
  obtain ⟨p1, p2, p3⟩ := pre_dec hff hml
  rw [p1] at hD1
  rw [hff.1, hff.2] at hD2
  have hBg := fun W => kbegins_any W _ _ p2 p3 (by omega)
  have hTd : 0 < T.size → outStr (feed initRd (eo ++ T).data.toList).out = rl.k.plain ∧ errno (feed initRd (eo ++ T).data.toList) = 3 := tail_dec hff
  clear p1 p2 p3 hff
  generalize outStr (feed initRd (eo.extract 0 m).data.toList).out = D1 at *
  generalize rl.k.plain = S at *
  by_cases hTe : 0 < T.size
  · rw [(hTd hTe).1, (hTd hTe).2] at hD3
    have hTn := some_bytes hTe
    have hcat : eo.size + T.size ≤ 9223372036854775807 := by omega
    clear hTd hc hm
    go_enter Tryz.func5, Tryz.ntmps5
    go_wp2_with (first
      | (go_at_call 9; refine hM.mono ?_; rintro e w1 ⟨k, q, rfl, hk0, hr1, hb1, _, _⟩; obtain ⟨d1, d2⟩ := hU _ _ _ hr1; have hkl : k < w1.heap.size := World.rowIs.lt hr1))
    clear hM hU
    go_region_held3 (fun W => W.cell? ⟨k, 2, none⟩ = some (.string eo) ∧ W.cell? ⟨k, 1, none⟩ = some (.string S)) (go_keep)
      (first
        | (go_at_call 12; refine (hPk _).mono ?_; rintro e w9 ⟨rfl, rfl⟩)
        | (go_at_call 10; refine (hD1 _).mono ?_; rintro e w2 ⟨rfl, hb2⟩; have f1 : w2.cell? ⟨k, 2, none⟩ = some (.string eo) := (hb2.cell (p := ⟨k, 2, none⟩) hkl).trans d1; have f2 : w2.cell? ⟨k, 1, none⟩ = some (.string S) := (hb2.cell (p := ⟨k, 1, none⟩) hkl).trans d2))
    have hk2 : k < w2.heap.size := Nat.lt_of_lt_of_le hkl hb2.size
    clear hPk hD1
    go_wp2_with (first
      | (go_at_call_of 10 (Value.string (eo ++ T)); refine (hD3 _).mono ?_; rintro e w5 ⟨rfl, hb5⟩; have i2 : w5.cell? ⟨k, 1, none⟩ = some (.string S) := (hb5.cell (p := ⟨k, 1, none⟩) hk4).trans g2)
      | (go_at_call_of 10 (Value.string eo); refine (hD2 _).mono ?_; rintro e w4 ⟨rfl, hb4⟩; have g1 : w4.cell? ⟨k, 2, none⟩ = some (.string eo) := (hb4.cell (p := ⟨k, 2, none⟩) hk2).trans f1; have g2 : w4.cell? ⟨k, 1, none⟩ = some (.string S) := (hb4.cell (p := ⟨k, 1, none⟩) hk2).trans f2; have hk4 : k < w4.heap.size := Nat.lt_of_lt_of_le hk2 hb4.size)
      | (go_at_call 13; refine (hBg _).mono ?_; rintro e w3 ⟨rfl, rfl⟩))
    go_ret
    exact ⟨rfl, ((hb1.drew.trans (hb2.mono hb1.size)).trans (hb4.mono (Nat.le_trans hb1.size hb2.size))).trans (hb5.mono (Nat.le_trans (Nat.le_trans hb1.size hb2.size) hb4.size))⟩
  · have hT0 : T = ByteArray.empty := bytes_ext (by
      have h1 : T.data.toList.length = T.size := by simp
      exact List.eq_nil_of_length_eq_zero (by omega))
    subst hT0
    clear hTd hc hm hD3
    go_enter Tryz.func5, Tryz.ntmps5
    go_wp2_with (first
      | (go_at_call 9; refine hM.mono ?_; rintro e w1 ⟨k, q, rfl, hk0, hr1, hb1, _, _⟩; obtain ⟨d1, d2⟩ := hU _ _ _ hr1; have hkl : k < w1.heap.size := World.rowIs.lt hr1))
    clear hM hU
    go_region_held3 (fun W => W.cell? ⟨k, 2, none⟩ = some (.string eo) ∧ W.cell? ⟨k, 1, none⟩ = some (.string S)) (go_keep)
      (first
        | (go_at_call 12; refine (hPk _).mono ?_; rintro e w9 ⟨rfl, rfl⟩)
        | (go_at_call 10; refine (hD1 _).mono ?_; rintro e w2 ⟨rfl, hb2⟩; have f1 : w2.cell? ⟨k, 2, none⟩ = some (.string eo) := (hb2.cell (p := ⟨k, 2, none⟩) hkl).trans d1; have f2 : w2.cell? ⟨k, 1, none⟩ = some (.string S) := (hb2.cell (p := ⟨k, 1, none⟩) hkl).trans d2))
    have hk2 : k < w2.heap.size := Nat.lt_of_lt_of_le hkl hb2.size
    clear hPk hD1
    go_wp2_with (first
      | (go_at_call_of 10 (Value.string eo); refine (hD2 _).mono ?_; rintro e w4 ⟨rfl, hb4⟩; have g1 : w4.cell? ⟨k, 2, none⟩ = some (.string eo) := (hb4.cell (p := ⟨k, 2, none⟩) hk2).trans f1; have g2 : w4.cell? ⟨k, 1, none⟩ = some (.string S) := (hb4.cell (p := ⟨k, 1, none⟩) hk2).trans f2; have hk4 : k < w4.heap.size := Nat.lt_of_lt_of_le hk2 hb4.size)
      | (go_at_call 13; refine (hBg _).mono ?_; rintro e w3 ⟨rfl, rfl⟩))
    go_ret
    exact ⟨rfl, (hb1.drew.trans (hb2.mono hb1.size)).trans (hb4.mono (Nat.le_trans hb1.size hb2.size))⟩
end Go.Proofs.YtmpfgdmdnghhgaaGreat
/- THE STATEMENT 'Rows.PrefixesUptoSaid'. -/
namespace Go.Proofs.YtmpfgdmdnghhgaaGreat.prefixes
open Go.ChangeShapes Go.WideShapes Go.ChangeAt Go.RowKit
open Go.ChangeMaps (open_string shut_string)

theorem own : ownKnob Tryz.prog.godebug = none := by kernel_rfl
theorem laidOut : laidOutB Tryz.prog = true := by kernel_rfl
theorem small {H : Type} {n0 : Int} {n1 : Int} {d2 : DataW H} {n3 : Int} {s4 : ByteArray} (hk : Rows.uptoSmall H [.lit (.int .i64 n0), .lit (.int .i64 n1), d2, .lit (.int .i64 n3), .lit (.string s4.data.toList)] = true) : Rows.uptoBulk d2 + s4.size ≤ 1048576 := by
  have h : Rows.uptoBulkAll [.lit (.int .i64 n0), .lit (.int .i64 n1), d2, .lit (.int .i64 n3), .lit (.string s4.data.toList)] ≤ 1048576 := of_decide_eq_true hk
  simp only [Rows.uptoBulkAll, Rows.uptoBulk] at h
  have e4 : s4.data.toList.length = s4.size := by rw [Array.length_toList]; rfl
  omega

set_option maxRecDepth 100000 in
theorem contract (H : Type) (enc : TypeId × Value → H) (W : World) (base : Nat) (args : Array Value) (ds gs : List (DataW H)) (before : List MemPlace)
    (hval0 : ∀ (j : Nat) t v, Tryz.f5.params[j]? = some t → args[j]? = some v → Value.okWide Tryz.prog W .any base t v)
    (hW : DataW.Whole enc Tryz.prog Tryz.f5.params.toList Rows.prefixesSpec.vars false W args.toList ds gs before) (hk : Rows.uptoSmall H (ds ++ gs) = true) :
    Calls Tryz.prog 5 args W fun e W' => ∃ v, e = .returned v ∧ Rows.prefixesSpec.post enc Tryz.prog Tryz.f5 false true false false W args v W' := by
  have hval : ∀ (j : Nat) t v, Tryz.f5.params[j]? = some t → args[j]? = some v → Value.okWide Tryz.prog W .any base t v := hval0
  have hW' := hW
  obtain ⟨p, q, hA0, hV, rfl, hfz, hnd⟩ := hW
  have hA : DataW.TrodAll enc Tryz.prog W 0 (fun _ => true) true Tryz.f5.params.toList args.toList ds p := hA0
  rw [Tryz.params5] at hA hval
  obtain ⟨v0, vs0, d0, ds0, p0, q0, hargs, rfl, rfl, h0, r0⟩ := trodAll_cons hA
  obtain ⟨v1, vs1, d1, ds1, p1, q1, rfl, rfl, rfl, h1, r1⟩ := trodAll_cons r0
  obtain ⟨v2, vs2, d2, ds2, p2, q2, rfl, rfl, rfl, h2, r2⟩ := trodAll_cons r1
  obtain ⟨v3, vs3, d3, ds3, p3, q3, rfl, rfl, rfl, h3, r3⟩ := trodAll_cons r2
  obtain ⟨v4, vs4, d4, ds4, p4, q4, rfl, rfl, rfl, h4, r4⟩ := trodAll_cons r3
  obtain ⟨rfl, rfl, rfl⟩ := trodAll_nil r4
  obtain rfl : args = #[v0, v1, v2, v3, v4] := by cases args; simp_all
  obtain ⟨rfl, rfl⟩ := trodVars_none hV
  obtain ⟨a0, rfl, rfl, rfl, w0⟩ := open_int Tryz.underlying3 (hval 0 3 v0 rfl rfl) h0
  have b0 := int_bounds w0
  obtain ⟨a1, rfl, rfl, rfl, w1⟩ := open_int Tryz.underlying3 (hval 1 3 v1 rfl rfl) h1
  have b1 := int_bounds w1
  obtain ⟨a2, len2, cap2, rfl⟩ := okWide_slice Tryz.underlying22 (hval 2 22 v2 rfl rfl)
  have k2 := h2
  have lt2 : ∀ x ∈ p2, x.block < W.heap.size := by obtain ⟨m, hm⟩ := k2; exact DataW.trod_lt m _ _ _ hm
  obtain ⟨c2, hc2, hb2⟩ := open_calls h2
  obtain ⟨a3, rfl, rfl, rfl, w3⟩ := open_int Tryz.underlying3 (hval 3 3 v3 rfl rfl) h3
  have b3 := int_bounds w3
  obtain ⟨a4, rfl, rfl, rfl, w4⟩ := open_string Tryz.underlying9 (hval 4 9 v4 rfl rfl) h4
  clear hA0 hval0
  simp only [List.append_nil] at hW' hk
  have hs := small hk
  refine (Prefixes_any W a0 a1 a2 len2 cap2 c2 b0.1 b0.2 b1.1 b1.2 hc2 (by omega) a3 b3.1 b3.2 a4 (by omega)).mono fun e W' ⟨he, bel⟩ => ?_
  subst he
  exact ⟨_, rfl, _, _, _, [], _, [], hW', trodAll_mk1 (shut_bool Tryz.underlying4 _), (trodAll_cons_mk (shut_int Tryz.underlying3 w0) (trodAll_cons_mk (shut_int Tryz.underlying3 w1) (trodAll_cons_mk (Below.trod laidOut (by kernel_rfl) (of_decide_eq_true (by kernel_rfl)) k2 bel lt2) (trodAll_cons_mk (shut_int Tryz.underlying3 w3) (trodAll_cons_mk (shut_string Tryz.underlying9 w4) trodAll_mk0))))), rfl, bel.frame _, fun h => by cases h⟩

set_option maxRecDepth 100000 in
theorem lifted (os : Os) (started : os.Started) (H : Type) (enc : TypeId × Value → H) (F : Stop.Interp) :
    ReturnsInHanded {} Tryz.checked os 5 .any ((Rows.OpenSpec.upto Rows.prefixesSpec).pre6 enc Tryz.prog Tryz.f5 Rows.prefixesUptoRow.domain false) (((Rows.OpenSpec.upto Rows.prefixesSpec).at F).post enc Tryz.prog Tryz.f5 false true false false) := by
  refine returnsInHanded_of_cond (C := Tryz.checked) (s := Rows.OpenSpec.upto Rows.prefixesSpec) (k := Rows.uptoSmall) rfl own started (by kernel_rfl) Tryz.func5
    (OpenSpec.witness (enc := enc) (C := Tryz.checked) (s := Rows.OpenSpec.upto Rows.prefixesSpec) (k := Rows.uptoSmall) rfl false ⟨#[], #[.int .i64 0, .int .i64 0, .slice none 0 0, .int .i64 0, .string .empty], []⟩ 8 (by kernel_rfl) (by kernel_rfl) (by kernel_rfl)
      (x := ([.lit (.int .i64 0), .lit (.int .i64 0), .nil, .lit (.int .i64 0), .lit (.string [])], [], [])) (by kernel_rfl) rfl (by kernel_rfl)) ?_
  intro W base args ds gs before hval hW _ hk _
  exact contract H enc W base args ds gs before hval hW hk

theorem proved : Rows.PrefixesUptoSaid :=
  OpenClaim.holds_of_cond 5 Tryz.f5 rfl rfl rfl rfl rfl rfl rfl ⟨rfl, rfl, rfl, rfl, rfl⟩ rfl rfl rfl rfl rfl (by kernel_rfl) Tryz.func5 (by kernel_rfl)
    (of_decide_eq_true (by kernel_rfl)) (by unfold Func.isWrapper; first | (rw [if_pos (by decide +kernel)]; kernel_rfl) | (rw [if_neg (by decide +kernel)]; exact ⟨rfl, rfl⟩))
    (fun os started H enc _ F => lifted os started H enc F)
end Go.Proofs.YtmpfgdmdnghhgaaGreat.prefixes
