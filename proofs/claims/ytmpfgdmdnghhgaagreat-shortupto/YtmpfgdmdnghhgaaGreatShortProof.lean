import Derived.Test.YtmpfgdmdnghhgaaGreatQ4
import Derived.Deep.RegionHeld3
namespace Go.Proofs.YtmpfgdmdnghhgaaGreat
open Go.RowKit Wr

set_option maxHeartbeats 400000 in
theorem blocks_any (w : World) (n : Int) (h0 : 0 ≤ n) (h1 : n ≤ 1099511627776) : Calls Tryz.prog 18 #[.int .i64 n] w fun e w' => e = .returned (.int .i64 ((n + 4095) / 4096)) ∧ w' = w := by
  go_enter Tryz.func18, Tryz.ntmps18
  go_wp2
  go_ret
  refine ⟨?_, rfl⟩
  rw [show n + 4095 = n + 4096 - 1 by omega]
  rfl

set_option maxRecDepth 100000 in
set_option maxHeartbeats 1000000 in
theorem Short_any (w : World) (x l : Int) (a : Option Addr) (len cap : Nat) (c : Nat → Int × ByteArray) (x0 : -9223372036854775808 ≤ x) (x1 : x ≤ 9223372036854775807) (l0 : -9223372036854775808 ≤ l) (l1 : l ≤ 9223372036854775807)
    (hc : IsCalls w a len c) (hb : bulk c len ≤ 2097152) :
    Calls Tryz.prog 7 #[.int .i64 x, .int .i64 l, .slice a len cap] w fun e w' => e = .returned (.bool true) ∧ Below w.heap.size w w' := by
  have hM := made_any w x l a len cap c x0 x1 l0 l1 hc (by omega)
  have hSz : (endOut (runS c (initS x l) len)).size ≤ 268435456 := by
    have := endOut_size c x l len
    omega
  have hD := fun W => Decode_any W (endOut (runS c (initS x l) len)) hSz
  have hF : REnc (runS c (initS x l) len) → outStr (feed initRd (endOut (runS c (initS x l) len)).data.toList).out = (runS c (initS x l) len).k.plain ∧ errno (feed initRd (endOut (runS c (initS x l) len)).data.toList) = 0 := fun h => enc_back h
  have hSh := end_short c x l len
  generalize feed initRd (endOut (runS c (initS x l) len)).data.toList = fd at *
  generalize endOut (runS c (initS x l) len) = eo at *
  generalize runS c (initS x l) len = rl at *
  have hU : ∀ W k q, WkRow W k q { rl.k with out := eo } → W.cell? ⟨k, 2, none⟩ = some (.string eo) ∧ W.cell? ⟨k, 1, none⟩ = some (.string rl.k.plain) ∧ W.cell? ⟨k, 3, none⟩ = some (.int .i64 rl.k.flushes) ∧ W.cell? ⟨k, 4, none⟩ = some (.int .i64 rl.k.notes) ∧ W.cell? ⟨k, 5, none⟩ = some (.int .i64 rl.k.bytes) := fun W k q h => ⟨World.rowIs.cell h (by omega), World.rowIs.cell h (by omega), World.rowIs.cell h (by omega), World.rowIs.cell h (by omega), World.rowIs.cell h (by omega)⟩
  have hB := fun W => blocks_any W (rl.k.plain.size : Int)
  go_enter Tryz.func7, Tryz.ntmps7
  go_wp2_with (first
    | (go_at_call 10; refine (hD _).mono ?_; rintro e w2 ⟨rfl, hb2⟩; rw [hff.1, hff.2]; have hcl := fun o => hb2.cell (p := ⟨k, o, none⟩) hkl; have f1 := (hcl 2).trans d1; have f2 := (hcl 1).trans d2; have f3 := (hcl 3).trans d3; have f4 := (hcl 4).trans d4; have f5 := (hcl 5).trans d5; clear hcl)
    | (go_at_call 9; refine hM.mono ?_; rintro e w1 ⟨k, q, rfl, hk0, hr1, hb1, hi1, ro1, ro2, ro3, ro4, ro5⟩; obtain ⟨d1, d2, d3, d4, d5⟩ := hU _ _ _ hr1; have hkl : k < w1.heap.size := World.rowIs.lt hr1; have hff := hF hi1))
  have hBB := fun W => hB W (by omega) (by omega)
  have HSh : Hid ((eo.size : Int) ≤ rl.k.plain.size + rl.k.bytes + 6 * (((rl.k.plain.size : Int) + 4095) / 4096 + rl.k.flushes + rl.k.notes) + 8) := hSh
  have HWr : Hid (decide ((eo.size : Int) ≤ IntKind.i64.wrap (IntKind.i64.wrap (IntKind.i64.wrap ((rl.k.plain.size : Int) + rl.k.bytes) + IntKind.i64.wrap (6 * IntKind.i64.wrap (IntKind.i64.wrap (((rl.k.plain.size : Int) + 4095) / 4096 + rl.k.flushes) + rl.k.notes))) + 8)) = true) := by
    have e1 : IntKind.i64.wrap ((rl.k.plain.size : Int) + rl.k.bytes) = (rl.k.plain.size : Int) + rl.k.bytes := by rw [IntKind.wrap_i64]; omega
    have e2 : IntKind.i64.wrap (((rl.k.plain.size : Int) + 4095) / 4096 + rl.k.flushes) = ((rl.k.plain.size : Int) + 4095) / 4096 + rl.k.flushes := by rw [IntKind.wrap_i64]; omega
    have e3 : IntKind.i64.wrap (((rl.k.plain.size : Int) + 4095) / 4096 + rl.k.flushes + rl.k.notes) = ((rl.k.plain.size : Int) + 4095) / 4096 + rl.k.flushes + rl.k.notes := by rw [IntKind.wrap_i64]; omega
    have e4 : IntKind.i64.wrap (6 * (((rl.k.plain.size : Int) + 4095) / 4096 + rl.k.flushes + rl.k.notes)) = 6 * (((rl.k.plain.size : Int) + 4095) / 4096 + rl.k.flushes + rl.k.notes) := by rw [IntKind.wrap_i64]; omega
    have e5 : IntKind.i64.wrap ((rl.k.plain.size : Int) + rl.k.bytes + 6 * (((rl.k.plain.size : Int) + 4095) / 4096 + rl.k.flushes + rl.k.notes)) = (rl.k.plain.size : Int) + rl.k.bytes + 6 * (((rl.k.plain.size : Int) + 4095) / 4096 + rl.k.flushes + rl.k.notes) := by rw [IntKind.wrap_i64]; omega
    have e6 : IntKind.i64.wrap ((rl.k.plain.size : Int) + rl.k.bytes + 6 * (((rl.k.plain.size : Int) + 4095) / 4096 + rl.k.flushes + rl.k.notes) + 8) = (rl.k.plain.size : Int) + rl.k.bytes + 6 * (((rl.k.plain.size : Int) + 4095) / 4096 + rl.k.flushes + rl.k.notes) + 8 := by rw [IntKind.wrap_i64]; omega
    rw [Hid, e1, e2, e3, e4, e5, e6]
    exact decide_eq_true hSh
  clear hM hD hF hU hB hSh d1 d2 d3 d4 d5 ro1 hi1 hc hr1
  go_region_held3 (fun W => W.cell? ⟨k, 2, none⟩ = some (.string eo) ∧ W.cell? ⟨k, 1, none⟩ = some (.string rl.k.plain) ∧ W.cell? ⟨k, 3, none⟩ = some (.int .i64 rl.k.flushes) ∧ W.cell? ⟨k, 4, none⟩ = some (.int .i64 rl.k.notes) ∧ W.cell? ⟨k, 5, none⟩ = some (.int .i64 rl.k.bytes)) (go_keep)
    (first | (go_at_call 18; refine (hBB _).mono ?_; rintro e w3 ⟨rfl, rfl⟩))
  go_wp2
  go_ret
  refine ⟨?_, (hb1.trans (hb2.mono hb1.size)).drew⟩
  rw [← HWr.out]
  rfl
end Go.Proofs.YtmpfgdmdnghhgaaGreat
/- THE STATEMENT 'Rows.ShortUptoSaid'. -/
namespace Go.Proofs.YtmpfgdmdnghhgaaGreat.short
open Go.ChangeShapes Go.WideShapes Go.ChangeAt Go.RowKit
open Go.ChangeMaps (open_string shut_string)

theorem own : ownKnob Tryz.prog.godebug = none := by kernel_rfl
theorem laidOut : laidOutB Tryz.prog = true := by kernel_rfl
theorem small {H : Type} {n m : Int} {d : DataW H} (hk : Rows.uptoSmall H [.lit (.int .i64 n), .lit (.int .i64 m), d] = true) : Rows.uptoBulk d ≤ 1048576 := by
  have h : Rows.uptoBulkAll [.lit (.int .i64 n), .lit (.int .i64 m), d] ≤ 1048576 := of_decide_eq_true hk
  simp only [Rows.uptoBulkAll, Rows.uptoBulk] at h
  omega

set_option maxRecDepth 100000 in
theorem contract (H : Type) (enc : TypeId × Value → H) (W : World) (base : Nat) (args : Array Value) (ds gs : List (DataW H)) (before : List MemPlace)
    (hval0 : ∀ (j : Nat) t v, Tryz.f7.params[j]? = some t → args[j]? = some v → Value.okWide Tryz.prog W .any base t v)
    (hW : DataW.Whole enc Tryz.prog Tryz.f7.params.toList Rows.shortSpec.vars false W args.toList ds gs before) (hk : Rows.uptoSmall H (ds ++ gs) = true) :
    Calls Tryz.prog 7 args W fun e W' => ∃ v, e = .returned v ∧ Rows.shortSpec.post enc Tryz.prog Tryz.f7 false true false false W args v W' := by
  have hval : ∀ (j : Nat) t v, Tryz.f7.params[j]? = some t → args[j]? = some v → Value.okWide Tryz.prog W .any base t v := hval0
  have hW' := hW
  obtain ⟨p, q, hA0, hV, rfl, hfz, hnd⟩ := hW
  have hA : DataW.TrodAll enc Tryz.prog W 0 (fun _ => true) true Tryz.f7.params.toList args.toList ds p := hA0
  rw [Tryz.params7] at hA hval
  obtain ⟨v0, vs0, d0, ds0, p0, q0, hargs, rfl, rfl, h0, r0⟩ := trodAll_cons hA
  obtain ⟨v1, vs1, d1, ds1, p1, q1, rfl, rfl, rfl, h1, r1⟩ := trodAll_cons r0
  obtain ⟨v2, vs2, d2, ds2, p2, q2, rfl, rfl, rfl, h2, r2⟩ := trodAll_cons r1
  obtain ⟨rfl, rfl, rfl⟩ := trodAll_nil r2
  obtain rfl : args = #[v0, v1, v2] := by cases args; simp_all
  obtain ⟨rfl, rfl⟩ := trodVars_none hV
  obtain ⟨a0, rfl, rfl, rfl, w0⟩ := open_int Tryz.underlying3 (hval 0 3 v0 rfl rfl) h0
  obtain ⟨a1, rfl, rfl, rfl, w1⟩ := open_int Tryz.underlying3 (hval 1 3 v1 rfl rfl) h1
  obtain ⟨a2, len2, cap2, rfl⟩ := okWide_slice Tryz.underlying22 (hval 2 22 v2 rfl rfl)
  have k2 := h2
  have lt2 : ∀ x ∈ p2, x.block < W.heap.size := by obtain ⟨m, hm⟩ := k2; exact DataW.trod_lt m _ _ _ hm
  obtain ⟨c2, hc2, hb2⟩ := open_calls h2
  clear hA0 hval0
  simp only [List.append_nil] at hW' hk
  have hs := small hk
  have b0 := int_bounds w0
  have b1 := int_bounds w1
  refine (Short_any W a0 a1 a2 len2 cap2 c2 b0.1 b0.2 b1.1 b1.2 hc2 (by omega)).mono fun e W' ⟨he, bel⟩ => ?_
  subst he
  exact ⟨_, rfl, _, _, _, [], _, [], hW', trodAll_mk1 (shut_bool Tryz.underlying4 _), (trodAll_cons_mk (shut_int Tryz.underlying3 w0) (trodAll_cons_mk (shut_int Tryz.underlying3 w1) (trodAll_cons_mk (Below.trod laidOut (by kernel_rfl) (of_decide_eq_true (by kernel_rfl)) k2 bel lt2) trodAll_mk0))), rfl, bel.frame _, fun h => by cases h⟩

set_option maxRecDepth 100000 in
theorem lifted (os : Os) (started : os.Started) (H : Type) (enc : TypeId × Value → H) (F : Stop.Interp) :
    ReturnsInHanded {} Tryz.checked os 7 .any ((Rows.OpenSpec.upto Rows.shortSpec).pre6 enc Tryz.prog Tryz.f7 Rows.shortUptoRow.domain false) (((Rows.OpenSpec.upto Rows.shortSpec).at F).post enc Tryz.prog Tryz.f7 false true false false) := by
  refine returnsInHanded_of_cond (C := Tryz.checked) (s := Rows.OpenSpec.upto Rows.shortSpec) (k := Rows.uptoSmall) rfl own started (by kernel_rfl) Tryz.func7
    (OpenSpec.witness (enc := enc) (C := Tryz.checked) (s := Rows.OpenSpec.upto Rows.shortSpec) (k := Rows.uptoSmall) rfl false ⟨#[], #[.int .i64 0, .int .i64 0, .slice none 0 0], []⟩ 8 (by kernel_rfl) (by kernel_rfl) (by kernel_rfl)
      (x := ([.lit (.int .i64 0), .lit (.int .i64 0), .nil], [], [])) (by kernel_rfl) rfl (by kernel_rfl)) ?_
  intro W base args ds gs before hval hW _ hk _
  exact contract H enc W base args ds gs before hval hW hk

theorem proved : Rows.ShortUptoSaid :=
  OpenClaim.holds_of_cond 7 Tryz.f7 rfl rfl rfl rfl rfl rfl rfl ⟨rfl, rfl, rfl, rfl, rfl⟩ rfl rfl rfl rfl rfl (by kernel_rfl) Tryz.func7 (by kernel_rfl)
    (of_decide_eq_true (by kernel_rfl)) (by unfold Func.isWrapper; first | (rw [if_pos (by decide +kernel)]; kernel_rfl) | (rw [if_neg (by decide +kernel)]; exact ⟨rfl, rfl⟩))
    (fun os started H enc _ F => lifted os started H enc F)
end Go.Proofs.YtmpfgdmdnghhgaaGreat.short
