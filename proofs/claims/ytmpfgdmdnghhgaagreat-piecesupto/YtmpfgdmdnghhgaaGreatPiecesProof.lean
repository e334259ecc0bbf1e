import Derived.Test.YtmpfgdmdnghhgaaGreatP1
import Derived.Deep.RegionHeld3
import Derived.Lib.ConvBytes
namespace Go.Proofs.YtmpfgdmdnghhgaaGreat
open Go.RowKit Wr

theorem conv_back (w : World) (g n cap : Nat) (f : Nat → Int) (h : ∀ j, j < n → w.cell? ⟨g, j, none⟩ = some (.int .u8 (f j))) :
    (convert 34 9 (.slice (some ⟨g, 0, none⟩) n cap)).run Tryz.prog w = .ok (.string (outStr ((List.range n).map f))) w := by
  rw [run_convert_bytes_string w 34 9 5 _ _ _ Tryz.underlying34 Tryz.underlying5 Tryz.underlying9]
  refine run_bytesToString w ⟨g, 0, none⟩ n cap ((List.range n).map f) ?_
  have hl := run_loadCells_list (P := Tryz.prog) w ⟨g, 0, none⟩ (((List.range n).map f).map (Value.int .u8)) (fun j x hx => by
    have hj : j < n := by
      have := (List.getElem?_eq_some_iff.1 hx).1
      simpa using this
    rw [Addr.add_lit, Nat.zero_add, h j hj]
    simp [hj] at hx
    rw [← hx])
  simp only [List.length_map, List.length_range] at hl
  exact hl
theorem bytes_frozen (w : World) (s : ByteArray) (j : Nat) (hj : j < s.size) : (Lib.bytesWorld w 5 s).frozen? ⟨w.heap.size, j, none⟩ = false := by
  have hc : s.size ≤ (Lib.bytesCells w 5 s).size := by
    unfold Lib.bytesCells
    rw [Array.size_append, Array.size_map]
    show s.data.size ≤ _
    omega
  simp [World.frozen?, Lib.bytesWorld_at_new]
  omega
theorem bytes_below (w : World) (s : ByteArray) : Below w.heap.size w (Lib.bytesWorld w 5 s) := by
  refine ⟨rfl, rfl, rfl, ?_, fun k hk => Lib.bytesWorld_at_old w 5 s k hk⟩
  rw [Lib.bytesWorld_size]
  omega

set_option maxRecDepth 100000 in
set_option maxHeartbeats 1000000 in
theorem Pieces_any (w : World) (x l : Int) (a : Option Addr) (len cap : Nat) (c : Nat → Int × ByteArray) (x0 : -9223372036854775808 ≤ x) (x1 : x ≤ 9223372036854775807) (l0 : -9223372036854775808 ≤ l) (l1 : l ≤ 9223372036854775807)
    (hc : IsCalls w a len c) (hb : bulk c len ≤ 2097152) (ca : Option Addr) (clen ccap : Nat) (z : Nat → Int) (hz : IsInts w ca clen z) (at_ by_ : Int) (t0 : -9223372036854775808 ≤ at_) (t1 : at_ ≤ 9223372036854775807) (y0 : -9223372036854775808 ≤ by_) (y1 : by_ ≤ 9223372036854775807) (T : ByteArray) (hT : T.size ≤ 1048576) :
    Calls Tryz.prog 4 #[.int .i64 x, .int .i64 l, .slice a len cap, .slice ca clen ccap, .int .i64 at_, .int .i64 by_, .string T] w fun e w' => e = .returned (.bool true) ∧ Below w.heap.size w w' := by
  have hM := made_any w x l a len cap c x0 x1 l0 l1 hc (by omega)
  have hSz : (endOut (runS c (initS x l) len)).size ≤ 63000000 := by
    have := endOut_size c x l len
    omega
  have hlo : 0 < (endOut (runS c (initS x l) len)).size := finS_long (runS c (initS x l) len).u (runS c (initS x l) len).P
  have hff := run_back c x l len
  generalize endOut (runS c (initS x l) len) = eo at *
  generalize runS c (initS x l) len = rl at *
  have hpb := pickP_bounds at_ (eo.size : Int) (by omega)
  have hPk := fun W => pick_big W at_ (eo.size : Int) t0 t1 (by omega) (by omega)
  obtain ⟨m, hm⟩ := Int.eq_ofNat_of_zero_le hpb.1
  rw [hm] at hPk hpb
  have hml : m < eo.size := by omega
  have hpy := pickP_bounds by_ 256 (by omega)
  have hPy := fun W => pick_big W by_ 256 y0 y1 (by omega) (by omega)
  generalize pickP by_ 256 = yv at *
  have hU : ∀ W k q, WkRow W k q { rl.k with out := eo } → W.cell? ⟨k, 2, none⟩ = some (.string eo) ∧ W.cell? ⟨k, 1, none⟩ = some (.string rl.k.plain) := fun W k q h => ⟨World.rowIs.cell h (by omega), World.rowIs.cell h (by omega)⟩
  have hIn : ∀ W, Below w.heap.size w W → IsInts W ca clen z := fun W hW => ⟨hz.1, fun h0 => by
    obtain ⟨ad, e, h1, h2⟩ := hz.2 h0
    exact ⟨ad, e, Nat.lt_of_lt_of_le h1 hW.size, fun i hi => ⟨(hW.cell (p := ad.add i) (by rw [add_blk]; exact h1)).trans (h2 i hi).1, (h2 i hi).2⟩⟩⟩
  have hC := fun (W : World) (hW : Below w.heap.size w W) (S want : ByteArray) (e : Int) (hs : S.size ≤ 67108864) (h1 : outStr (feed initRd S.data.toList).out = want) (h2 : errno (feed initRd S.data.toList) = e) => cut_any W S ca clen ccap z (hIn W hW) hs want e h1 h2
  have hC1 := fun (W : World) (hW : Below w.heap.size w W) => hC W hW eo rl.k.plain 0 (by omega) hff.1 hff.2
  have hD3 := fun W => Decode_any W (eo ++ T) (by rw [ByteArray.size_append]; omega)
  have hC3 := fun (W : World) (hW : Below w.heap.size w W) => hC W hW (eo ++ T) _ _ (by rw [ByteArray.size_append]; omega) rfl rfl
  have hD4 := fun W => Decode_any W T (by omega)
  have hC4 := fun (W : World) (hW : Below w.heap.size w W) => hC W hW T _ _ (by omega) rfl rfl
  generalize rl.k.plain = S at *
  generalize outStr (feed initRd (eo ++ T).data.toList).out = S3 at *
  generalize errno (feed initRd (eo ++ T).data.toList) = E3 at *
  generalize outStr (feed initRd T.data.toList).out = S4 at *
  generalize errno (feed initRd T.data.toList) = E4 at *
  clear hff hm hc hz hIn
  go_enter Tryz.func4, Tryz.ntmps4
  go_wp2_with (first
    | (go_at_call 9; refine hM.mono ?_; rintro e w1 ⟨k, q, rfl, hk0, hr1, hb1, _, _⟩; obtain ⟨d1, d2⟩ := hU _ _ _ hr1; have hkl : k < w1.heap.size := World.rowIs.lt hr1))
  clear hM hU
  go_region_held3 (fun W => W.cell? ⟨k, 2, none⟩ = some (.string eo) ∧ W.cell? ⟨k, 1, none⟩ = some (.string S)) (go_keep)
    (first
      | (go_at_call 11; refine (hC1 _ hb1.drew).mono ?_; rintro e w2 ⟨rfl, hb2⟩; have f1 : w2.cell? ⟨k, 2, none⟩ = some (.string eo) := (hb2.cell (p := ⟨k, 2, none⟩) hkl).trans d1; have f2 : w2.cell? ⟨k, 1, none⟩ = some (.string S) := (hb2.cell (p := ⟨k, 1, none⟩) hkl).trans d2))
  have hk2 : k < w2.heap.size := Nat.lt_of_lt_of_le hkl hb2.size
  have hB2 : Below w.heap.size w w2 := hb1.drew.trans (hb2.mono hb1.size)
  clear hC1 d1 d2 hkl hb2 hb1
  have hcv := Lib.run_convert_string_bytes (P := Tryz.prog) w2 9 34 5 eo Tryz.underlying9 Tryz.underlying34 Tryz.underlying5
  have hw3c := fun j (hj : j < eo.size) => Lib.bytesWorld_cell w2 5 eo j hj
  have hw3f := bytes_frozen w2 eo m hml
  have hw3b := bytes_below w2 eo
  have hw3z := Lib.bytesWorld_size w2 5 eo
  generalize Lib.bytesWorld w2 5 eo = w3 at *
  generalize grownCap w2 eo.size 0 5 = gc at *
  generalize hg0 : w2.heap.size = g0 at *
  have g1 : w3.cell? ⟨k, 2, none⟩ = some (.string eo) := (hw3b.cell (p := ⟨k, 2, none⟩) hk2).trans f1
  have hB3 : Below w.heap.size w w3 := hB2.trans (hw3b.mono (by have := hB2.size; omega))
  have hcm := hw3c m hml
  have hm0 : (0 : Int) ≤ (m : Int) := by omega
  have hm1 : (m : Int) < (eo.size : Int) := by omega
  have hyw : IntKind.u8.wrap yv = yv := by rw [IntKind.wrap_u8]; omega
  generalize ((eo.data.toList.getD m 0).toNat : Int) = ov at *
  go_wp2_with (first
    | (go_at_call_of 12 (Value.int .i64 (eo.size : Int)); refine (hPk _).mono ?_; rintro e w9 ⟨rfl, rfl⟩))
  clear hPk hcv
  go_region_with (go_at_call 12; refine (hPy _).mono ?_; rintro e w8 ⟨rfl, rfl⟩)
  all_goals
    generalize bits BinOp.xor IntKind.u8 (eo.data[m].toNat : Int) yv = nv
    have hcl4 : ∀ j, j < eo.size → ((w9.setCell ⟨g0, m, none⟩ (.int .u8 nv)).drew).cell? ⟨g0, j, none⟩ = some (.int .u8 (if j = m then nv else ((eo.data.toList.getD j 0).toNat : Int))) := fun j hj => by
      by_cases e : j = m
      · subst e
        rw [if_pos rfl]
        exact World.cell?_setCell_same _ _ _ hcm
      · rw [if_neg e]
        exact (World.cell?_setCell_other _ _ _ _ (by intro q; injection q with _ q2 _; omega)).trans (hw3c j hj)
    have hB4 : Below w.heap.size w ((w9.setCell ⟨g0, m, none⟩ (.int .u8 nv)).drew) := (hB3.setCell (p := ⟨g0, m, none⟩) (by have := hB2.size; show w.heap.size ≤ g0; omega) _).drew
    have g2 : ((w9.setCell ⟨g0, m, none⟩ (.int .u8 nv)).drew).cell? ⟨k, 2, none⟩ = some (.string eo) := (World.cell?_setCell_other _ _ _ _ (by intro q; injection q with q1 _ _; omega)).trans g1
    have hz4 : ((w9.setCell ⟨g0, m, none⟩ (.int .u8 nv)).drew).heap.size = g0 + 1 := by show (w9.setCell ⟨g0, m, none⟩ (.int .u8 nv)).heap.size = _; simp [World.setCell]; omega
    generalize (w9.setCell ⟨g0, m, none⟩ (.int .u8 nv)).drew = w4 at *
    have hcb4 := conv_back w4 g0 eo.size gc _ hcl4
    have hBz : (outStr ((List.range eo.size).map (fun j => if j = m then nv else ((eo.data.toList.getD j 0).toNat : Int)))).size = eo.size := by rw [outStr_sz, List.length_map, List.length_range]
    have hback : ∀ W, Below w4.heap.size w4 W → (convert 34 9 (.slice (some ⟨g0, 0, none⟩) eo.size gc)).run Tryz.prog W = .ok (.string (outStr ((List.range eo.size).map (fun j => if j = m then nv else ((eo.data.toList.getD j 0).toNat : Int))))) W := fun W hW => conv_back W g0 eo.size gc _ (fun j hj => (hW.cell (p := ⟨g0, j, none⟩) (by show g0 < _; omega)).trans (hcl4 j hj))
    generalize outStr ((List.range eo.size).map (fun j => if j = m then nv else ((eo.data.toList.getD j 0).toNat : Int))) = Bt at *
    have hD2 := fun W => Decode_any W Bt (by omega)
    have hC2 := fun (W : World) (hW : Below w.heap.size w W) => hC W hW Bt _ _ (by omega) rfl rfl
    generalize outStr (feed initRd Bt.data.toList).out = S2 at *
    generalize errno (feed initRd Bt.data.toList) = E2 at *
    have hcat : eo.size + T.size ≤ 9223372036854775807 := by omega
    have z0 := hB2.size
    clear hcl4 hw3c hC hcm hw3f hw3b hw3z g1 hB3 hPy
    go_wp2_with (first
      | (go_at_call_of 10 (Value.string Bt); refine (hD2 _).mono ?_; rintro e w5 ⟨rfl, hb5⟩; have hcb5 := hback _ hb5; have z5 := hb5.size; have hB5 := hB4.trans (hb5.mono (show w.heap.size ≤ w4.heap.size by omega)))
      | (go_at_call_of 11 (Value.string Bt); refine (hC2 _ hB5).mono ?_; rintro e w6 ⟨rfl, hb6⟩; have z6 := hb6.size; have hB6 := hB5.trans (hb6.mono (show w.heap.size ≤ w5.heap.size by omega)); have g3 : w6.cell? ⟨k, 2, none⟩ = some (.string eo) := ((hb6.cell (p := ⟨k, 2, none⟩) (by show k < _; omega)).trans (hb5.cell (p := ⟨k, 2, none⟩) (by show k < _; omega))).trans g2)
      | (go_at_call_of 10 (Value.string (eo ++ T)); refine (hD3 _).mono ?_; rintro e w7 ⟨rfl, hb7⟩; have z7 := hb7.size; have hB7 := hB6.trans (hb7.mono (show w.heap.size ≤ w6.heap.size by omega)); have g4 : w7.cell? ⟨k, 2, none⟩ = some (.string eo) := (hb7.cell (p := ⟨k, 2, none⟩) (by show k < _; omega)).trans g3)
      | (go_at_call_of 11 (Value.string (eo ++ T)); refine (hC3 _ hB7).mono ?_; rintro e w10 ⟨rfl, hb10⟩; have z10 := hb10.size; have hB10 := hB7.trans (hb10.mono (show w.heap.size ≤ w7.heap.size by omega)))
      | (go_at_call_of 10 (Value.string T); refine (hD4 _).mono ?_; rintro e w11 ⟨rfl, hb11⟩; have z11 := hb11.size; have hB11 := hB10.trans (hb11.mono (show w.heap.size ≤ w10.heap.size by omega)))
      | (go_at_call_of 11 (Value.string T); refine (hC4 _ hB11).mono ?_; rintro e w12 ⟨rfl, hb12⟩; have hB12 := hB11.trans (hb12.mono (show w.heap.size ≤ w11.heap.size by omega))))
    go_ret
    exact ⟨rfl, hB12⟩
end Go.Proofs.YtmpfgdmdnghhgaaGreat

/- THE FRAME -/
namespace Go.Proofs.YtmpfgdmdnghhgaaGreat
open Go.RowKit Wr
open Go.ChangeShapes Go.WideShapes Go.ChangeAt Go.Deep
theorem open_ints2 {H : Type} {enc : TypeId × Value → H} {W : World} {a : Option Addr} {len cap : Nat} {d : DataW H} {p : List MemPlace}
    (h : DataW.Trod enc Tryz.prog W 0 (fun _ => true) true 32 (.slice a len cap) d p) : ∃ z, IsInts W a len z := by
  obtain ⟨fuel, hf⟩ := h
  rcases open_ints Tryz.underlying32 Tryz.underlying3 (by kernel_rfl) hf with ⟨hcs, _⟩ | ⟨x, l, c, zs, hcs, _, hl, hm, hz, _, hcell, hwz⟩
  · simp [Value.cells] at hcs
    obtain ⟨rfl, rfl, rfl⟩ := hcs
    exact ⟨fun _ => 0, by omega, fun h => absurd h (by omega)⟩
  · simp [Value.cells] at hcs
    obtain ⟨rfl, rfl, rfl⟩ := hcs
    have hz' : zs.length = cap := by simpa using hz
    refine ⟨fun i => zs.getD i 0, by unfold maxLen at hm; omega, fun h => ⟨_, rfl, ?_, ?_⟩⟩
    · have := cell_lt (hcell 0 (by omega))
      rw [add_blk] at this
      exact this
    · intro i hi
      have hlt : i < zs.length := by omega
      refine ⟨hcell i hlt, ?_⟩
      refine int_bounds (hwz _ ?_)
      show zs.getD i 0 ∈ zs
      rw [List.getD_eq_getElem?_getD, List.getElem?_eq_getElem hlt]
      exact List.getElem_mem hlt
end Go.Proofs.YtmpfgdmdnghhgaaGreat
/- THE STATEMENT 'Rows.PiecesUptoSaid'. -/
namespace Go.Proofs.YtmpfgdmdnghhgaaGreat.pieces
open Go.ChangeShapes Go.WideShapes Go.ChangeAt Go.RowKit
open Go.ChangeMaps (open_string shut_string)

theorem own : ownKnob Tryz.prog.godebug = none := by kernel_rfl
theorem laidOut : laidOutB Tryz.prog = true := by kernel_rfl
theorem small {H : Type} {n0 : Int} {n1 : Int} {d2 : DataW H} {d3 : DataW H} {n4 : Int} {n5 : Int} {s6 : ByteArray} (hk : Rows.uptoSmall H [.lit (.int .i64 n0), .lit (.int .i64 n1), d2, d3, .lit (.int .i64 n4), .lit (.int .i64 n5), .lit (.string s6.data.toList)] = true) : Rows.uptoBulk d2 + Rows.uptoBulk d3 + s6.size ≤ 1048576 := by
  have h : Rows.uptoBulkAll [.lit (.int .i64 n0), .lit (.int .i64 n1), d2, d3, .lit (.int .i64 n4), .lit (.int .i64 n5), .lit (.string s6.data.toList)] ≤ 1048576 := of_decide_eq_true hk
  simp only [Rows.uptoBulkAll, Rows.uptoBulk] at h
  have e6 : s6.data.toList.length = s6.size := by rw [Array.length_toList]; rfl
  omega

set_option maxRecDepth 100000 in
theorem contract (H : Type) (enc : TypeId × Value → H) (W : World) (base : Nat) (args : Array Value) (ds gs : List (DataW H)) (before : List MemPlace)
    (hval0 : ∀ (j : Nat) t v, Tryz.f4.params[j]? = some t → args[j]? = some v → Value.okWide Tryz.prog W .any base t v)
    (hW : DataW.Whole enc Tryz.prog Tryz.f4.params.toList Rows.piecesSpec.vars false W args.toList ds gs before) (hk : Rows.uptoSmall H (ds ++ gs) = true) :
    Calls Tryz.prog 4 args W fun e W' => ∃ v, e = .returned v ∧ Rows.piecesSpec.post enc Tryz.prog Tryz.f4 false true false false W args v W' := by
  have hval : ∀ (j : Nat) t v, Tryz.f4.params[j]? = some t → args[j]? = some v → Value.okWide Tryz.prog W .any base t v := hval0
  have hW' := hW
  obtain ⟨p, q, hA0, hV, rfl, hfz, hnd⟩ := hW
  have hA : DataW.TrodAll enc Tryz.prog W 0 (fun _ => true) true Tryz.f4.params.toList args.toList ds p := hA0
  rw [Tryz.params4] at hA hval
  obtain ⟨v0, vs0, d0, ds0, p0, q0, hargs, rfl, rfl, h0, r0⟩ := trodAll_cons hA
  obtain ⟨v1, vs1, d1, ds1, p1, q1, rfl, rfl, rfl, h1, r1⟩ := trodAll_cons r0
  obtain ⟨v2, vs2, d2, ds2, p2, q2, rfl, rfl, rfl, h2, r2⟩ := trodAll_cons r1
  obtain ⟨v3, vs3, d3, ds3, p3, q3, rfl, rfl, rfl, h3, r3⟩ := trodAll_cons r2
  obtain ⟨v4, vs4, d4, ds4, p4, q4, rfl, rfl, rfl, h4, r4⟩ := trodAll_cons r3
  obtain ⟨v5, vs5, d5, ds5, p5, q5, rfl, rfl, rfl, h5, r5⟩ := trodAll_cons r4
  obtain ⟨v6, vs6, d6, ds6, p6, q6, rfl, rfl, rfl, h6, r6⟩ := trodAll_cons r5
  obtain ⟨rfl, rfl, rfl⟩ := trodAll_nil r6
  obtain rfl : args = #[v0, v1, v2, v3, v4, v5, v6] := by cases args; simp_all
  obtain ⟨rfl, rfl⟩ := trodVars_none hV
  obtain ⟨a0, rfl, rfl, rfl, w0⟩ := open_int Tryz.underlying3 (hval 0 3 v0 rfl rfl) h0
  have b0 := int_bounds w0
  obtain ⟨a1, rfl, rfl, rfl, w1⟩ := open_int Tryz.underlying3 (hval 1 3 v1 rfl rfl) h1
  have b1 := int_bounds w1
  obtain ⟨a2, len2, cap2, rfl⟩ := okWide_slice Tryz.underlying22 (hval 2 22 v2 rfl rfl)
  have k2 := h2
  have lt2 : ∀ x ∈ p2, x.block < W.heap.size := by obtain ⟨m, hm⟩ := k2; exact DataW.trod_lt m _ _ _ hm
  obtain ⟨c2, hc2, hb2⟩ := open_calls h2
  obtain ⟨a3, len3, cap3, rfl⟩ := okWide_slice Tryz.underlying32 (hval 3 32 v3 rfl rfl)
  have k3 := h3
  have lt3 : ∀ x ∈ p3, x.block < W.heap.size := by obtain ⟨m, hm⟩ := k3; exact DataW.trod_lt m _ _ _ hm
  obtain ⟨c3, hc3⟩ := open_ints2 h3
  obtain ⟨a4, rfl, rfl, rfl, w4⟩ := open_int Tryz.underlying3 (hval 4 3 v4 rfl rfl) h4
  have b4 := int_bounds w4
  obtain ⟨a5, rfl, rfl, rfl, w5⟩ := open_int Tryz.underlying3 (hval 5 3 v5 rfl rfl) h5
  have b5 := int_bounds w5
  obtain ⟨a6, rfl, rfl, rfl, w6⟩ := open_string Tryz.underlying9 (hval 6 9 v6 rfl rfl) h6
  clear hA0 hval0
  simp only [List.append_nil] at hW' hk
  have hs := small hk
  refine (Pieces_any W a0 a1 a2 len2 cap2 c2 b0.1 b0.2 b1.1 b1.2 hc2 (by omega) a3 len3 cap3 c3 hc3 a4 a5 b4.1 b4.2 b5.1 b5.2 a6 (by omega)).mono fun e W' ⟨he, bel⟩ => ?_
  subst he
  exact ⟨_, rfl, _, _, _, [], _, [], hW', trodAll_mk1 (shut_bool Tryz.underlying4 _), (trodAll_cons_mk (shut_int Tryz.underlying3 w0) (trodAll_cons_mk (shut_int Tryz.underlying3 w1) (trodAll_cons_mk (Below.trod laidOut (by kernel_rfl) (of_decide_eq_true (by kernel_rfl)) k2 bel lt2) (trodAll_cons_mk (Below.trod laidOut (by kernel_rfl) (of_decide_eq_true (by kernel_rfl)) k3 bel lt3) (trodAll_cons_mk (shut_int Tryz.underlying3 w4) (trodAll_cons_mk (shut_int Tryz.underlying3 w5) (trodAll_cons_mk (shut_string Tryz.underlying9 w6) trodAll_mk0))))))), rfl, bel.frame _, fun h => by cases h⟩

set_option maxRecDepth 100000 in
theorem lifted (os : Os) (started : os.Started) (H : Type) (enc : TypeId × Value → H) (F : Stop.Interp) :
    ReturnsInHanded {} Tryz.checked os 4 .any ((Rows.OpenSpec.upto Rows.piecesSpec).pre6 enc Tryz.prog Tryz.f4 Rows.piecesUptoRow.domain false) (((Rows.OpenSpec.upto Rows.piecesSpec).at F).post enc Tryz.prog Tryz.f4 false true false false) := by
  refine returnsInHanded_of_cond (C := Tryz.checked) (s := Rows.OpenSpec.upto Rows.piecesSpec) (k := Rows.uptoSmall) rfl own started (by kernel_rfl) Tryz.func4
    (OpenSpec.witness (enc := enc) (C := Tryz.checked) (s := Rows.OpenSpec.upto Rows.piecesSpec) (k := Rows.uptoSmall) rfl false ⟨#[], #[.int .i64 0, .int .i64 0, .slice none 0 0, .slice none 0 0, .int .i64 0, .int .i64 0, .string .empty], []⟩ 8 (by kernel_rfl) (by kernel_rfl) (by kernel_rfl)
      (x := ([.lit (.int .i64 0), .lit (.int .i64 0), .nil, .nil, .lit (.int .i64 0), .lit (.int .i64 0), .lit (.string [])], [], [])) (by kernel_rfl) rfl (by kernel_rfl)) ?_
  intro W base args ds gs before hval hW _ hk _
  exact contract H enc W base args ds gs before hval hW hk

theorem proved : Rows.PiecesUptoSaid :=
  OpenClaim.holds_of_cond 4 Tryz.f4 rfl rfl rfl rfl rfl rfl rfl ⟨rfl, rfl, rfl, rfl, rfl⟩ rfl rfl rfl rfl rfl (by kernel_rfl) Tryz.func4 (by kernel_rfl)
    (of_decide_eq_true (by kernel_rfl)) (by unfold Func.isWrapper; first | (rw [if_pos (by decide +kernel)]; kernel_rfl) | (rw [if_neg (by decide +kernel)]; exact ⟨rfl, rfl⟩))
    (fun os started H enc _ F => lifted os started H enc F)
end Go.Proofs.YtmpfgdmdnghhgaaGreat.pieces
