import Derived.Test.YtmpfgdmdnghhgaaW20
namespace Go.Proofs.Ytmpfgdmdnghhgaa
open Go.RowKit Wr

theorem inv_bytes (S : ByteArray) (v : Int) (h : S.data.toList = bytesOf v 8) (v0 : 0 ≤ v) (v1 : v < 2 ^ 64) : full S.data.toList = drive { initRd with hold := v, have_ := 64 } := by
  rw [h, full_bytes v 8 v0 v1]
  rfl

theorem copiedVal_bounds (w x y k d z : Int) (w0 : 0 ≤ w) (w8 : w ≤ 8) (x0 : 0 ≤ x) (xy : x < y) (y1 : y ≤ 255) (k0 : 0 ≤ k) (k7 : k ≤ 7) (d0 : 0 ≤ d) (d2 : d ≤ 2) (z0 : 3 ≤ z) (z1 : z ≤ 20) :
    0 ≤ copiedVal w x y k d z ∧ copiedVal w x y k d z < 2 ^ 64 := by
  have e : copiedVal w x y k d z = w + 16 * (5 + 8 * (z + 4096 * (0 + 2 * (2 + 4 * (x + 512 * (y + 512 * (256 + k + 512 * (0 + 2 * (0 + 4 * (d + 16 * 26)))))))))) := rfl
  have : (2 : Int) ^ 64 = 18446744073709551616 := rfl
  rw [e, this]
  omega

theorem win_bounds (w : Int) (w0 : 0 ≤ w) (w8 : w ≤ 8) : (16 : Int) ≤ 16 * 2 ^ w.toNat ∧ 16 * 2 ^ w.toNat ≤ (4096 : Int) := by
  have h1 := pow_pos2 w.toNat
  have h2 : (2 : Int) ^ w.toNat ≤ 256 := pow_mono (show w.toNat ≤ 8 by omega)
  omega

theorem dec_good (S : ByteArray) (w x y k d : Int) (w0 : 0 ≤ w) (w8 : w ≤ 8) (x0 : 0 ≤ x) (xy : x < y) (y1 : y ≤ 255) (k0 : 0 ≤ k) (k7 : k ≤ 7) (d0 : 0 ≤ d) (d1 : d ≤ 1) (h : S.data.toList = bytesOf (copiedVal w x y k d (4 + k)) 8) :
    (feed initRd S.data.toList).out = copyList (d + 1).toNat (3 + k).toNat [x, y] ∧ errno (feed initRd S.data.toList) = 0 := by
  have vb := copiedVal_bounds w x y k d (4 + k) w0 w8 x0 xy y1 k0 k7 d0 (by omega) (by omega) (by omega)
  obtain ⟨f1, f2⟩ := feed_full S.data.toList
  obtain ⟨e, i⟩ := copied_head w x y k d (4 + k) w0 w8 x0 xy y1 k0 k7 d0 (by omega) (by omega) (by omega)
  have wb := win_bounds w w0 w8
  rw [f1, f2, inv_bytes S _ h vb.1 vb.2, e]
  rw [show 4 + k - 1 = 3 + k by omega] at i ⊢
  exact copied_good _ x y k d wb.1 wb.2 k0 k7 d0 d1 i
theorem dec_far (S : ByteArray) (w x y k : Int) (w0 : 0 ≤ w) (w8 : w ≤ 8) (x0 : 0 ≤ x) (xy : x < y) (y1 : y ≤ 255) (k0 : 0 ≤ k) (k7 : k ≤ 7) (h : S.data.toList = bytesOf (copiedVal w x y k 2 (4 + k)) 8) :
    (feed initRd S.data.toList).out = [x, y] ∧ errno (feed initRd S.data.toList) = 2 := by
  have vb := copiedVal_bounds w x y k 2 (4 + k) w0 w8 x0 xy y1 k0 k7 (by omega) (by omega) (by omega) (by omega)
  obtain ⟨f1, f2⟩ := feed_full S.data.toList
  obtain ⟨e, i⟩ := copied_head w x y k 2 (4 + k) w0 w8 x0 xy y1 k0 k7 (by omega) (by omega) (by omega) (by omega)
  have wb := win_bounds w w0 w8
  rw [f1, f2, inv_bytes S _ h vb.1 vb.2, e]
  exact copied_far _ x y k _ wb.1 wb.2 k0 k7 i
theorem dec_long (S : ByteArray) (w x y k d : Int) (w0 : 0 ≤ w) (w8 : w ≤ 8) (x0 : 0 ≤ x) (xy : x < y) (y1 : y ≤ 255) (k0 : 0 ≤ k) (k7 : k ≤ 7) (d0 : 0 ≤ d) (d1 : d ≤ 1) (h : S.data.toList = bytesOf (copiedVal w x y k d (3 + k)) 8) :
    (feed initRd S.data.toList).out = [x, y] ∧ errno (feed initRd S.data.toList) = 2 := by
  have vb := copiedVal_bounds w x y k d (3 + k) w0 w8 x0 xy y1 k0 k7 d0 (by omega) (by omega) (by omega)
  obtain ⟨f1, f2⟩ := feed_full S.data.toList
  obtain ⟨e, i⟩ := copied_head w x y k d (3 + k) w0 w8 x0 xy y1 k0 k7 d0 (by omega) (by omega) (by omega)
  have wb := win_bounds w w0 w8
  rw [f1, f2, inv_bytes S _ h vb.1 vb.2, e]
  rw [show 3 + k - 1 = 2 + k by omega] at i ⊢
  exact copied_long _ x y k d wb.1 wb.2 k0 k7 d0 d1 i

theorem conv2 (W : World) (u v : Int) : (convert 37 9 (.slice (some ⟨W.heap.size, 0, none⟩) 2 2)).run Try.prog (W.alloc (.cells #[.int .u8 u, .int .u8 v] 5)) = .ok (.string (outStr [u, v])) (W.alloc (.cells #[.int .u8 u, .int .u8 v] 5)) :=
  run_row_str (f := fun j => if j = 0 then u else v) (World.rowIs_alloc W #[.int .u8 u, .int .u8 v] 5 _ (fun i hi => by
    match i, hi with
    | 0, _ => rfl
    | 1, _ => rfl))
theorem conv1 (W : World) (u : Int) : (convert 37 9 (.slice (some ⟨W.heap.size, 0, none⟩) 1 1)).run Try.prog (W.alloc (.cells #[.int .u8 u] 5)) = .ok (.string (outStr [u])) (W.alloc (.cells #[.int .u8 u] 5)) :=
  run_row_str (f := fun _ => u) (World.rowIs_alloc W #[.int .u8 u] 5 _ (fun i hi => by
    match i, hi with
    | 0, _ => rfl))

def u8At (w : World) (a : Addr) : Option Int := match w.cell? a with | some (.int .u8 n) => some n | _ => none
theorem u8At_some {w : World} {a : Addr} {n : Int} (h : u8At w a = some n) : w.cell? a = some (.int .u8 n) := by
  unfold u8At at h
  split at h
  · injection h with h; subst h; assumption
  · cases h
theorem conv_at {W : World} {g n : Nat} {f : Nat → Int} (h : ∀ j, j < n → W.cell? ⟨g, j, none⟩ = some (.int .u8 (f j))) :
    (convert 37 9 (.slice (some ⟨g, 0, none⟩) n n)).run Try.prog W = .ok (.string (outStr ((List.range n).map f))) W := by
  rw [run_convert_bytes_string W 37 9 5 _ _ _ Try.underlying37 Try.underlying5 Try.underlying9]
  refine run_bytesToString W ⟨g, 0, none⟩ n n ((List.range n).map f) ?_
  have hl := run_loadCells_list (P := Try.prog) W ⟨g, 0, none⟩ (((List.range n).map f).map (Value.int .u8)) (fun j x hx => by
    have hadd : (⟨g, 0, none⟩ : Addr).add j = ⟨g, j, none⟩ := by unfold Addr.add; split <;> simp_all
    have hj : j < n := by
      have := (List.getElem?_eq_some_iff.1 hx).1
      simpa using this
    rw [hadd, h j hj]
    rw [List.getElem?_map, List.getElem?_map, List.getElem?_range hj] at hx
    exact hx)
  rw [List.length_map, List.length_map, List.length_range] at hl
  exact hl
theorem conv2_at (W : World) (g : Nat) (h0 : (u8At W ⟨g, 0, none⟩).isSome = true) (h1 : (u8At W ⟨g, 1, none⟩).isSome = true) :
    (convert 37 9 (.slice (some ⟨g, 0, none⟩) 2 2)).run Try.prog W = .ok (.string (outStr [(u8At W ⟨g, 0, none⟩).getD 0, (u8At W ⟨g, 1, none⟩).getD 0])) W := by
  obtain ⟨u, hu⟩ := Option.isSome_iff_exists.1 h0
  obtain ⟨v, hv⟩ := Option.isSome_iff_exists.1 h1
  rw [hu, hv]
  exact conv_at (f := fun j => if j = 0 then u else v) (fun j hj => by
    match j, hj with
    | 0, _ => exact u8At_some hu
    | 1, _ => exact u8At_some hv)
theorem conv1_at (W : World) (g : Nat) (h0 : (u8At W ⟨g, 0, none⟩).isSome = true) :
    (convert 37 9 (.slice (some ⟨g, 0, none⟩) 1 1)).run Try.prog W = .ok (.string (outStr [(u8At W ⟨g, 0, none⟩).getD 0])) W := by
  obtain ⟨u, hu⟩ := Option.isSome_iff_exists.1 h0
  rw [hu]
  exact conv_at (f := fun _ => u) (fun j hj => by
    match j, hj with
    | 0, _ => exact u8At_some hu)

theorem cell_first (W : World) (b : Value) (A : Obj) : ((W.alloc (.cells #[b] 5)).alloc A).drew.cell? ⟨W.heap.size, 0, none⟩ = some b := by
  have h := heap_alloc2_old W (.cells #[b] 5) A
  show (match ((W.alloc (.cells #[b] 5)).alloc A).heap[W.heap.size]? with | some (.cells c _ _) => if (none : Option Nat).isSome then none else c[0]? | _ => none) = some b
  rw [h]
  rfl
theorem cell_second (W : World) (b : Value) (A : Obj) : ((W.alloc A).alloc (.cells #[b] 5)).drew.cell? ⟨W.heap.size + 1, 0, none⟩ = some b := by
  have h := heap_alloc2_new W A (.cells #[b] 5)
  show (match ((W.alloc A).alloc (.cells #[b] 5)).heap[W.heap.size + 1]? with | some (.cells c _ _) => if (none : Option Nat).isSome then none else c[0]? | _ => none) = some b
  rw [h]
  rfl
theorem bcell {W w1 : World} (hb : Below W.heap.size W w1) : ∀ b o, b < W.heap.size → w1.cell? ⟨b, o, none⟩ = W.cell? ⟨b, o, none⟩ := fun b o h => hb.cell (p := ⟨b, o, none⟩) h

theorem again_int (w : World) (t : ByteArray) (m : Int) (ht : 1 ≤ t.size) (ht2 : t.size ≤ 1099511627776) (m0 : 0 ≤ m) (m1 : m ≤ 1099511627776) :
    Calls Try.prog 16 #[.string t, .int .i64 m] w fun e w' => e = .returned (.string (outStr (againP t m.toNat))) ∧ Below w.heap.size w w' := by
  obtain ⟨n, rfl⟩ := Int.eq_ofNat_of_zero_le m0
  exact again_any w t n ht ht2 (by omega)
theorem copied_int (w : World) (w' x y k d size : Int) (w0 : 0 ≤ w') (w8 : w' ≤ 8) (x0 : 0 ≤ x) (xy : x < y) (y1 : y ≤ 255) (k0 : 0 ≤ k) (k7 : k ≤ 7) (d0 : 0 ≤ d) (d2 : d ≤ 2) (z0 : 4 ≤ size) (z1 : size ≤ 21) :
    Calls Try.prog 17 #[.int .i64 w', .int .i64 x, .int .i64 y, .int .i64 k, .int .i64 d, .int .i64 size] w fun e w1 =>
      ∃ S : ByteArray, e = .returned (.string S) ∧ S.size = 8 ∧ S.data.toList = bytesOf (copiedVal w' x y k d (size - 1)) 8 ∧ Below w.heap.size w w1 := by
  have := copied_any w w' x y k d (size - 1) w0 w8 x0 xy y1 k0 k7 d0 d2 (by omega) (by omega)
  rw [show size - 1 + 1 = size by omega] at this
  exact this
theorem outStr_size (l : List Int) : (outStr l).size = l.length := by
  have := congrArg List.length (outStr_list l)
  simpa using this

theorem again_two (x y : Int) (x0 : 0 ≤ x) (x1 : x < 256) (y0 : 0 ≤ y) (y1 : y < 256) (n : Nat) : againP (outStr [x, y]) n = (List.range n).map fun i => if i % 2 = 0 then x else y := by
  unfold againP
  rw [outStr_size, outStr_list]
  refine List.map_congr_left fun i _ => ?_
  have e1 := byte_back x x0 x1
  have e2 := byte_back y y0 y1
  have : i % 2 = 0 ∨ i % 2 = 1 := by omega
  rcases this with e | e
  · show (([UInt8.ofNat x.toNat, UInt8.ofNat y.toNat].getD (i % 2) 0).toNat : Int) = _
    rw [e]; exact e1
  · show (([UInt8.ofNat x.toNat, UInt8.ofNat y.toNat].getD (i % 2) 0).toNat : Int) = _
    rw [e]; exact e2
theorem again_one (y : Int) (y0 : 0 ≤ y) (y1 : y < 256) (n : Nat) : againP (outStr [y]) n = (List.range n).map fun _ => y := by
  unfold againP
  rw [outStr_size, outStr_list]
  refine List.map_congr_left fun i _ => ?_
  have e2 := byte_back y y0 y1
  show (([UInt8.ofNat y.toNat].getD (i % 1) 0).toNat : Int) = _
  rw [Nat.mod_one]
  exact e2
theorem want_one (x y k : Int) (x0 : 0 ≤ x) (x1 : x < 256) (y0 : 0 ≤ y) (y1 : y < 256) (k0 : 0 ≤ k) (k7 : k < 8) : againP (outStr [x, y]) (5 + k).toNat = copyList (1 + 1 : Int).toNat (3 + k).toNat [x, y] := by
  rw [again_two x y x0 x1 y0 y1]
  have : k = 0 ∨ k = 1 ∨ k = 2 ∨ k = 3 ∨ k = 4 ∨ k = 5 ∨ k = 6 ∨ k = 7 := by omega
  rcases this with e | e | e | e | e | e | e | e <;> subst e <;> rfl
theorem want_nought (x y k : Int) (x0 : 0 ≤ x) (x1 : x < 256) (y0 : 0 ≤ y) (y1 : y < 256) (k0 : 0 ≤ k) (k7 : k < 8) :
    againP (outStr [x, y]) (2 : Int).toNat ++ againP (outStr [y]) (3 + k).toNat = copyList (0 + 1 : Int).toNat (3 + k).toNat [x, y] := by
  rw [again_two x y x0 x1 y0 y1, again_one y y0 y1]
  have : k = 0 ∨ k = 1 ∨ k = 2 ∨ k = 3 ∨ k = 4 ∨ k = 5 ∨ k = 6 ∨ k = 7 := by omega
  rcases this with e | e | e | e | e | e | e | e <;> subst e <;> rfl
theorem outStr_append (a b : List Int) : outStr a ++ outStr b = outStr (a ++ b) := by
  have e : (outStr a ++ outStr b).data.toList = (outStr (a ++ b)).data.toList := by
    rw [ByteArray.data_append, Array.toList_append, outStr_list, outStr_list, outStr_list, List.map_append]
  have e2 := Array.toList_inj.1 e
  exact ByteArray.ext e2

set_option maxRecDepth 100000 in
set_option maxHeartbeats 4000000 in
theorem Copied_one (w : World) (a0 a b n away : Int) (ha0 : -9223372036854775808 ≤ a0 ∧ a0 ≤ 9223372036854775807) (ha : -9223372036854775808 ≤ a ∧ a ≤ 9223372036854775807) (hb : -9223372036854775808 ≤ b ∧ b ≤ 9223372036854775807) (hn : -9223372036854775808 ≤ n ∧ n ≤ 9223372036854775807) (haw : -9223372036854775808 ≤ away ∧ away ≤ 9223372036854775807)
    (hd : pickP away 2 = 1) :
    Calls Try.prog 5 #[.int .i64 a0, .int .i64 a, .int .i64 b, .int .i64 n, .int .i64 away] w fun e w1 => e = .returned (.bool true) ∧ Below w.heap.size w w1 := by
  have wb := windowP_bounds a0
  have p1 := fun (W : World) => pick_any W a 255 ha.1 ha.2 (by omega) (by omega)
  have q1 := pickP_bounds a 255 (by omega)
  generalize pickP a 255 = x at *
  have p2 := fun (W : World) => pick_any W b (255 - x) hb.1 hb.2 (by omega) (by omega)
  have q2 := pickP_bounds b (255 - x) (by omega)
  generalize pickP b (255 - x) = y0 at *
  have p3 := fun (W : World) => pick_any W n 8 hn.1 hn.2 (by omega) (by omega)
  have q3 := pickP_bounds n 8 (by omega)
  generalize pickP n 8 = k at *
  have p4 := fun (W : World) => pick_any W away 2 haw.1 haw.2 (by omega) (by omega)
  rw [hd] at p4
  clear hd
  have k2 := conv2
  go_enter Try.func5, Try.ntmps5
  go_wp2_with fail
  refine (p1 _).mono ?_
  rintro e W1 ⟨rfl, rfl⟩
  go_wp2_with fail
  refine (p2 _).mono ?_
  rintro e W1 ⟨rfl, rfl⟩
  go_wp2_with fail
  refine (p3 _).mono ?_
  rintro e W1 ⟨rfl, rfl⟩
  go_wp2_with fail
  refine (p4 _).mono ?_
  rintro e W1 ⟨rfl, rfl⟩
  clear p1 p2 p3 p4
  go_wp2_with fail
  refine (again_int _ (outStr [x, x + 1 + y0]) (5 + k) (by rw [outStr_size]; show 1 ≤ 2; omega) (by rw [outStr_size]; show 2 ≤ _; omega) (by omega) (by omega)).mono ?_
  rw [want_one x (x + 1 + y0) k (by omega) (by omega) (by omega) (by omega) (by omega) (by omega)]
  rintro e W2 ⟨rfl, b2⟩
  -- the three streams
  go_wp2_with fail
  refine (window_any _ a0 ha0.1 ha0.2).mono ?_
  rintro e W5 ⟨rfl, rfl⟩
  go_wp2_with fail
  refine (copied_int _ (windowP a0) x (x + 1 + y0) k 1 (5 + k) wb.1 wb.2 q1.1 (by omega) (by omega) q3.1 (by omega) (by omega) (by omega) (by omega) (by omega)).mono ?_
  rintro e W6 ⟨S1, rfl, z1, s1, b6⟩
  go_wp2_with fail
  refine (Decode_any _ S1 (by omega)).mono ?_
  have g1 := dec_good S1 (windowP a0) x (x + 1 + y0) k 1 wb.1 wb.2 q1.1 (by omega) (by omega) q3.1 (by omega) (by omega) (by omega) (by rw [s1, show 5 + k - 1 = 4 + k by omega])
  rw [g1.1, g1.2]
  rintro e W7 ⟨rfl, b7⟩
  clear g1 s1 z1
  go_wp2_with fail
  refine (window_any _ a0 ha0.1 ha0.2).mono ?_
  rintro e W8 ⟨rfl, rfl⟩
  go_wp2_with fail
  refine (copied_int _ (windowP a0) x (x + 1 + y0) k 2 (5 + k) wb.1 wb.2 q1.1 (by omega) (by omega) q3.1 (by omega) (by omega) (by omega) (by omega) (by omega)).mono ?_
  rintro e W9 ⟨S2, rfl, z2, s2, b9⟩
  go_wp2_with fail
  refine (Decode_any _ S2 (by omega)).mono ?_
  have g2 := dec_far S2 (windowP a0) x (x + 1 + y0) k wb.1 wb.2 q1.1 (by omega) (by omega) q3.1 (by omega) (by rw [s2, show 5 + k - 1 = 4 + k by omega])
  rw [g2.1, g2.2]
  rintro e W10 ⟨rfl, b10⟩
  clear g2 s2 z2
  go_wp2_with fail
  refine (window_any _ a0 ha0.1 ha0.2).mono ?_
  rintro e W11 ⟨rfl, rfl⟩
  go_wp2_with fail
  refine (copied_int _ (windowP a0) x (x + 1 + y0) k 1 (4 + k) wb.1 wb.2 q1.1 (by omega) (by omega) q3.1 (by omega) (by omega) (by omega) (by omega) (by omega)).mono ?_
  rintro e W12 ⟨S3, rfl, z3, s3, b12⟩
  go_wp2_with fail
  refine (Decode_any _ S3 (by omega)).mono ?_
  have g3 := dec_long S3 (windowP a0) x (x + 1 + y0) k 1 wb.1 wb.2 q1.1 (by omega) (by omega) q3.1 (by omega) (by omega) (by omega) (by rw [s3, show 4 + k - 1 = 3 + k by omega])
  rw [g3.1, g3.2]
  rintro e W13 ⟨rfl, b13⟩
  clear g3 s3 z3
  go_wp2
  go_ret
  refine ⟨rfl, ?_⟩
  have s2 := b2.size
  have s6 := b6.size
  have s7 := b7.size
  have s9 := b9.size
  have s10 := b10.size
  have s12 := b12.size
  have s13 := b13.size
  simp only [World.size_alloc] at s2
  exact (((((((below_alloc _ _).trans (b2.mono (by simp))).trans (b6.mono (by omega))).trans (b7.mono (by omega))).trans (b9.mono (by omega))).trans (b10.mono (by omega))).trans ((b12.mono (by omega)).trans (b13.mono (by omega)))).trans ((below_alloc _ _).mono (by omega))
end Go.Proofs.Ytmpfgdmdnghhgaa
