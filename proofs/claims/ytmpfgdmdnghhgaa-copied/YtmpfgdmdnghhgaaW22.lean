import Derived.Test.YtmpfgdmdnghhgaaW21
namespace Go.Proofs.Ytmpfgdmdnghhgaa
open Go.RowKit Wr

attribute [local simp] u8At in
set_option maxRecDepth 100000 in
set_option maxHeartbeats 4000000 in
theorem Copied_nought (w : World) (a0 a b n away : Int) (ha0 : -9223372036854775808 ≤ a0 ∧ a0 ≤ 9223372036854775807) (ha : -9223372036854775808 ≤ a ∧ a ≤ 9223372036854775807) (hb : -9223372036854775808 ≤ b ∧ b ≤ 9223372036854775807) (hn : -9223372036854775808 ≤ n ∧ n ≤ 9223372036854775807) (haw : -9223372036854775808 ≤ away ∧ away ≤ 9223372036854775807)
    (hd : pickP away 2 = 0) :
    Calls Try.prog 5 #[.int .i64 a0, .int .i64 a, .int .i64 b, .int .i64 n, .int .i64 away] w fun e w1 => e = .returned (.bool true) ∧ Below w.heap.size w w1 := by
  have wb := windowP_bounds a0
  have p1 := fun (W : World) => pick_any W a 255 ha.1 ha.2 (by omega) (by omega)
  have q1 := pickP_bounds a 255 (by omega)
  generalize pickP a 255 = x at *
  have p2 := fun (W : World) => pick_any W b (255 - x) hb.1 hb.2 (by omega) (by omega)
  have q2 := pickP_bounds b (255 - x) (by omega)
  generalize pickP b (255 - x) = y0 at *
  have p3 := fun (W : World) => pick_any W n 8 hn.1 hn.2 (by omega) (by omega)
  have q3 := pickP_bounds n 8 (by omega)
  generalize pickP n 8 = k at *
  have p4 := fun (W : World) => pick_any W away 2 haw.1 haw.2 (by omega) (by omega)
  rw [hd] at p4
  clear hd
  have k2 := conv2_at
  have k1 := conv1_at
  have wx : IntKind.u8.wrap x = x := by rw [IntKind.wrap_u8]; omega
  have wy : IntKind.u8.wrap (x + 1 + y0) = x + 1 + y0 := by rw [IntKind.wrap_u8]; omega
  have wk : IntKind.i64.wrap (3 + k) = 3 + k := by rw [IntKind.wrap_i64]; omega
  go_enter Try.func5, Try.ntmps5
  go_wp2_with fail
  refine (p1 _).mono ?_
  rintro e W1 ⟨rfl, rfl⟩
  go_wp2_with fail
  refine (p2 _).mono ?_
  rintro e W1 ⟨rfl, rfl⟩
  go_wp2_with fail
  refine (p3 _).mono ?_
  rintro e W1 ⟨rfl, rfl⟩
  go_wp2_with fail
  refine (p4 _).mono ?_
  rintro e W1 ⟨rfl, rfl⟩
  clear p1 p2 p3 p4
  go_wp2_with fail
  refine (again_int _ (outStr [x, x + 1 + y0]) (5 + k) (by rw [outStr_size]; show 1 ≤ 2; omega) (by rw [outStr_size]; show 2 ≤ _; omega) (by omega) (by omega)).mono ?_
  rintro e W2 ⟨rfl, b2⟩
  have B2 : Below W1.heap.size W1 W2 := (below_alloc _ _).trans (b2.mono (by simp))
  clear b2
  go_wp2
  have a1 := fun (W : World) => again_int W (outStr [x, x + 1 + y0]) 2 (by rw [outStr_size]; show 1 ≤ 2; omega) (by rw [outStr_size]; show 2 ≤ _; omega) (by omega) (by omega)
  have a2 := fun (W : World) => again_int W (outStr [x + 1 + y0]) (3 + k) (by rw [outStr_size]; show 1 ≤ 1; omega) (by rw [outStr_size]; show 1 ≤ _; omega) (by omega) (by omega)
  generalize hT2 : outStr [x, x + 1 + y0] = T2 at *
  generalize hT1 : outStr [x + 1 + y0] = T1 at *
  have H2 : Hid (outStr [x, x + 1 + y0] = T2) := hT2
  have H1 : Hid (outStr [x + 1 + y0] = T1) := hT1
  clear hT1 hT2
  have k2' : ∀ (W : World) (g : Nat), u8At W ⟨g, 0, none⟩ = some x → u8At W ⟨g, 1, none⟩ = some (x + 1 + y0) → (convert 37 9 (.slice (some ⟨g, 0, none⟩) 2 2)).run Try.prog W = .ok (.string T2) W := by
    intro W g h0 h1
    have := conv2_at W g (by rw [h0]; rfl) (by rw [h1]; rfl)
    rw [h0, h1] at this
    rw [← H2.out]
    exact this
  have k1' : ∀ (W : World) (g : Nat), u8At W ⟨g, 0, none⟩ = some (x + 1 + y0) → (convert 37 9 (.slice (some ⟨g, 0, none⟩) 1 1)).run Try.prog W = .ok (.string T1) W := by
    intro W g h0
    have := conv1_at W g (by rw [h0]; rfl)
    rw [h0] at this
    rw [← H1.out]
    exact this
  clear k1 k2
  obtain ⟨A2, hA2, s2⟩ : ∃ A2, A2 = outStr (againP T2 (2 : Int).toNat) ∧ A2.size ≤ 100 := ⟨_, rfl, by rw [outStr_size, againP_length]; decide⟩
  obtain ⟨A1, hA1, s1⟩ : ∃ A1, A1 = outStr (againP T1 (3 + k).toNat) ∧ A1.size ≤ 100 := ⟨_, rfl, by rw [outStr_size, againP_length]; omega⟩
  rw [← hA2] at a1
  rw [← hA1] at a2
  have HW : Hid (A2 ++ A1 = outStr (copyList (0 + 1 : Int).toNat (3 + k).toNat [x, x + 1 + y0])) := by
    rw [Hid, hA2, hA1, ← H2.out, ← H1.out, outStr_append, want_nought x (x + 1 + y0) k (by omega) (by omega) (by omega) (by omega) (by omega) (by omega)]
  clear hA1 hA2
  go_region_with (first
    | (go_at_call_of 16 (T2); refine (a1 _).mono ?_; rintro e W3 ⟨rfl, b3⟩; first | (have hcB := (b3.cell (p := ⟨W2.heap.size, 0, none⟩) (by simp <;> omega)).trans (cell_first W2 (.int .u8 (x + 1 + y0)) (Obj.cells #[Value.int IntKind.u8 x, Value.int IntKind.u8 (x + 1 + y0)] 5))) | (have hcB := (b3.cell (p := ⟨W2.heap.size + 1, 0, none⟩) (by simp <;> omega)).trans (cell_second W2 (.int .u8 (x + 1 + y0)) (Obj.cells #[Value.int IntKind.u8 x, Value.int IntKind.u8 (x + 1 + y0)] 5))) | skip)
    | (go_at_call_of 16 (T1); refine (a2 _).mono ?_; rintro e W4 ⟨rfl, b4⟩))
  all_goals
    have z2 := B2.size
    have B3 : Below W1.heap.size W1 W3 := by
      refine Below.trans ?_ (b3.mono (by first | omega | (simp; omega) | simp))
      repeat (first | exact B2 | refine Below.drew ?_ | refine Below.alloc ?_ (by first | omega | (simp; omega) | simp) _)
    have z3 := B3.size
    have B4 : Below W1.heap.size W1 W4 := by
      refine Below.trans ?_ (b4.mono (by first | omega | (simp; omega) | simp))
      repeat (first | exact B3 | refine Below.drew ?_ | refine Below.alloc ?_ (by first | omega | (simp; omega) | simp) _)
    clear B3 B2 b3 b4 z2 z3 k1' k2' a1 a2 s1 s2
    try clear hcB
    have k2 := conv2
    -- the three streams
    go_wp2_with fail
    refine (window_any _ a0 ha0.1 ha0.2).mono ?_
    rintro e W5 ⟨rfl, rfl⟩
    go_wp2_with fail
    refine (copied_int _ (windowP a0) x (x + 1 + y0) k 0 (5 + k) wb.1 wb.2 q1.1 (by omega) (by omega) q3.1 (by omega) (by omega) (by omega) (by omega) (by omega)).mono ?_
    rintro e W6 ⟨S1, rfl, z1, s1, b6⟩
    go_wp2_with fail
    refine (Decode_any _ S1 (by omega)).mono ?_
    have g1 := dec_good S1 (windowP a0) x (x + 1 + y0) k 0 wb.1 wb.2 q1.1 (by omega) (by omega) q3.1 (by omega) (by omega) (by omega) (by rw [s1, show 5 + k - 1 = 4 + k by omega])
    rw [g1.1, g1.2, ← HW.out]
    rintro e W7 ⟨rfl, b7⟩
    clear g1 s1 z1
    go_wp2_with fail
    refine (window_any _ a0 ha0.1 ha0.2).mono ?_
    rintro e W8 ⟨rfl, rfl⟩
    go_wp2_with fail
    refine (copied_int _ (windowP a0) x (x + 1 + y0) k 2 (5 + k) wb.1 wb.2 q1.1 (by omega) (by omega) q3.1 (by omega) (by omega) (by omega) (by omega) (by omega)).mono ?_
    rintro e W9 ⟨S2, rfl, z2, s2, b9⟩
    go_wp2_with fail
    refine (Decode_any _ S2 (by omega)).mono ?_
    have g2 := dec_far S2 (windowP a0) x (x + 1 + y0) k wb.1 wb.2 q1.1 (by omega) (by omega) q3.1 (by omega) (by rw [s2, show 5 + k - 1 = 4 + k by omega])
    rw [g2.1, g2.2]
    rintro e W10 ⟨rfl, b10⟩
    clear g2 s2 z2
    go_wp2_with fail
    refine (window_any _ a0 ha0.1 ha0.2).mono ?_
    rintro e W11 ⟨rfl, rfl⟩
    go_wp2_with fail
    refine (copied_int _ (windowP a0) x (x + 1 + y0) k 0 (4 + k) wb.1 wb.2 q1.1 (by omega) (by omega) q3.1 (by omega) (by omega) (by omega) (by omega) (by omega)).mono ?_
    rintro e W12 ⟨S3, rfl, z3, s3, b12⟩
    go_wp2_with fail
    refine (Decode_any _ S3 (by omega)).mono ?_
    have g3 := dec_long S3 (windowP a0) x (x + 1 + y0) k 0 wb.1 wb.2 q1.1 (by omega) (by omega) q3.1 (by omega) (by omega) (by omega) (by rw [s3, show 4 + k - 1 = 3 + k by omega])
    rw [g3.1, g3.2]
    rintro e W13 ⟨rfl, b13⟩
    clear g3 s3 z3
    go_wp2
    go_ret
    refine ⟨rfl, ?_⟩
    have s4 := B4.size
    have s6 := b6.size
    have s7 := b7.size
    have s9 := b9.size
    have s10 := b10.size
    have s12 := b12.size
    have s13 := b13.size
    exact (((((B4.trans (b6.mono (by omega))).trans (b7.mono (by omega))).trans (b9.mono (by omega))).trans (b10.mono (by omega))).trans ((b12.mono (by omega)).trans (b13.mono (by omega)))).trans ((below_alloc _ _).mono (by omega))
  
end Go.Proofs.Ytmpfgdmdnghhgaa
