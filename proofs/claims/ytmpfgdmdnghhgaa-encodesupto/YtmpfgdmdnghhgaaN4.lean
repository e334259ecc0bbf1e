import Derived.Test.YtmpfgdmdnghhgaaN3
/- THE WRITER: coded walked, at level 2. -/
namespace Go.Proofs.Ytmpfgdmdnghhgaa
open Go.RowKit Wr

section
variable {w : World} {b t : Nat} {k : Wk} {L : List Int} {P : List UInt8} {v wv : Value}
set_option maxRecDepth 100000 in
set_option maxHeartbeats 4000000 in
theorem coded2a_any (h : WR w b k L P t v wv) (hP : P ≠ []) (h0 : k.lv = 2) (hwn : 0 ≤ k.wn ∧ k.wn ≤ 4096) (hcmp : ¬ (bodyL (copiesC P k.wn k.far).1).length < (bodyL (lettersC P)).length) : Calls Try.prog 64 #[.pointer (some ⟨b, 0, none⟩)] w fun e w' => CodedPost w b k L P t v wv e w' := by
  obtain ⟨g, cap, rfl, hbt, hgw, hgb⟩ := h.bytes hP
  have hPl := h.plen
  have t0 := (Tch.refl NoOld w).alloc (.cells (cellsL 3 (F3 (.slice none 0 0) 0 0)).toArray 102)
  have r0 := rowIs_new w 102 3 (F3 (.slice none 0 0) 0 0)
  have HBest : Hid (bestL k P = (bodyL (lettersC P), k.far)) := by
    unfold Hid bestL
    rw [if_neg (fun q => hcmp q.2)]
  have hW0 := h.keepNo t0
  obtain ⟨_, c1, c2, c3, c4⟩ := hW0.cells
  obtain ⟨cok, clen⟩ := copiesC_ok (win := k.wn) k.far hPl
  have hLe := Letters_c (w.alloc (.cells (cellsL 3 (F3 (.slice none 0 0) 0 0)).toArray 102)) g cap P (hbt.keep t0 (fun q => q)) hPl
  have hBo := fun W vl (ho : OwnsC W vl (lettersC P)) => body_any W vl (lettersC P) ho (lettersC_ok P) (by rw [lettersC_length]; exact hPl)
  have hBo2 := fun W vl (ho : OwnsC W vl (copiesC P k.wn k.far).1) => body_any W vl (copiesC P k.wn k.far).1 ho cok clen
  have hCo := fun W (hT : Tch NoOld w W) q (hr : RRow W q k.far) (hq : w.heap.size ≤ q) => Copies_c W q g cap P k.wn k.far (hbt.keep hT (fun q => q)) hPl hwn hr (Nat.lt_of_lt_of_le hgw hT.size) (by omega)
  have hbl := bodyL_length (lettersC P) (lettersC_ok P) (by rw [lettersC_length]; exact hPl)
  have hbl2 := bodyL_length (copiesC P k.wn k.far).1 cok clen
  have HR : Hid (Try.prog.built 102 [] = some (cellsL 3 (F3 (.slice none 0 0) 0 0)).toArray) := built_row
  have HBo : Hid _ := hBo
  have HBo2 : Hid _ := hBo2
  have HCo : Hid _ := hCo
  have HW : Hid (WR w b k L P t v (.slice (some ⟨g, 0, none⟩) P.length cap)) := h
  have hbw := h.lt
  rw [h0] at c1
  clear hW0 h hBo hBo2 hCo hbt cok clen
  generalize bodyL (lettersC P) = MA at *
  generalize bodyL (copiesC P k.wn k.far).1 = MC at *
  generalize (copiesC P k.wn k.far).2 = fa2 at *
  generalize (copiesC P k.wn k.far).1 = lc at *
  go_enter Try.func64, Try.ntmps64
  go_wp2_with (first
      | (refine wpList_store_row (n := 4) (G := iV k.far) rfl 82 _ _ rfl rfl rfl (rowIs_new w4 _ 4 _) TRec (fun _ _ => rfl) ?_; have r5 := rec_laid w4 k.far; have t5 := rec_laidT w4 (cellsL 4 (iV k.far)); have S5 := nTt S4 t5; have T5 := nTt t0 S5; have v5 := v4.no t5; have r5q : RRow _ w3.heap.size k.far := t5.rowIs r4 (fun q => q); have hs5 := World.rowIs.lt r5; generalize (w4.alloc (.cells (cellsL 4 zInt).toArray 82)).setCells w4.heap.size 0 (cellsL 4 (iV k.far)) = w5 at *)
      | (refine wpList_load_recAt k.far rfl _ rfl rfl (HW.out.keepNo T4).range ?_)
      | (refine wpList_store_row (n := 4) (G := iV k.far) rfl 82 _ _ rfl rfl rfl (rowIs_new w3 _ 4 _) TRec (fun _ _ => rfl) ?_; have r4 := rec_laid w3 k.far; have t4 := rec_laidT w3 (cellsL 4 (iV k.far)); have S4 := nTt S3 t4; have T4 := nTt t0 S4; have v4 := v3.no t4; obtain ⟨_, d1, d2, d3, d4⟩ := (HW.out.keepNo T4).cells; rw [h0] at d1; have hs4 := World.rowIs.lt r4; generalize (w3.alloc (.cells (cellsL 4 zInt).toArray 82)).setCells w3.heap.size 0 (cellsL 4 (iV k.far)) = w4 at *)
      | (refine wpList_load_recAt k.far rfl _ rfl rfl (HW.out.keepNo T3).range ?_)
      | (refine wpList_store_row rfl 102 _ _ rfl rfl rfl (rowIs_new w2 102 3 (F3 (.slice none 0 0) 0 0)) TRow (one3 (own_one o2)) ?_; have v3 := row_laid w2 u2 r2 _ o2 l2; have t3 := row_laidT w2 (cellsL 3 (F3 u2 r2.hold r2.have_)); have S3 := nTt S2 t3; have T3 := nTt t0 S3; have hs3 := World.rowIs.lt v3.row; obtain ⟨_, k1, k2, k3, k4⟩ := (HW.out.keepNo T3).cells; generalize (w2.alloc (.cells (cellsL 3 (F3 (.slice none 0 0) 0 0)).toArray 102)).setCells w2.heap.size 0 (cellsL 3 (F3 u2 r2.hold r2.have_)) = w3 at *)
      | (go_at_call 82; refine (HBo.out _ _ o1).mono ?_; rintro e w2 ⟨u2, r2, rfl, o2, l2, f2, t2⟩; have S2 := nTt S1 t2; have T2 := nTt t0 S2; have F2 : Fresh w u2 := f2.le T1.size)
      | (go_at_call 81; refine hLe.mono ?_; rintro e w1 ⟨vl1, rfl, o1, _, t1⟩; have S1 := t1; have T1 := nTt t0 S1)
      | (refine wpList_alloc_row rfl 82 rfl TRec ?_)
      | (refine wpList_alloc_row rfl 102 rfl TRow ?_))
  obtain ⟨_, z1, z2, z3, z4⟩ := (HW.out.keepNo T5).cells
  have hsz2 := T2.size
  have hCC := HCo.out _ T5.drew w4.heap.size r5 (by omega)
  go_region_with (go_at_call 83; refine hCC.mono ?_; rintro e w6 ⟨vl2, rfl, o6, _, r6, t6⟩)
  all_goals
    have S6 := (S5.drew).fresh t6 (by have := S4.size; omega)
    have T6 := nTt t0 S6
    have tq : Tch (· = w4.heap.size) w5 w6 := (Tch.refl (· = w4.heap.size) w5).drew.trans t6 (fun _ _ q => q)
    have v6 := v5.keep tq (by show ¬ w2.heap.size = w4.heap.size; omega) (fun x hx e => by have : x = w4.heap.size := e; have := (World.ownsRow.lt o2 x hx).2; omega)
    have r6q : RRow w6 w3.heap.size k.far := tq.rowIs r5q (by show ¬ w3.heap.size = w4.heap.size; omega)
    have S6W : w5.heap.size ≤ w6.heap.size := tq.size
    have hS : ∀ W q u r M, RVal W q u r M → M.length ≤ 300000 → Calls Try.prog 84 #[.pointer (some ⟨q, 0, none⟩)] W fun e w' => e = .returned (.int .i64 (M.length : Int)) ∧ Tch NoOld W w' := fun W q u r M h hM => size_B box3 h.bb (by omega)
    have HS : Hid _ := hS
    have hci : ¬ (MC.length : Int) < (MA.length : Int) := by omega
    clear hS hCC t6 r5 r5q v5 T5 S5 t5 T4 S4 v4 r4 t4 T3 v3 t3 z1 z2 z3 z4 d1 d2 d3 d4 k1 k2 k3 k4 HCo hLe HBo
    go_wp2_with (first
    | (go_at_call 84; refine (HS.out _ _ _ _ _ v9 hbl).mono ?_; rintro e w10 ⟨rfl, t10⟩; have S10 := nTt S9 t10; have T10 := nTt t0 S10; have v10 := v9.no t10; have x10 := x9.no t10; have r10q6 : RRow w10 w3.heap.size k.far := t10.rowIs r9q6 (fun q => q); have r10q7 : RRow w10 w4.heap.size fa2 := t10.rowIs r9q7 (fun q => q))
    | (go_at_call 84; refine (HS.out _ _ _ _ _ x8 hbl2).mono ?_; rintro e w9 ⟨rfl, t9⟩; have S9 := nTt S8 t9; have v9 := v8.no t9; have x9 := x8.no t9; have r9q6 : RRow w9 w3.heap.size k.far := t9.rowIs r8q6 (fun q => q); have r9q7 : RRow w9 w4.heap.size fa2 := t9.rowIs r8q7 (fun q => q))
    | (refine wpList_store_row rfl 102 _ _ rfl rfl rfl (rowIs_new w7 102 3 (F3 (.slice none 0 0) 0 0)) TRow (one3 (own_one o7)) ?_; have x8 := row_laid w7 u7 r7 _ o7 l7; have t8 := row_laidT w7 (cellsL 3 (F3 u7 r7.hold r7.have_)); have S8 := nTt S7 t8; have v8 := v7.no t8; have r8q6 : RRow _ w3.heap.size k.far := t8.rowIs r7q6 (fun q => q); have r8q7 : RRow _ w4.heap.size fa2 := t8.rowIs r7q7 (fun q => q); generalize (w7.alloc (.cells (cellsL 3 (F3 (.slice none 0 0) 0 0)).toArray 102)).setCells w7.heap.size 0 (cellsL 3 (F3 u7 r7.hold r7.have_)) = w8 at *)
    | (go_at_call 82; refine (HBo2.out _ _ o6).mono ?_; rintro e w7 ⟨u7, r7, rfl, o7, l7, f7, t7⟩; have S7 := nTt S6 t7; have F7 : Fresh w u7 := f7.le T6.size; have v7 := v6.no t7; have r7q6 : RRow w7 w3.heap.size k.far := t7.rowIs r6q (fun q => q); have r7q7 : RRow w7 w4.heap.size fa2 := t7.rowIs r6 (fun q => q))
    | (refine wpList_alloc_row rfl 102 rfl TRow ?_))
    have HFR : Hid (∀ x, u2.ownBlock = some x → w.heap.size < x) := fun x hx => by
      have q1 := f2 x hx
      have q2 := S1.size
      simp at q2
      omega
    have hsz := size_B box3 (v10.keep (Tch.refl NoOld w10).drew (fun q => q) (fun _ _ q => q)).bb (by omega)
    obtain ⟨_, m1, m2, m3, m4⟩ := (HW.out.keepNo T10).cells
    have hsz2 := T2.size
    have hwr8 : IntKind.i64.wrap (8 * (P.length : Int)) = 8 * (P.length : Int) := by rw [IntKind.wrap_i64]; omega
    have hvn : ∀ x, v.ownBlock = some x → x < w.heap.size := HW.out.row.own_lt
    by_cases hend : 8 * P.length ≤ (MA).length
    · have HC : Hid (codedP k P = none) := by
        unfold Hid codedP
        rw [if_neg (by omega), HBest.out, if_pos hend]
      have hei : 8 * (P.length : Int) ≤ ((MA).length : Int) := by omega
      clear HBest
      generalize (MA).length = ml at *
      have hdb : decide (8 * (P.length : Int) ≤ (ml : Int)) = true := decide_eq_true hei
      go_region_with (go_at_call 84; refine hsz.mono ?_; rintro e wy ⟨rfl, ty⟩; have TY : Tch NoOld w wy := nTt T10.drew ty; obtain ⟨_, y1, y2, y3, y4⟩ := (HW.out.keepNo TY).cells)
      all_goals
        have hresY := ty.rowIs (S10.drew.rowIs r0 (fun q => q)) (fun q => q)
        go_wp2_with (first
          | (refine wpList_store_row rfl 102 _ _ rfl rfl rfl hresY TRow (one3 rfl) ?_)
          | (refine wpList_build_to rfl 102 _ rfl [] (by simp) _ HR.out ?_))
        refine bodyPost_ret (post_row2 TRow rfl _ rfl (rowIs_setAll hresY (F3 (.slice none 0 0) 0 0))) rfl ?_
        have TZ := TY.cells w.heap.size (fun q => absurd q (Nat.lt_irrefl _)) (cellsL 3 (F3 (.slice none 0 0) 0 0)) 0
        exact post_none HC.out rfl (HW.out.keepNo TZ) TZ
    · have HC : Hid (codedP k P = some (MA, k.far)) := by
        unfold Hid codedP
        rw [if_neg (by omega), HBest.out, if_neg hend]
      have hei : ¬ 8 * (P.length : Int) ≤ ((MA).length : Int) := by omega
      clear HBest
      have hMl : Hid ((MA).length = (MA).length) := rfl
      obtain ⟨ml, hml⟩ : ∃ ml, ml = (MA).length := ⟨_, rfl⟩
      rw [← hml] at hsz hei
      have hml3 : ml ≤ 300000 := by omega
      have hdb : decide (8 * (P.length : Int) ≤ (ml : Int)) = false := decide_eq_false hei
      clear hend hml
      go_region_with (go_at_call 84; refine hsz.mono ?_; rintro e wy ⟨rfl, ty⟩; have TY : Tch NoOld w wy := nTt T10.drew ty; obtain ⟨_, y1, y2, y3, y4⟩ := (HW.out.keepNo TY).cells)
      all_goals
        have hresY := ty.rowIs (S10.drew.rowIs r0 (fun q => q)) (fun q => q)
        have hWY := HW.out.keepNo TY
        have vY := (v10.keep (Tch.refl NoOld w10).drew (fun q => q) (fun _ _ q => q)).no ty
        have rY : RRow wy w3.heap.size k.far := ty.rowIs (r10q6) (fun q => q)
        have tb := (Tch.refl (· = b) wy).cells b (fun _ => rfl) (cellsL 4 (iV k.far)) 5
        have hWZ := hWY.setFar k.far
        have vZ := vY.keep tb (by show ¬ w2.heap.size = b; omega) (fun x hx e => by have := F2 x hx; have : x = b := e; omega)
        have hresZ := tb.rowIs hresY (by show ¬ w.heap.size = b; omega)
        have TZ : Tch (· = b) w _ := (TY.mono (fun _ _ q => q.elim)).trans tb (fun _ _ q => q)
        have hth := hWY.there
        clear hWY vY
        generalize hwz : wy.setCells b 5 (cellsL 4 (iV k.far)) = wz at *
        go_wp2_with (first
          | (refine wpList_store_row rfl 102 _ _ rfl rfl rfl hresZ TRow (one3 (own_one vZ.own)) ?_)
          | (refine wpList_load_row rfl 102 _ rfl rfl vZ.row TRow ?_)
          | (refine wpList_store_recAt k.far rfl _ _ rfl rfl rfl hth ?_; rw [hwz])
          | (refine wpList_load_row (n := 4) rfl 82 _ rfl rfl rY TRec ?_))
        refine bodyPost_ret (post_row2 TRow rfl _ rfl (rowIs_setAll hresZ (F3 u2 r2.hold r2.have_))) rfl ?_
        have tc := (Tch.refl (· = w.heap.size) wz).cells w.heap.size (fun _ => rfl) (cellsL 3 (F3 u2 r2.hold r2.have_)) 0
        refine post_some HC.out rfl (tc.owns vZ.own (fun x hx e => ?_)) vZ.rel F2 (hWZ.keep tc (by show ¬ b = w.heap.size; omega) (fun x hx e => ?_) (fun x hx e => ?_)) (TZ.cells w.heap.size (fun q => absurd q (Nat.lt_irrefl _)) _ 0)
        · have hx2 := HFR.out x hx
          have : x = w.heap.size := e
          omega
        · have := hvn x hx
          have : x = w.heap.size := e
          omega
        · have hx3 : g = x := by injection hx
          have : x = w.heap.size := e
          omega

end
end Go.Proofs.Ytmpfgdmdnghhgaa
