import Derived.Test.YtmpfgdmdnghhgaaN2
/- THE WRITER: coded walked, at level 1 and above. -/
namespace Go.Proofs.Ytmpfgdmdnghhgaa
open Go.RowKit Wr

section
variable {w : World} {b t : Nat} {k : Wk} {L : List Int} {P : List UInt8} {v wv : Value}
theorem Tch.fresh {w w' w'' : World} {q : Nat} (h : Tch NoOld w w') (k : Tch (· = q) w' w'') (hq : w.heap.size ≤ q) : Tch NoOld w w'' := h.trans k (fun j hj e => by have : j = q := e; omega)
theorem nTt {W W' W'' : World} (h : Tch NoOld W W') (k : Tch NoOld W' W'') : Tch NoOld W W'' := h.trans k (fun _ _ q => q)
theorem Fresh.le {w w' : World} {u : Value} (h : Fresh w' u) (hs : w.heap.size ≤ w'.heap.size) : Fresh w u := fun k hk => Nat.le_trans hs (h k hk)
theorem bodyL_length (l : List Cm) (hok : ∀ c ∈ l, CmOk c) (hl : l.length ≤ 4096) : (bodyL l).length ≤ 300000 := by
  obtain ⟨oL4, _, oLf, _⟩ := snd_ok (cntL l) 272 9 (by omega) (by decide) (cntL_Cnt l hl)
  obtain ⟨oF4, _, oFf, _⟩ := snd_ok (cntF l) 16 4 (by omega) (by decide) (cntF_Cnt l hl)
  have h1 := tellL_length (sndOf (cntL l) 272 9) 272 9 (by omega) oL4 (by omega)
  have h2 := tellL_length (sndOf (cntF l) 16 4) 16 4 (by omega) oF4 (by omega)
  have h3 := cmdsL_length (sndOf (cntL l) 272 9) (sndOf (cntF l) 16 4) oLf oFf l hok
  unfold bodyL sndL sndF
  rw [List.length_append, List.length_append]
  omega
theorem lettersC_length (P : List UInt8) : (lettersC P).length = P.length := by unfold lettersC; rw [List.length_map]


set_option maxRecDepth 100000 in
set_option maxHeartbeats 1000000 in
theorem coded1_any (h : WR w b k L P t v wv) (hP : P ≠ []) (h0 : k.lv = 1) : Calls Try.prog 64 #[.pointer (some ⟨b, 0, none⟩)] w fun e w' => CodedPost w b k L P t v wv e w' := by
  obtain ⟨g, cap, rfl, hbt, hgw, hgb⟩ := h.bytes hP
  have hPl := h.plen
  have hlv : ¬ k.lv < 1 := by omega
  have t0 := (Tch.refl NoOld w).alloc (.cells (cellsL 3 (F3 (.slice none 0 0) 0 0)).toArray 102)
  have r0 := rowIs_new w 102 3 (F3 (.slice none 0 0) 0 0)
  have HBest : Hid (bestL k P = (bodyL (lettersC P), k.far)) := by
    unfold Hid bestL
    rw [if_neg (by omega)]
  have hW0 := h.keepNo t0
  obtain ⟨_, c1, c2, c3, c4⟩ := hW0.cells
  have hLe := Letters_c (w.alloc (.cells (cellsL 3 (F3 (.slice none 0 0) 0 0)).toArray 102)) g cap P (hbt.keep t0 (fun q => q)) hPl
  have hBo := fun W vl (ho : OwnsC W vl (lettersC P)) => body_any W vl (lettersC P) ho (lettersC_ok P) (by rw [lettersC_length]; exact hPl)
  have hbl := bodyL_length (lettersC P) (lettersC_ok P) (by rw [lettersC_length]; exact hPl)
  have HR : Hid (Try.prog.built 102 [] = some (cellsL 3 (F3 (.slice none 0 0) 0 0)).toArray) := built_row

  have HBo : Hid _ := hBo
  have HW : Hid (WR w b k L P t v (.slice (some ⟨g, 0, none⟩) P.length cap)) := h
  have hbw := h.lt
  rw [h0] at c1
  clear hW0 h hBo hbt
  go_enter Try.func64, Try.ntmps64
  go_wp2_with (first
      | (refine wpList_store_row (n := 4) (G := iV k.far) rfl 82 _ _ rfl rfl rfl (rowIs_new w3 _ 4 _) TRec (fun _ _ => rfl) ?_; have r4 := rec_laid w3 k.far; have t4 := rec_laidT w3 (cellsL 4 (iV k.far)); have S4 := nTt S3 t4; have T4 := nTt t0 S4; have v4 := v3.no t4; have hW4 := HW.out.keepNo T4; obtain ⟨_, d1, d2, d3, d4⟩ := hW4.cells; have hs4 := World.rowIs.lt r4; generalize (w3.alloc (.cells (cellsL 4 zInt).toArray 82)).setCells w3.heap.size 0 (cellsL 4 (iV k.far)) = w4 at *)
      | (refine wpList_load_recAt k.far rfl _ rfl rfl (HW.out.keepNo T3).range ?_)
      | (refine wpList_store_row rfl 102 _ _ rfl rfl rfl (rowIs_new w2 102 3 (F3 (.slice none 0 0) 0 0)) TRow (one3 (own_one o2)) ?_; have v3 := row_laid w2 u2 r2 _ o2 l2; have t3 := row_laidT w2 (cellsL 3 (F3 u2 r2.hold r2.have_)); have S3 := nTt S2 t3; have T3 := nTt t0 S3; have hs3 := World.rowIs.lt v3.row; obtain ⟨_, k1, k2, k3, k4⟩ := (HW.out.keepNo T3).cells; generalize (w2.alloc (.cells (cellsL 3 (F3 (.slice none 0 0) 0 0)).toArray 102)).setCells w2.heap.size 0 (cellsL 3 (F3 u2 r2.hold r2.have_)) = w3 at *)
      | (go_at_call 82; refine (HBo.out _ _ o1).mono ?_; rintro e w2 ⟨u2, r2, rfl, o2, l2, f2, t2⟩; have S2 := nTt S1 t2; have T2 := nTt t0 S2; have F2 : Fresh w u2 := f2.le T1.size)
      | (go_at_call 81; refine hLe.mono ?_; rintro e w1 ⟨vl1, rfl, o1, _, t1⟩; have S1 := t1; have T1 := nTt t0 S1)
      | (refine wpList_alloc_row rfl 82 rfl TRec ?_)
      | (refine wpList_alloc_row rfl 102 rfl TRow ?_))
  rw [h0] at d1
  have HFR : Hid (∀ x, u2.ownBlock = some x → w.heap.size < x) := fun x hx => by
    have q1 := f2 x hx
    have q2 := S1.size
    simp at q2
    omega
  have hsz := size_B box3 (v4.keep (Tch.refl NoOld w4).drew (fun q => q) (fun _ _ q => q)).bb (by omega)
  obtain ⟨_, m1, m2, m3, m4⟩ := (HW.out.keepNo T4).cells
  have hsz2 := T2.size
  have hwr8 : IntKind.i64.wrap (8 * (P.length : Int)) = 8 * (P.length : Int) := by rw [IntKind.wrap_i64]; omega
  have hvn : ∀ x, v.ownBlock = some x → x < w.heap.size := HW.out.row.own_lt
  by_cases hend : 8 * P.length ≤ (bodyL (lettersC P)).length
  · have HC : Hid (codedP k P = none) := by
      unfold Hid codedP
      rw [if_neg (by omega), HBest.out, if_pos hend]
    have hei : 8 * (P.length : Int) ≤ ((bodyL (lettersC P)).length : Int) := by omega
    clear HBest
    generalize (bodyL (lettersC P)).length = ml at *
    have hdb : decide (8 * (P.length : Int) ≤ (ml : Int)) = true := decide_eq_true hei
    go_region_with (go_at_call 84; refine hsz.mono ?_; rintro e wy ⟨rfl, ty⟩; have TY : Tch NoOld w wy := nTt T4.drew ty; obtain ⟨_, y1, y2, y3, y4⟩ := (HW.out.keepNo TY).cells)
    all_goals
      have hresY := ty.rowIs (S4.drew.rowIs r0 (fun q => q)) (fun q => q)
      go_wp2_with (first
        | (refine wpList_store_row rfl 102 _ _ rfl rfl rfl hresY TRow (one3 rfl) ?_)
        | (refine wpList_build_to rfl 102 _ rfl [] (by simp) _ HR.out ?_))
      refine bodyPost_ret (post_row2 TRow rfl _ rfl (rowIs_setAll hresY (F3 (.slice none 0 0) 0 0))) rfl ?_
      have TZ := TY.cells w.heap.size (fun q => absurd q (Nat.lt_irrefl _)) (cellsL 3 (F3 (.slice none 0 0) 0 0)) 0
      exact post_none HC.out rfl (HW.out.keepNo TZ) TZ
  · have HC : Hid (codedP k P = some (bodyL (lettersC P), k.far)) := by
      unfold Hid codedP
      rw [if_neg (by omega), HBest.out, if_neg hend]
    have hei : ¬ 8 * (P.length : Int) ≤ ((bodyL (lettersC P)).length : Int) := by omega
    clear HBest
    have hMl : Hid ((bodyL (lettersC P)).length = (bodyL (lettersC P)).length) := rfl
    obtain ⟨ml, hml⟩ : ∃ ml, ml = (bodyL (lettersC P)).length := ⟨_, rfl⟩
    rw [← hml] at hsz hei
    have hml3 : ml ≤ 300000 := by omega
    have hdb : decide (8 * (P.length : Int) ≤ (ml : Int)) = false := decide_eq_false hei
    clear hend hml
    go_region_with (go_at_call 84; refine hsz.mono ?_; rintro e wy ⟨rfl, ty⟩; have TY : Tch NoOld w wy := nTt T4.drew ty; obtain ⟨_, y1, y2, y3, y4⟩ := (HW.out.keepNo TY).cells)
    all_goals
      have hresY := ty.rowIs (S4.drew.rowIs r0 (fun q => q)) (fun q => q)
      have hWY := HW.out.keepNo TY
      have vY := (v4.keep (Tch.refl NoOld w4).drew (fun q => q) (fun _ _ q => q)).no ty
      have rY : RRow wy w3.heap.size k.far := ty.rowIs (r4) (fun q => q)
      have tb := (Tch.refl (· = b) wy).cells b (fun _ => rfl) (cellsL 4 (iV k.far)) 5
      have hWZ := hWY.setFar k.far
      have vZ := vY.keep tb (by show ¬ w2.heap.size = b; omega) (fun x hx e => by have := F2 x hx; have : x = b := e; omega)
      have hresZ := tb.rowIs hresY (by show ¬ w.heap.size = b; omega)
      have TZ : Tch (· = b) w _ := (TY.mono (fun _ _ q => q.elim)).trans tb (fun _ _ q => q)
      have hth := hWY.there
      clear hWY vY
      generalize hwz : wy.setCells b 5 (cellsL 4 (iV k.far)) = wz at *
      go_wp2_with (first
        | (refine wpList_store_row rfl 102 _ _ rfl rfl rfl hresZ TRow (one3 (own_one vZ.own)) ?_)
        | (refine wpList_load_row rfl 102 _ rfl rfl vZ.row TRow ?_)
        | (refine wpList_store_recAt k.far rfl _ _ rfl rfl rfl hth ?_; rw [hwz])
        | (refine wpList_load_row (n := 4) rfl 82 _ rfl rfl rY TRec ?_))
      refine bodyPost_ret (post_row2 TRow rfl _ rfl (rowIs_setAll hresZ (F3 u2 r2.hold r2.have_))) rfl ?_
      have tc := (Tch.refl (· = w.heap.size) wz).cells w.heap.size (fun _ => rfl) (cellsL 3 (F3 u2 r2.hold r2.have_)) 0
      refine post_some HC.out rfl (tc.owns vZ.own (fun x hx e => ?_)) vZ.rel F2 (hWZ.keep tc (by show ¬ b = w.heap.size; omega) (fun x hx e => ?_) (fun x hx e => ?_)) (TZ.cells w.heap.size (fun q => absurd q (Nat.lt_irrefl _)) _ 0)
      · have hx2 := HFR.out x hx
        have : x = w.heap.size := e
        omega
      · have := hvn x hx
        have : x = w.heap.size := e
        omega
      · have hx3 : g = x := by injection hx
        have : x = w.heap.size := e
        omega
end
end Go.Proofs.Ytmpfgdmdnghhgaa
