import Derived.Test.YtmpfgdmdnghhgaaK10
/- A CODED BLOCK's BODY: writer.body walked. -/
namespace Go.Proofs.Ytmpfgdmdnghhgaa
open Go.RowKit Wr

section
variable {ops : Array Oper} {rest : List Oper} {op : Oper} {a : Act} {w : World} {Q : Exit → Act → World → Prop} {b o : Nat}
theorem wpList_load_cmdAt (c : Cm) (hgd : op.guard = none) (x : Operand) (ho : op.op = .load 139 x) (hx : a.eval x = .pointer (some ⟨b, o, none⟩)) (hr : w.rangeAt b o (cmV c))
    (h : wpList Try.prog ops Q rest (a.put op.dst (.agg #[.int .i64 c.letter, .int .i64 c.length, .int .i64 c.far, .int .i64 c.dist])) w) : wpList Try.prog ops Q (op :: rest) a w := by
  obtain ⟨d, hd, hrow⟩ := TCmd.under
  exact wpList_load_mid hgd 139 x ho b o hx (cmV c) d hr hd hrow (by exact TCmd.size) h
end
theorem cms_get : ∀ (l : List Cm) (i j : Nat) (h : i < l.length), j < 4 → (cmsV l)[i * 4 + j]? = (cmV l[i])[j]?
  | c :: l, 0, j, _, hj => by
    show (cmV c ++ cmsV l)[0 * 4 + j]? = _
    rw [List.getElem?_append_left (by show 0 * 4 + j < 4; omega)]
    simp
  | c :: l, i + 1, j, h, hj => by
    show (cmV c ++ cmsV l)[(i + 1) * 4 + j]? = _
    rw [List.getElem?_append_right (by show 4 ≤ (i + 1) * 4 + j; omega)]
    have e : (i + 1) * 4 + j - (cmV c).length = i * 4 + j := by show (i + 1) * 4 + j - 4 = _; omega
    rw [e, cms_get l i j (by simpa using h) hj]
    rfl
theorem cms_range {w : World} {v : Value} {l : List Cm} (h : OwnsC w v l) {i : Nat} (hi : i < l.length) : ∃ gl cap, v = .slice (some ⟨gl, 0, none⟩) l.length cap ∧ w.rangeAt gl (i * 4) (cmV l[i]) := by
  have h' := h
  unfold OwnsC at h'
  rcases h'.2 with ⟨_, h0⟩ | ⟨g, cap, cur, hv, _⟩
  · omega
  · refine ⟨g, cap, hv, fun j u hu => ?_⟩
    have hj : j < 4 := by
      have := (List.getElem?_eq_some_iff.1 hu).1
      exact this
    have := World.ownsRow.cells h' (g := g) (by rw [hv]; rfl) (i * 4 + j) u (by rw [cms_get l i j hi hj]; exact hu)
    rw [Addr.add_mid, Nat.zero_add] at this
    exact this
theorem cms_shape {w : World} {v : Value} {l : List Cm} (h : OwnsC w v l) : ∃ a cap, v = .slice a l.length cap := by
  rcases h.2 with ⟨hv, h0⟩ | ⟨g, cap, cur, hv, _⟩
  · exact ⟨none, 0, by rw [hv, h0]⟩
  · exact ⟨_, _, hv⟩
theorem T16 : RowTy 140 16 zInt := rowTy_of (by kernel_rfl) (by kernel_rfl) (by kernel_rfl)
theorem cmdL_length (A B : Snd) (fA : ∀ i, 0 ≤ A.len i ∧ A.len i ≤ 12) (fB : ∀ i, 0 ≤ B.len i ∧ B.len i ≤ 12) (c : Cm) (hc : CmOk c) : (cmdL A B c).length ≤ 50 := by
  have a := fA c.letter.toNat
  have b := fB c.far.toNat
  unfold cmdL putL
  by_cases h : 256 ≤ c.letter
  · rw [if_pos h]
    have hl : ∀ k : Nat, k ≤ 15 → lenMore k ≤ 8 := by decide
    have hd : ∀ k : Nat, k ≤ 15 → distMore k ≤ 11 := by decide
    obtain ⟨_, _, d3, d4, _⟩ := hc.copy h
    have hl1 := hc.l1
    have e1 := hl (c.letter - 256).toNat (by omega)
    have e2 := hd c.far.toNat (by omega)
    rw [show (((c.letter - 256).toNat : Nat) : Int) = c.letter - 256 by omega] at e1
    rw [show ((c.far.toNat : Nat) : Int) = c.far by omega] at e2
    split
    · simp only [List.length_append, numBits_length]
      omega
    · simp only [List.length_append, numBits_length, List.length_nil]
      omega
  · rw [if_neg h]
    simp only [List.length_append, numBits_length, List.length_nil]
    omega
theorem cmdsL_more (A B : Snd) (l : List Cm) (c : Cm) : cmdsL A B (l ++ [c]) = cmdsL A B l ++ cmdL A B c := by simp [cmdsL]
theorem cmdsL_length (A B : Snd) (fA : ∀ i, 0 ≤ A.len i ∧ A.len i ≤ 12) (fB : ∀ i, 0 ≤ B.len i ∧ B.len i ≤ 12) : ∀ l : List Cm, (∀ c ∈ l, CmOk c) → (cmdsL A B l).length ≤ 50 * l.length := by
  refine snoc_ind ?_ ?_
  · intro _; exact Nat.le_refl _
  · intro l c ih hc
    have h1 := ih (fun d hd => hc d (List.mem_append_left _ hd))
    have h2 := cmdL_length A B fA fB c (hc c (List.mem_append_right _ (List.mem_singleton.2 rfl)))
    rw [cmdsL_more, List.length_append, List.length_append, List.length_singleton]
    omega
theorem cntL_Cnt (l : List Cm) (h : l.length ≤ 4096) : Cnt (cntL l) 272 := ⟨fun i => (cnt_le l i).1, fun i => by have := (cnt_le l i).2.1; omega, by have := cntL_sum 272 l; omega⟩
theorem cntF_Cnt (l : List Cm) (h : l.length ≤ 4096) : Cnt (cntF l) 16 := ⟨fun i => (cnt_le l i).2.2.1, fun i => by have := (cnt_le l i).2.2.2; omega, by have := cntF_sum 16 l; omega⟩

/-- the counts so far -/
structure BdAt (w wr : World) (p : Nat) (l : List Cm) : Prop where
  res : wr.rowIs p 102 3 (F3 (.slice none 0 0) 0 0)
  let_ : wr.rowIs (p + 1) 84 272 (iV (cntL l))
  far : wr.rowIs (p + 1 + 1) 140 16 (iV (cntF l))
  tch : Tch NoOld w wr

theorem BdAt.letter {w wr w4 : World} {p : Nat} {l : List Cm} {c : Cm} {li : Nat} (h : BdAt w wr p l) (hp : w.heap.size ≤ p) (t4 : Tch NoOld wr w4) (hl : c.letter = (li : Int)) :
    (w4.setCell ⟨p + 1, li, none⟩ (.int .i64 (cntL l li + 1))).rowIs p 102 3 (F3 (.slice none 0 0) 0 0) ∧ (w4.setCell ⟨p + 1, li, none⟩ (.int .i64 (cntL l li + 1))).rowIs (p + 1) 84 272 (iV (cntL (l ++ [c]))) ∧ (w4.setCell ⟨p + 1, li, none⟩ (.int .i64 (cntL l li + 1))).rowIs (p + 1 + 1) 140 16 (iV (cntF l)) ∧ Tch NoOld w (w4.setCell ⟨p + 1, li, none⟩ (.int .i64 (cntL l li + 1))) := by
  refine ⟨World.rowIs.setOther (t4.rowIs h.res (fun q => q)) (by show p ≠ p + 1; omega) _, ?_, World.rowIs.setOther (t4.rowIs h.far (fun q => q)) (by show p + 1 + 1 ≠ p + 1; omega) _, (h.tch.trans t4 (fun _ _ q => q)).set _ _ (fun q => by have : p + 1 < w.heap.size := q; omega)⟩
  rw [cntL_upd (by omega), hl, Int.toNat_natCast]
  exact rowIs_upd (t4.rowIs h.let_ (fun q => q)) li _
set_option maxRecDepth 100000 in
set_option maxHeartbeats 1000000 in
theorem body_any (w : World) (v : Value) (l : List Cm) (ho : OwnsC w v l) (hok : ∀ c ∈ l, CmOk c) (hl : l.length ≤ 4096) :
    Calls Try.prog 82 #[v] w fun e w' => ∃ (u : Value) (r : Br), e = .returned (.agg (cellsL 3 (F3 u r.hold r.have_)).toArray) ∧ ownsB w' u r.out ∧ RelB r (bodyL l) 0 ∧ Fresh w u ∧ Tch NoOld w w' := by
  obtain ⟨va, vc, hv⟩ := cms_shape ho
  have hol : ∀ g, v.ownBlock = some g → g < w.heap.size := fun g hg => (World.ownsRow.lt ho g hg).2
  have HW : Hid (∃ w3, w3 = ((w.alloc (.cells (cellsL 3 (F3 (.slice none 0 0) 0 0)).toArray 102)).alloc (.cells (cellsL 272 zInt).toArray 84)).alloc (.cells (cellsL 16 zInt).toArray 140) ∧ BdAt w w3 w.heap.size []) := by
    refine ⟨_, rfl, ⟨((rowIs_new w _ 3 _).alloc _).alloc _, ?_, ?_, (((Tch.refl NoOld w).alloc _).alloc _).alloc _⟩⟩
    · have := (rowIs_new (w.alloc (.cells (cellsL 3 (F3 (.slice none 0 0) 0 0)).toArray 102)) 84 272 zInt).alloc (.cells (cellsL 16 zInt).toArray 140)
      rw [show (w.alloc (.cells (cellsL 3 (F3 (.slice none 0 0) 0 0)).toArray 102)).heap.size = w.heap.size + 1 by simp] at this
      exact this
    · have := rowIs_new ((w.alloc (.cells (cellsL 3 (F3 (.slice none 0 0) 0 0)).toArray 102)).alloc (.cells (cellsL 272 zInt).toArray 84)) 140 16 zInt
      rw [show ((w.alloc (.cells (cellsL 3 (F3 (.slice none 0 0) 0 0)).toArray 102)).alloc (.cells (cellsL 272 zInt).toArray 84)).heap.size = w.heap.size + 1 + 1 by simp] at this
      exact this
  go_enter Try.func82, Try.ntmps82
  go_wp2_with (first
    | (refine wpList_alloc_row rfl 140 rfl T16 ?_)
    | (refine wpList_alloc_row rfl 84 rfl T272 ?_)
    | (refine wpList_alloc_row rfl 102 rfl TRow ?_))
  obtain ⟨w3, hw3, hD⟩ := HW.out
  rw [← hw3]
  clear hw3 HW
  go_loopw [5, 6] (fun vi _ wr => ∃ i : Nat, i ≤ l.length ∧ vi = .int .i64 i ∧ BdAt w wr w.heap.size (l.take i)) (fun vi _ _ => l.length - (intOf vi).toNat)
  case atStart => exact ⟨0, by omega, rfl, by rw [List.take_zero]; exact hD⟩
  case round =>
    obtain ⟨i, hi, rfl, hBi⟩ := hrel
    clear hD
    by_cases hlt : i < l.length
    · obtain ⟨gl, cap, hv2, hrange⟩ := cms_range ho hlt
      rw [hv] at hv2
      injection hv2 with e1 e2 e3
      subst e1 e3
      clear e2
      have hc := hok l[i] (List.getElem_mem hlt)
      have HT : Hid (l.take (i + 1) = l.take i ++ [l[i]]) := by
        rw [Hid, List.take_add_one, List.getElem?_eq_getElem hlt]
        rfl
      have hrg := hrange
      have hrg2 : wr.rangeAt gl (i * 4) (cmV l[i]) := fun j u hu => hBi.tch.cell (hrange j u hu) (fun q => q)
      clear hrg hrange
      generalize l[i] = c at *
      obtain ⟨cl, cn, cf, cd⟩ := c
      have hl0 : 0 ≤ cl := hc.l0
      have hl1 : cl < 272 := hc.l1
      obtain ⟨li, rfl⟩ := Int.eq_ofNat_of_zero_le hl0
      have hli2 : li < 272 := by omega
      have HBi : Hid (BdAt w wr w.heap.size (l.take i)) := hBi
      have hwrs := World.rowIs.lt hBi.far
      have hcl := cnt_le (l.take i) li
      have hlt2 : (l.take i).length ≤ 4096 := by rw [List.length_take]; omega
      have hi4 : (i : Int) < l.length := by omega
      by_cases hcp : 256 ≤ (li : Int)
      · obtain ⟨_, _, d3, d4, _⟩ := hc.copy hcp
        have d3' : 0 ≤ cf := d3
        have d4' : cf < 16 := d4
        clear d3 d4
        obtain ⟨fi, rfl⟩ := Int.eq_ofNat_of_zero_le d3'
        have hcf := cnt_le (l.take i) fi
        have hfi2 : fi < 16 := by omega
        have hD : isC (⟨(li : Int), cn, (fi : Int), cd⟩ : Cm) = true := decide_eq_true hcp
        have HTF : Hid (cntF (l.take i ++ [(⟨(li : Int), cn, (fi : Int), cd⟩ : Cm)]) = upd (cntF (l.take i)) fi (cntF (l.take i) fi + 1)) := by rw [Hid, cntF_upd hcp (by show 0 ≤ (fi : Int); omega)]; rfl
        have HR4 : Hid _ := cmd_laid wr (⟨(li : Int), cn, (fi : Int), cd⟩ : Cm)
        have HT4 : Hid _ := cmd_laidT wr (cellsL 4 (iV (cmI (⟨(li : Int), cn, (fi : Int), cd⟩ : Cm))))
        have hIC := fun W => isCopy_any W (⟨(li : Int), cn, (fi : Int), cd⟩ : Cm)
        rw [hD] at hIC
        have HIC : Hid _ := hIC
        have HTT : Hid (l.take (i + 1) = l.take i ++ [(⟨(li : Int), cn, (fi : Int), cd⟩ : Cm)]) := HT.out
        clear hBi hIC hD hc ho hok HT hol
        go_wp2_with (first
          | (go_at_call 100; refine (HIC.out _).mono ?_; rintro e w6 ⟨rfl, t6⟩; obtain ⟨y0, y1, y2, y3⟩ := cmd_cells (t6.rowIs r5c (fun q => q)); have kF : w6.cell? ⟨w.heap.size + 1 + 1, fi, none⟩ = some (.int .i64 (cntF (l.take i) fi)) := World.rowIs.cell (t6.rowIs s2 (fun q => q)) hfi2; have fF := World.rowIs.frozen (t6.rowIs s2 (fun q => q)))
          | (refine wpList_load_cmd (⟨(li : Int), cn, (fi : Int), cd⟩ : Cm) rfl _ rfl rfl r5c ?_)
          | (refine wpList_store_cmd (⟨(li : Int), cn, (fi : Int), cd⟩ : Cm) rfl _ _ rfl rfl rfl (rowIs_new wr _ _ _) ?_; have r4c := HR4.out; have t4 := HT4.out; generalize (wr.alloc (.cells (cellsL 4 zInt).toArray 139)).setCells wr.heap.size 0 (cellsL 4 (iV (cmI (⟨(li : Int), cn, (fi : Int), cd⟩ : Cm)))) = w4 at *; obtain ⟨x0, x1, x2, x3⟩ := cmd_cells r4c; obtain ⟨s0, s1, s2, s3⟩ := HBi.out.letter (c := (⟨(li : Int), cn, (fi : Int), cd⟩ : Cm)) (Nat.le_refl _) t4 rfl; have r5c := World.rowIs.setOther r4c (a := ⟨w.heap.size + 1, li, none⟩) (by show wr.heap.size ≠ w.heap.size + 1; omega) (.int .i64 (cntL (l.take i) li + 1)); have kL : w4.cell? ⟨w.heap.size + 1, li, none⟩ = some (.int .i64 (cntL (l.take i) li)) := World.rowIs.cell (t4.rowIs HBi.out.let_ (fun q => q)) hli2; have fL := World.rowIs.frozen (t4.rowIs HBi.out.let_ (fun q => q)))
          | (refine wpList_load_cmdAt (⟨(li : Int), cn, (fi : Int), cd⟩ : Cm) rfl _ rfl rfl hrg2 ?_)
          | (refine wpList_alloc_row rfl 139 rfl TCmd ?_))
        have hts : Tch NoOld w w6 := s3.trans t6 (fun _ _ q => q)
        have sF := rowIs_upd (t6.rowIs s2 (fun q => q)) fi (cntF (l.take i) fi + 1)
        rw [← HTF.out] at sF
        go_roundw
        case rel =>
          refine ⟨i + 1, by omega, by go_num, ?_⟩
          rw [HTT.out]
          exact ⟨World.rowIs.setOther (t6.rowIs s0 (fun q => q)) (by show w.heap.size ≠ w.heap.size + 1 + 1; omega) _, World.rowIs.setOther (t6.rowIs s1 (fun q => q)) (by show w.heap.size + 1 ≠ w.heap.size + 1 + 1; omega) _, sF, hts.set _ _ (fun q => by have : w.heap.size + 1 + 1 < w.heap.size := q; omega)⟩
        case measure => simp [intOf]; omega
      · have hD : isC (⟨(li : Int), cn, cf, cd⟩ : Cm) = false := decide_eq_false hcp
        have HTF : Hid (cntF (l.take i ++ [(⟨(li : Int), cn, cf, cd⟩ : Cm)]) = cntF (l.take i)) := cntF_same hcp
        have HR4 : Hid _ := cmd_laid wr (⟨(li : Int), cn, cf, cd⟩ : Cm)
        have HT4 : Hid _ := cmd_laidT wr (cellsL 4 (iV (cmI (⟨(li : Int), cn, cf, cd⟩ : Cm))))
        have hIC := fun W => isCopy_any W (⟨(li : Int), cn, cf, cd⟩ : Cm)
        rw [hD] at hIC
        have HIC : Hid _ := hIC
        have HTT : Hid (l.take (i + 1) = l.take i ++ [(⟨(li : Int), cn, cf, cd⟩ : Cm)]) := HT.out
        clear hBi hIC hD hc ho hok HT hol
        go_wp2_with (first
          | (go_at_call 100; refine (HIC.out _).mono ?_; rintro e w6 ⟨rfl, t6⟩)
          | (refine wpList_load_cmd (⟨(li : Int), cn, cf, cd⟩ : Cm) rfl _ rfl rfl r5c ?_)
          | (refine wpList_store_cmd (⟨(li : Int), cn, cf, cd⟩ : Cm) rfl _ _ rfl rfl rfl (rowIs_new wr _ _ _) ?_; have r4c := HR4.out; have t4 := HT4.out; generalize (wr.alloc (.cells (cellsL 4 zInt).toArray 139)).setCells wr.heap.size 0 (cellsL 4 (iV (cmI (⟨(li : Int), cn, cf, cd⟩ : Cm)))) = w4 at *; obtain ⟨x0, x1, x2, x3⟩ := cmd_cells r4c; obtain ⟨s0, s1, s2, s3⟩ := HBi.out.letter (c := (⟨(li : Int), cn, cf, cd⟩ : Cm)) (Nat.le_refl _) t4 rfl; have r5c := World.rowIs.setOther r4c (a := ⟨w.heap.size + 1, li, none⟩) (by show wr.heap.size ≠ w.heap.size + 1; omega) (.int .i64 (cntL (l.take i) li + 1)); have kL : w4.cell? ⟨w.heap.size + 1, li, none⟩ = some (.int .i64 (cntL (l.take i) li)) := World.rowIs.cell (t4.rowIs HBi.out.let_ (fun q => q)) hli2; have fL := World.rowIs.frozen (t4.rowIs HBi.out.let_ (fun q => q)))
          | (refine wpList_load_cmdAt (⟨(li : Int), cn, cf, cd⟩ : Cm) rfl _ rfl rfl hrg2 ?_)
          | (refine wpList_alloc_row rfl 139 rfl TCmd ?_))
        have hts : Tch NoOld w w6 := s3.trans t6 (fun _ _ q => q)
        go_roundw
        case rel =>
          refine ⟨i + 1, by omega, by go_num, ?_⟩
          rw [HTT.out]
          exact ⟨t6.rowIs s0 (fun q => q), t6.rowIs s1 (fun q => q), by rw [HTF.out]; exact t6.rowIs s2 (fun q => q), hts⟩
        case measure => simp [intOf]; omega
    · have hil : i = l.length := by omega
      subst hil
      rw [List.take_length] at hBi
      have hFL := ForLetters_any wr (cntL l) (cntL_Cnt l hl)
      have hFD := fun W => ForDistances_any W (cntF l) (cntF_Cnt l hl)
      obtain ⟨oL4, oLn, oLf, _⟩ := snd_ok (cntL l) 272 9 (by omega) (by decide) (cntL_Cnt l hl)
      obtain ⟨oF4, oFn, oFf, _⟩ := snd_ok (cntF l) 16 4 (by omega) (by decide) (cntF_Cnt l hl)
      have HLL : Hid (∀ W : World, SAt ((W.alloc (.cells (cellsL 551 zInt).toArray 142)).setCells W.heap.size 0 (sndA (sndOf (cntL l) 272 9) 272 (9 : Nat))) W.heap.size (sndOf (cntL l) 272 9) 272 9) := fun W => snd_laid W _ 272 (9 : Nat)
      have HLF : Hid (∀ W : World, SAt ((W.alloc (.cells (cellsL 551 zInt).toArray 142)).setCells W.heap.size 0 (sndA (sndOf (cntF l) 16 4) 16 (4 : Nat))) W.heap.size (sndOf (cntF l) 16 4) 16 4) := fun W => snd_laid W _ 16 (4 : Nat)
      have HBB : Hid (∀ W : World, BB ((W.alloc (.cells (cellsL 3 (F3 (.slice none 0 0) 0 0)).toArray 102)).setCells W.heap.size 0 (cellsL 3 (F3 (.slice none 0 0) 0 0))) 102 3 F3 W.heap.size [] 0 (.slice none 0 0)) := fun W => BB_new (rowIs_setAll (rowIs_new W _ 3 _) _)
      have HBT : Hid (∀ W : World, Tch NoOld W ((W.alloc (.cells (cellsL 3 (F3 (.slice none 0 0) 0 0)).toArray 102)).setCells W.heap.size 0 (cellsL 3 (F3 (.slice none 0 0) 0 0)))) := fun W => ((Tch.refl NoOld W).alloc _).cells W.heap.size (fun q => absurd q (Nat.lt_irrefl _)) _ _
      have hTA := fun (W : World) r u (L : List Int) (h : BB W 102 3 F3 r L 0 u) b (hS : SAt W b (sndOf (cntL l) 272 9) 272 9) (h1 : b ≠ r) (h2 : u.ownBlock ≠ some b) hL => tell_any box3 h (sndOf (cntL l) 272 9) hS h1 h2 (by omega) oL4 (by omega) oLn oLf hL
      have hTB := fun (W : World) r u (L : List Int) (h : BB W 102 3 F3 r L 0 u) b (hS : SAt W b (sndOf (cntF l) 16 4) 16 4) (h1 : b ≠ r) (h2 : u.ownBlock ≠ some b) hL => tell_any box3 h (sndOf (cntF l) 16 4) hS h1 h2 (by omega) oF4 (by omega) oFn oFf hL
      have htA := tellL_length (sndOf (cntL l) 272 9) 272 9 (by omega) oL4 (by omega)
      have htB := tellL_length (sndOf (cntF l) 16 4) 16 4 (by omega) oF4 (by omega)
      have HBody : Hid (bodyL l = tellL (sndOf (cntL l) 272 9) 272 9 ++ tellL (sndOf (cntF l) 16 4) 16 4 ++ cmdsL (sndOf (cntL l) 272 9) (sndOf (cntF l) 16 4) l) := by
        unfold Hid bodyL sndL sndF
        rw [List.append_assoc]
      have HFD : Hid _ := hFD
      have HTA : Hid _ := hTA
      have HTB : Hid _ := hTB
      have HR : Hid (Try.prog.built 102 [] = some (cellsL 3 (F3 (.slice none 0 0) 0 0)).toArray) := built_row
      have HBi : Hid (BdAt w wr w.heap.size l) := hBi
      have hLr := hBi.let_
      have hFr := hBi.far
      have hwrs := World.rowIs.lt hBi.far
      generalize sndOf (cntL l) 272 9 = A at *
      generalize sndOf (cntF l) 16 4 = B at *
      have nT : ∀ {W W' W'' : World}, Tch NoOld W W' → Tch NoOld W' W'' → Tch NoOld W W'' := fun h k => h.trans k (fun _ _ q => q)
      clear hBi hFD hTA hTB
      go_wp2_with (first
        | (go_at_call 103; refine (HTB.out _ _ _ _ b7 _ (t7.rowIs r6B (not_BT (by omega) (fun q => by cases q))) (by omega) (o7.ne (by omega) (fun q => by cases q)) (by rw [List.nil_append]; omega)).mono ?_; rintro e w8 ⟨rfl, u8, b8, o8, t8⟩)
        | (go_at_call 103; refine (HTA.out _ _ _ _ b6 _ r6A (by omega) (fun q => by cases q) (by simp)).mono ?_; rintro e w7 ⟨rfl, u7, b7, o7, t7⟩)
        | (refine wpList_store_row rfl 102 _ _ rfl rfl rfl (rowIs_new w5 102 3 (F3 (.slice none 0 0) 0 0)) TRow (one3 rfl) ?_; have b6 := HBB.out w5; have t6 := HBT.out w5; have T6 := nT T5 t6; have r6A := t6.rowIs r5A (fun q => q); have r6B := t6.rowIs r5B (fun q => q); have hs6 := r6B.lt; generalize (w5.alloc (.cells (cellsL 3 (F3 (.slice none 0 0) 0 0)).toArray 102)).setCells w5.heap.size 0 (cellsL 3 (F3 (.slice none 0 0) 0 0)) = w6 at *)
        | (refine wpList_build_to rfl 102 _ rfl [] (by simp) _ HR.out ?_)
        | (refine wpList_alloc_row rfl 102 rfl TRow ?_)
        | (refine wpList_store_snd B 16 (4 : Nat) rfl _ _ rfl rfl rfl (rowIs_new w4 _ _ _) ?_; have r5B := HLF.out w4; have t5 := snd_laidT w4 (sndA B 16 (4 : Nat)); have T5 := nT (nT T3 t4) t5; have r5A := t5.rowIs (t4.rowIs r3A (fun q => q)) (fun q => q); have hs5 := World.rowIs.lt r5B; have hs4 := World.rowIs.lt (t4.rowIs r3A (fun q => q)); generalize (w4.alloc (.cells (cellsL 551 zInt).toArray 142)).setCells w4.heap.size 0 (sndA B 16 (4 : Nat)) = w5 at *)
        | (go_at_call 102; refine (HFD.out _).mono ?_; rintro e w4 ⟨rfl, t4⟩)
        | (refine wpList_load_row rfl 140 _ rfl rfl (T3.rowIs hFr (fun q => q)) T16 ?_)
        | (refine wpList_store_snd A 272 (9 : Nat) rfl _ _ rfl rfl rfl (rowIs_new w2 _ _ _) ?_; have r3A := HLL.out w2; have t3 := snd_laidT w2 (sndA A 272 (9 : Nat)); have T3 := nT t2 t3; generalize (w2.alloc (.cells (cellsL 551 zInt).toArray 142)).setCells w2.heap.size 0 (sndA A 272 (9 : Nat)) = w3 at *)
        | (go_at_call 101; refine hFL.mono ?_; rintro e w2 ⟨rfl, t2⟩)
        | (refine wpList_load_row rfl 84 _ rfl rfl hLr T272 ?_)
        | (refine wpList_alloc_row rfl 142 rfl TSnd ?_))
      have TW : Tch NoOld w w6 := nT HBi.out.tch T6
      have resP := T6.rowIs HBi.out.res (fun q => q)
      have ho6 : OwnsC w6 v l := TW.owns ho (fun _ _ q => q)
      have O8 := o7.trans o8 t7.size
      have T8 := t7.trans t8 (BT.next o7)
      have hz2 := t2.size
      have hz4 := t4.size
      have hq7 : w2.heap.size < w4.heap.size := hs4
      have hq8 : w4.heap.size < w5.heap.size := hs5
      have hq6 : w5.heap.size < w6.heap.size := b6.lt
      have hqw : w.heap.size + 2 < w2.heap.size := by omega
      have b8' : BB w8 102 3 F3 w5.heap.size (tellL A 272 9 ++ tellL B 16 4 ++ cmdsL A B (l.take 0)) 0 u8 := by
        have e : tellL A 272 9 ++ tellL B 16 4 ++ cmdsL A B (l.take 0) = [] ++ tellL A 272 9 ++ tellL B 16 4 := by
          rw [List.take_zero]
          show _ ++ [] = _
          rw [List.append_nil, List.nil_append]
        rw [e]
        exact b8
      have hwp := fun (W : World) u (L : List Int) (h : BB W 102 3 F3 w5.heap.size L 0 u) (hA : SAt W w2.heap.size A 272 9) (hB : SAt W w4.heap.size B 16 4) (h1 : u.ownBlock ≠ some w2.heap.size) (h2 : u.ownBlock ≠ some w4.heap.size) (c : Cm) (hc : CmOk c) hL => wput_any box3 h hA hB (by omega) (by omega) h1 h2 oLf oFf c hc hL
      have HWP : Hid _ := hwp
      have hTL : (tellL A 272 9 ++ tellL B 16 4).length ≤ 5480 := by rw [List.length_append]; omega
      clear b7 b8 o7 o8 t7 t8 b6 hwp HTA HTB HFD HLL HLF HBB HBT HR hLr hFr hFL T3 T5 T6 r3A r5A r5B t2 t3 t4 t5 t6 HBi hol
      generalize tellL A 272 9 ++ tellL B 16 4 = LT at *
      go_loopw [10] (fun vi wr => ∃ (i : Nat) (u : Value), i ≤ l.length ∧ vi = .int .i64 i ∧ BB wr 102 3 F3 w5.heap.size (LT ++ cmdsL A B (l.take i)) 0 u ∧ Own w6 (.slice none 0 0) u ∧ Tch (BT w5.heap.size (.slice none 0 0)) w6 wr) (fun vi _ => l.length - (intOf vi).toNat)
      case atStart => exact ⟨0, u8, by omega, rfl, b8', O8, T8⟩
      case round =>
        obtain ⟨i, u, hi, rfl, hBi, hOi, hTi⟩ := hrel
        clear b8' O8 T8
        have hne : ∀ b, b < w6.heap.size → u.ownBlock ≠ some b := fun b hb => hOi.ne hb (fun q => by cases q)
        have hnB : ∀ b, b < w5.heap.size → ¬ BT w5.heap.size (.slice none 0 0) b := fun b hb => not_BT (by omega) (fun q => by cases q)
        by_cases hlt : i < l.length
        · have hoi : OwnsC wr v l := hTi.owns ho6 (fun k hk => hnB k (by have := (World.ownsRow.lt ho k hk).2; omega))
          obtain ⟨gl, cap, hv2, hrange⟩ := cms_range hoi hlt
          rw [hv] at hv2
          injection hv2 with e1 e2 e3
          subst e1 e3
          clear e2
          have hc := hok l[i] (List.getElem_mem hlt)
          have HT : Hid (LT ++ cmdsL A B (l.take (i + 1)) = LT ++ cmdsL A B (l.take i) ++ cmdL A B l[i]) := by
            rw [Hid, List.take_add_one, List.getElem?_eq_getElem hlt]
            show LT ++ cmdsL A B (l.take i ++ [l[i]]) = _
            rw [cmdsL_more, List.append_assoc]
          have hlen := cmdsL_length A B oLf oFf (l.take i) (fun c hcc => hok c (List.mem_of_mem_take hcc))
          have hW := HWP.out _ _ _ hBi (hTi.rowIs r6A (hnB _ (by omega))) (hTi.rowIs r6B (hnB _ (by omega))) (hne _ (by omega)) (hne _ (by omega)) l[i] hc (by rw [List.length_append]; rw [List.length_take] at hlen; omega)
          have hi4 : (i : Int) < l.length := by omega
          generalize l[i] = c at *
          clear hoi hc hBi hok HBody ho ho6 resP r6A r6B HWP hlen
          go_wp2_with (first
            | (go_at_call 104; refine hW.mono ?_; rintro e w9 ⟨rfl, u9, b9, o9, t9⟩)
            | (refine wpList_load_cmdAt c rfl _ rfl rfl hrange ?_))
          go_roundw
          case rel => exact ⟨i + 1, u9, by omega, by go_num, by rw [HT.out]; exact b9, hOi.trans o9 hTi.size, hTi.trans t9 (BT.next hOi)⟩
          case measure => simp [intOf]; omega
        · have hil : i = l.length := by omega
          subst hil
          rw [List.take_length] at hBi
          obtain ⟨rr, ⟨q1, q2, q3⟩, q4⟩ := hBi
          have hres := hTi.rowIs resP (hnB _ (by omega))
          have hFin := rowIs_setAll hres (F3 u rr.hold rr.have_)
          have hu1 : u.oneCell' = true := by
            rcases q2.2 with ⟨e, _⟩ | ⟨g, cap, cur, e, _⟩
            · rw [e]; rfl
            · rw [e]; rfl
          have HFin : Hid _ := hFin
          have HBod : Hid (bodyL l = LT ++ cmdsL A B l) := HBody.out
          clear hFin HBody HWP ho ho6 hok
          go_wp2_with (first
            | (refine wpList_store_row rfl 102 _ _ rfl rfl rfl hres TRow (one3 hu1) ?_)
            | (refine wpList_load_row rfl 102 _ rfl rfl q1 TRow ?_))
          refine bodyPost_ret (post_row TRow rfl _ rfl HFin.out) rfl ?_
          have tC := (Tch.refl (· = w.heap.size) wr).cells w.heap.size (fun _ => rfl) (cellsL 3 (F3 u rr.hold rr.have_)) 0
          refine ⟨u, rr, rfl, tC.owns q2 (fun k hk e => hne k (by have : k = w.heap.size := e; omega) hk), by rw [HBod.out]; exact q4, fun k hk => ?_, ?_⟩
          · rcases hOi with e | ⟨g, g1, g2⟩
            · rw [e] at hk; cases hk
            · rw [g1] at hk
              injection hk with hk
              omega
          · refine ((TW.trans hTi (fun j hj q => ?_)).cells w.heap.size (fun q => absurd q (Nat.lt_irrefl _)) _ _)
            rcases q with q | q
            · exact absurd q (by omega)
            · cases q
end Go.Proofs.Ytmpfgdmdnghhgaa
