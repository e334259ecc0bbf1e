import Derived.Test.YtmpfgdmdnghhgaaK7
import Derived.Test.YtmpfgdmdnghhgaaK4
/- COMMANDS WALKED: Copies. -/
namespace Go.Proofs.Ytmpfgdmdnghhgaa
open Go.RowKit Wr

section
variable {ops : Array Oper} {rest : List Oper} {op : Oper} {a : Act} {w : World} {Q : Exit → Act → World → Prop} {b : Nat} {t : TypeId} {F : Nat → Value}
theorem wpList_store_cmd (c : Cm) (hgd : op.guard = none) (x y : Operand) (ho : op.op = .store 139 x y) (hx : a.eval x = .pointer (some ⟨b, 0, none⟩)) (hy : a.eval y = .agg #[.int .i64 c.letter, .int .i64 c.length, .int .i64 c.far, .int .i64 c.dist]) (hr : w.rowIs b t 4 F)
    (h : wpList Try.prog ops Q rest (a.put op.dst undef) (w.setCells b 0 (cellsL 4 (iV (cmI c))))) : wpList Try.prog ops Q (op :: rest) a w :=
  wpList_store_row (n := 4) (G := iV (cmI c)) hgd 139 x y ho hx hy hr TCmd (fun _ _ => rfl) h
theorem wpList_load_cmd (c : Cm) (hgd : op.guard = none) (x : Operand) (ho : op.op = .load 139 x) (hx : a.eval x = .pointer (some ⟨b, 0, none⟩)) (hr : w.rowIs b t 4 (iV (cmI c)))
    (h : wpList Try.prog ops Q rest (a.put op.dst (.agg #[.int .i64 c.letter, .int .i64 c.length, .int .i64 c.far, .int .i64 c.dist])) w) : wpList Try.prog ops Q (op :: rest) a w :=
  wpList_load_row (n := 4) hgd 139 x ho hx hr TCmd h
end
theorem cmV_one (c : Cm) : ∀ u ∈ cmV c, u.oneCell' = true := by
  intro u hu
  simp [cmV] at hu
  rcases hu with rfl | rfl | rfl | rfl <;> rfl

/-- where the search stands -/
structure CpAt (w wr : World) (q b g cap : Nat) (P : List UInt8) (win : Int) (vl : Value) (l : List Cm) (a : Nat) (f : Fnd) (far : Nat → Int) : Prop where
  own : OwnsC wr vl l
  fresh : Fresh w vl
  nq : vl.ownBlock ≠ some q
  row : FRow wr q (.slice (some ⟨g, 0, none⟩) P.length cap) win f
  ok : FdOk f a
  rec_ : RRow wr b far
  tch : Tch (· = b) w wr
  len : l.length ≤ a

theorem CpAt.put {w wr w3 w5 w6 : World} {q b g cap : Nat} {P : List UInt8} {win : Int} {vl v' : Value} {l : List Cm} {a n : Nat} {f : Fnd} {far far' : Nat → Int} {c : Cm} {o : Obj}
    (h : CpAt w wr q b g cap P win vl l a f far) (hq : w.heap.size ≤ q) (hb : b < w.heap.size) (hn : 1 ≤ n)
    (t3 : Tch (· = b) wr w3) (r3 : RRow w3 b far')
    (hown : w5.ownsRow 0 139 4 v' (l.length + 1) (cmsV l ++ cmV c)) (hg : (w3.alloc o).grownBy w5 vl.ownBlock) (hat : v'.ownBlock = vl.ownBlock ∨ v'.ownBlock = some (w3.alloc o).heap.size)
    (r6 : FRow w6 q (.slice (some ⟨g, 0, none⟩) P.length cap) win (learnGo P n a f)) (t6 : Tch (· = q) w5 w6) : CpAt w w6 q b g cap P win v' (l ++ [c]) (a + n) (learnGo P n a f) far' := by
  have hqw : q < wr.heap.size := h.row.lt
  have hs3 := t3.size
  have hsw := h.tch.size
  have hs5 := hg.size
  simp at hs5
  have hfr : Fresh w v' := by
    intro k hk
    rcases hat with e | e
    · exact h.fresh k (e.symm.trans hk)
    · rw [e] at hk
      injection hk with hk
      simp at hk
      omega
  have hnq : v'.ownBlock ≠ some q := by
    rcases hat with e | e
    · rw [e]; exact h.nq
    · rw [e]
      intro hk
      injection hk with hk
      simp at hk
      omega
  have hvb : vl.ownBlock ≠ some b := fun e => by have := h.fresh b e; omega
  have t5 : Tch (fun k => vl.ownBlock = some k) w3 w5 := ((Tch.refl _ w3).alloc o).grown hg (fun j _ e => e)
  refine ⟨?_, hfr, hnq, r6, learn_ok _ _ _ h.ok, ?_, ?_, by rw [List.length_append, List.length_singleton]; have := h.len; omega⟩
  · unfold OwnsC
    rw [cmsV_more, List.length_append, List.length_singleton]
    exact t6.owns hown (fun k hk e => hnq (by rw [hk, e]))
  · exact t6.rowIs (t5.rowIs r3 hvb) (by show ¬ b = q; omega)
  · exact ((h.tch.trans t3 (fun _ _ e => e)).trans t5 (fun j hj e => by have := h.fresh j e; omega)).trans t6 (fun j hj e => by have : j = q := e; omega)

theorem CpAt.five {w wr w3 w5 : World} {q b g cap : Nat} {P : List UInt8} {win : Int} {vl : Value} {l : List Cm} {a : Nat} {f : Fnd} {far : Nat → Int} {o : Obj}
    (h : CpAt w wr q b g cap P win vl l a f far) (hq : w.heap.size ≤ q) (hb : b < w.heap.size) (hbt : Bts wr g P) (hgw : g < w.heap.size) (hgb : g ≠ b) (t3 : Tch (· = b) wr w3) (hg : (w3.alloc o).grownBy w5 vl.ownBlock) :
    FRow w5 q (.slice (some ⟨g, 0, none⟩) P.length cap) win f ∧ Bts w5 g P := by
  have t5 : Tch (fun k => vl.ownBlock = some k) w3 w5 := ((Tch.refl _ w3).alloc o).grown hg (fun j _ e => e)
  exact ⟨t5.rowIs (t3.rowIs h.row (by show ¬ q = b; omega)) h.nq, (hbt.keep t3 hgb).keep t5 (fun e => by have := h.fresh g e; omega)⟩
theorem CpAt.own3 {w wr w3 : World} {q b g cap : Nat} {P : List UInt8} {win : Int} {vl : Value} {l : List Cm} {a : Nat} {f : Fnd} {far : Nat → Int}
    (h : CpAt w wr q b g cap P win vl l a f far) (hb : b < w.heap.size) (t3 : Tch (· = b) wr w3) : OwnsC w3 vl l := t3.owns h.own (fun k hk e => by have := h.fresh k hk; have : k = b := e; omega)
theorem cmd_laid (w1 : World) (c : Cm) : ((w1.alloc (.cells (cellsL 4 zInt).toArray 139)).setCells w1.heap.size 0 (cellsL 4 (iV (cmI c)))).rowIs w1.heap.size 139 4 (iV (cmI c)) := rowIs_setAll (rowIs_new w1 _ _ _) _
theorem cmd_laidT (w1 : World) (C : List Value) : Tch NoOld w1 ((w1.alloc (.cells (cellsL 4 zInt).toArray 139)).setCells w1.heap.size 0 C) := ((Tch.refl NoOld w1).alloc _).cells w1.heap.size (fun q => absurd q (Nat.lt_irrefl _)) _ _

set_option maxRecDepth 100000 in
set_option maxHeartbeats 1500000 in
theorem Copies_c (w : World) (b g cap : Nat) (P : List UInt8) (win : Int) (far : Nat → Int) (hb : Bts w g P) (hPl : P.length ≤ 4096) (hw : 0 ≤ win ∧ win ≤ 4096) (hr : RRow w b far) (hg : g < w.heap.size) (hgb : g ≠ b) :
    Calls Try.prog 83 #[.slice (some ⟨g, 0, none⟩) P.length cap, .int .i64 win, .pointer (some ⟨b, 0, none⟩)] w fun e w' => ∃ v, e = .returned v ∧ OwnsC w' v (copiesC P win far).1 ∧ Fresh w v ∧ RRow w' b (copiesC P win far).2 ∧ Tch (· = b) w w' := by
  obtain ⟨i0, hi, hz0, hz1, hz2⟩ := info_parts info_cmd
  have HI : Hid (Try.prog.info? 139 = some i0 ∧ i0.zero = some (.agg #[.int .i64 0, .int .i64 0, .int .i64 0, .int .i64 0]) ∧ i0.size = 4 ∧ i0.bytes = 32) := ⟨hi, hz0, hz1, hz2⟩
  clear hi hz0 hz1 hz2
  have hbw := World.rowIs.lt hr
  have hNF := newFinder_any w g P.length cap win
  go_enter Try.func83, Try.ntmps83
  go_wp2_with (go_at_call 105; refine hNF.mono ?_; rintro e w1 ⟨rfl, rF, tF⟩)
  go_loopg [7, 9, 10, 11, 12] (P.length + 1) (fun gh vl va _ _ _ wr => ∃ (a : Nat) (l : List Cm) (f : Fnd) (fr : Nat → Int), a ≤ P.length ∧ P.length < a + gh ∧ va = .int .i64 a ∧ (l ++ (copiesGo P win gh a f fr).1, (copiesGo P win gh a f fr).2) = copiesC P win far ∧ CpAt w wr w.heap.size b g cap P win vl l a f fr)
  case atStart => exact ⟨0, [], fd0, far, by omega, by omega, rfl, rfl, ⟨World.ownsRow_nil _ _ _ _, (fun k hk => by cases hk), (fun q => by cases q), rF, fd0_ok, tF.rowIs hr (fun q => q), tF.mono (fun _ _ q => q.elim), Nat.le_refl _⟩⟩
  case round =>
    obtain ⟨a, l, f, fr, ha, hgh, rfl, he, hC⟩ := hrel
    have HE : Hid ((l ++ (copiesGo P win gk a f fr).1, (copiesGo P win gk a f fr).2) = copiesC P win far) := he
    clear he rF tF hNF
    have hbk : Bts wr g P := hb.keep hC.tch hgb
    by_cases hlt : a < P.length
    · obtain ⟨G, rfl⟩ : ∃ G, gk = G + 1 := ⟨gk - 1, by omega⟩
      have hfind := ffind_any hC.row hbk hPl hw a hlt hC.ok
      have k1 := hbk a hlt
      have b1 := pB_bounds P a
      have hln := hC.len
      have HST : Hid (copiesGo P win (G + 1) a f fr = ((stepC P win f fr a).1 :: (copiesGo P win G (a + (stepC P win f fr a).2.2.toNat) (learnGo P (stepC P win f fr a).2.2.toNat a f) (stepC P win f fr a).2.1).1, (copiesGo P win G (a + (stepC P win f fr a).2.2.toNat) (learnGo P (stepC P win f fr a).2.2.toNat a f) (stepC P win f fr a).2.1).2)) := by
        rw [Hid]
        conv => lhs; unfold copiesGo
        rw [if_pos hlt]
      have HBL : Hid (Try.prog.built 139 [(0, .int .i64 (pB P a))] = some #[.int .i64 (pB P a), .int .i64 0, .int .i64 0, .int .i64 0]) := built_let (pB P a)
      have HCo : Hid (CpAt w wr w.heap.size b g cap P win u7 l a f fr) := hC
      rcases findC_ok (P := P) (win := win) hC.ok with hz | hok
      · rw [hz] at hfind
        have HSt : Hid (stepC P win f fr a = (letC (pB P a), fr, 1)) := by
          unfold Hid stepC
          rw [hz, if_neg (by show ¬ (0 : Int) < 0; omega)]
        have HN : Hid (((l ++ [letC (pB P a)]) ++ (copiesGo P win G (a + 1) (learnGo P 1 a f) fr).1, (copiesGo P win G (a + 1) (learnGo P 1 a f) fr).2) = copiesC P win far) := by
          rw [Hid, ← HE.out, HST.out, HSt.out, List.append_assoc]
          rfl
        clear hC HST HSt HE hb hz
        generalize hx : pB P a = x at *
        clear hx
        have hLe : ∀ W, FRow W w.heap.size (.slice (some ⟨g, 0, none⟩) P.length cap) win f → Bts W g P → Calls Try.prog 108 #[.pointer (some ⟨w.heap.size, 0, none⟩), .int .i64 a, .int .i64 1] W fun e w' => e = .returned (.tuple #[]) ∧ FRow w' w.heap.size (.slice (some ⟨g, 0, none⟩) P.length cap) win (learnGo P 1 a f) ∧ Tch (· = w.heap.size) W w' := fun W h1 h2 => flearn_any h1 h2 (by omega) hPl a 1 (by omega)
        have HLe : Hid _ := hLe
        have HR3 := cmd_laid wr (letC x)
        have HT3 := cmd_laidT wr (cellsL 4 (iV (cmI (letC x))))
        have HR3h : Hid _ := HR3
        have HT3h : Hid _ := HT3
        clear hLe HR3 HT3
        go_wp2_with (first
          | (go_at_call 108; refine (HLe.out _ rF5 hb5).mono ?_; rintro e w6 ⟨rfl, r6, t6⟩)
          | (refine wpList_append_own_at _ rfl (.tmp 38) (.tmp 40) 127 rfl 0 139 i0 (.agg #[.int .i64 0, .int .i64 0, .int .i64 0, .int .i64 0]) 4 32 Try.underlying127 HI.out.1 HI.out.2.1 HI.out.2.2.1 HI.out.2.2.2 rfl (by decide) u7 l.length (cmsV l) (by simp [Act.eval]) (World.ownsRow.alloc hO3.out _) ⟨w3.heap.size, 0, none⟩ 1 1 (cmV (letC x)) (by simp [Act.eval]) rfl (cell_four _ _ _ _ _ _) (cmV_one _) (by unfold maxLen; omega) (by omega) (by simp) ?_; intro v' w5 hown' hgrow hnil hat; obtain ⟨rF5, hb5⟩ := HCo.out.five (Nat.le_refl _) hbw hbk hg hgb t3 hgrow)
          | (refine wpList_load_cmd (letC x) rfl _ rfl rfl r3c ?_)
          | (refine wpList_store_cmd (letC x) rfl _ _ rfl rfl rfl (rowIs_new wr _ _ _) ?_; have r3c := HR3h.out; have t3n := HT3h.out; have t3 : Tch (· = b) wr _ := t3n.mono (fun _ _ q => q.elim); have r3 : RRow _ b fr := t3n.rowIs HCo.out.rec_ (fun q => q); have hO3 : Hid _ := HCo.out.own3 hbw t3; generalize (wr.alloc (.cells (cellsL 4 zInt).toArray 139)).setCells wr.heap.size 0 (cellsL 4 (iV (cmI (letC x)))) = w3 at *)
          | (refine wpList_build_to rfl 139 _ rfl [(0, .int .i64 x)] (by simp [Act.eval]) _ HBL.out ?_)
          | (refine wpList_alloc_row rfl 139 rfl TCmd ?_)
          | (go_at_call 106; refine hfind.mono ?_; rintro e w' ⟨rfl, hw8⟩; obtain rfl := hw8.symm))
        go_roundg G
        case measure => omega
        case rel => exact ⟨a + 1, l ++ [letC x], learnGo P 1 a f, fr, by omega, by omega, by go_num, HN.out, HCo.out.put (Nat.le_refl _) hbw (Nat.le_refl _) t3 r3 hown' hgrow hat r6 t6⟩
      · have HSt : Hid (stepC P win f fr a = ((copyC (findC P win f a).1 (findC P win f a).2 fr).1, (copyC (findC P win f a).1 (findC P win f a).2 fr).2, (findC P win f a).1)) := by
          unfold Hid stepC
          rw [if_pos (by have := hok.l3; omega)]
        obtain ⟨q3, q520, qroom, qd1, qda, qdw, _⟩ := hok
        generalize (findC P win f a).1 = L at *
        generalize (findC P win f a).2 = D at *
        obtain ⟨ln, rfl⟩ := Int.eq_ofNat_of_zero_le (show 0 ≤ L by omega)
        have HN : Hid (((l ++ [(copyC ln D fr).1]) ++ (copiesGo P win G (a + ln) (learnGo P ln a f) (copyC ln D fr).2).1, (copiesGo P win G (a + ln) (learnGo P ln a f) (copyC ln D fr).2).2) = copiesC P win far) := by
          rw [Hid, ← HE.out, HST.out, HSt.out, List.append_assoc]
          rfl
        have hCp := fun W (h : RRow W b fr) => copyOf_any W b fr ln D h (by omega) (by omega) (by omega) (by omega)
        have HCp : Hid _ := hCp
        clear hC HST HSt HE hb hCp
        generalize (copyC ln D fr).1 = c at *
        generalize (copyC ln D fr).2 = far' at *
        generalize hx : pB P a = x at *
        clear hx
        have hLe : ∀ W, FRow W w.heap.size (.slice (some ⟨g, 0, none⟩) P.length cap) win f → Bts W g P → Calls Try.prog 108 #[.pointer (some ⟨w.heap.size, 0, none⟩), .int .i64 a, .int .i64 ln] W fun e w' => e = .returned (.tuple #[]) ∧ FRow w' w.heap.size (.slice (some ⟨g, 0, none⟩) P.length cap) win (learnGo P ln a f) ∧ Tch (· = w.heap.size) W w' := fun W h1 h2 => flearn_any h1 h2 (by omega) hPl a ln (by omega)
        have HLe : Hid _ := hLe
        have HR3 := cmd_laid wr (letC x)
        have HT3 := cmd_laidT wr (cellsL 4 (iV (cmI (letC x))))
        have HR3h : Hid _ := HR3
        have HT3h : Hid _ := HT3
        have hbwr : b < wr.heap.size := by have := HCo.out.tch.size; omega
        clear hLe HR3 HT3
        go_wp2_with (first
          | (go_at_call 108; refine (HLe.out _ rF5 hb5).mono ?_; rintro e w6 ⟨rfl, r6, t6⟩)
          | (refine wpList_append_own_at _ rfl (.tmp 38) (.tmp 40) 127 rfl 0 139 i0 (.agg #[.int .i64 0, .int .i64 0, .int .i64 0, .int .i64 0]) 4 32 Try.underlying127 HI.out.1 HI.out.2.1 HI.out.2.2.1 HI.out.2.2.2 rfl (by decide) u7 l.length (cmsV l) (by simp [Act.eval]) (World.ownsRow.alloc hO3.out _) ⟨w7.heap.size, 0, none⟩ 1 1 (cmV c) (by simp [Act.eval]) rfl (cell_four _ _ _ _ _ _) (cmV_one _) (by unfold maxLen; omega) (by omega) (by simp) ?_; intro v' w5 hown' hgrow hnil hat; obtain ⟨rF5, hb5⟩ := HCo.out.five (Nat.le_refl _) hbw hbk hg hgb t7 hgrow)
          | (refine wpList_load_cmd c rfl _ rfl rfl r7c ?_)
          | (refine wpList_store_cmd c rfl _ _ rfl rfl rfl r4c ?_; have r7c := rowIs_setAll r4c (iV (cmI c)); have r7 : RRow (w4.setCells wr.heap.size 0 (cellsL 4 (iV (cmI c)))) b far' := ((Tch.refl (· = wr.heap.size) w4).cells wr.heap.size (fun _ => rfl) _ 0).rowIs r4 (by show ¬ b = wr.heap.size; omega); have t7 : Tch (· = b) wr (w4.setCells wr.heap.size 0 (cellsL 4 (iV (cmI c)))) := (t3.trans t4 (fun _ _ q => q)).cells wr.heap.size (fun q => absurd q (Nat.lt_irrefl _)) _ 0; have hO3 : Hid _ := HCo.out.own3 hbw t7; generalize w4.setCells wr.heap.size 0 (cellsL 4 (iV (cmI c))) = w7 at *)
          | (go_at_call 107; refine (HCp.out _ r3).mono ?_; rintro e w4 ⟨rfl, r4, t4⟩; have r4c := t4.rowIs r3c (by show ¬ wr.heap.size = b; omega))
          | (refine wpList_store_cmd (letC x) rfl _ _ rfl rfl rfl (rowIs_new wr _ _ _) ?_; have r3c := HR3h.out; have t3n := HT3h.out; have t3 : Tch (· = b) wr _ := t3n.mono (fun _ _ q => q.elim); have r3 : RRow _ b fr := t3n.rowIs HCo.out.rec_ (fun q => q); generalize (wr.alloc (.cells (cellsL 4 zInt).toArray 139)).setCells wr.heap.size 0 (cellsL 4 (iV (cmI (letC x)))) = w3 at *)
          | (refine wpList_build_to rfl 139 _ rfl [(0, .int .i64 x)] (by simp [Act.eval]) _ HBL.out ?_)
          | (refine wpList_alloc_row rfl 139 rfl TCmd ?_)
          | (go_at_call 106; refine hfind.mono ?_; rintro e w' ⟨rfl, hw8⟩; obtain rfl := hw8.symm))
        go_roundg G
        case measure => omega
        case rel => exact ⟨a + ln, l ++ [c], learnGo P ln a f, far', by omega, by omega, by go_num, HN.out, HCo.out.put (Nat.le_refl _) hbw (by omega) t7 r7 hown' hgrow hat r6 t6⟩
    · have haN : a = P.length := by omega
      subst haN
      have HN : Hid (copiesC P win far = (l, fr)) := by
        rw [Hid, ← HE.out]
        obtain ⟨G, rfl⟩ : ∃ G, gk = G + 1 := ⟨gk - 1, by omega⟩
        unfold copiesGo
        rw [if_neg (by omega), List.append_nil]
      clear HE hb hbk
      go_wp2
      go_ret
      rw [HN.out]
      exact ⟨_, rfl, hC.own, hC.fresh, hC.rec_, hC.tch⟩
end Go.Proofs.Ytmpfgdmdnghhgaa
