/- WHAT READING A BLOCK KEEPS. No walk. -/
import Derived.Test.YtmpfgdmdnghhgaaR13
namespace Wr
open Go.Proofs.Ytmpfgdmdnghhgaa

theorem bitS_ge (S : ByteArray) (x : Sr) : x.at_ ≤ (bitS S x).at_ := by
  unfold bitS
  split
  · exact Nat.le_refl _
  · split
    · exact Nat.le_refl _
    · exact Nat.le_succ _
theorem numS_ge {S : ByteArray} {x : Sr} (h : okAt S x) (n : Nat) : x.at_ ≤ (numS S x n).at_ := by
  unfold okAt at h
  unfold numS
  split
  · exact Nat.le_refl _
  · split
    · exact Nat.le_add_right _ _
    · exact h
theorem needS_at_ (x : Sr) (ok : Bool) : (needS x ok).at_ = x.at_ := by
  unfold needS
  split <;> rfl
theorem fillK_ge (S : ByteArray) : ∀ (k : Nat) (x : Sr), x.at_ ≤ (fillK S k x).at_ ∧ (fillK S k x).w = x.w
  | 0, _ => ⟨Nat.le_refl _, rfl⟩
  | k + 1, x => by
    unfold fillK
    split
    · exact ⟨Nat.le_refl _, rfl⟩
    · have ih := fillK_ge S k (needS (bitS S x) (bitV S x == 0))
      rw [needS_at_, needS_w, bitS_w] at ih
      exact ⟨Nat.le_trans (bitS_ge S x) ih.1, ih.2⟩
theorem nameGo_ge {S : ByteArray} {N sz : Nat} : ∀ (k i : Nat) (f : Nat → Int) (x : Sr), okAt S x → x.at_ ≤ (nameGo S N sz k i f x).2.at_
  | 0, _, _, _, _ => Nat.le_refl _
  | k + 1, i, f, x, h => by
    unfold nameGo
    split
    · rw [needS_at_]; exact numS_ge h _
    · refine Nat.le_trans ?_ (nameGo_ge k _ _ _ (needS_ok (numS_ok h _) _))
      rw [needS_at_]; exact numS_ge h _
theorem fullOne_ge {S : ByteArray} {f : Nat → Int} {n : Nat} {x : Sr} (h : okAt S x) : x.at_ ≤ (fullOne S f n x).2.2.at_ := by
  have h1 := numS_ge h 4
  unfold fullOne
  split
  · refine Nat.le_trans h1 ?_
    have := numS_ge (needS_ok (numS_ok h 4) (decide (0 < n))) 2
    rw [needS_at_] at this
    exact this
  · split
    · exact Nat.le_trans h1 (numS_ge (numS_ok h 4) 3)
    · split
      · exact Nat.le_trans h1 (numS_ge (numS_ok h 4) 6)
      · exact h1
theorem fullGo_ge {S : ByteArray} {N : Nat} : ∀ (k : Nat) (f : Nat → Int) (n : Nat) (x : Sr), okAt S x → x.at_ ≤ (fullGo S N k f n x).2.2.at_
  | 0, _, _, _, _ => Nat.le_refl _
  | k + 1, f, n, x, h => by
    unfold fullGo
    split
    · split
      · refine Nat.le_trans ?_ (fullGo_ge k _ _ _ (needS_ok (fullOne_at h) _))
        rw [needS_at_]; exact fullOne_ge h
      · rw [needS_at_]; exact fullOne_ge h
    · exact Nat.le_refl _
theorem codeS_ge {S : ByteArray} {N sz : Nat} {x : Sr} (h : okAt S x) : x.at_ ≤ (codeS S N sz x).at_ := by
  unfold codeS
  split
  · exact Nat.le_trans (Nat.le_trans (bitS_ge S x) (numS_ge (bitS_ok h) 2)) (nameGo_ge _ _ _ _ (numS_ok (bitS_ok h) 2))
  · unfold fullS
    rw [needS_at_]
    exact Nat.le_trans (bitS_ge S x) (fullGo_ge _ _ _ _ (bitS_ok h))
theorem symGo_ge (S : ByteArray) (ws : List Wd) : ∀ (g k : Nat) (m : Int) (x : Sr), x.at_ ≤ (symGo S ws g k m x).2.at_
  | 0, _, _, _ => Nat.le_refl _
  | g + 1, k, m, x => by
    unfold symGo
    split
    · exact Nat.le_refl _
    · split
      · exact Nat.le_refl _
      · refine Nat.le_trans ?_ (symGo_ge S ws g _ _ _)
        rw [needS_at_]; exact bitS_ge S x
theorem symS_ge (S : ByteArray) (ws : List Wd) (x : Sr) : x.at_ ≤ (symS S ws x).at_ := symGo_ge S ws _ _ _ x
theorem awayS_ge {S : ByteArray} {dd : Int} {x : Sr} (h : okAt S x) : x.at_ ≤ (awayS S dd x).at_ := by
  unfold awayS
  split
  · exact Nat.le_refl _
  · exact numS_ge h _
theorem copyS_ge {S : ByteArray} {dw : List Wd} {k : Nat} {left : Int} {d : Dr} (h : okAt S d.x) : d.x.at_ ≤ (copyS S dw k left d).at_ := by
  unfold copyS
  rw [needS_at_]
  exact Nat.le_trans (Nat.le_trans (numS_ge h _) (symS_ge S dw _)) (awayS_ge (symS_at (numS_ok h _)))
theorem copyD_ge {S : ByteArray} {dw : List Wd} {k : Nat} {left : Int} {d : Dr} (h : okAt S d.x) : d.x.at_ ≤ (copyD S dw k left d).2.x.at_ ∧ (copyD S dw k left d).2.notes = d.notes := by
  unfold copyD
  split
  · exact ⟨copyS_ge h, rfl⟩
  · exact ⟨copyS_ge h, rfl⟩

/-- what goes on -/
structure Goon (S : ByteArray) (d e : Dr) (n : Int) : Prop where
  at_ : okAt S e.x
  ge : d.x.at_ ≤ e.x.at_
  w : e.x.w = d.x.w
  far : ∀ i, i < 4 → 1 ≤ e.far i ∧ e.far i ≤ 4095
  out : (e.out.length : Int) ≤ d.out.length + n
theorem codedGo_goon {S : ByteArray} {lw dw : List Wd} (hl : ∀ x ∈ lw, 0 ≤ x.sym ∧ x.sym < 272) (hd : ∀ x ∈ dw, 0 ≤ x.sym ∧ x.sym < 16) : ∀ (g : Nat) (left : Int) (d : Dr), 0 ≤ left → okAt S d.x → (∀ i, i < 4 → 1 ≤ d.far i ∧ d.far i ≤ 4095) →
    Goon S d (codedGo S lw dw g left d) left ∧ (codedGo S lw dw g left d).notes = d.notes
  | 0, left, d, h0, ha, hf => ⟨⟨ha, Nat.le_refl _, rfl, hf, by show (d.out.length : Int) ≤ _; omega⟩, rfl⟩
  | g + 1, left, d, h0, ha, hf => by
    have hb := symV_bounds (N := 272) (S := S) (by omega) hl d.x
    have hs := symS_at (ws := lw) ha
    have hw := symS_w S lw d.x
    have hg := symS_ge S lw d.x
    unfold codedGo
    split
    · rename_i hc
      split
      · exact ⟨⟨hs, hg, hw, hf, by show (d.out.length : Int) ≤ _; omega⟩, rfl⟩
      · split
        · obtain ⟨i1, i2⟩ := codedGo_goon hl hd g (left - 1) { d with x := symS S lw d.x, out := d.out ++ [symV S lw d.x] } (by omega) hs hf
          refine ⟨⟨i1.at_, Nat.le_trans hg i1.ge, i1.w.trans hw, i1.far, ?_⟩, i2⟩
          have := i1.out
          simp only [List.length_append, List.length_singleton] at this
          omega
        · have kp := copyD_keeps (S := S) (dw := dw) (k := (symV S lw d.x - 256).toNat) (left := left) (d := { d with x := symS S lw d.x }) (by omega) hs hd hf h0
          have cg := copyD_ge (S := S) (dw := dw) (k := (symV S lw d.x - 256).toNat) (left := left) (d := { d with x := symS S lw d.x }) hs
          have n1 := kp.n1
          obtain ⟨i1, i2⟩ := codedGo_goon hl hd g (left - (copyD S dw (symV S lw d.x - 256).toNat left { d with x := symS S lw d.x }).1) (copyD S dw (symV S lw d.x - 256).toNat left { d with x := symS S lw d.x }).2 (by omega) kp.at_ kp.far
          have ko : _ = (d.out.length : Int) + _ := kp.out
          have := i1.out
          have kw : _ = (symS S lw d.x).w := kp.w
          have cg1 : (symS S lw d.x).at_ ≤ _ := cg.1
          exact ⟨⟨i1.at_, Nat.le_trans hg (Nat.le_trans cg1 i1.ge), (i1.w.trans kw).trans hw, i1.far, by omega⟩, i2.trans cg.2⟩
    · exact ⟨⟨ha, Nat.le_refl _, rfl, hf, by show (d.out.length : Int) ≤ _; omega⟩, rfl⟩
theorem codedD_goon {S : ByteArray} {d : Dr} (ha : okAt S d.x) (hf : ∀ i, i < 4 → 1 ≤ d.far i ∧ d.far i ≤ 4095) : Goon S d (codedD S d) 4096 ∧ (codedD S d).notes = d.notes := by
  have h1 := numS_ok ha 12
  have h2 : okAt S (codeS S 272 9 (numS S d.x 12)) := code_at h1
  have h3 : okAt S (codedX S d.x) := code_at h2
  have nb := numV_bounds S d.x 12
  rw [show (2 : Int) ^ 12 = 4096 from rfl] at nb
  obtain ⟨i1, i2⟩ := codedGo_goon (S := S) (lw := wsIf (codeS S 272 9 (numS S d.x 12)) (codeC S 272 9 (numS S d.x 12))) (dw := wsIf (codedX S d.x) (codeC S 16 4 (codeS S 272 9 (numS S d.x 12))))
    (wsIf_sym fun q => code_cod (by omega) q) (wsIf_sym fun q => code_cod (by omega) q) 4098 (numV S d.x 12 + 1) { d with x := codedX S d.x } (by omega) h3 hf
  have g : d.x.at_ ≤ (codedX S d.x).at_ := Nat.le_trans (Nat.le_trans (numS_ge ha 12) (codeS_ge h1)) (codeS_ge h2)
  have w3 : (codedX S d.x).w = d.x.w := by unfold codedX; rw [codeS_w, codeS_w, numS_w]
  exact ⟨⟨i1.at_, Nat.le_trans g i1.ge, i1.w.trans w3, i1.far, Int.le_trans i1.out (by show (d.out.length : Int) + (numV S d.x 12 + 1) ≤ (d.out.length : Int) + 4096; omega)⟩, i2⟩
theorem bytesGo_ge {S : ByteArray} : ∀ (n : Nat) (x : Sr), okAt S x → x.at_ ≤ (bytesGo S n x).2.at_ ∧ (bytesGo S n x).2.w = x.w ∧ okAt S (bytesGo S n x).2 ∧ (bytesGo S n x).1.length ≤ n
  | 0, _, h => ⟨Nat.le_refl _, rfl, h, Nat.le_refl _⟩
  | n + 1, x, h => by
    unfold bytesGo
    split
    · exact ⟨Nat.le_refl _, rfl, h, Nat.zero_le _⟩
    · split
      · exact ⟨numS_ge h 8, numS_w _ _ _, numS_ok h 8, Nat.zero_le _⟩
      · have ih := bytesGo_ge (S := S) n (numS S x 8) (numS_ok h 8)
        exact ⟨Nat.le_trans (numS_ge h 8) ih.1, ih.2.1.trans (numS_w _ _ _), ih.2.2.1, by simp only [List.length_cons]; omega⟩

/-- where a block begins -/
structure RIn (S : ByteArray) (d : Dr) : Prop where
  at_ : okAt S d.x
  far : ∀ i, i < 4 → 1 ≤ d.far i ∧ d.far i ≤ 4095
  w : d.x.state = 0 → 0 ≤ d.x.w ∧ d.x.w ≤ 8
  out : (d.out.length : Int) ≤ 4096 * d.x.at_
  notes : d.notes.length ≤ d.x.at_
theorem block_in {S : ByteArray} {d : Dr} (hi : RIn S d) (h0 : d.x.state = 0) : RIn S (blockD S d).2 ∧ ((blockD S d).2.x.state = 0 → d.x.at_ + 3 ≤ (blockD S d).2.x.at_) := by
  have hb := bitS_ok hi.at_
  have hx : okAt S (blockX S d.x) := numS_ok hb 2
  have hw : (blockX S d.x).w = d.x.w := (numS_w _ _ _).trans (bitS_w _ _)
  have hg : d.x.at_ ≤ (blockX S d.x).at_ := Nat.le_trans (bitS_ge S d.x) (numS_ge hb 2)
  have w0 := hi.w h0
  have o := hi.out
  have nt := hi.notes
  have h3 : (blockX S d.x).state = 0 → (blockX S d.x).at_ = d.x.at_ + 3 := by
    intro q
    have q1 : (bitS S d.x).state = 0 := numS_state q
    unfold blockX at q ⊢
    unfold numS at q ⊢
    rw [if_neg (fun r => r q1)] at q ⊢
    split
    · unfold bitS at q1 ⊢
      rw [if_neg (fun r => r h0)] at q1 ⊢
      split
      · rename_i r
        rw [if_pos r] at q1
        cases q1
      · rfl
    · rename_i r
      rw [if_neg r] at q
      cases q
  unfold blockD
  split
  · rename_i q
    exact ⟨⟨hx, hi.far, fun r => absurd r q, by show (d.out.length : Int) ≤ 4096 * ((blockX S d.x).at_ : Int); omega, by show d.notes.length ≤ (blockX S d.x).at_; omega⟩, fun r => absurd r q⟩
  · rename_i q
    have q := h3 (Decidable.not_not.1 q)
    split
    · have hf := fillK_ge S ((8 - (blockX S d.x).at_ % 8) % 8) (blockX S d.x)
      have hfo := fillS_ok hx
      have hf1 : (blockX S d.x).at_ ≤ (fillS S (blockX S d.x)).at_ := hf.1
      have hf2 : (fillS S (blockX S d.x)).w = (blockX S d.x).w := hf.2
      dsimp only
      split
      · exact ⟨⟨hfo, hi.far, fun _ => by show 0 ≤ (fillS S (blockX S d.x)).w ∧ (fillS S (blockX S d.x)).w ≤ 8; rw [hf2, hw]; exact w0, by first | omega | (dsimp only; omega), by first | omega | (dsimp only; omega)⟩, fun _ => by first | omega | (dsimp only; omega)⟩
      · exact ⟨⟨hx, hi.far, fun _ => by show 0 ≤ (blockX S d.x).w ∧ (blockX S d.x).w ≤ 8; rw [hw]; exact w0, by first | omega | (dsimp only; omega), by first | omega | (dsimp only; omega)⟩, fun _ => by first | omega | (dsimp only; omega)⟩
    · split
      · have h12 := numS_ok hx 12
        have nb := numV_bounds S (blockX S d.x) 12
        rw [show (2 : Int) ^ 12 = 4096 from rfl] at nb
        have hf := fillK_ge S ((8 - (numS S (blockX S d.x) 12).at_ % 8) % 8) (numS S (blockX S d.x) 12)
        have hf1 : (numS S (blockX S d.x) 12).at_ ≤ (fillS S (numS S (blockX S d.x) 12)).at_ := hf.1
        have hf2 : (fillS S (numS S (blockX S d.x) 12)).w = (numS S (blockX S d.x) 12).w := hf.2
        have by_ := bytesGo_ge (S := S) (numV S (blockX S d.x) 12 + 1).toNat _ (fillS_ok h12)
        have hge := numS_ge hx 12
        have e : storedR S d.x = bytesGo S (numV S (blockX S d.x) 12 + 1).toNat (fillS S (numS S (blockX S d.x) 12)) := rfl
        rw [← e] at by_
        obtain ⟨b1, b2, b3, b4⟩ := by_
        refine ⟨⟨b3, hi.far, fun _ => by show 0 ≤ (storedR S d.x).2.w ∧ (storedR S d.x).2.w ≤ 8; rw [b2, hf2, numS_w, hw]; exact w0, ?_, by dsimp only; omega⟩, fun _ => by dsimp only; omega⟩
        dsimp only
        rw [List.length_append]
        omega
      · split
        · have cg := codedD_goon (S := S) (d := { d with x := blockX S d.x }) hx hi.far
          have c1 := cg.1.out
          have c2 : (blockX S d.x).at_ ≤ _ := cg.1.ge
          have c3 : _ = (blockX S d.x).w := cg.1.w
          have c4 : _ = d.notes := cg.2
          dsimp only at c1
          exact ⟨⟨cg.1.at_, cg.1.far, fun _ => by rw [c3, hw]; exact w0, by dsimp only; omega, by dsimp only; rw [c4]; omega⟩, fun _ => by dsimp only; omega⟩
        · have h8 := numS_ok hx 8
          have hf := fillK_ge S ((8 - (numS S (blockX S d.x) 8).at_ % 8) % 8) (numS S (blockX S d.x) 8)
          have hf1 : (numS S (blockX S d.x) 8).at_ ≤ (fillS S (numS S (blockX S d.x) 8)).at_ := hf.1
          have hf2 : (fillS S (numS S (blockX S d.x) 8)).w = (numS S (blockX S d.x) 8).w := hf.2
          have by_ := bytesGo_ge (S := S) (numV S (blockX S d.x) 8).toNat _ (fillS_ok h8)
          have hge := numS_ge hx 8
          have e : noteR S d.x = bytesGo S (numV S (blockX S d.x) 8).toNat (fillS S (numS S (blockX S d.x) 8)) := rfl
          rw [← e] at by_
          obtain ⟨b1, b2, b3, _⟩ := by_
          refine ⟨⟨b3, hi.far, fun _ => by show 0 ≤ (noteR S d.x).2.w ∧ (noteR S d.x).2.w ≤ 8; rw [b2, hf2, numS_w, hw]; exact w0, by dsimp only; omega, ?_⟩, fun _ => by dsimp only; omega⟩
          dsimp only
          split
          · simp only [List.length_append, List.length_singleton]
            omega
          · omega
end Wr
