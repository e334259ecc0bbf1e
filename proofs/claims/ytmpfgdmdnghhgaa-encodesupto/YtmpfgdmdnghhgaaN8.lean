import Derived.Test.YtmpfgdmdnghhgaaN7
/- THE WRITER: letOut, Flush, Finish. -/
namespace Go.Proofs.Ytmpfgdmdnghhgaa
open Go.RowKit Wr

/-- a stream so far -/
structure St where
  k : Wk
  L : List Int
def St.length (s : St) : Nat := s.L.length
def blkT (s : St) (l : Bool) (P : List UInt8) : St := ⟨(blkS s.k s.L l P).1, (blkS s.k s.L l P).2⟩
def letS (s : St) (P : List UInt8) : St := if P = [] then s else blkT s false P
def emptyS (s : St) (l : Bool) : St := ⟨s.k, emptyL s.L l⟩
def noteS (s : St) (P : List UInt8) : St := ⟨s.k, noteL s.L P⟩
def flushS (s : St) (P : List UInt8) : St := if (letS s P).L.length % 8 = 0 then letS s P else emptyS (letS s P) false
def finS (s : St) (P : List UInt8) : St := if P = [] then emptyS s true else ⟨(blkT s true P).k, padL (blkT s true P).L⟩
theorem blkS_ok {k : Wk} (hk : WkOk k) (L : List Int) (l : Bool) (P : List UInt8) : WkOk (blkS k L l P).1 := by
  unfold blkS
  cases codedP k P with
  | none => exact hk
  | some r => exact ⟨hk.l0, hk.l2, hk.w0, hk.w4⟩
theorem blkS_length (k : Wk) (L : List Int) (l : Bool) (P : List UInt8) : (blkS k L l P).2.length ≤ L.length + 22 + 8 * P.length := by
  unfold blkS
  cases hc : codedP k P with
  | none =>
    show (stoL L l P).length ≤ _
    unfold stoL
    have h1 := padL_le (headL L l 1 ++ numBits ((P.length : Int) - 1) 12)
    have h2 := headL_length L l 1
    rw [List.length_append, numBits_length] at h1
    rw [List.length_append, byteBits_length]
    omega
  | some r =>
    obtain ⟨M, far⟩ := r
    have hm := codedP_length hc
    show (codL L l P M).length ≤ _
    unfold codL
    rw [List.length_append, List.length_append, headL_length, numBits_length]
    omega
theorem letS_ok {s : St} (h : WkOk s.k) (P : List UInt8) : WkOk (letS s P).k := by
  unfold letS
  split
  · exact h
  · exact blkS_ok h _ _ _
theorem letS_length (s : St) (P : List UInt8) : (letS s P).L.length ≤ s.L.length + 22 + 8 * P.length := by
  unfold letS
  split
  · omega
  · exact blkS_length _ _ _ _

/-- at rest: all bytes were taken -/
def W0 (w : World) (b : Nat) (s : St) (P : List UInt8) (wv : Value) : Prop := WkOk s.k ∧ WR w b s.k s.L P (s.L.length / 8) (.slice none 0 0) wv
/-- in the midst of a call that began in world w -/
structure Mid (w x : World) (b : Nat) (s : St) (P : List UInt8) (t : Nat) (wv0 u wv : Value) : Prop where
  ok : WkOk s.k
  wr : WR x b s.k s.L P t u wv
  ou : Own w (.slice none 0 0) u
  ow : Own w wv0 wv
  tch : Tch (BT b wv0) w x
section
variable {w : World} {b t : Nat} {s : St} {P : List UInt8} {v wv wv0 u : Value}
theorem W0.mid (h : W0 w b s P wv) : Mid w w b s P (s.L.length / 8) wv (.slice none 0 0) wv := ⟨h.1, h.2, Own.refl _ _, Own.refl _ _, Tch.refl _ _⟩
theorem nilBT {w : World} {b : Nat} {u wv0 : Value} (h : Own w (.slice none 0 0) u) : ∀ j, j < w.heap.size → BT b u j → BT b wv0 j := by
  intro j hj q
  rcases q with q | q
  · exact Or.inl q
  · rcases h with h | ⟨g, h1, h2⟩
    · rw [h] at q; cases q
    · rw [h1] at q
      injection q with q
      omega
/-- bits were added -/
theorem Mid.more {wr w' : World} {L' : List Int} {k' : Wk} {P' : List UInt8} {u' wv' : Value} (h : Mid w wr b s P t wv0 u wv) (hk : WkOk k') (h1 : WR w' b k' L' P' t u' wv') (h2 : Own wr u u') (h3 : wv'.ownBlock = wv.ownBlock) (h4 : Tch (BT b u) wr w') : Mid w w' b ⟨k', L'⟩ P' t wv0 u' wv' :=
  ⟨hk, h1, h.ou.trans h2 h.tch.size, h.ow.trans (Or.inl h3) h.tch.size, h.tch.trans h4 (nilBT h.ou)⟩
/-- all bytes are taken -/
theorem Mid.rest {wr w' : World} (h : Mid w wr b s P t wv0 u wv) (h1 : BB w' 104 10 (FW s.k wv) b s.L (s.L.length / 8) (.slice none 0 0)) (h2 : Tch (· = b) wr w') : W0 w' b s P wv ∧ Own w wv0 wv ∧ Tch (BT b wv0) w w' :=
  ⟨⟨h.ok, ⟨h1, h2.owns h.wr.own (fun g hg e => h.wr.nb (by rw [hg, e])), h.wr.nb, (fun g hg q => by cases q), h.wr.plen⟩⟩, h.ow, h.tch.trans h2 (fun _ _ e => Or.inl e)⟩

set_option maxHeartbeats 600000 in
theorem letOut_W {wr : World} (h : Mid w wr b s P t wv0 u wv) (hL : s.L.length ≤ 500000000000) :
    Calls Try.prog 55 #[.pointer (some ⟨b, 0, none⟩)] wr fun e w' => e = .returned (.tuple #[]) ∧ ∃ u' wv', Mid w w' b (letS s P) [] t wv0 u' wv' := by
  obtain ⟨_, c1, c2, c3, c4⟩ := h.wr.cells
  obtain ⟨qa, qc, rfl⟩ := h.wr.shape
  by_cases hP : P = []
  · subst hP
    have HL : Hid (letS s [] = s) := by rw [Hid, letS, if_pos rfl]
    have c5 : wr.cell? ⟨b, 9, none⟩ = some (.slice qa 0 qc) := c3
    clear c3
    go_enter Try.func55, Try.ntmps55
    go_wp2
    go_end0
    rw [HL.out]
    exact ⟨rfl, u, _, h⟩
  · have HL : Hid (letS s P = blkT s false P) := by rw [Hid, letS, if_neg hP]
    have hpos : 0 < P.length := List.length_pos_iff.2 hP
    have hS := block_W h.wr h.ok false hP hL
    have hposi : 0 < (P.length : Int) := by omega
    have HM : Hid (Mid w wr b s P t wv0 u (.slice qa P.length qc)) := h
    clear h
    go_enter Try.func55, Try.ntmps55
    go_wp2_with (go_at_call 53; refine hS.mono ?_; rintro e w1 ⟨rfl, u1, wv1, hW1, o1, e1, t1⟩)
    go_end0
    rw [HL.out]
    exact ⟨rfl, u1, wv1, HM.out.more (blkS_ok HM.out.ok _ _ _) hW1 o1 e1 t1⟩

/-- the same distances -/
theorem Mid.adds {wr w' : World} {L' : List Int} (h : Mid w wr b s P t wv0 u wv) (ha : Adds wr w' 104 10 (FW s.k wv) b t L' u) : ∃ u', Mid w w' b ⟨s.k, L'⟩ P t wv0 u' wv := by
  obtain ⟨u', h1, h2, h3⟩ := h.wr.adds ha
  exact ⟨u', h.more h.ok h1 h2 rfl h3⟩
theorem mbegin {wr : World} (h : Mid w wr b s P t wv0 u wv) (l : Bool) (kind : Int) (h0 : 0 ≤ kind) (h3 : kind < 4) (hL : s.L.length ≤ 700000000000) :
    Calls Try.prog 57 #[.pointer (some ⟨b, 0, none⟩), .int .i64 kind, .bool l] wr fun e w' => e = .returned (.tuple #[]) ∧ ∃ u', Mid w w' b ⟨s.k, headL s.L l kind⟩ P t wv0 u' wv := by
  refine (begin_W h.wr l kind h0 h3 hL).mono ?_
  rintro e w' ⟨rfl, u', h1, h2, h3⟩
  exact ⟨rfl, u', h.more h.ok h1 h2 rfl h3⟩
theorem mfill {wr : World} (h : Mid w wr b s P t wv0 u wv) (hL : s.L.length ≤ 700000000000) :
    Calls Try.prog 58 #[.pointer (some ⟨b, 0, none⟩)] wr fun e w' => e = .returned (.tuple #[]) ∧ ∃ u', Mid w w' b ⟨s.k, padL s.L⟩ P t wv0 u' wv := by
  refine (fill_B (boxW _ _) h.wr.row (by omega)).mono ?_
  rintro e w' ⟨rfl, ha⟩
  exact ⟨rfl, h.adds ha⟩
theorem mnum {wr : World} (h : Mid w wr b s P t wv0 u wv) (x : Int) (n : Nat) (h0 : 0 ≤ x) (h1 : x < 2 ^ n) (hn : n ≤ 12) (hL : s.L.length ≤ 700000000000) :
    Calls Try.prog 43 #[.pointer (some ⟨b, 0, none⟩), .int .i64 x, .int .i64 n] wr fun e w' => e = .returned (.tuple #[]) ∧ ∃ u', Mid w w' b ⟨s.k, s.L ++ numBits x n⟩ P t wv0 u' wv := by
  refine (number_B (boxW _ _) h.wr.row x n h0 h1 hn (by omega)).mono ?_
  rintro e w' ⟨rfl, ha⟩
  exact ⟨rfl, h.adds ha⟩
theorem mtake {wr : World} (h : Mid w wr b s P t wv0 u wv) :
    Calls Try.prog 54 #[.pointer (some ⟨b, 0, none⟩)] wr fun e w' => e = .returned (.string (outStr (outFrom s.L t))) ∧ W0 w' b s P wv ∧ Own w wv0 wv ∧ Tch (BT b wv0) w w' := by
  refine (take_B (boxW _ _) h.wr.row).mono ?_
  rintro e w' ⟨rfl, h1, h2⟩
  exact ⟨rfl, h.rest h1 h2⟩

set_option maxHeartbeats 600000 in
theorem Flush_W (h : W0 w b s P wv) (hL : s.L.length ≤ 400000000000) :
    Calls Try.prog 45 #[.pointer (some ⟨b, 0, none⟩)] w fun e w' => e = .returned (.string (outStr (outFrom (flushS s P).L (s.L.length / 8)))) ∧ ∃ wv', W0 w' b (flushS s P) [] wv' ∧ Own w wv wv' ∧ Tch (BT b wv) w w' := by
  have h0 := h.mid
  have hpl := h.2.plen
  have hLet := letOut_W h0 (by omega)
  have hll := letS_length s P
  have HF : Hid (flushS s P = if (letS s P).L.length % 8 = 0 then letS s P else emptyS (letS s P) false) := rfl
  have hEv := fun W u' wv' (hM : Mid w W b (letS s P) [] (s.L.length / 8) wv u' wv') => even_B (boxW _ _) hM.wr.row
  have hBe := fun W u' wv' (hM : Mid w W b (letS s P) [] (s.L.length / 8) wv u' wv') => mbegin hM false 0 (by omega) (by omega) (by omega)
  have hFi := fun W u' wv' (hM : Mid w W b ⟨(letS s P).k, headL (letS s P).L false 0⟩ [] (s.L.length / 8) wv u' wv') => mfill hM (by show (headL _ _ _).length ≤ _; rw [headL_length]; omega)
  have hTa := fun W u' wv' s' (hM : Mid w W b s' [] (s.L.length / 8) wv u' wv') => mtake hM
  have HEv : Hid _ := hEv
  have HBe : Hid _ := hBe
  have HFi : Hid _ := hFi
  have HTa : Hid _ := hTa
  have hfz : ∀ W u' wv' s' P', Mid w W b s' P' (s.L.length / 8) wv u' wv' → ∀ o, W.frozen? ⟨b, o, none⟩ = false := fun W u' wv' s' P' hM => hM.wr.cells.2.2.2.2
  have Hfz : Hid _ := hfz
  clear hEv hBe hFi hTa hfz h h0
  by_cases h8 : (letS s P).L.length % 8 = 0
  · have HF2 : Hid (flushS s P = letS s P) := by rw [Hid, HF.out, if_pos h8]
    have hd8 : decide ((letS s P).L.length % 8 = 0) = true := decide_eq_true h8
    generalize letS s P = s1 at *
    rw [hd8] at HEv
    clear HF hd8
    go_enter Try.func45, Try.ntmps45
    go_wp2_with (first
      | (go_at_call 54; refine (HTa.out _ _ _ _ hM1).mono ?_; rintro e w2 ⟨rfl, hR2, ho2, ht2⟩)
      | (go_at_call 56; refine (HEv.out _ _ _ hM1).mono ?_; rintro e w9 ⟨rfl, hw9⟩; obtain rfl := hw9.symm)
      | (go_at_call 55; refine hLet.mono ?_; rintro e w1 ⟨rfl, u1, wv1, hM1⟩))
    go_ret
    rw [HF2.out]
    exact ⟨rfl, wv1, hR2, ho2, ht2⟩
  · have HF2 : Hid (flushS s P = ⟨(letS s P).k, padL (headL (letS s P).L false 0)⟩) := by rw [Hid, HF.out, if_neg h8]; rfl
    have hd8 : decide ((letS s P).L.length % 8 = 0) = false := decide_eq_false h8
    generalize letS s P = s1 at *
    rw [hd8] at HEv
    clear HF hd8
    go_enter Try.func45, Try.ntmps45
    go_wp2_with (first
      | (go_at_call 54; refine (HTa.out _ _ _ _ hM3).mono ?_; rintro e w4 ⟨rfl, hR4, ho4, ht4⟩)
      | (go_at_call 58; refine (HFi.out _ _ _ hM2).mono ?_; rintro e w3 ⟨rfl, u3, hM3⟩)
      | (go_at_call 57; refine (HBe.out _ _ _ hM1).mono ?_; rintro e w2 ⟨rfl, u2, hM2⟩)
      | (go_at_call 56; refine (HEv.out _ _ _ hM1).mono ?_; rintro e w9 ⟨rfl, hw9⟩; obtain rfl := hw9.symm)
      | (go_at_call 55; refine hLet.mono ?_; rintro e w1 ⟨rfl, u1, wv1, hM1⟩))
    go_ret
    rw [HF2.out]
    exact ⟨rfl, wv1, hR4, ho4, ht4⟩

set_option maxHeartbeats 600000 in
theorem Finish_W (h : W0 w b s P wv) (hL : s.L.length ≤ 400000000000) :
    Calls Try.prog 47 #[.pointer (some ⟨b, 0, none⟩)] w fun e w' => e = .returned (.string (outStr (outFrom (finS s P).L (s.L.length / 8)))) ∧ Tch (BT b wv) w w' := by
  have h0 := h.mid
  have hpl := h.2.plen
  obtain ⟨_, c1, c2, c3, c4⟩ := h.2.cells
  obtain ⟨qa, qc, rfl⟩ := h.2.shape
  have hTa := fun W u' wv' s' P' (hM : Mid w W b s' P' (s.L.length / 8) (.slice qa P.length qc) u' wv') => mtake hM
  have HTa : Hid _ := hTa
  by_cases hP : P = []
  · subst hP
    have HF : Hid (finS s [] = ⟨s.k, padL (headL s.L true 0)⟩) := by rw [Hid, finS, if_pos rfl]; rfl
    have c5 : w.cell? ⟨b, 9, none⟩ = some (.slice qa 0 qc) := c3
    have hBe := mbegin h0 true 0 (by omega) (by omega) (by omega)
    have hFi := fun W u' (hM : Mid w W b ⟨s.k, headL s.L true 0⟩ [] (s.L.length / 8) (.slice qa ([] : List UInt8).length qc) u' (.slice qa ([] : List UInt8).length qc)) => mfill hM (by show (headL _ _ _).length ≤ _; rw [headL_length]; omega)
    have HFi : Hid _ := hFi
    clear c3 hFi hTa h0 h
    go_enter Try.func47, Try.ntmps47
    go_wp2_with (first
      | (go_at_call 54; refine (HTa.out _ _ _ _ _ hM2).mono ?_; rintro e w3 ⟨rfl, hR3, ho3, ht3⟩)
      | (go_at_call 58; refine (HFi.out _ _ hM1).mono ?_; rintro e w2 ⟨rfl, u2, hM2⟩)
      | (go_at_call 57; refine hBe.mono ?_; rintro e w1 ⟨rfl, u1, hM1⟩))
    go_ret
    rw [HF.out]
    exact ⟨rfl, ht3⟩
  · have HF : Hid (finS s P = ⟨(blkT s true P).k, padL (blkT s true P).L⟩) := by rw [Hid, finS, if_neg hP]
    have hpos : 0 < P.length := List.length_pos_iff.2 hP
    have hposi : 0 < (P.length : Int) := by omega
    have hS := block_W h.2 h.1 true hP (by omega)
    have hbl := blkS_length s.k s.L true P
    have hFi := fun W u' wv' (hM : Mid w W b (blkT s true P) [] (s.L.length / 8) (.slice qa P.length qc) u' wv') => mfill hM (by show (blkS s.k s.L true P).2.length ≤ _; omega)
    have HFi : Hid _ := hFi
    have HM : Hid (Mid w w b s P (s.L.length / 8) (.slice qa P.length qc) (.slice none 0 0) (.slice qa P.length qc)) := h0
    clear hFi hTa h0 h
    go_enter Try.func47, Try.ntmps47
    go_wp2_with (first
      | (go_at_call 54; refine (HTa.out _ _ _ _ _ hM2).mono ?_; rintro e w3 ⟨rfl, hR3, ho3, ht3⟩)
      | (go_at_call 58; refine (HFi.out _ _ _ hM1).mono ?_; rintro e w2 ⟨rfl, u2, hM2⟩)
      | (go_at_call 53; refine hS.mono ?_; rintro e w1 ⟨rfl, u1, wv1, hW1, o1, e1, t1⟩; have hM1 := HM.out.more (blkS_ok HM.out.ok _ _ _) hW1 o1 e1 t1))
    go_ret
    rw [HF.out]
    exact ⟨rfl, ht3⟩
end
end Go.Proofs.Ytmpfgdmdnghhgaa
