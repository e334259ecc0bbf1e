import Derived.Test.YtmpfgdmdnghhgaaC4
import Derived.Test.YtmpfgdmdnghhgaaK9
/- THE DOCUMENT READS THE COMMANDS OF A CODED BLOCK. No Go. -/
namespace Wr

theorem getD_ints8 (Q : List UInt8) (i : Nat) (h : i < Q.length) : (ints8 Q).getD i 0 = (Q[i].toNat : Int) := by
  unfold ints8
  rw [List.getD_eq_getElem?_getD, List.getElem?_map, List.getElem?_eq_getElem h]
  rfl
theorem pB_at (P : List UInt8) (i : Nat) (h : i < P.length) : pB P i = (P[i].toNat : Int) := by
  unfold pB
  rw [List.getD_eq_getElem?_getD, List.getElem?_eq_getElem h]
  rfl
theorem ints8_cat (a b : List UInt8) : ints8 (a ++ b) = ints8 a ++ ints8 b := by unfold ints8; rw [List.map_append]
theorem ints8_len (a : List UInt8) : (ints8 a).length = a.length := by unfold ints8; rw [List.length_map]
theorem take_more (P : List UInt8) (a : Nat) (h : a < P.length) : ints8 (P.take (a + 1)) = ints8 (P.take a) ++ [pB P a] := by
  rw [List.take_add_one, List.getElem?_eq_getElem h, ints8_cat, pB_at P a h]
  rfl
/-- a copy makes what the block has -/
theorem copy_makes (C P : List UInt8) (d : Nat) : ∀ (n a : Nat), 1 ≤ d → d ≤ a → a + n ≤ P.length → (∀ i, i < n → pB P (a - d + i) = pB P (a + i)) → copyList d n (ints8 (C ++ P.take a)) = ints8 (C ++ P.take (a + n))
  | 0, _, _, _, _, _ => rfl
  | n + 1, a, d1, da, han, hs => by
    have hlen : (ints8 (C ++ P.take a)).length = C.length + a := by
      rw [ints8_len, List.length_append, List.length_take]
      omega
    have hg : (ints8 (C ++ P.take a)).getD ((ints8 (C ++ P.take a)).length - d) 0 = pB P a := by
      have h0 := hs 0 (by omega)
      rw [Nat.add_zero, Nat.add_zero] at h0
      rw [hlen, ← h0, ints8_cat, List.getD_eq_getElem?_getD, List.getElem?_append_right (by rw [ints8_len]; omega), ints8_len, show C.length + a - d - C.length = a - d by omega, ← List.getD_eq_getElem?_getD, getD_ints8 _ _ (by rw [List.length_take]; omega), pB_at P _ (by omega), List.getElem_take]
    show copyList d n (ints8 (C ++ P.take a) ++ [(ints8 (C ++ P.take a)).getD ((ints8 (C ++ P.take a)).length - d) 0]) = _
    rw [hg]
    have e : ints8 (C ++ P.take a) ++ [pB P a] = ints8 (C ++ P.take (a + 1)) := by rw [ints8_cat, ints8_cat, List.append_assoc, take_more P a (by omega)]
    rw [e, copy_makes C P d n (a + 1) d1 (by omega) (by omega) (fun i hi => by
      have := hs (i + 1) (by omega)
      rw [show a - d + (i + 1) = a + 1 - d + i by omega, show a + (i + 1) = a + 1 + i by omega] at this
      exact this), show a + 1 + n = a + (n + 1) by omega]

theorem lenMore_nat : ∀ k : Nat, k ≤ 15 → (lenMore k).toNat = k - 7 := by decide
theorem distMore_nat : ∀ d : Nat, d ≤ 15 → 4 ≤ d → (distMore d).toNat = d - 4 ∧ distLeast d = 2 ^ (d - 4) := by decide

section
variable {S : ByteArray} {w : Int} {A B : Snd} {lw dw : List Wd} {cL cF : Nat → Int}
/-- a letter -/
theorem rd_letter {L Y : List Int} {C : List Int} {Nt : List ByteArray} {far : Nat → Int} (hA : Says A 272 lw cL) (x : Nat) (hx : x < 256) (hc : 0 < cL x) (hL : isBits L) (h : TextOf S (L ++ (cmdL A B (letC x) ++ Y))) (g : Nat) (left : Int) (hl : 0 < left) :
    codedGo S lw dw (g + 1) left ⟨atX L.length w, C, Nt, far⟩ = codedGo S lw dw g (left - 1) ⟨atX (L ++ cmdL A B (letC x)).length w, C ++ [(x : Int)], Nt, far⟩ := by
  have e : cmdL A B (letC x) = putL A 272 x := by
    unfold cmdL
    rw [if_neg (by show ¬ (256 : Int) ≤ (x : Int); omega), List.append_nil]
    rfl
  rw [e] at h ⊢
  obtain ⟨r1, r2⟩ := hA x (by omega) hc S L Y w hL h
  conv => lhs; unfold codedGo
  dsimp only
  rw [if_pos ⟨hl, rfl⟩, r1, r2, if_neg (fun q => q rfl), if_pos (by omega)]

/-- a copy -/
theorem rd_copy {L Y : List Int} {C : List Int} {Nt : List ByteArray} {far : Nat → Int} (hA : Says A 272 lw cL) (hB : Says B 16 dw cF) (c : Cm) (k dd : Nat) (hk : c.letter = 256 + (k : Int)) (hk15 : k ≤ 15) (hd : c.far = (dd : Int)) (hd15 : dd ≤ 15) (hok : CmOk c)
    (hcA : 0 < cL (256 + k)) (hcB : 0 < cF dd) (hfar : dd < 4 → far dd = c.dist) (hL : isBits L) (h : TextOf S (L ++ (cmdL A B c ++ Y))) (g : Nat) (left : Int) (hl : 0 < left) (_d1 : 1 ≤ c.dist) (dw1 : c.dist ≤ 16 * 2 ^ w.toNat) (dC : c.dist ≤ C.length) (hn : c.length ≤ left) :
    codedGo S lw dw (g + 1) left ⟨atX L.length w, C, Nt, far⟩ = codedGo S lw dw g (left - c.length) ⟨atX (L ++ cmdL A B c).length w, copyList c.dist.toNat c.length.toNat C, Nt, if dd = 0 then far else nearAdd far c.dist⟩ := by
  have hcp : 256 ≤ c.letter := by omega
  obtain ⟨a1, a2, a3, a4, a5⟩ := hok.copy hcp
  have ek : c.letter - 256 = (k : Int) := by omega
  rw [ek] at a1 a2
  have elm := lenMore_nat k hk15
  rw [elm] at a2
  have e : cmdL A B c = putL A 272 (256 + k) ++ (numBits (c.length - lenLeast k) (k - 7) ++ (putL B 16 dd ++ (if 4 ≤ c.far then numBits (c.dist - distLeast c.far) (distMore c.far).toNat else []))) := by
    unfold cmdL
    rw [if_pos hcp, ek, elm, hk, hd, Int.toNat_natCast, show ((256 : Int) + (k : Int)).toNat = 256 + k by omega]
  rw [e] at h ⊢
  rw [List.append_assoc] at h
  obtain ⟨r1, r2⟩ := hA (256 + k) (by omega) hcA S L _ w hL h
  have hL1 := isBits_cat hL (putL_bits A 272 (256 + k))
  have h2 : TextOf S ((L ++ putL A 272 (256 + k)) ++ (numBits (c.length - lenLeast k) (k - 7) ++ (putL B 16 dd ++ (if 4 ≤ c.far then numBits (c.dist - distLeast c.far) (distMore c.far).toNat else []) ++ Y))) := by
    have := h
    simp only [List.append_assoc] at this ⊢
    exact this
  obtain ⟨s1, s2, s3⟩ := rd_num (w := w) (show 0 ≤ c.length - lenLeast k by omega) (show c.length - lenLeast k < 2 ^ (k - 7) by omega) hL1 h2
  have hL2 := isBits_cat hL1 (numBits_isBits (c.length - lenLeast k) (k - 7))
  have s4 : TextOf S ((L ++ putL A 272 (256 + k) ++ numBits (c.length - lenLeast k) (k - 7)) ++ (putL B 16 dd ++ ((if 4 ≤ c.far then numBits (c.dist - distLeast c.far) (distMore c.far).toNat else []) ++ Y))) := by
    have := s3
    simp only [List.append_assoc] at this ⊢
    exact this
  obtain ⟨t1, t2⟩ := hB dd (by omega) hcB S _ _ w hL2 s4
  have hL3 := isBits_cat hL2 (putL_bits B 16 dd)
  have h4 : TextOf S ((L ++ putL A 272 (256 + k) ++ numBits (c.length - lenLeast k) (k - 7) ++ putL B 16 dd) ++ ((if 4 ≤ c.far then numBits (c.dist - distLeast c.far) (distMore c.far).toNat else []) ++ Y)) := by
    have := s3
    simp only [List.append_assoc] at this ⊢
    exact this
  have eN : copyN S k (atX (L ++ putL A 272 (256 + k)).length w) = c.length := by
    unfold copyN
    rw [s1]
    omega
  have eX : copyX S k (atX (L ++ putL A 272 (256 + k)).length w) = atX (L ++ putL A 272 (256 + k) ++ numBits (c.length - lenLeast k) (k - 7)).length w := s2
  have eD : copyDd S dw k (atX (L ++ putL A 272 (256 + k)).length w) = dd := by
    unfold copyDd
    rw [eX, t1]
  generalize hL3e : L ++ putL A 272 (256 + k) ++ numBits (c.length - lenLeast k) (k - 7) ++ putL B 16 dd = L3 at *
  have key : awayV S far dd (atX L3.length w) = c.dist ∧ awayS S dd (atX L3.length w) = atX (L3 ++ (if 4 ≤ c.far then numBits (c.dist - distLeast c.far) (distMore c.far).toNat else [])).length w := by
    unfold awayV awayS
    by_cases h4d : (dd : Int) < 4
    · rw [if_pos h4d, if_pos h4d, if_neg (by omega), List.append_nil, Int.toNat_natCast]
      exact ⟨hfar (by omega), rfl⟩
    · obtain ⟨x1, x2⟩ := distMore_nat dd hd15 (by omega)
      obtain ⟨y1, y2⟩ := a5 (by omega)
      rw [if_neg h4d, if_neg h4d, if_pos (by omega)]
      rw [if_pos (show 4 ≤ c.far by omega)] at h4
      rw [hd, x2] at y1
      rw [hd, x1, x2] at h4 y2 ⊢
      obtain ⟨z1, z2, _⟩ := rd_num (w := w) (show 0 ≤ c.dist - 2 ^ (dd - 4) by omega) (show c.dist - 2 ^ (dd - 4) < 2 ^ (dd - 4) by omega) hL3 h4
      rw [show ((dd : Int) - 4).toNat = dd - 4 by omega, z1, z2]
      exact ⟨by omega, rfl⟩
  obtain ⟨k1, k2⟩ := key
  have t2' : symS S dw (copyX S k (atX (L ++ putL A 272 (256 + k)).length w)) = atX L3.length w := by rw [eX, t2]
  have eA : ∀ d : Dr, d.x = atX (L ++ putL A 272 (256 + k)).length w → d.far = far → copyAway S dw k d = c.dist := by
    intro d hdx hdf
    unfold copyAway
    rw [hdx, hdf, eD, t2', k1]
  have eLL : L ++ (putL A 272 (256 + k) ++ (numBits (c.length - lenLeast k) (k - 7) ++ (putL B 16 dd ++ (if 4 ≤ c.far then numBits (c.dist - distLeast c.far) (distMore c.far).toNat else [])))) = L3 ++ (if 4 ≤ c.far then numBits (c.dist - distLeast c.far) (distMore c.far).toNat else []) := by
    rw [← hL3e]
    simp only [List.append_assoc]
  rw [eLL]
  generalize L3 ++ (if 4 ≤ c.far then numBits (c.dist - distLeast c.far) (distMore c.far).toNat else []) = L4 at *
  have eS : copyS S dw k left ⟨atX (L ++ putL A 272 (256 + k)).length w, C, Nt, far⟩ = atX L4.length w := by
    unfold copyS
    dsimp only
    rw [eD, t2', k2, eA _ rfl rfl, eN]
    have : copyOk (atX (L ++ putL A 272 (256 + k)).length w).w C.length c.dist c.length left = true := decide_eq_true ⟨dw1, dC, hn⟩
    rw [this, needS_true]
  conv => lhs; unfold codedGo
  dsimp only
  rw [if_pos ⟨hl, rfl⟩, r1, r2, if_neg (fun q => q rfl), if_neg (by omega), show (((256 + k : Nat) : Int) - 256).toNat = k by omega]
  have eC : copyD S dw k left ⟨atX (L ++ putL A 272 (256 + k)).length w, C, Nt, far⟩ = (c.length, ⟨atX L4.length w, copyList c.dist.toNat c.length.toNat C, Nt, if dd = 0 then far else nearAdd far c.dist⟩) := by
    unfold copyD
    rw [eS, if_neg (fun q => q rfl)]
    dsimp only
    rw [eN, eA _ rfl rfl, eD]
    congr 2
    by_cases hz : dd = 0
    · rw [if_pos hz, if_pos (by omega)]
    · rw [if_neg hz, if_neg (by omega)]
  rw [eC]
end
end Wr

/- THE DOCUMENT READS A CODED BLOCK. No Go. -/
namespace Wr

theorem cmdL_bits (A B : Snd) (c : Cm) : isBits (cmdL A B c) := by
  unfold cmdL
  refine isBits_cat (putL_bits _ _ _) ?_
  split
  · refine isBits_cat (numBits_isBits _ _) (isBits_cat (putL_bits _ _ _) ?_)
    split
    · exact numBits_isBits _ _
    · exact fun b hb => by cases hb
  · exact fun b hb => by cases hb
theorem cmdsL_bits (A B : Snd) : ∀ l : List Cm, isBits (cmdsL A B l)
  | [] => fun b hb => by cases hb
  | c :: l => isBits_cat (cmdL_bits A B c) (cmdsL_bits A B l)
/-- every symbol has its count -/
def Counted (cL cF : Nat → Int) (l : List Cm) : Prop := ∀ c ∈ l, 0 < cL c.letter.toNat ∧ (256 ≤ c.letter → 0 < cF c.far.toNat)
theorem counted_self {l : List Cm} (h : ∀ c ∈ l, CmOk c) : Counted (cntL l) (cntF l) l := fun c hc => ⟨cntL_pos hc (h c hc).l0, fun h2 => cntF_pos hc h2 ((h c hc).copy h2).2.2.1⟩

section
variable {S : ByteArray} {w : Int} {A B : Snd} {lw dw : List Wd} {cL cF : Nat → Int}
theorem rd_letters (hA : Says A 272 lw cL) (C P : List UInt8) (Nt : List ByteArray) (far : Nat → Int) : ∀ (n a : Nat) {L Y : List Int}, a + n = P.length → Counted cL cF (lettersC (P.drop a)) → isBits L → TextOf S (L ++ (cmdsL A B (lettersC (P.drop a)) ++ Y)) → ∀ g,
    codedGo S lw dw (g + n) (n : Nat) ⟨atX L.length w, ints8 (C ++ P.take a), Nt, far⟩ = codedGo S lw dw g 0 ⟨atX (L ++ cmdsL A B (lettersC (P.drop a))).length w, ints8 (C ++ P), Nt, far⟩
  | 0, a, L, Y, h, _, _, _, g => by
    have e : P.drop a = [] := List.drop_of_length_le (by omega)
    rw [e, List.take_of_length_le (by omega)]
    show codedGo S lw dw g 0 _ = codedGo S lw dw g 0 ⟨atX (L ++ []).length w, _, _, _⟩
    rw [List.append_nil]
  | n + 1, a, L, Y, h, hc, hL, ht, g => by
    have ha : a < P.length := by omega
    have e : lettersC (P.drop a) = letC (P[a].toNat : Nat) :: lettersC (P.drop (a + 1)) := by
      rw [List.drop_eq_getElem_cons ha]
      rfl
    rw [e] at hc ht ⊢
    have e2 : cmdsL A B (letC (P[a].toNat : Nat) :: lettersC (P.drop (a + 1))) = cmdL A B (letC (P[a].toNat : Nat)) ++ cmdsL A B (lettersC (P.drop (a + 1))) := rfl
    rw [e2, List.append_assoc] at ht
    have hb := P[a].toNat_lt
    have hcc := (hc _ (List.mem_cons_self ..)).1
    have hr := rd_letter (B := B) (dw := dw) (w := w) (C := ints8 (C ++ P.take a)) (Nt := Nt) (far := far) hA P[a].toNat (by omega) hcc hL ht (g + n) ((n + 1 : Nat) : Int) (by omega)
    rw [show g + (n + 1) = g + n + 1 by omega, hr]
    have e3 : ints8 (C ++ P.take a) ++ [(P[a].toNat : Int)] = ints8 (C ++ P.take (a + 1)) := by
      rw [ints8_cat, ints8_cat, List.append_assoc, take_more P a ha, pB_at P a ha]
    rw [e3, show ((n + 1 : Nat) : Int) - 1 = (n : Nat) by omega, rd_letters hA C P Nt far n (a + 1) (Y := Y) (by omega) (fun c hcm => hc c (List.mem_cons_of_mem _ hcm)) (isBits_cat hL (cmdL_bits _ _ _)) (by rw [List.append_assoc]; exact ht) g, e2, List.append_assoc]

theorem rd_copies (hA : Says A 272 lw cL) (hB : Says B 16 dw cF) (C P : List UInt8) (Nt : List ByteArray) (win : Int) (hwin : win = 16 * 2 ^ w.toNat) (hP : P.length ≤ 4096) : ∀ (G a : Nat) (f : Fnd) (far : Nat → Int) {L Y : List Int}, a ≤ P.length → P.length < a + G → FdOk f a → Counted cL cF (copiesGo P win G a f far).1 → isBits L → TextOf S (L ++ (cmdsL A B (copiesGo P win G a f far).1 ++ Y)) → ∀ g, P.length - a ≤ g →
    ∃ g', codedGo S lw dw g (P.length - a : Nat) ⟨atX L.length w, ints8 (C ++ P.take a), Nt, far⟩ = codedGo S lw dw g' 0 ⟨atX (L ++ cmdsL A B (copiesGo P win G a f far).1).length w, ints8 (C ++ P), Nt, (copiesGo P win G a f far).2⟩
  | 0, a, f, far, L, Y, h1, h2, _, _, _, _, g, _ => absurd h2 (by omega)
  | G + 1, a, f, far, L, Y, h1, h2, hf, hc, hL, ht, g, hg => by
    by_cases ha : a < P.length
    · have e : copiesGo P win (G + 1) a f far = ((stepC P win f far a).1 :: (copiesGo P win G (a + (stepC P win f far a).2.2.toNat) (learnGo P (stepC P win f far a).2.2.toNat a f) (stepC P win f far a).2.1).1, (copiesGo P win G (a + (stepC P win f far a).2.2.toNat) (learnGo P (stepC P win f far a).2.2.toNat a f) (stepC P win f far a).2.1).2) := by
        conv => lhs; unfold copiesGo
        rw [if_pos ha]
      rw [e] at hc ht ⊢
      have key : ∀ (c : Cm) (n : Nat) (far' : Nat → Int), stepC P win f far a = (c, far', (n : Int)) → 1 ≤ n → a + n ≤ P.length → (∀ gg (left : Int), 0 < left → (n : Int) ≤ left → (∀ Y', TextOf S (L ++ (cmdL A B c ++ Y')) → codedGo S lw dw (gg + 1) left ⟨atX L.length w, ints8 (C ++ P.take a), Nt, far⟩ = codedGo S lw dw gg (left - n) ⟨atX (L ++ cmdL A B c).length w, ints8 (C ++ P.take (a + n)), Nt, far'⟩)) →
          ∃ g', codedGo S lw dw g (P.length - a : Nat) ⟨atX L.length w, ints8 (C ++ P.take a), Nt, far⟩ = codedGo S lw dw g' 0 ⟨atX (L ++ cmdsL A B ((stepC P win f far a).1 :: (copiesGo P win G (a + (stepC P win f far a).2.2.toNat) (learnGo P (stepC P win f far a).2.2.toNat a f) (stepC P win f far a).2.1).1)).length w, ints8 (C ++ P), Nt, (copiesGo P win G (a + (stepC P win f far a).2.2.toNat) (learnGo P (stepC P win f far a).2.2.toNat a f) (stepC P win f far a).2.1).2⟩ := by
        intro c n far' hst hn hroom hstep
        rw [hst] at hc ht ⊢
        dsimp only at hc ht ⊢
        rw [Int.toNat_natCast] at hc ht ⊢
        have e2 : cmdsL A B (c :: (copiesGo P win G (a + n) (learnGo P n a f) far').1) = cmdL A B c ++ cmdsL A B (copiesGo P win G (a + n) (learnGo P n a f) far').1 := rfl
        rw [e2, List.append_assoc] at ht
        obtain ⟨gg, rfl⟩ : ∃ gg, g = gg + 1 := ⟨g - 1, by omega⟩
        have h3 := hstep gg ((P.length - a : Nat) : Int) (by omega) (by omega) _ ht
        obtain ⟨g', hg'⟩ := rd_copies hA hB C P Nt win hwin hP G (a + n) (learnGo P n a f) far' (L := L ++ cmdL A B c) (Y := Y) hroom (by omega) (learn_ok _ _ _ hf) (fun d hd => hc d (List.mem_cons_of_mem _ hd)) (isBits_cat hL (cmdL_bits _ _ _)) (by rw [List.append_assoc]; exact ht) gg (by omega)
        refine ⟨g', ?_⟩
        rw [h3, show ((P.length - a : Nat) : Int) - (n : Int) = ((P.length - (a + n) : Nat) : Int) by omega, hg', e2, List.append_assoc]
      have hst0 : stepC P win f far a = if 0 < (findC P win f a).1 then ((copyC (findC P win f a).1 (findC P win f a).2 far).1, (copyC (findC P win f a).1 (findC P win f a).2 far).2, (findC P win f a).1) else (letC (pB P a), far, 1) := rfl
      rcases findC_ok (P := P) (win := win) hf with hz | hok
      · rw [hz, if_neg (by show ¬ (0 : Int) < 0; omega)] at hst0
        refine key (letC (pB P a)) 1 far hst0 (Nat.le_refl _) (by omega) (fun gg left hl _ Y' hT => ?_)
        rw [pB_at P a ha] at hT ⊢
        have hb := P[a].toNat_lt
        have hcc := (hc _ (List.mem_cons_self ..)).1
        rw [hst0] at hcc
        have hcc' : 0 < cL P[a].toNat := by
          have := hcc
          rw [pB_at P a ha] at this
          exact this
        have e3 : ints8 (C ++ P.take a) ++ [(P[a].toNat : Int)] = ints8 (C ++ P.take (a + 1)) := by
          rw [ints8_cat, ints8_cat, List.append_assoc, take_more P a ha, pB_at P a ha]
        rw [← e3]
        exact rd_letter hA P[a].toNat (by omega) hcc' hL hT gg left hl
      · obtain ⟨q3, q520, qroom, qd1, qda, qdw, qs⟩ := hok
        rw [if_pos (by omega)] at hst0
        have hcc := hc _ (List.mem_cons_self ..)
        rw [hst0] at hcc
        generalize (findC P win f a).1 = ln at *
        generalize (findC P win f a).2 = d at *
        obtain ⟨n, rfl⟩ := Int.eq_ofNat_of_zero_le (show 0 ≤ ln by omega)
        obtain ⟨dn, rfl⟩ := Int.eq_ofNat_of_zero_le (show 0 ≤ d by omega)
        have hcok : CmOk (copyC (n : Int) (dn : Int) far).1 := copyC_ok q3 q520 qd1 (by omega)
        obtain ⟨fl1, fl2, fl3⟩ := forLen_ok q3 q520
        have hmk : copyList dn n (ints8 (C ++ P.take a)) = ints8 (C ++ P.take (a + n)) := copy_makes C P dn n a (by omega) (by omega) (by omega) (fun i hi => by
          have := qs i (by omega)
          rw [Int.toNat_natCast] at this
          exact this)
        have hlenC : (ints8 (C ++ P.take a)).length = C.length + a := by
          rw [ints8_len, List.length_append, List.length_take]
          omega
        refine key _ n _ hst0 (by omega) (by omega) (fun gg left hl hle Y' hT => ?_)
        unfold copyC at hT hcc hcok ⊢
        cases hn : nearOf far (dn : Int) with
        | some i =>
          rw [hn] at hT hcc hcok
          dsimp only at hT hcc hcok ⊢
          obtain ⟨i4, hi⟩ := nearOf_ok hn
          have hcA : 0 < cL (256 + forLen (n : Int)) := by
            have := hcc.1
            rw [show ((256 : Int) + ((forLen (n : Int) : Nat) : Int)).toNat = 256 + forLen (n : Int) by omega] at this
            exact this
          have hcB : 0 < cF i := by
            have := hcc.2 (by show (256 : Int) ≤ 256 + _; omega)
            rw [Int.toNat_natCast] at this
            exact this
          have hr := rd_copy (w := w) (Nt := Nt) (far := far) (C := ints8 (C ++ P.take a)) hA hB ⟨256 + ((forLen (n : Int) : Nat) : Int), n, (i : Int), dn⟩ (forLen (n : Int)) i rfl fl1 rfl (by omega) hcok hcA hcB (fun _ => hi) hL hT gg left hl qd1 (by rw [← hwin]; exact qdw) (by rw [hlenC]; show (dn : Int) ≤ _; omega) hle
          rw [hr]
          dsimp only
          rw [Int.toNat_natCast, Int.toNat_natCast, hmk]
          unfold useR
          rw [hi]
        | none =>
          rw [hn] at hT hcc hcok
          dsimp only at hT hcc hcok ⊢
          obtain ⟨fd0, fd1, fd2, fd3⟩ := forDist_ok qd1 (by omega)
          have hcA : 0 < cL (256 + forLen (n : Int)) := by
            have := hcc.1
            rw [show ((256 : Int) + ((forLen (n : Int) : Nat) : Int)).toNat = 256 + forLen (n : Int) by omega] at this
            exact this
          have hcB : 0 < cF (forDist (dn : Int)) := by
            have := hcc.2 (by show (256 : Int) ≤ 256 + _; omega)
            rw [Int.toNat_natCast] at this
            exact this
          have hr := rd_copy (w := w) (Nt := Nt) (far := far) (C := ints8 (C ++ P.take a)) hA hB ⟨256 + ((forLen (n : Int) : Nat) : Int), n, ((forDist (dn : Int) : Nat) : Int), dn⟩ (forLen (n : Int)) (forDist (dn : Int)) rfl fl1 rfl fd1 hcok hcA hcB (fun h => absurd h (by omega)) hL hT gg left hl qd1 (by rw [← hwin]; exact qdw) (by rw [hlenC]; show (dn : Int) ≤ _; omega) hle
          rw [hr]
          dsimp only
          rw [Int.toNat_natCast, Int.toNat_natCast, hmk, if_neg (by omega)]
    · have e : copiesGo P win (G + 1) a f far = ([], far) := by
        unfold copiesGo
        rw [if_neg ha]
      have haP : a = P.length := by omega
      rw [e, haP, Nat.sub_self, List.take_length]
      refine ⟨g, ?_⟩
      show codedGo S lw dw g 0 _ = codedGo S lw dw g 0 ⟨atX (L ++ []).length w, _, _, _⟩
      rw [List.append_nil]
end
end Wr
