import Derived.Test.YtmpfgdmdnghhgaaN12
import Derived.Test.YtmpfgdmdnghhgaaC6
/- AN ENCODER's STREAM, READ BY THE DOCUMENT. -/
namespace Go.Proofs.Ytmpfgdmdnghhgaa
open Go.RowKit Wr

theorem head_bits {L : List Int} (h : isBits L) (l : Bool) (k : Int) : isBits (headL L l k) := isBits_cat (isBits_cat h (numBits_isBits _ _)) (numBits_isBits _ _)
theorem pad_bits {L : List Int} (h : isBits L) : isBits (padL L) := isBits_cat h (numBits_isBits _ _)
theorem bits_nil : isBits [] := fun b hb => by cases hb
theorem pad_none {L : List Int} (h : L.length % 8 = 0) : padL L = L := by
  have e : fillN L.length = 0 := by unfold fillN; omega
  unfold padL
  rw [e]
  show L ++ [] = L
  rw [List.append_nil]
/- bytes -/
def Ext (L L' : List Int) : Prop := ∃ X, L' = L ++ X
theorem Ext.refl (L : List Int) : Ext L L := ⟨[], by rw [List.append_nil]⟩
theorem Ext.trans {a b c : List Int} (h : Ext a b) (k : Ext b c) : Ext a c := by
  obtain ⟨x, rfl⟩ := h
  obtain ⟨y, rfl⟩ := k
  exact ⟨x ++ y, List.append_assoc _ _ _⟩
theorem ext_more (L X : List Int) : Ext L (L ++ X) := ⟨X, rfl⟩
theorem ext_head (L : List Int) (l : Bool) (k : Int) : Ext L (headL L l k) := (ext_more _ _).trans (ext_more _ _)
theorem ext_pad (L : List Int) : Ext L (padL L) := ext_more _ _
theorem ext_blk (k : Wk) (L : List Int) (l : Bool) (P : List UInt8) : Ext L (blkS k L l P).2 := by
  unfold blkS
  cases codedP k P with
  | none => exact ((ext_head L l 1).trans (ext_more _ _)).trans ((ext_pad _).trans (ext_more _ _))
  | some r => exact ((ext_head L l 2).trans (ext_more _ _)).trans (ext_more _ _)
theorem ext_let (s : St) (P : List UInt8) : Ext s.L (letS s P).L := by
  unfold letS
  split
  · exact Ext.refl _
  · exact ext_blk _ _ false P
theorem ext_note (L : List Int) (P : List UInt8) : Ext L (noteL L P) := ((ext_head L false 3).trans (ext_more _ _)).trans ((ext_pad _).trans (ext_more _ _))
theorem ext_flush (s : St) (P : List UInt8) : Ext s.L (flushS s P).L := by
  unfold flushS
  split
  · exact ext_let s P
  · exact (ext_let s P).trans ((ext_head _ _ _).trans (ext_pad _))
theorem ext_fin (s : St) (P : List UInt8) : Ext s.L (finS s P).L := by
  unfold finS
  split
  · exact (ext_head _ _ _).trans (ext_pad _)
  · exact (ext_blk _ _ _ _).trans (ext_pad _)
theorem ext_add (e : St × List UInt8) (c : UInt8) : Ext e.1.L (addS e c).1.L := by
  unfold addS
  split
  · exact ext_blk _ _ _ _
  · exact Ext.refl _
theorem ext_write : ∀ (l : List UInt8) (e : St × List UInt8), Ext e.1.L (writeS e l).1.L
  | [], _e => Ext.refl _
  | c :: l, e => (ext_add e c).trans (ext_write l (addS e c))
theorem bytes_ext {a b : ByteArray} (h : a.data.toList = b.data.toList) : a = b := by
  have := congrArg List.toArray h
  cases a
  cases b
  simpa using this
theorem outStr_cat (a b : List Int) : outStr (a ++ b) = outStr a ++ outStr b := by
  have h : (outStr (a ++ b)).data.toList = (outStr a ++ outStr b).data.toList := by
    rw [ByteArray.data_append, Array.toList_append, outStr_list, outStr_list, outStr_list, List.map_append]
  exact bytes_ext h
def bytesL (L : List Int) : ByteArray := outStr (outFrom L 0)
theorem bytesL_more {L L' : List Int} (h : Ext L L') : bytesL L ++ outStr (outFrom L' (L.length / 8)) = bytesL L' := by
  obtain ⟨X, rfl⟩ := h
  unfold bytesL
  rw [outFrom_more L X 0 (Nat.zero_le _), outStr_cat]
theorem bytesL_list (L : List Int) : (bytesL L).data.toList = bytesOf (Wr.valOf L) (L.length / 8) := by
  unfold bytesL outFrom
  rw [outStr_list, List.map_map, Nat.sub_zero]
  unfold bytesOf
  refine List.map_congr_left fun j _ => ?_
  show UInt8.ofNat (Wr.valOf L / 2 ^ (8 * (0 + j)) % 256).toNat = _
  rw [Nat.zero_add]
theorem bytesL_size (L : List Int) : (bytesL L).size = L.length / 8 := by
  unfold bytesL outFrom
  rw [outStr_sz, List.length_map, List.length_range, Nat.sub_zero]

theorem text_bytes {M : List Int} (hb : isBits M) (h8 : M.length % 8 = 0) : TextOf (bytesL M) M := by
  have vb := valOf_bounds _ hb
  have e : 8 * (M.length / 8) = M.length := by omega
  refine ⟨?_, ?_⟩
  · rw [bytesL_list, valB_bytes _ vb.1, e, Int.emod_eq_of_lt vb.1 vb.2]
  · rw [bytesL_size]; omega
section
variable {S : ByteArray} {L Y : List Int} {w : Int}
theorem rd_bytes : ∀ (P : List UInt8) {L Y : List Int}, isBits L → TextOf S (L ++ (byteBits P ++ Y)) → bytesGo S P.length (atX L.length w) = (ints8 P, atX (L ++ byteBits P).length w)
  | [], L, Y, _, _ => by
    show (([] : List Int), atX L.length w) = ([], atX (L ++ []).length w)
    rw [List.append_nil]
  | c :: P, L, Y, hL, h => by
    have cb := byte_bounds c
    have hh : TextOf S (L ++ (numBits (c.toNat : Int) 8 ++ (byteBits P ++ Y))) := by
      have := h
      rw [show byteBits (c :: P) = numBits (c.toNat : Int) 8 ++ byteBits P from rfl, List.append_assoc] at this
      exact this
    obtain ⟨a, b, t⟩ := rd_num (w := w) cb.1 (show (c.toNat : Int) < 2 ^ 8 by show _ < (256 : Int); omega) hL hh
    have ih := rd_bytes P (isBits_cat hL (numBits_isBits _ _)) t
    show bytesGo S (P.length + 1) (atX L.length w) = _
    unfold bytesGo
    rw [if_neg (fun q => q rfl), a, b, if_neg (fun q => q rfl), ih]
    show ((c.toNat : Int) :: ints8 P, atX ((L ++ numBits (c.toNat : Int) 8) ++ byteBits P).length w) = (ints8 (c :: P), atX (L ++ byteBits (c :: P)).length w)
    rw [List.append_assoc]
    rfl
end

def drAt (n : Nat) (w : Int) (C : List UInt8) (N : List ByteArray) (far : Nat → Int) : Dr := ⟨atX n w, ints8 C, N, far⟩
/-- a block's head -/
theorem rd_head {S : ByteArray} {L Y : List Int} {w : Int} (l : Bool) {kind : Int} (h0 : 0 ≤ kind) (h4 : kind < 4) (hL : isBits L) (h : TextOf S (headL L l kind ++ Y)) :
    bitV S (atX L.length w) = lastI l ∧ numV S (bitS S (atX L.length w)) 2 = kind ∧ blockX S (atX L.length w) = atX (headL L l kind).length w := by
  have hl : 0 ≤ lastI l ∧ lastI l < 2 := by cases l <;> decide
  have h' : TextOf S (L ++ (numBits (lastI l) 1 ++ (numBits kind 2 ++ Y))) := by
    have := h
    unfold headL at this
    rw [List.append_assoc, List.append_assoc] at this
    exact this
  obtain ⟨a1, b1, c1⟩ := rd_bit (w := w) hl.1 hl.2 hL h'
  obtain ⟨a2, b2, c2⟩ := rd_num (w := w) h0 (show kind < 2 ^ 2 by show kind < 4; omega) (isBits_cat hL (numBits_isBits _ _)) c1
  unfold blockX
  rw [b1]
  exact ⟨a1, a2, b2⟩
theorem rd_pad {S : ByteArray} {M Y : List Int} {w : Int} (hM : isBits M) (h : TextOf S (padL M ++ Y)) : fillS S (atX M.length w) = atX (padL M).length w := by
  have h' : TextOf S (M ++ (numBits 0 (fillN M.length) ++ Y)) := by
    have := h
    unfold padL at this
    rw [List.append_assoc] at this
    exact this
  exact rd_fill (fillN M.length) hM h'
theorem lastI_beq (l : Bool) : (lastI l == 1) = l := by cases l <;> rfl

theorem block_stored {S : ByteArray} {L : List Int} {w : Int} {C : List UInt8} {N : List ByteArray} {far : Nat → Int} (l : Bool) (P : List UInt8) (hP : P ≠ []) (h4 : P.length ≤ 4096) (hL : isBits L) {R : List Int} (h : TextOf S (stoL L l P ++ R)) :
    blockD S (drAt L.length w C N far) = (l, drAt (stoL L l P).length w (C ++ P) N far) := by
  have hpos : 0 < P.length := List.length_pos_iff.2 hP
  have hH := head_bits hL l 1
  have h1 : TextOf S (headL L l 1 ++ (numBits ((P.length : Int) - 1) 12 ++ (numBits 0 (fillN (headL L l 1 ++ numBits ((P.length : Int) - 1) 12).length) ++ (byteBits P ++ R)))) := by
    have := h
    unfold stoL padL at this
    simp only [List.append_assoc] at this ⊢
    exact this
  obtain ⟨a1, a2, a3⟩ := rd_head (w := w) l (show (0 : Int) ≤ 1 by omega) (by omega) hL h1
  obtain ⟨b1, b2, b3⟩ := rd_num (w := w) (show 0 ≤ (P.length : Int) - 1 by omega) (show (P.length : Int) - 1 < 2 ^ 12 by show _ < (4096 : Int); omega) hH h1
  have hM : isBits (headL L l 1 ++ numBits ((P.length : Int) - 1) 12) := isBits_cat hH (numBits_isBits _ _)
  have h2 : TextOf S (padL (headL L l 1 ++ numBits ((P.length : Int) - 1) 12) ++ (byteBits P ++ R)) := by
    unfold padL
    rw [List.append_assoc]
    exact b3
  have c1 := rd_pad (w := w) hM h2
  have d1 := rd_bytes (w := w) P (pad_bits hM) h2
  have hs : storedR S (atX L.length w) = (ints8 P, atX (stoL L l P).length w) := by
    unfold storedR
    rw [a3, b1, b2, c1, show ((P.length : Int) - 1 + 1).toNat = P.length by omega, d1]
    rfl
  unfold blockD
  rw [show (drAt L.length w C N far).x = atX L.length w from rfl, a3, if_neg (fun q => q rfl), a2, if_neg (by omega), if_pos rfl, a1, lastI_beq]
  show (l, ({ x := (storedR S (atX L.length w)).2, out := ints8 C ++ (storedR S (atX L.length w)).1, notes := N, far := far } : Dr)) = _
  rw [hs]
  unfold drAt ints8
  rw [List.map_append]
theorem block_note {S : ByteArray} {L : List Int} {w : Int} {C : List UInt8} {N : List ByteArray} {far : Nat → Int} (T : ByteArray) (h4 : T.size ≤ 255) (hL : isBits L) {R : List Int} (h : TextOf S (noteL L T.data.toList ++ R)) :
    blockD S (drAt L.length w C N far) = (false, drAt (noteL L T.data.toList).length w C (N ++ [T]) far) := by
  have hTs : T.data.toList.length = T.size := by simp
  have hH := head_bits hL false 3
  have h1 : TextOf S (headL L false 3 ++ (numBits (T.data.toList.length : Int) 8 ++ (numBits 0 (fillN (headL L false 3 ++ numBits (T.data.toList.length : Int) 8).length) ++ (byteBits T.data.toList ++ R)))) := by
    have := h
    unfold noteL padL at this
    simp only [List.append_assoc] at this ⊢
    exact this
  obtain ⟨a1, a2, a3⟩ := rd_head (w := w) false (show (0 : Int) ≤ 3 by omega) (by omega) hL h1
  obtain ⟨b1, b2, b3⟩ := rd_num (w := w) (show 0 ≤ (T.data.toList.length : Int) by omega) (show (T.data.toList.length : Int) < 2 ^ 8 by show _ < (256 : Int); omega) hH h1
  have hM : isBits (headL L false 3 ++ numBits (T.data.toList.length : Int) 8) := isBits_cat hH (numBits_isBits _ _)
  have h2 : TextOf S (padL (headL L false 3 ++ numBits (T.data.toList.length : Int) 8) ++ (byteBits T.data.toList ++ R)) := by
    unfold padL
    rw [List.append_assoc]
    exact b3
  have c1 := rd_pad (w := w) hM h2
  have d1 := rd_bytes (w := w) T.data.toList (pad_bits hM) h2
  have hs : noteR S (atX L.length w) = (ints8 T.data.toList, atX (noteL L T.data.toList).length w) := by
    unfold noteR
    rw [a3, b1, b2, c1, Int.toNat_natCast, d1]
    rfl
  unfold blockD
  rw [show (drAt L.length w C N far).x = atX L.length w from rfl, a3, if_neg (fun q => q rfl), a2, if_neg (by omega), if_neg (by omega), if_neg (by omega), a1, lastI_beq]
  show (false, ({ x := (noteR S (atX L.length w)).2, out := ints8 C, notes := if (noteR S (atX L.length w)).2.state = 0 then N ++ [outStr (noteR S (atX L.length w)).1] else N, far := far } : Dr)) = _
  rw [hs]
  show (false, ({ x := atX (noteL L T.data.toList).length w, out := ints8 C, notes := if (0 : Int) = 0 then N ++ [outStr (ints8 T.data.toList)] else N, far := far } : Dr)) = _
  rw [if_pos rfl, str_back]
  rfl
theorem block_empty {S : ByteArray} {L : List Int} {w : Int} {C : List UInt8} {N : List ByteArray} {far : Nat → Int} (l : Bool) (hL : isBits L) {R : List Int} (h : TextOf S (emptyL L l ++ R)) :
    blockD S (drAt L.length w C N far) = (l, drAt (if l then (headL L l 0).length else (emptyL L l).length) w C N far) ∧ fillS S (atX (headL L l 0).length w) = atX (emptyL L l).length w := by
  have hH := head_bits hL l 0
  have h1 : TextOf S (headL L l 0 ++ (numBits 0 (fillN (headL L l 0).length) ++ R)) := by
    have := h
    unfold emptyL padL at this
    rw [List.append_assoc] at this
    exact this
  obtain ⟨a1, a2, a3⟩ := rd_head (w := w) l (show (0 : Int) ≤ 0 by omega) (by omega) hL h1
  have c1 := rd_pad (w := w) hH (show TextOf S (padL (headL L l 0) ++ R) from h)
  refine ⟨?_, c1⟩
  unfold blockD
  rw [show (drAt L.length w C N far).x = atX L.length w from rfl, a3, if_neg (fun q => q rfl), a2, if_pos rfl, a1, lastI_beq]
  cases l
  · rw [if_pos (show lastI false = 0 from rfl), c1]
    rfl
  · rw [if_neg (show ¬ lastI true = 0 by decide)]
    rfl


/-- a coded block, given how its commands are read -/
theorem block_cmds {S : ByteArray} {L : List Int} {w : Int} {C : List UInt8} {N : List ByteArray} {far far' : Nat → Int} (l : Bool) (P : List UInt8) (hP : P ≠ []) (h4 : P.length ≤ 4096) (hL : isBits L) (cm : List Cm) (hcm : cm.length ≤ 4096) {R : List Int}
    (hgo : ∀ {lw dw : List Wd} {L' : List Int}, Says (sndL cm) 272 lw (cntL cm) → Says (sndF cm) 16 dw (cntF cm) → isBits L' → TextOf S (L' ++ (cmdsL (sndL cm) (sndF cm) cm ++ R)) →
      ∀ g, P.length ≤ g → ∃ g', codedGo S lw dw g (P.length : Nat) ⟨atX L'.length w, ints8 C, N, far⟩ = codedGo S lw dw g' 0 ⟨atX (L' ++ cmdsL (sndL cm) (sndF cm) cm).length w, ints8 (C ++ P), N, far'⟩)
    (h : TextOf S (codL L l P (bodyL cm) ++ R)) :
    blockD S (drAt L.length w C N far) = (l, drAt (codL L l P (bodyL cm)).length w (C ++ P) N far') := by
  have hpos : 0 < P.length := List.length_pos_iff.2 hP
  have hH := head_bits hL l 2
  have h1 : TextOf S (headL L l 2 ++ (numBits ((P.length : Int) - 1) 12 ++ (tellL (sndL cm) 272 9 ++ (tellL (sndF cm) 16 4 ++ (cmdsL (sndL cm) (sndF cm) cm ++ R))))) := by
    have := h
    unfold codL bodyL at this
    simp only [List.append_assoc] at this ⊢
    exact this
  have eC : codL L l P (bodyL cm) = (((headL L l 2 ++ numBits ((P.length : Int) - 1) 12) ++ tellL (sndL cm) 272 9) ++ tellL (sndF cm) 16 4) ++ cmdsL (sndL cm) (sndF cm) cm := by
    unfold codL bodyL
    simp only [List.append_assoc]
  obtain ⟨a1, a2, a3⟩ := rd_head (w := w) l (show (0 : Int) ≤ 2 by omega) (by omega) hL h1
  obtain ⟨b1, b2, b3⟩ := rd_num (w := w) (show 0 ≤ (P.length : Int) - 1 by omega) (show (P.length : Int) - 1 < 2 ^ 12 by show _ < (4096 : Int); omega) hH h1
  have hM : isBits (headL L l 2 ++ numBits ((P.length : Int) - 1) 12) := isBits_cat hH (numBits_isBits _ _)
  rw [eC]
  generalize hM1 : headL L l 2 ++ numBits ((P.length : Int) - 1) 12 = M1 at *
  have sL := cntL_sum 272 cm
  have sF := cntF_sum 16 cm
  obtain ⟨c1, c2⟩ := rd_snd (w := w) (c := cntL cm) (N := 272) (sz := 9) (by omega) (by omega) (by show (272 : Int) ≤ 512; omega) (fun j => (cnt_le cm j).1) (by omega) hM b3
  have hM2 : isBits (M1 ++ tellL (sndL cm) 272 9) := isBits_cat hM (tellL_bits _ _ _)
  have h2 : TextOf S ((M1 ++ tellL (sndL cm) 272 9) ++ (tellL (sndF cm) 16 4 ++ (cmdsL (sndL cm) (sndF cm) cm ++ R))) := by rw [List.append_assoc]; exact b3
  obtain ⟨d1, d2⟩ := rd_snd (w := w) (c := cntF cm) (N := 16) (sz := 4) (by omega) (by omega) (by show (16 : Int) ≤ 16; omega) (fun j => (cnt_le cm j).2.2.1) (by omega) hM2 h2
  have c1' : codeS S 272 9 (atX M1.length w) = atX (M1 ++ tellL (sndL cm) 272 9).length w := c1
  have d1' : codeS S 16 4 (atX (M1 ++ tellL (sndL cm) 272 9).length w) = atX ((M1 ++ tellL (sndL cm) 272 9) ++ tellL (sndF cm) 16 4).length w := d1
  have hM3 : isBits ((M1 ++ tellL (sndL cm) 272 9) ++ tellL (sndF cm) 16 4) := isBits_cat hM2 (tellL_bits _ _ _)
  have h3 : TextOf S (((M1 ++ tellL (sndL cm) 272 9) ++ tellL (sndF cm) 16 4) ++ (cmdsL (sndL cm) (sndF cm) cm ++ R)) := by rw [List.append_assoc]; exact h2
  obtain ⟨g', hg'⟩ := hgo c2 d2 hM3 h3 4098 (by omega)
  unfold blockD
  rw [show (drAt L.length w C N far).x = atX L.length w from rfl, a3, if_neg (fun q => q rfl), a2, if_neg (by omega), if_neg (by omega), if_pos rfl, a1, lastI_beq]
  show (l, codedD S ⟨atX (headL L l 2).length w, ints8 C, N, far⟩) = _
  unfold codedD codedX
  dsimp only
  rw [b1, b2, c1', d1']
  unfold wsIf
  rw [if_pos (show (atX (M1 ++ tellL (sndL cm) 272 9).length w).state = 0 from rfl), if_pos (show (atX ((M1 ++ tellL (sndL cm) 272 9) ++ tellL (sndF cm) 16 4).length w).state = 0 from rfl), show (P.length : Int) - 1 + 1 = ((P.length : Nat) : Int) by omega, hg', codedGo_stop g' (fun q => by have := q.1; omega)]
  rfl

theorem block_coded {S : ByteArray} {L : List Int} {w : Int} {C : List UInt8} {N : List ByteArray} {k : Wk} (l : Bool) (P : List UInt8) (hP : P ≠ []) (h4 : P.length ≤ 4096) (hw : k.wn = 16 * 2 ^ w.toNat) (hL : isBits L) {M : List Int} {far' : Nat → Int} (hc : codedP k P = some (M, far')) {R : List Int} (h : TextOf S (codL L l P M ++ R)) :
    blockD S (drAt L.length w C N k.far) = (l, drAt (codL L l P M).length w (C ++ P) N far') := by
  have hb : bestL k P = (M, far') := by
    unfold codedP at hc
    split at hc
    · cases hc
    · split at hc
      · cases hc
      · injection hc
  unfold bestL at hb
  split at hb
  · have e1 := congrArg Prod.fst hb
    have e2 := congrArg Prod.snd hb
    dsimp only at e1 e2
    subst e1 e2
    obtain ⟨k1, k2⟩ := copiesC_ok (win := k.wn) k.far h4
    refine block_cmds l P hP h4 hL _ k2 (fun hA hB hL' ht g hg => ?_) h
    have := rd_copies (Y := R) (w := w) hA hB C P N k.wn hw h4 (P.length + 1) 0 fd0 k.far (Nat.zero_le _) (by omega) fd0_ok (counted_self k1) hL' ht g (by omega)
    rw [Nat.sub_zero, List.take_zero, List.append_nil] at this
    exact this
  · have e1 := congrArg Prod.fst hb
    have e2 := congrArg Prod.snd hb
    dsimp only at e1 e2
    subst e1 e2
    refine block_cmds l P hP h4 hL _ (by unfold lettersC; rw [List.length_map]; exact h4) (fun {lw dw L'} hA hB hL' ht g hg => ?_) h
    have := rd_letters (Y := R) (B := sndF (lettersC P)) (dw := dw) (cF := cntF (lettersC P)) (w := w) hA C P N k.far P.length 0 (Nat.zero_add _) (counted_self (lettersC_ok P)) hL' ht (g - P.length)
    rw [show g - P.length + P.length = g by omega, List.take_zero, List.append_nil] at this
    exact ⟨_, this⟩

/-- a block of an encoder -/
theorem block_any {S : ByteArray} {L : List Int} {w : Int} {C : List UInt8} {N : List ByteArray} {k : Wk} (l : Bool) (P : List UInt8) (hP : P ≠ []) (h4 : P.length ≤ 4096) (hw : k.wn = 16 * 2 ^ w.toNat) (hL : isBits L) {R : List Int} (h : TextOf S ((blkS k L l P).2 ++ R)) :
    blockD S (drAt L.length w C N k.far) = (l, drAt (blkS k L l P).2.length w (C ++ P) N (blkS k L l P).1.far) := by
  unfold blkS at h ⊢
  cases hc : codedP k P with
  | none => rw [hc] at h; exact block_stored l P hP h4 hL h
  | some r => rw [hc] at h; exact block_coded l P hP h4 hw hL hc h
theorem body_bits (cm : List Cm) : isBits (bodyL cm) := isBits_cat (tellL_bits _ _ _) (isBits_cat (tellL_bits _ _ _) (cmdsL_bits _ _ _))
theorem codedP_bits {k : Wk} {P : List UInt8} {M : List Int} {far : Nat → Int} (h : codedP k P = some (M, far)) : isBits M := by
  unfold codedP at h
  split at h
  · cases h
  · split at h
    · cases h
    · injection h with h
      unfold bestL at h
      split at h
      · injection h with e1 e2
        rw [← e1]
        exact body_bits _
      · injection h with e1 e2
        rw [← e1]
        exact body_bits _
theorem blkS_bits {k : Wk} {L : List Int} (hL : isBits L) (l : Bool) (P : List UInt8) : isBits (blkS k L l P).2 := by
  unfold blkS
  cases hc : codedP k P with
  | none => exact isBits_cat (pad_bits (isBits_cat (head_bits hL _ _) (numBits_isBits _ _))) (byteBits_isBits _)
  | some r => exact isBits_cat (isBits_cat (head_bits hL _ _) (numBits_isBits _ _)) (codedP_bits hc)
theorem blkS_wn (k : Wk) (L : List Int) (l : Bool) (P : List UInt8) : (blkS k L l P).1.wn = k.wn := by
  unfold blkS
  cases codedP k P <;> rfl
theorem blkS_lv (k : Wk) (L : List Int) (l : Bool) (P : List UInt8) : (blkS k L l P).1.lv = k.lv := by
  unfold blkS
  cases codedP k P <;> rfl
theorem blkS_long (k : Wk) (L : List Int) (l : Bool) (P : List UInt8) : L.length + 15 ≤ (blkS k L l P).2.length := by
  unfold blkS
  cases codedP k P with
  | none =>
    show _ ≤ (stoL L l P).length
    unfold stoL
    rw [List.length_append, padL_length, List.length_append, headL_length, numBits_length]
    omega
  | some r =>
    show _ ≤ (codL L l P r.1).length
    unfold codL
    rw [List.length_append, List.length_append, headL_length, numBits_length]
    omega

end Go.Proofs.Ytmpfgdmdnghhgaa

/- AN ENCODER's STREAM, READ BY THE DOCUMENT AND BY THE PROGRAM. -/
namespace Go.Proofs.Ytmpfgdmdnghhgaa
open Go.RowKit Wr

/-- bits that the document reads as the beginning of a stream -/
structure DReads (s : St) (w : Int) (C : List UInt8) (N : List ByteArray) : Prop where
  bits : isBits s.L
  wn : s.k.wn = 16 * 2 ^ w.toNat
  go : ∀ (S : ByteArray) (R : List Int), TextOf S (s.L ++ R) →
    ∃ (g : Nat) (e : Bool), 8 * S.size + 2 ≤ g + s.L.length ∧ readGo S (8 * S.size + 2) false false (startD S) = readGo S g e false (drAt s.L.length w C N s.k.far)

theorem dreads_init (x l : Int) (h0 : 0 ≤ x) (h8 : x ≤ 8) : DReads (iniS x l) x [] [] := by
  refine ⟨numBits_isBits _ _, rfl, fun S R h => ⟨8 * S.size + 2, false, by omega, ?_⟩⟩
  have hh : TextOf S ([] ++ (numBits x 4 ++ R)) := h
  obtain ⟨a, b, _⟩ := rd_num (w := -1) h0 (show x < 2 ^ 4 by show x < 16; omega) (bits_nil) hh
  have e0 : x0 = atX ([] : List Int).length (-1) := rfl
  have e1 : x1 S = atX 4 (-1) := by
    unfold x1
    rw [e0, a, b]
    show needS (atX (numBits x 4).length (-1)) _ = _
    rw [numBits_length]
    unfold needS
    rw [if_neg (fun q => by have := q.2; rw [decide_eq_false_iff_not] at this; omega)]
  have e2 : startD S = drAt 4 x [] [] farE := by
    unfold startD startX
    rw [e1, if_pos (show (atX 4 (-1)).state = 0 from rfl), e0, a]
    rfl
  show readGo S _ false false (startD S) = readGo S _ false false (drAt (numBits x 4).length x [] [] farE)
  rw [e2, numBits_length]

theorem dreads_of {s s' : St} {w : Int} {C C' : List UInt8} {N N' : List ByteArray} (h : DReads s w C N) (hb : isBits s'.L) (hw : s'.k.wn = s.k.wn) (hlen : s.L.length + 1 ≤ s'.L.length)
    (hx : Ext s.L s'.L) (hk : ∀ (S : ByteArray) (R : List Int), TextOf S (s'.L ++ R) → blockD S (drAt s.L.length w C N s.k.far) = (false, drAt s'.L.length w C' N' s'.k.far)) : DReads s' w C' N' := by
  obtain ⟨X, hX⟩ := hx
  refine ⟨hb, by rw [hw]; exact h.wn, fun S R ht => ?_⟩
  obtain ⟨g, e, h1, h2⟩ := h.go S (X ++ R) (by rw [← List.append_assoc, ← hX]; exact ht)
  have hl := ht.len
  rw [List.length_append] at hl
  match g, h1, h2 with
  | 0, h1, h2 => omega
  | g + 1, h1, h2 =>
    refine ⟨g, (drAt s.L.length w C N s.k.far).x.at_ == 8 * S.size, by omega, ?_⟩
    rw [h2]
    show (if (drAt s.L.length w C N s.k.far).x.state = 0 ∧ false = false then _ else _) = _
    rw [if_pos ⟨rfl, rfl⟩, hk S R ht]

theorem dreads_blk {s : St} {w : Int} {C : List UInt8} {N : List ByteArray} (h : DReads s w C N) (P : List UInt8) (hP : P ≠ []) (h4 : P.length ≤ 4096) : DReads (blkT s false P) w (C ++ P) N :=
  dreads_of h (blkS_bits h.bits _ _) (blkS_wn _ _ _ _) (by have := blkS_long s.k s.L false P; show _ ≤ (blkS s.k s.L false P).2.length; omega) (ext_blk s.k s.L false P) (fun _ _ ht => block_any false P hP h4 h.wn h.bits ht)
theorem note_bits {L : List Int} (h : isBits L) (P : List UInt8) : isBits (noteL L P) := isBits_cat (pad_bits (isBits_cat (head_bits h _ _) (numBits_isBits _ _))) (byteBits_isBits _)
theorem dreads_note {s : St} {w : Int} {C : List UInt8} {N : List ByteArray} (h : DReads s w C N) (T : ByteArray) (h4 : T.size ≤ 255) : DReads (noteS s T.data.toList) w C (N ++ [T]) :=
  dreads_of h (note_bits h.bits _) rfl (by show _ ≤ (noteL s.L T.data.toList).length; unfold noteL; rw [List.length_append, padL_length, List.length_append, headL_length]; omega) (ext_note s.L _) (fun _ _ ht => block_note T h4 h.bits ht)
theorem dreads_empty {s : St} {w : Int} {C : List UInt8} {N : List ByteArray} (h : DReads s w C N) : DReads (emptyS s false) w C N :=
  dreads_of h (pad_bits (head_bits h.bits _ _)) rfl (by show _ ≤ (emptyL s.L false).length; unfold emptyL; rw [padL_length, headL_length]; omega) ((ext_head s.L false 0).trans (ext_pad _)) (fun _ _ ht => (block_empty false h.bits ht).1)

/-- what was written, by the document -/
structure DInv (e : St × List UInt8) (w : Int) (S : List UInt8) (N : List ByteArray) : Prop where
  go : ∃ C, DReads e.1 w C N ∧ S = C ++ e.2
  len : e.2.length ≤ 4096
theorem dinv_init (x l : Int) (h0 : 0 ≤ x) (h8 : x ≤ 8) : DInv (iniS x l, []) x [] [] := ⟨⟨[], dreads_init x l h0 h8, rfl⟩, Nat.zero_le _⟩
theorem dinv_add {e : St × List UInt8} {w : Int} {S : List UInt8} {N : List ByteArray} (h : DInv e w S N) (c : UInt8) : DInv (addS e c) w (S ++ [c]) N := by
  obtain ⟨⟨C, h1, h2⟩, h3⟩ := h
  unfold addS
  by_cases hf : 4096 ≤ e.2.length
  · rw [if_pos hf]
    refine ⟨⟨C ++ e.2, dreads_blk h1 e.2 (fun q => ?_) h3, by rw [h2]⟩, by simp⟩
    rw [q] at hf
    simp at hf
  · rw [if_neg hf]
    refine ⟨⟨C, h1, by rw [h2, List.append_assoc]⟩, ?_⟩
    show (e.2 ++ [c]).length ≤ 4096
    rw [List.length_append, List.length_singleton]
    omega
theorem dinv_write : ∀ (l : List UInt8) {e : St × List UInt8} {w : Int} {S : List UInt8} {N : List ByteArray}, DInv e w S N → DInv (writeS e l) w (S ++ l) N
  | [], e, w, S, N, h => by rw [List.append_nil]; exact h
  | c :: l, e, w, S, N, h => by
    have := dinv_write l (dinv_add h c)
    rw [List.append_assoc] at this
    exact this
theorem dinv_let {s : St} {P S : List UInt8} {w : Int} {N : List ByteArray} (h : DInv (s, P) w S N) : DReads (letS s P) w S N := by
  obtain ⟨⟨C, h1, h2⟩, h3⟩ := h
  unfold letS
  by_cases hP : P = []
  · rw [if_pos hP]
    rw [show S = C by rw [h2]; show C ++ P = C; rw [hP, List.append_nil]]
    exact h1
  · rw [if_neg hP, h2]
    exact dreads_blk h1 P hP h3
theorem dinv_note {s : St} {P S : List UInt8} {w : Int} {N : List ByteArray} (h : DInv (s, P) w S N) (T : ByteArray) (hT : T.size ≤ 255) : DInv (noteS (letS s P) T.data.toList, []) w S (N ++ [T]) := ⟨⟨S, dreads_note (dinv_let h) T hT, by rw [List.append_nil]⟩, Nat.zero_le _⟩
theorem dinv_flush {s : St} {P S : List UInt8} {w : Int} {N : List ByteArray} (h : DInv (s, P) w S N) : DReads (flushS s P) w S N ∧ (flushS s P).L.length % 8 = 0 := by
  unfold flushS
  by_cases h8 : (letS s P).L.length % 8 = 0
  · rw [if_pos h8]
    exact ⟨dinv_let h, h8⟩
  · rw [if_neg h8]
    exact ⟨dreads_empty (dinv_let h), padL_whole _⟩
theorem dinv_flushed {s : St} {P S : List UInt8} {w : Int} {N : List ByteArray} (h : DInv (s, P) w S N) : DInv (flushS s P, []) w S N := ⟨⟨S, (dinv_flush h).1, by rw [List.append_nil]⟩, Nat.zero_le _⟩

/-- the text ends between two blocks -/
theorem doc_mid {s : St} {S : ByteArray} {w : Int} {N : List ByteArray} (h1 : DReads s w S.data.toList N) (h2 : s.L.length % 8 = 0) :
    outStr (readD (bytesL s.L)).out = S ∧ (readD (bytesL s.L)).x.w = w ∧ ((readR (bytesL s.L)).1 && ((readD (bytesL s.L)).x.state == 1)) = true ∧ readV (bytesL s.L) = 1 := by
  have ht := text_bytes h1.bits h2
  obtain ⟨g, e, g1, g2⟩ := h1.go (bytesL s.L) [] (by rw [List.append_nil]; exact ht)
  have hl := ht.len
  generalize s.k.far = fr at *
  generalize s.L = M at *
  have hb : bitS (bytesL M) (atX M.length w) = ⟨M.length, 1, w⟩ := by
    unfold bitS atX
    dsimp only
    rw [if_neg (fun q => q rfl), if_pos (by omega)]
  have hx : blockX (bytesL M) (atX M.length w) = ⟨M.length, 1, w⟩ := by
    unfold blockX
    rw [hb]
    unfold numS
    rw [if_pos (show (1 : Int) ≠ 0 by omega)]
  have hbd : blockD (bytesL M) (drAt M.length w S.data.toList N fr) = (false, ⟨⟨M.length, 1, w⟩, ints8 S.data.toList, N, fr⟩) := by
    unfold blockD
    rw [show (drAt M.length w S.data.toList N fr).x = atX M.length w from rfl, hx, if_pos (show (1 : Int) ≠ 0 by omega)]
    rfl
  have hR : readR (bytesL M) = (true, ⟨⟨M.length, 1, w⟩, ints8 S.data.toList, N, fr⟩) := by
    unfold readR
    rw [g2]
    match g, g1 with
    | 0, g1 => omega
    | 1, g1 => omega
    | g + 2, g1 =>
      show (if (drAt M.length w S.data.toList N fr).x.state = 0 ∧ false = false then _ else _) = _
      rw [if_pos ⟨rfl, rfl⟩, hbd]
      show (if (1 : Int) = 0 ∧ false = false then _ else _) = _
      rw [if_neg (fun q => by have := q.1; omega)]
      show ((M.length == 8 * (bytesL M).size), _) = _
      rw [show (M.length == 8 * (bytesL M).size) = true by rw [beq_iff_eq]; omega]
  have hD : readD (bytesL M) = ⟨⟨M.length, 1, w⟩, ints8 S.data.toList, N, fr⟩ := by
    unfold readD
    rw [hR]
    have : fillS (bytesL M) ⟨M.length, 1, w⟩ = ⟨M.length, 1, w⟩ := fillK_stop _ _ (by show (1 : Int) ≠ 0; omega)
    dsimp only
    rw [this]
  unfold readV
  rw [hD, hR]
  exact ⟨str_back S, rfl, rfl, rfl⟩
/-- behind a flush -/
theorem doc_flush {s : St} {P : List UInt8} {S : ByteArray} {w : Int} {N : List ByteArray} (h : DInv (s, P) w S.data.toList N) :
    outStr (readD (bytesL (flushS s P).L)).out = S ∧ (readD (bytesL (flushS s P).L)).x.w = w ∧ ((readR (bytesL (flushS s P).L)).1 && ((readD (bytesL (flushS s P).L)).x.state == 1)) = true ∧ readV (bytesL (flushS s P).L) = 1 := by
  obtain ⟨h1, h2⟩ := dinv_flush h
  exact doc_mid h1 h2
theorem finS_whole (s : St) (P : List UInt8) : (finS s P).L.length % 8 = 0 := by
  unfold finS
  split
  · exact padL_whole _
  · exact padL_whole _
theorem finS_bits {s : St} (h : isBits s.L) (P : List UInt8) : isBits (finS s P).L := by
  unfold finS
  split
  · exact pad_bits (head_bits h _ _)
  · exact pad_bits (blkS_bits h _ _)
/-- at the end -/
theorem doc_fin {s : St} {P : List UInt8} {S : ByteArray} {w : Int} {N : List ByteArray} (h : DInv (s, P) w S.data.toList N) :
    outStr (readD (bytesL (finS s P).L)).out = S ∧ (readD (bytesL (finS s P).L)).x.w = w ∧ readV (bytesL (finS s P).L) = 0 ∧ (readD (bytesL (finS s P).L)).notes = N := by
  obtain ⟨⟨C, h1, h2⟩, h3⟩ := h
  have h2' : S.data.toList = C ++ P := h2
  have hw := finS_whole s P
  have hb := finS_bits h1.bits P
  have ht := text_bytes hb hw
  have key : ∀ (n : Nat) (far : Nat → Int), s.L.length + 1 ≤ (finS s P).L.length → blockD (bytesL (finS s P).L) (drAt s.L.length w C N s.k.far) = (true, drAt n w (C ++ P) N far) → fillS (bytesL (finS s P).L) (atX n w) = atX (finS s P).L.length w →
      outStr (readD (bytesL (finS s P).L)).out = S ∧ (readD (bytesL (finS s P).L)).x.w = w ∧ readV (bytesL (finS s P).L) = 0 ∧ (readD (bytesL (finS s P).L)).notes = N := by
    intro n far hle hbd hf
    obtain ⟨X, hX⟩ := ext_fin s P
    generalize (finS s P).L = M at *
    obtain ⟨g, e, g0, g2⟩ := h1.go (bytesL M) X (by rw [← hX]; exact ht)
    have g9 : 8 * (bytesL M).size + 2 ≤ g + s.L.length := g0
    have hl := ht.len
    have hR : (readR (bytesL M)).2 = drAt n w (C ++ P) N far := by
      unfold readR
      rw [g2]
      match g, g9 with
      | 0, g1 => omega
      | 1, g1 =>
        show (if (drAt s.L.length w C N s.k.far).x.state = 0 ∧ false = false then _ else _ : Bool × Dr).2 = _
        rw [if_pos ⟨rfl, rfl⟩, hbd]
        rfl
      | g + 2, g1 =>
        show (if (drAt s.L.length w C N s.k.far).x.state = 0 ∧ false = false then _ else _ : Bool × Dr).2 = _
        rw [if_pos ⟨rfl, rfl⟩, hbd]
        show (if (drAt n w (C ++ P) N far).x.state = 0 ∧ true = false then _ else _ : Bool × Dr).2 = _
        rw [if_neg (fun q => by cases q.2)]
    have hD : readD (bytesL M) = drAt M.length w (C ++ P) N far := by
      unfold readD
      rw [hR]
      show ({ x := fillS (bytesL M) (atX n w), out := ints8 (C ++ P), notes := N, far := far } : Dr) = _
      rw [hf]
      rfl
    have hV : readV (bytesL M) = 0 := by
      unfold readV
      rw [hD]
      rw [if_neg (fun q => by have h9 : M.length < 8 * (bytesL M).size := q.2; omega)]
      rfl
    rw [hV, hD]
    refine ⟨?_, rfl, rfl, rfl⟩
    show outStr (ints8 (C ++ P)) = S
    rw [← h2']
    exact str_back S
  have hle := blkS_long s.k s.L true P
  unfold finS at hw hb ht key ⊢
  by_cases hP : P = []
  · rw [if_pos hP] at hw hb ht key ⊢
    obtain ⟨b1, b2⟩ := block_empty (S := bytesL (emptyS s true).L) (w := w) (C := C) (N := N) (far := s.k.far) (R := []) true h1.bits (by rw [List.append_nil]; exact ht)
    rw [if_pos rfl] at b1
    rw [show C ++ P = C by rw [hP, List.append_nil]] at key
    exact key _ _ (by show _ ≤ (emptyL s.L true).length; unfold emptyL; rw [padL_length, headL_length]; omega) b1 b2
  · rw [if_neg hP] at hw hb ht key ⊢
    have hpl : (blkS s.k s.L true P).2.length ≤ (padL (blkS s.k s.L true P).2).length := by rw [padL_length]; omega
    obtain ⟨Z, hZ⟩ := ext_pad (blkS s.k s.L true P).2
    have b1 := block_any (S := bytesL (padL (blkS s.k s.L true P).2)) (w := w) (C := C) (N := N) (R := Z) true P hP h3 h1.wn h1.bits (by rw [← hZ]; exact ht)
    refine key _ _ (by show _ ≤ (padL (blkS s.k s.L true P).2).length; omega) b1 ?_
    exact rd_pad (Y := []) (blkS_bits h1.bits _ _) (by rw [List.append_nil]; exact ht)
theorem doc_feed (M : ByteArray) : outStr (feed initRd M.data.toList).out = outStr (readD M).out ∧ errno (feed initRd M.data.toList) = readV M := by
  obtain ⟨f1, f2⟩ := feed_full M.data.toList
  obtain ⟨d1, d2⟩ := doc_eq M
  rw [f1, f2, d1, d2]
  exact ⟨rfl, rfl⟩
/-- what is written comes back -/
theorem fin_back {s : St} {P : List UInt8} {S : ByteArray} {w : Int} {N : List ByteArray} (h : DInv (s, P) w S.data.toList N) :
    outStr (feed initRd (bytesL (finS s P).L).data.toList).out = S ∧ errno (feed initRd (bytesL (finS s P).L).data.toList) = 0 := by
  obtain ⟨f1, f2⟩ := doc_feed (bytesL (finS s P).L)
  obtain ⟨a, _, c, _⟩ := doc_fin h
  rw [f1, f2]
  exact ⟨a, c⟩
/-- behind a flush all is there -/
theorem flush_back {s : St} {P : List UInt8} {S : ByteArray} {w : Int} {N : List ByteArray} (h : DInv (s, P) w S.data.toList N) :
    outStr (feed initRd (bytesL (flushS s P).L).data.toList).out = S ∧ errno (feed initRd (bytesL (flushS s P).L).data.toList) = 1 := by
  obtain ⟨f1, f2⟩ := doc_feed (bytesL (flushS s P).L)
  obtain ⟨a, _, _, d⟩ := doc_flush h
  rw [f1, f2]
  exact ⟨a, d⟩
theorem finS_long (s : St) (P : List UInt8) : 0 < (bytesL (finS s P).L).size := by
  rw [bytesL_size]
  have hw := finS_whole s P
  have : 3 ≤ (finS s P).L.length := by
    unfold finS
    split
    · show 3 ≤ (emptyL s.L true).length; unfold emptyL; rw [padL_length, headL_length]; omega
    · have := blkS_long s.k s.L true P
      show 3 ≤ (padL (blkS s.k s.L true P).2).length
      rw [padL_length]
      omega
  omega
end Go.Proofs.Ytmpfgdmdnghhgaa
