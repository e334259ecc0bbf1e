import Derived.Test.YtmjigodhncjfjaaE7
namespace Go.Proofs.Ytmjigodhncjfjaa
open Go.RowKit Wr

/-- what was written: part of it lies in the bits, the rest waits -/
def EncInv (e : List Int × List UInt8) (S : List UInt8) : Prop := ∃ C, Reads e.1 C ∧ S = C ++ e.2 ∧ e.2.length ≤ 4096
theorem inv_init (x : Int) (h0 : 0 ≤ x) (h8 : x ≤ 8) : EncInv (numBits x 4, []) [] := ⟨[], reads_init x h0 h8, rfl, Nat.zero_le _⟩
theorem inv_add {e : List Int × List UInt8} {S : List UInt8} (h : EncInv e S) (c : UInt8) : EncInv (addE e c) (S ++ [c]) := by
  obtain ⟨C, h1, h2, h3⟩ := h
  unfold addE
  by_cases hf : 4096 ≤ e.2.length
  · rw [if_pos hf]
    refine ⟨C ++ e.2, reads_blk h1 e.2 (fun q => ?_) h3, by rw [h2], by simp⟩
    rw [q] at hf
    simp at hf
  · rw [if_neg hf]
    refine ⟨C, h1, by rw [h2, List.append_assoc], ?_⟩
    show (e.2 ++ [c]).length ≤ 4096
    rw [List.length_append, List.length_singleton]
    omega
theorem inv_write : ∀ (l : List UInt8) {e : List Int × List UInt8} {S : List UInt8}, EncInv e S → EncInv (writeE e l) (S ++ l)
  | [], e, S, h => by rw [List.append_nil]; exact h
  | c :: l, e, S, h => by
    have := inv_write l (inv_add h c)
    rw [List.append_assoc] at this
    exact this
theorem inv_let {L : List Int} {P S : List UInt8} (h : EncInv (L, P) S) : Reads (letL L P) S := by
  obtain ⟨C, h1, h2, h3⟩ := h
  unfold letL
  by_cases hP : P = []
  · rw [if_pos hP]
    rw [show S = C by rw [h2]; show C ++ P = C; rw [hP, List.append_nil]]
    exact h1
  · rw [if_neg hP, h2]
    exact reads_blk h1 P hP h3
theorem inv_note {L : List Int} {P S : List UInt8} (h : EncInv (L, P) S) (T : List UInt8) (hT : T.length ≤ 255) : EncInv (noteL (letL L P) T, []) S := ⟨S, reads_note (inv_let h) T hT, by rw [List.append_nil], Nat.zero_le _⟩
theorem inv_flush {L : List Int} {P S : List UInt8} (h : EncInv (L, P) S) : Reads (flushL L P) S ∧ (flushL L P).length % 8 = 0 := by
  unfold flushL
  by_cases h8 : (letL L P).length % 8 = 0
  · rw [if_pos h8]
    exact ⟨inv_let h, h8⟩
  · rw [if_neg h8]
    exact ⟨reads_empty (inv_let h), padL_whole _⟩
theorem inv_flushed {L : List Int} {P S : List UInt8} (h : EncInv (L, P) S) : EncInv (flushL L P, []) S := ⟨S, (inv_flush h).1, by rw [List.append_nil], Nat.zero_le _⟩
theorem pad_none {L : List Int} (h : L.length % 8 = 0) : padL L = L := by
  have e : fillN L.length = 0 := by unfold fillN; omega
  unfold padL
  rw [e]
  show L ++ [] = L
  rw [List.append_nil]
theorem blkL_whole (L : List Int) (l : Bool) (P : List UInt8) : (blkL L l P).length % 8 = 0 := by
  unfold blkL
  have := padL_whole (headL L l 1 ++ numBits ((P.length : Int) - 1) 12)
  rw [List.length_append, byteBits_length]
  omega
theorem finL_cases (L : List Int) (P : List UInt8) : finL L P = if P = [] then emptyL L true else blkL L true P := by
  unfold finL
  split
  · rfl
  · exact pad_none (blkL_whole _ _ _)
theorem finL_whole (L : List Int) (P : List UInt8) : (finL L P).length % 8 = 0 := padL_whole _
theorem bits_nil : isBits [] := fun b hb => by cases hb
theorem inv_fin {L : List Int} {P S : List UInt8} (h : EncInv (L, P) S) : isBits (finL L P) ∧ (drive (over (finL L P))).out = ints8 S ∧ errnoBig (drive (over (finL L P))) = 0 := by
  have hw := finL_whole L P
  obtain ⟨C, h1, h2, h3⟩ := h
  rw [finL_cases] at hw ⊢
  by_cases hP : P = []
  · rw [if_pos hP] at hw ⊢
    obtain ⟨u, u1, u2, u3, u4, u5, u6⟩ := empty_reads h1 true [] bits_nil (by rw [List.append_nil]; exact hw)
    rw [List.append_nil] at u2
    obtain ⟨e1, e2, e3⟩ := end_last u3 u4 u5
    rw [u2, e1, e2, u6]
    refine ⟨pad_bits (head_bits h1.1 _ _), ?_, e3⟩
    rw [show S = C by rw [h2]; show C ++ P = C; rw [hP, List.append_nil]]
  · rw [if_neg hP] at hw ⊢
    obtain ⟨u, u1, u2, u3, u4, u5, u6⟩ := blk_reads h1 true P hP h3 [] bits_nil (by rw [List.append_nil]; exact hw)
    rw [List.append_nil] at u2
    obtain ⟨e1, e2, e3⟩ := end_last u3 u4 u5
    rw [u2, e1, e2, u6, h2]
    exact ⟨blkL_bits h1.1 _ _, rfl, e3⟩

/- bytes -/
def Ext (L L' : List Int) : Prop := ∃ X, L' = L ++ X
theorem Ext.refl (L : List Int) : Ext L L := ⟨[], by rw [List.append_nil]⟩
theorem Ext.trans {a b c : List Int} (h : Ext a b) (k : Ext b c) : Ext a c := by
  obtain ⟨x, rfl⟩ := h
  obtain ⟨y, rfl⟩ := k
  exact ⟨x ++ y, List.append_assoc _ _ _⟩
theorem ext_more (L X : List Int) : Ext L (L ++ X) := ⟨X, rfl⟩
theorem ext_head (L : List Int) (l : Bool) (k : Int) : Ext L (headL L l k) := (ext_more _ _).trans (ext_more _ _)
theorem ext_pad (L : List Int) : Ext L (padL L) := ext_more _ _
theorem ext_blk (L : List Int) (l : Bool) (P : List UInt8) : Ext L (blkL L l P) := ((ext_head L l 1).trans (ext_more _ _)).trans ((ext_pad _).trans (ext_more _ _))
theorem ext_let (L : List Int) (P : List UInt8) : Ext L (letL L P) := by
  unfold letL
  split
  · exact Ext.refl L
  · exact ext_blk L false P
theorem ext_note (L : List Int) (P : List UInt8) : Ext L (noteL L P) := ((ext_head L false 3).trans (ext_more _ _)).trans ((ext_pad _).trans (ext_more _ _))
theorem ext_flush (L : List Int) (P : List UInt8) : Ext L (flushL L P) := by
  unfold flushL
  split
  · exact ext_let L P
  · exact (ext_let L P).trans ((ext_head _ _ _).trans (ext_pad _))
theorem ext_fin (L : List Int) (P : List UInt8) : Ext L (finL L P) := by
  unfold finL
  split
  · exact (ext_head L _ _).trans (ext_pad _)
  · exact (ext_blk L _ _).trans (ext_pad _)
theorem ext_add (e : List Int × List UInt8) (c : UInt8) : Ext e.1 (addE e c).1 := by
  unfold addE
  split
  · exact ext_blk _ _ _
  · exact Ext.refl _
theorem ext_write : ∀ (l : List UInt8) (e : List Int × List UInt8), Ext e.1 (writeE e l).1
  | [], _e => Ext.refl _
  | c :: l, e => (ext_add e c).trans (ext_write l (addE e c))

theorem bytes_ext {a b : ByteArray} (h : a.data.toList = b.data.toList) : a = b := by
  have := congrArg List.toArray h
  cases a
  cases b
  simpa using this
theorem outStr_cat (a b : List Int) : outStr (a ++ b) = outStr a ++ outStr b := by
  have h : (outStr (a ++ b)).data.toList = (outStr a ++ outStr b).data.toList := by
    rw [ByteArray.data_append, Array.toList_append, outStr_list, outStr_list, outStr_list, List.map_append]
  exact bytes_ext h
def bytesL (L : List Int) : ByteArray := outStr (outFrom L 0)
theorem bytesL_more {L L' : List Int} (h : Ext L L') : bytesL L ++ outStr (outFrom L' (L.length / 8)) = bytesL L' := by
  obtain ⟨X, rfl⟩ := h
  unfold bytesL
  rw [outFrom_more L X 0 (Nat.zero_le _), outStr_cat]
theorem bytesL_list (L : List Int) : (bytesL L).data.toList = bytesOf (Wr.valOf L) (L.length / 8) := by
  unfold bytesL outFrom
  rw [outStr_list, List.map_map, Nat.sub_zero]
  unfold bytesOf
  refine List.map_congr_left fun j _ => ?_
  show UInt8.ofNat (Wr.valOf L / 2 ^ (8 * (0 + j)) % 256).toNat = _
  rw [Nat.zero_add]
theorem bytesL_size (L : List Int) : (bytesL L).size = L.length / 8 := by
  unfold bytesL outFrom
  rw [outStr_sz, List.length_map, List.length_range, Nat.sub_zero]
theorem full_over {L : List Int} (hb : isBits L) (h8 : L.length % 8 = 0) : full (bytesL L).data.toList = drive (over L) := by
  have vb := valOf_bounds _ hb
  have e : 8 * (L.length / 8) = L.length := by omega
  rw [bytesL_list, full_bytes _ _ vb.1 (by rw [e]; exact vb.2)]
  have e2 : (8 : Int) * ((L.length / 8 : Nat) : Int) = (L.length : Int) := by omega
  rw [e2]
  rfl
/-- what is written comes back -/
theorem fin_back {L : List Int} {P : List UInt8} {S : ByteArray} (h : EncInv (L, P) S.data.toList) :
    outStr (feed initRd (bytesL (finL L P)).data.toList).out = S ∧ errno (feed initRd (bytesL (finL L P)).data.toList) = 0 := by
  obtain ⟨f1, f2⟩ := feed_full (bytesL (finL L P)).data.toList
  obtain ⟨b, o, v⟩ := inv_fin h
  rw [f1, f2, full_over b (finL_whole _ _), o, v]
  exact ⟨str_back S, rfl⟩
theorem finL_long (L : List Int) (P : List UInt8) : 0 < (bytesL (finL L P)).size := by
  rw [bytesL_size]
  have hw := finL_whole L P
  obtain ⟨X, hX⟩ := ext_fin L P
  have : 3 ≤ (finL L P).length := by
    rw [finL_cases]
    split
    · unfold emptyL; rw [padL_length, headL_length]; omega
    · unfold blkL; rw [List.length_append, padL_length, List.length_append, headL_length]; omega
  omega
end Go.Proofs.Ytmjigodhncjfjaa
