import Derived.Test.YtmjigodhncjfjaaE14
import Derived.Test.YtmjigodhncjfjaaD1
import Derived.Maps.AppendAt
namespace Go.Proofs.Ytmjigodhncjfjaa
open Go.RowKit Wr

theorem flush_out {L : List Int} {P : List UInt8} {S : ByteArray} (h : EncInv (L, P) S.data.toList) : outStr (feed initRd (bytesL (flushL L P)).data.toList).out = S := by
  obtain ⟨h1, h2⟩ := inv_flush h
  obtain ⟨t, t1, t2, t3, t4, t5, t6⟩ := h1.2 [] bits_nil (by rw [List.append_nil]; exact h2)
  rw [List.append_nil] at t6
  have hs : Wr.step t = none := by
    have hn : t.have_ = 0 := t4
    have hw : width t = 3 := by unfold width; rw [if_neg (by omega), if_pos t2]
    have ep : peek t = (t.hold % 2 ^ (width t).toNat, width t) := peek_number (by omega) (by omega)
    unfold Wr.step
    rw [if_neg (by omega), ep, hw]
    rw [if_pos (by show t.have_ < 3; omega)]
  rw [(feed_full _).1, full_over h1.1 h2, t6, drive_none hs, t5]
  exact str_back S
theorem flush_one {L : List Int} (hb : isBits L) (h8 : L.length % 8 = 0) : (Wr.valOf L + 2 ^ L.length * 1) / 2 ^ (8 * (L.length / 8)) % 256 = 1 := by
  have vb := valOf_bounds _ hb
  rw [show 8 * (L.length / 8) = L.length by omega]
  have hp := pow_pos2 L.length
  rw [Int.add_mul_ediv_left _ _ (by omega), Int.ediv_eq_zero_of_lt vb.1 vb.2]
  rfl
theorem flush_fin {L : List Int} (hb : isBits L) (h8 : L.length % 8 = 0) : bytesL (finL L []) = bytesL L ++ ⟨#[1]⟩ := by
  rw [← bytesL_more (ext_fin L [])]
  congr 1
  have e : finL L [] = L ++ (numBits 1 1 ++ (numBits 0 2 ++ (numBits 0 5 ++ []))) := by
    rw [finL_cases, if_pos rfl]
    have := emptyL_eq L true []
    rw [List.append_nil, show fillN (L.length + 3) = 5 by unfold fillN; omega] at this
    exact this
  have hl : (finL L []).length = L.length + 8 := by
    rw [e]
    simp only [List.length_append, numBits_length, List.length_nil]
  have hv : Wr.valOf (finL L []) = Wr.valOf L + 2 ^ L.length * 1 := by
    rw [e, valOf_append]
    rfl
  have ho : outFrom (finL L []) (L.length / 8) = [(Wr.valOf L + 2 ^ L.length * 1) / 2 ^ (8 * (L.length / 8)) % 256] := by
    unfold outFrom
    rw [hl, show (L.length + 8) / 8 - L.length / 8 = 1 by omega, hv]
    rfl
  rw [ho, flush_one hb h8]
  rfl
theorem callS_ext (kind : Int) (T : ByteArray) (r : St) : Ext r.L (callS kind T r).L := by
  unfold callS
  by_cases k1 : kind = 1
  · rw [if_pos k1]; exact ext_write T.data.toList (r.L, r.P)
  rw [if_neg k1]
  by_cases k2 : kind = 2
  · rw [if_pos k2]; exact ext_flush r.L r.P
  rw [if_neg k2]
  by_cases k3 : kind = 3
  · rw [if_pos k3]; exact (ext_let r.L r.P).trans (ext_note _ _)
  rw [if_neg k3]
  exact Ext.refl _
theorem cat_extract (a b : ByteArray) : (a ++ b).extract a.size (a ++ b).size = b := by
  apply bytes_ext
  have hA : a.data.toList.length = a.size := by simp
  have hB : b.data.toList.length = b.size := by simp
  rw [Lib.extract_data, ByteArray.data_append, Array.toList_append, ByteArray.size_append, ← hA, List.drop_left]
  exact List.take_of_length_le (by omega)
end Go.Proofs.Ytmjigodhncjfjaa
