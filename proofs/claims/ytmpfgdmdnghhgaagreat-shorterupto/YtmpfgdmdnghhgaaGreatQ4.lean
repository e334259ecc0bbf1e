import Derived.Test.YtmpfgdmdnghhgaaGreatQ3
import Derived.Test.YtmpfgdmdnghhgaaGreatW17
import Derived.Test.YtmpfgdmdnghhgaaGreatD1
import Derived.Maps.AppendAt
import Derived.Deep.RegionHeld3
namespace Go.Proofs.YtmpfgdmdnghhgaaGreat
open Go.RowKit Wr


theorem feed_short {a b : List UInt8} (hb : b ≠ []) (h : errno (feed initRd (a ++ b)) = 0) : errno (feed initRd a) = 1 := by
  rw [feed_append] at h
  generalize feed initRd a = t at *
  by_cases h11 : t.part = 11
  · rw [feed_stop (Or.inl h11)] at h
    unfold errno at h
    rw [if_pos h11] at h
    omega
  by_cases h10 : t.part = 10
  · exfalso
    cases htr : t.trailing
    · match b, hb with
      | c :: r, _ =>
        rw [feed_go (by rw [htr]; intro q; rcases q with q | q; exact h11 q; cases q)] at h
        have e : Wr.take t c.toNat = { t with trailing := true } := by unfold Wr.take; rw [if_pos h10]
        rw [e, feed_stop (Or.inr rfl)] at h
        unfold errno at h
        rw [if_neg (show ¬ t.part = 11 from h11), if_neg (show ¬ t.part ≠ 10 from fun q => q h10)] at h
        cases h
    · rw [feed_stop (Or.inr htr)] at h
      unfold errno at h
      rw [if_neg h11, if_neg (fun q => q h10), htr] at h
      cases h
  · unfold errno
    rw [if_neg h11, if_pos h10]
theorem feed_tail {a b : List UInt8} (hb : b ≠ []) (h : errno (feed initRd a) = 0) : errno (feed initRd (a ++ b)) = 3 ∧ (feed initRd (a ++ b)).out = (feed initRd a).out := by
  rw [feed_append]
  generalize feed initRd a = t at *
  have h11 : ¬ t.part = 11 := by
    intro q
    unfold errno at h
    rw [if_pos q] at h
    omega
  have h10 : t.part = 10 := by
    unfold errno at h
    rw [if_neg h11] at h
    by_cases q : t.part = 10
    · exact q
    · rw [if_pos q] at h
      omega
  have htr : t.trailing = false := by
    unfold errno at h
    rw [if_neg h11, if_neg (fun q => q h10)] at h
    cases q : t.trailing
    · rfl
    · rw [q] at h
      cases h
  match b, hb with
  | c :: r, _ =>
    rw [feed_go (by rw [htr]; intro q; rcases q with q | q; exact h11 q; cases q)]
    have e : Wr.take t c.toNat = { t with trailing := true } := by unfold Wr.take; rw [if_pos h10]
    rw [e, feed_stop (Or.inr rfl)]
    refine ⟨?_, rfl⟩
    unfold errno
    rw [if_neg (show ¬ t.part = 11 from h11), if_neg (show ¬ t.part ≠ 10 from fun q => q h10)]
    rfl

/-- a beginning of a stream -/
theorem pre_dec {O S : ByteArray} (h : outStr (feed initRd O.data.toList).out = S ∧ errno (feed initRd O.data.toList) = 0) {m : Nat} (hm : m < O.size) :
    errno (feed initRd (O.extract 0 m).data.toList) = 1 ∧ (outStr (feed initRd (O.extract 0 m).data.toList).out).size ≤ S.size ∧ S.extract 0 (outStr (feed initRd (O.extract 0 m).data.toList).out).size = outStr (feed initRd (O.extract 0 m).data.toList).out := by
  have hl : O.data.toList.length = O.size := by simp
  have e1 : (O.extract 0 m).data.toList = O.data.toList.take m := by rw [Lib.extract_data, List.drop_zero, Nat.sub_zero]
  have e2 : O.data.toList = O.data.toList.take m ++ O.data.toList.drop m := (List.take_append_drop m _).symm
  have hne : O.data.toList.drop m ≠ [] := by
    intro q
    have := congrArg List.length q
    rw [List.length_drop] at this
    simp at this
    omega
  rw [e1]
  obtain ⟨h1, h2⟩ := h
  rw [e2] at h1 h2
  refine ⟨feed_short hne h2, ?_⟩
  have hp := (feed_piece (O.data.toList.take m) (O.data.toList.drop m)).1
  rw [hp, outStr_cat] at h1
  rw [← h1]
  generalize outStr (feed initRd (O.data.toList.take m)).out = A
  generalize outStr (feed (emptied (feed initRd (O.data.toList.take m))) (O.data.toList.drop m)).out = X
  refine ⟨by rw [ByteArray.size_append]; omega, ?_⟩
  apply bytes_ext
  have hA : A.data.toList.length = A.size := by simp
  rw [Lib.extract_data, List.drop_zero, Nat.sub_zero, ByteArray.data_append, Array.toList_append, ← hA, List.take_left]
theorem tail_dec {O S T : ByteArray} (h : outStr (feed initRd O.data.toList).out = S ∧ errno (feed initRd O.data.toList) = 0) (hT : 0 < T.size) :
    outStr (feed initRd (O ++ T).data.toList).out = S ∧ errno (feed initRd (O ++ T).data.toList) = 3 := by
  have hne : T.data.toList ≠ [] := by
    intro q
    have h1 : T.data.toList.length = T.size := by simp
    rw [q] at h1
    simp at h1
    omega
  rw [ByteArray.data_append, Array.toList_append]
  obtain ⟨t1, t2⟩ := feed_tail (a := O.data.toList) hne h.2
  rw [t1, t2]
  exact ⟨h.1, rfl⟩

theorem callS_inv (kind : Int) (T : ByteArray) {r : Rn} (h : REnc r) : REnc (callS kind T r) := by
  obtain ⟨x, N, h⟩ := h
  unfold callS
  by_cases k1 : kind = 1
  · rw [if_pos k1]
    have := dinv_write T.data.toList h
    refine ⟨x, N, ?_⟩
    show DInv (writeS (r.u, r.P) T.data.toList) x (r.k.plain ++ T).data.toList N
    rw [ByteArray.data_append, Array.toList_append]
    exact this
  rw [if_neg k1]
  by_cases k2 : kind = 2
  · rw [if_pos k2]
    exact ⟨x, N, dinv_flushed h⟩
  rw [if_neg k2]
  by_cases k3 : kind = 3
  · rw [if_pos k3]
    exact ⟨x, _, dinv_note h _ (noteT_size T).1⟩
  rw [if_neg k3]
  exact ⟨x, N, h⟩
theorem run_inv (c : Nat → Int × ByteArray) (x l : Int) : ∀ n, REnc (runS c (initS x l) n)
  | 0 => ⟨_, _, dinv_init _ _ (windowP_bounds x).1 (windowP_bounds x).2⟩
  | n + 1 => callS_inv _ _ (run_inv c x l n)
theorem enc_back {r : Rn} (h : REnc r) : outStr (feed initRd (endOut r).data.toList).out = r.k.plain ∧ errno (feed initRd (endOut r).data.toList) = 0 := by
  obtain ⟨x, N, h⟩ := h
  exact fin_back h
theorem run_back (c : Nat → Int × ByteArray) (x l : Int) (n : Nat) : outStr (feed initRd (endOut (runS c (initS x l) n)).data.toList).out = (runS c (initS x l) n).k.plain ∧ errno (feed initRd (endOut (runS c (initS x l) n)).data.toList) = 0 := enc_back (run_inv c x l n)
theorem plain_size (c : Nat → Int × ByteArray) (r : Rn) : ∀ n, (runS c r n).k.plain.size ≤ r.k.plain.size + bulk c n
  | 0 => by show r.k.plain.size ≤ _; omega
  | n + 1 => by
    have h1 := plain_size c r n
    have h2 : (callS (c n).1 (c n).2 (runS c r n)).k.plain.size ≤ (runS c r n).k.plain.size + (c n).2.size := by
      unfold callS
      split
      · show ((runS c r n).k.plain ++ (c n).2).size ≤ _
        rw [ByteArray.size_append]
        omega
      · split
        · show (runS c r n).k.plain.size ≤ _
          omega
        · split
          · show (runS c r n).k.plain.size ≤ _
            omega
          · omega
    show (callS (c n).1 (c n).2 (runS c r n)).k.plain.size ≤ _ + (bulk c n + ((c n).2.size + 4))
    omega

theorem flush_out {u : St} {P : List UInt8} {S : ByteArray} {x : Int} {N : List ByteArray} (h : DInv (u, P) x S.data.toList N) : outStr (feed initRd (bytesL (flushS u P).L).data.toList).out = S := (flush_back h).1
theorem flush_one {L : List Int} (hb : isBits L) (h8 : L.length % 8 = 0) : (Wr.valOf L + 2 ^ L.length * 1) / 2 ^ (8 * (L.length / 8)) % 256 = 1 := by
  have vb := valOf_bounds _ hb
  rw [show 8 * (L.length / 8) = L.length by omega]
  have hp := pow_pos2 L.length
  rw [Int.add_mul_ediv_left _ _ (by omega), Int.ediv_eq_zero_of_lt vb.1 vb.2]
  rfl
theorem flush_fin {u : St} (hb : isBits u.L) (h8 : u.L.length % 8 = 0) : bytesL (finS u []).L = bytesL u.L ++ ⟨#[1]⟩ := by
  rw [← bytesL_more (ext_fin u [])]
  congr 1
  have e : (finS u []).L = u.L ++ (numBits 1 1 ++ (numBits 0 2 ++ numBits 0 5)) := by
    unfold finS
    rw [if_pos rfl]
    show emptyL u.L true = _
    unfold emptyL padL
    rw [headL_length, show fillN (u.L.length + 3) = 5 by unfold fillN; omega]
    unfold headL
    rw [List.append_assoc, List.append_assoc]
    rfl
  generalize (finS u []).L = M at *
  generalize u.L = L at *
  have hl : M.length = L.length + 8 := by
    rw [e]
    simp only [List.length_append, numBits_length]
  have hv : Wr.valOf M = Wr.valOf L + 2 ^ L.length * 1 := by
    rw [e, valOf_append]
    rfl
  have ho : outFrom M (L.length / 8) = [(Wr.valOf L + 2 ^ L.length * 1) / 2 ^ (8 * (L.length / 8)) % 256] := by
    unfold outFrom
    rw [hl, show (L.length + 8) / 8 - L.length / 8 = 1 by omega, hv]
    rfl
  rw [ho, flush_one hb h8]
  rfl
theorem callS_ext (kind : Int) (T : ByteArray) (r : Rn) : Ext r.u.L (callS kind T r).u.L := by
  unfold callS
  by_cases k1 : kind = 1
  · rw [if_pos k1]; exact ext_write T.data.toList (r.u, r.P)
  rw [if_neg k1]
  by_cases k2 : kind = 2
  · rw [if_pos k2]; exact ext_flush r.u r.P
  rw [if_neg k2]
  by_cases k3 : kind = 3
  · rw [if_pos k3]; exact (ext_let r.u r.P).trans (ext_note _ _)
  rw [if_neg k3]
  exact Ext.refl _
theorem cat_extract (a b : ByteArray) : (a ++ b).extract a.size (a ++ b).size = b := by
  apply bytes_ext
  have hA : a.data.toList.length = a.size := by simp
  have hB : b.data.toList.length = b.size := by simp
  rw [Lib.extract_data, ByteArray.data_append, Array.toList_append, ByteArray.size_append, ← hA, List.drop_left]
  exact List.take_of_length_le (by omega)
end Go.Proofs.YtmpfgdmdnghhgaaGreat
