import Derived.Test.YtmjigodhncjfjaaE12
import Derived.Test.YtmjigodhncjfjaaE13
import Derived.Test.YtmjigodhncjfjaaW17
import Derived.Test.YtmjigodhncjfjaaFeedP
import Derived.Deep.RegionHeld3
namespace Go.Proofs.Ytmjigodhncjfjaa
open Go.RowKit Wr

theorem feed_short {a b : List UInt8} (hb : b ≠ []) (h : errno (feed initRd (a ++ b)) = 0) : errno (feed initRd a) = 1 := by
  rw [feed_append] at h
  generalize feed initRd a = t at *
  by_cases h11 : t.part = 11
  · rw [feed_stop (Or.inl h11)] at h
    unfold errno at h
    rw [if_pos h11] at h
    omega
  by_cases h10 : t.part = 10
  · exfalso
    cases htr : t.trailing
    · match b, hb with
      | c :: r, _ =>
        rw [feed_go (by rw [htr]; intro q; rcases q with q | q; exact h11 q; cases q)] at h
        have e : Wr.take t c.toNat = { t with trailing := true } := by unfold Wr.take; rw [if_pos h10]
        rw [e, feed_stop (Or.inr rfl)] at h
        unfold errno at h
        rw [if_neg (show ¬ t.part = 11 from h11), if_neg (show ¬ t.part ≠ 10 from fun q => q h10)] at h
        cases h
    · rw [feed_stop (Or.inr htr)] at h
      unfold errno at h
      rw [if_neg h11, if_neg (fun q => q h10), htr] at h
      cases h
  · unfold errno
    rw [if_neg h11, if_pos h10]
theorem feed_tail {a b : List UInt8} (hb : b ≠ []) (h : errno (feed initRd a) = 0) : errno (feed initRd (a ++ b)) = 3 ∧ (feed initRd (a ++ b)).out = (feed initRd a).out := by
  rw [feed_append]
  generalize feed initRd a = t at *
  have h11 : ¬ t.part = 11 := by
    intro q
    unfold errno at h
    rw [if_pos q] at h
    omega
  have h10 : t.part = 10 := by
    unfold errno at h
    rw [if_neg h11] at h
    by_cases q : t.part = 10
    · exact q
    · rw [if_pos q] at h
      omega
  have htr : t.trailing = false := by
    unfold errno at h
    rw [if_neg h11, if_neg (fun q => q h10)] at h
    cases q : t.trailing
    · rfl
    · rw [q] at h
      cases h
  match b, hb with
  | c :: r, _ =>
    rw [feed_go (by rw [htr]; intro q; rcases q with q | q; exact h11 q; cases q)]
    have e : Wr.take t c.toNat = { t with trailing := true } := by unfold Wr.take; rw [if_pos h10]
    rw [e, feed_stop (Or.inr rfl)]
    refine ⟨?_, rfl⟩
    unfold errno
    rw [if_neg (show ¬ t.part = 11 from h11), if_neg (show ¬ t.part ≠ 10 from fun q => q h10)]
    rfl

/-- a beginning of a stream -/
theorem pre_dec {O S : ByteArray} (h : outStr (feed initRd O.data.toList).out = S ∧ errno (feed initRd O.data.toList) = 0) {m : Nat} (hm : m < O.size) :
    errno (feed initRd (O.extract 0 m).data.toList) = 1 ∧ (outStr (feed initRd (O.extract 0 m).data.toList).out).size ≤ S.size ∧ S.extract 0 (outStr (feed initRd (O.extract 0 m).data.toList).out).size = outStr (feed initRd (O.extract 0 m).data.toList).out := by
  have hl : O.data.toList.length = O.size := by simp
  have e1 : (O.extract 0 m).data.toList = O.data.toList.take m := by rw [Lib.extract_data, List.drop_zero, Nat.sub_zero]
  have e2 : O.data.toList = O.data.toList.take m ++ O.data.toList.drop m := (List.take_append_drop m _).symm
  have hne : O.data.toList.drop m ≠ [] := by
    intro q
    have := congrArg List.length q
    rw [List.length_drop] at this
    simp at this
    omega
  rw [e1]
  obtain ⟨h1, h2⟩ := h
  rw [e2] at h1 h2
  refine ⟨feed_short hne h2, ?_⟩
  have hp := (feed_piece (O.data.toList.take m) (O.data.toList.drop m)).1
  rw [hp, outStr_cat] at h1
  rw [← h1]
  generalize outStr (feed initRd (O.data.toList.take m)).out = A
  generalize outStr (feed (emptied (feed initRd (O.data.toList.take m))) (O.data.toList.drop m)).out = X
  refine ⟨by rw [ByteArray.size_append]; omega, ?_⟩
  apply bytes_ext
  have hA : A.data.toList.length = A.size := by simp
  rw [Lib.extract_data, List.drop_zero, Nat.sub_zero, ByteArray.data_append, Array.toList_append, ← hA, List.take_left]
theorem tail_dec {O S T : ByteArray} (h : outStr (feed initRd O.data.toList).out = S ∧ errno (feed initRd O.data.toList) = 0) (hT : 0 < T.size) :
    outStr (feed initRd (O ++ T).data.toList).out = S ∧ errno (feed initRd (O ++ T).data.toList) = 3 := by
  have hne : T.data.toList ≠ [] := by
    intro q
    have h1 : T.data.toList.length = T.size := by simp
    rw [q] at h1
    simp at h1
    omega
  rw [ByteArray.data_append, Array.toList_append]
  obtain ⟨t1, t2⟩ := feed_tail (a := O.data.toList) hne h.2
  rw [t1, t2]
  exact ⟨h.1, rfl⟩

theorem callS_inv (kind : Int) (T : ByteArray) {r : St} (h : EncInv (r.L, r.P) r.k.plain.data.toList) : EncInv ((callS kind T r).L, (callS kind T r).P) (callS kind T r).k.plain.data.toList := by
  unfold callS
  by_cases k1 : kind = 1
  · rw [if_pos k1]
    have := inv_write T.data.toList h
    show EncInv (writeE (r.L, r.P) T.data.toList) (r.k.plain ++ T).data.toList
    rw [ByteArray.data_append, Array.toList_append]
    exact this
  rw [if_neg k1]
  by_cases k2 : kind = 2
  · rw [if_pos k2]
    exact inv_flushed h
  rw [if_neg k2]
  by_cases k3 : kind = 3
  · rw [if_pos k3]
    have hNT : (noteT T).data.toList.length = (noteT T).size := by simp
    exact inv_note h _ (by have := (noteT_size T).1; omega)
  rw [if_neg k3]
  exact h
theorem run_inv (c : Nat → Int × ByteArray) (x : Int) : ∀ n, EncInv ((runS c (initS x) n).L, (runS c (initS x) n).P) (runS c (initS x) n).k.plain.data.toList
  | 0 => inv_init _ (windowP_bounds x).1 (windowP_bounds x).2
  | n + 1 => callS_inv _ _ (run_inv c x n)
theorem run_back (c : Nat → Int × ByteArray) (x : Int) (n : Nat) : outStr (feed initRd (endOut (runS c (initS x) n)).data.toList).out = (runS c (initS x) n).k.plain ∧ errno (feed initRd (endOut (runS c (initS x) n)).data.toList) = 0 := fin_back (run_inv c x n)
theorem plain_size (c : Nat → Int × ByteArray) (r : St) : ∀ n, (runS c r n).k.plain.size ≤ r.k.plain.size + bulk c n
  | 0 => by show r.k.plain.size ≤ _; omega
  | n + 1 => by
    have h1 := plain_size c r n
    have h2 : (callS (c n).1 (c n).2 (runS c r n)).k.plain.size ≤ (runS c r n).k.plain.size + (c n).2.size := by
      unfold callS
      split
      · show ((runS c r n).k.plain ++ (c n).2).size ≤ _
        rw [ByteArray.size_append]
        omega
      · split
        · show (runS c r n).k.plain.size ≤ _
          omega
        · split
          · show (runS c r n).k.plain.size ≤ _
            omega
          · omega
    show (callS (c n).1 (c n).2 (runS c r n)).k.plain.size ≤ _ + (bulk c n + ((c n).2.size + 4))
    omega
end Go.Proofs.Ytmjigodhncjfjaa
