import Derived.Test.YtmjigodhncjfjaaE11
namespace Go.Proofs.Ytmjigodhncjfjaa
open Go.RowKit Wr

def phiS (r : St) : Nat := r.L.length + 8 * r.P.length
theorem flushL_length (L : List Int) (P : List UInt8) : (flushL L P).length ≤ L.length + 32 + 8 * P.length := by
  have := letL_length L P
  unfold flushL
  split
  · omega
  · unfold emptyL
    have h3 := padL_le (headL (letL L P) false 0)
    rw [headL_length] at h3
    omega
theorem finL_length (L : List Int) (P : List UInt8) : (finL L P).length ≤ L.length + 22 + 8 * P.length := by
  have h1 := blkL_length L true P
  rw [finL_cases]
  split
  · unfold emptyL
    have h3 := padL_le (headL L true 0)
    rw [headL_length] at h3
    omega
  · omega
theorem callS_phi (kind : Int) (T : ByteArray) (r : St) : phiS (callS kind T r) ≤ phiS r + 30 * (T.size + 4) := by
  have hts := noteT_size T
  unfold callS
  by_cases k1 : kind = 1
  · rw [if_pos k1]
    have hphi := writeE_phi T.data.toList (r.L, r.P)
    have hTs : T.data.toList.length = T.size := by simp
    have e : phiE (r.L, r.P) = phiS r := rfl
    show phiE (writeE (r.L, r.P) T.data.toList) ≤ _
    omega
  rw [if_neg k1]
  by_cases k2 : kind = 2
  · rw [if_pos k2]
    have := flushL_length r.L r.P
    show (flushL r.L r.P).length + 8 * 0 ≤ r.L.length + 8 * r.P.length + _
    omega
  rw [if_neg k2]
  by_cases k3 : kind = 3
  · rw [if_pos k3]
    have hNT : (noteT T).data.toList.length = (noteT T).size := by simp
    have := letL_length r.L r.P
    have := noteL_length (letL r.L r.P) (noteT T).data.toList
    show (noteL (letL r.L r.P) (noteT T).data.toList).length + 8 * 0 ≤ r.L.length + 8 * r.P.length + _
    omega
  rw [if_neg k3]
  omega
theorem run_phi (c : Nat → Int × ByteArray) (r : St) : ∀ n, phiS (runS c r n) ≤ phiS r + 30 * bulk c n
  | 0 => by show phiS r ≤ _; omega
  | n + 1 => by
    have h1 := run_phi c r n
    have h2 := callS_phi (c n).1 (c n).2 (runS c r n)
    show phiS (callS (c n).1 (c n).2 (runS c r n)) ≤ _ + 30 * (bulk c n + ((c n).2.size + 4))
    omega
theorem endOut_size (c : Nat → Int × ByteArray) (x : Int) (n : Nat) : (endOut (runS c (initS x) n)).size ≤ 30 * bulk c n + 30 := by
  have h1 := run_phi c (initS x) n
  have h2 : phiS (initS x) = 4 := by
    show (numBits (windowP x) 4).length + 8 * 0 = 4
    rw [numBits_length]
  have h3 := finL_length (runS c (initS x) n).L (runS c (initS x) n).P
  unfold endOut
  rw [bytesL_size]
  unfold phiS at h1 h2
  omega

/-- how long the bits are -/
def SI (r : St) : Prop := ∃ F : Nat, 4096 * F + r.P.length ≤ r.k.plain.size ∧ ((phiS r : Nat) : Int) ≤ 4 + 8 * ((r.k.plain.size : Int) + r.k.bytes) + 22 * F + 32 * r.k.flushes + 40 * r.k.notes ∧ 0 ≤ r.k.flushes ∧ 0 ≤ r.k.notes ∧ 0 ≤ r.k.bytes
theorem write_short : ∀ (l : List UInt8) (e : List Int × List UInt8) (F N : Nat) (K : Int), 4096 * F + e.2.length ≤ N → ((phiE e : Nat) : Int) ≤ K + 8 * N + 22 * F →
    ∃ F' : Nat, 4096 * F' + (writeE e l).2.length ≤ N + l.length ∧ ((phiE (writeE e l) : Nat) : Int) ≤ K + 8 * ((N + l.length : Nat) : Int) + 22 * F'
  | [], e, F, N, K, h1, h2 => ⟨F, h1, h2⟩
  | c :: l, e, F, N, K, h1, h2 => by
    by_cases hf : 4096 ≤ e.2.length
    · have ha : addE e c = (blkL e.1 false e.2, [c]) := by unfold addE; rw [if_pos hf]
      have hb := blkL_length e.1 false e.2
      obtain ⟨F', g1, g2⟩ := write_short l (addE e c) (F + 1) (N + 1) K (by rw [ha]; show 4096 * (F + 1) + 1 ≤ _; omega) (by
        rw [ha]
        show (((blkL e.1 false e.2).length + 8 * 1 : Nat) : Int) ≤ _
        unfold phiE at h2
        omega)
      exact ⟨F', by rw [List.length_cons]; show 4096 * F' + (writeE (addE e c) l).2.length ≤ _; omega, by rw [List.length_cons]; show ((phiE (writeE (addE e c) l) : Nat) : Int) ≤ _; omega⟩
    · have ha : addE e c = (e.1, e.2 ++ [c]) := by unfold addE; rw [if_neg hf]
      have hl : (e.2 ++ [c]).length = e.2.length + 1 := by rw [List.length_append]; rfl
      obtain ⟨F', g1, g2⟩ := write_short l (addE e c) F (N + 1) K (by rw [ha]; show 4096 * F + (e.2 ++ [c]).length ≤ _; omega) (by
        rw [ha]
        show ((e.1.length + 8 * (e.2 ++ [c]).length : Nat) : Int) ≤ _
        unfold phiE at h2
        omega)
      exact ⟨F', by rw [List.length_cons]; show 4096 * F' + (writeE (addE e c) l).2.length ≤ _; omega, by rw [List.length_cons]; show ((phiE (writeE (addE e c) l) : Nat) : Int) ≤ _; omega⟩
theorem callS_short (kind : Int) (T : ByteArray) {r : St} (h : SI r) : SI (callS kind T r) := by
  obtain ⟨F, h1, h2, h3, h4, h5⟩ := h
  have hts := noteT_size T
  unfold callS
  by_cases k1 : kind = 1
  · rw [if_pos k1]
    have hTs : T.data.toList.length = T.size := by simp
    obtain ⟨F', g1, g2⟩ := write_short T.data.toList (r.L, r.P) F r.k.plain.size (4 + 8 * r.k.bytes + 32 * r.k.flushes + 40 * r.k.notes) h1 (by
      show ((phiS r : Nat) : Int) ≤ _
      omega)
    have hp : (r.k.plain ++ T).size = r.k.plain.size + T.size := ByteArray.size_append
    refine ⟨F', ?_, ?_, h3, h4, h5⟩
    · show 4096 * F' + (writeE (r.L, r.P) T.data.toList).2.length ≤ (r.k.plain ++ T).size
      omega
    · show ((phiE (writeE (r.L, r.P) T.data.toList) : Nat) : Int) ≤ 4 + 8 * (((r.k.plain ++ T).size : Int) + r.k.bytes) + 22 * F' + 32 * r.k.flushes + 40 * r.k.notes
      omega
  rw [if_neg k1]
  by_cases k2 : kind = 2
  · rw [if_pos k2]
    have hf := flushL_length r.L r.P
    refine ⟨F, ?_, ?_, by show 0 ≤ r.k.flushes + 1; omega, h4, h5⟩
    · show 4096 * F + 0 ≤ r.k.plain.size
      omega
    · show (((flushL r.L r.P).length + 8 * 0 : Nat) : Int) ≤ 4 + 8 * ((r.k.plain.size : Int) + r.k.bytes) + 22 * F + 32 * (r.k.flushes + 1) + 40 * r.k.notes
      unfold phiS at h2
      omega
  rw [if_neg k2]
  by_cases k3 : kind = 3
  · rw [if_pos k3]
    have hNT : (noteT T).data.toList.length = (noteT T).size := by simp
    have hl := letL_length r.L r.P
    have hn := noteL_length (letL r.L r.P) (noteT T).data.toList
    refine ⟨F, ?_, ?_, h3, by show 0 ≤ r.k.notes + 1; omega, by show 0 ≤ r.k.bytes + ((noteT T).size : Int); omega⟩
    · show 4096 * F + 0 ≤ r.k.plain.size
      omega
    · show (((noteL (letL r.L r.P) (noteT T).data.toList).length + 8 * 0 : Nat) : Int) ≤ 4 + 8 * ((r.k.plain.size : Int) + (r.k.bytes + ((noteT T).size : Int))) + 22 * F + 32 * r.k.flushes + 40 * (r.k.notes + 1)
      unfold phiS at h2
      omega
  rw [if_neg k3]
  exact ⟨F, h1, h2, h3, h4, h5⟩
theorem run_short (c : Nat → Int × ByteArray) (x : Int) : ∀ n, SI (runS c (initS x) n)
  | 0 => by
    refine ⟨0, Nat.le_refl _, ?_, Int.le_refl _, Int.le_refl _, Int.le_refl _⟩
    show (((numBits (windowP x) 4).length + 8 * 0 : Nat) : Int) ≤ 4 + 8 * ((0 : Int) + 0) + 22 * 0 + 32 * 0 + 40 * 0
    rw [numBits_length]
    omega
  | n + 1 => callS_short _ _ (run_short c x n)
/-- no stream is much longer than what was written -/
theorem end_short (c : Nat → Int × ByteArray) (x : Int) (n : Nat) : ((endOut (runS c (initS x) n)).size : Int) ≤ (runS c (initS x) n).k.plain.size + (runS c (initS x) n).k.bytes + 6 * ((((runS c (initS x) n).k.plain.size : Int) + 4095) / 4096 + (runS c (initS x) n).k.flushes + (runS c (initS x) n).k.notes) + 8 := by
  obtain ⟨F, h1, h2, h3, h4, h5⟩ := run_short c x n
  have hf := finL_length (runS c (initS x) n).L (runS c (initS x) n).P
  unfold endOut
  rw [bytesL_size]
  unfold phiS at h2
  generalize runS c (initS x) n = r at *
  omega
end Go.Proofs.Ytmjigodhncjfjaa
