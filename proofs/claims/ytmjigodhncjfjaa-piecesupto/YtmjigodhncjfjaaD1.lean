import Derived.Test.YtmjigodhncjfjaaF1
import Derived.Test.YtmjigodhncjfjaaBig2
namespace Go.Proofs.Ytmjigodhncjfjaa
open Go.RowKit Wr

theorem emptied_part {s : Rd} (h : Part s) : Part (emptied s) := by
  rcases h with h | ⟨h1, h2⟩
  · exact Or.inl h
  · refine Or.inr ⟨h1, ?_⟩
    rcases h2 with h2 | ⟨h2, m⟩ | ⟨h2, m, c⟩ | ⟨c1, c2, h3⟩
    · exact Or.inl h2
    · exact Or.inr (Or.inl ⟨h2, ⟨m.size, m.width, m.at0, m.step⟩⟩)
    · exact Or.inr (Or.inr (Or.inl ⟨h2, ⟨m.size, m.width, m.at0, m.step⟩, c⟩))
    · exact Or.inr (Or.inr (Or.inr ⟨c1, c2, h3⟩))
theorem emptied_rest {s : Rd} (h : Wr.Rest s) : Wr.Rest (emptied s) := ⟨⟨h.1.1.of rfl rfl rfl rfl rfl rfl ⟨h.1.1.l0, h.1.1.l1⟩, emptied_part h.1.2⟩, h.2⟩
theorem feed_rest : ∀ (l : List UInt8) (s : Rd), Wr.Rest s → Wr.Rest (feed s l) ∧ psi (feed s l) ≤ psi s + 4096 * l.length
  | [], s, h => ⟨h, by show psi s ≤ psi s + 4096 * ((0 : Nat) : Int); omega⟩
  | c :: l, s, h => by
    by_cases hs : s.part = 11 ∨ s.trailing = true
    · rw [feed_stop hs]
      refine ⟨h, ?_⟩
      have : (0 : Int) ≤ ((c :: l).length : Int) := by omega
      omega
    · rw [feed_go hs]
      have cb := byte_bounds c
      obtain ⟨t1, t2⟩ := take_rest h c.toNat cb.1 cb.2 (fun q => hs (Or.inl q))
      obtain ⟨i1, i2⟩ := feed_rest l (Wr.take s c.toNat) t1
      refine ⟨i1, ?_⟩
      simp only [List.length_cons]
      omega
theorem emptied_psi (s : Rd) : psi (emptied s) ≤ psi s := by
  show (([] : List Int).length : Int) + s.left + 512 * s.have_ ≤ (s.out.length : Int) + s.left + 512 * s.have_
  simp only [List.length_nil]
  omega
/-- the reader behind all that was fed -/
def readerOf (S : ByteArray) : Rd := emptied (feed initRd S.data.toList)
theorem readerOf_ok (S : ByteArray) (hs : S.size ≤ 67108864) : Wr.Rest (readerOf S) ∧ psi (readerOf S) ≤ 1099511627776 ∧ (readerOf S).out = [] := by
  obtain ⟨h1, h2⟩ := feed_rest S.data.toList initRd init_rest
  have h3 := emptied_psi (feed initRd S.data.toList)
  have h4 : psi initRd = 0 := rfl
  have h5 : S.data.toList.length = S.size := by simp
  refine ⟨emptied_rest h1, ?_, rfl⟩
  show psi (emptied (feed initRd S.data.toList)) ≤ _
  omega
end Go.Proofs.Ytmjigodhncjfjaa
