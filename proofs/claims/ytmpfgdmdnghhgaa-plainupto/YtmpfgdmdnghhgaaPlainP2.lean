import Derived.Test.YtmpfgdmdnghhgaaPlainP
namespace Wr
/-- the stream so far -/
def plainHead (w : Int) (note : List UInt8) : List Int := numBits w 4 ++ (numBits 6 3 ++ (numBits note.length 8 ++ ([0] ++ byteBits note)))
def soFar (w : Int) (note : List UInt8) (cs : List (List UInt8)) : List Int := plainHead w note ++ (cs.map blk).flatten

theorem stored_eq : ∀ l : List (List UInt8), stored l = (l.map blk).flatten ++ numBits 1 3
  | [] => rfl
  | c :: l => by
    show blk c ++ stored l = blk c ++ (l.map blk).flatten ++ numBits 1 3
    rw [stored_eq l, List.append_assoc]
theorem soFar_end (w : Int) (note : List UInt8) (cs : List (List UInt8)) : soFar w note cs ++ numBits 1 3 = plainBits w note cs := by
  unfold soFar plainHead plainBits
  rw [stored_eq]
  simp only [List.append_assoc]
theorem head_length (w : Int) (note : List UInt8) : (plainHead w note).length = 16 + 8 * note.length := by
  unfold plainHead
  simp only [List.length_append, numBits_length, byteBits_length, List.length_singleton]
  omega
theorem blks_length : ∀ cs : List (List UInt8), ((cs.map blk).flatten).length = 16 * cs.length + 8 * cs.flatten.length
  | [] => rfl
  | c :: l => by
    show (blk c ++ (l.map blk).flatten).length = 16 * (l.length + 1) + 8 * (c ++ l.flatten).length
    rw [List.length_append, blks_length l, blk_length, List.length_append]
    omega
theorem soFar_length (w : Int) (note : List UInt8) (cs : List (List UInt8)) : (soFar w note cs).length = 16 + 8 * note.length + 16 * cs.length + 8 * cs.flatten.length := by
  unfold soFar
  rw [List.length_append, head_length, blks_length]
  omega
theorem good_count : ∀ cs : List (List UInt8), good cs → cs.length ≤ cs.flatten.length
  | [], _ => Nat.le_refl _
  | c :: l, h => by
    have hc := (h c (List.mem_cons_self ..)).1
    have := List.length_pos_iff.2 hc
    have ih := good_count l (fun x hx => h x (List.mem_cons_of_mem _ hx))
    show l.length + 1 ≤ (c ++ l.flatten).length
    rw [List.length_append]
    omega
theorem soFar_more (w : Int) (note : List UInt8) (cs : List (List UInt8)) (c : List UInt8) : soFar w note (cs ++ [c]) = soFar w note cs ++ blk c := by
  unfold soFar
  rw [List.map_append, List.flatten_append, List.append_assoc]
  show _ ++ (_ ++ (blk c ++ [])) = _
  rw [List.append_nil]
theorem good_more {cs : List (List UInt8)} {c : List UInt8} (h : good cs) (h1 : c ≠ []) (h2 : c.length ≤ 4096) : good (cs ++ [c]) := by
  intro x hx
  rcases List.mem_append.1 hx with h' | h'
  · exact h x h'
  · rw [List.mem_singleton] at h'; subst h'; exact ⟨h1, h2⟩
theorem isBits_cat {a b : List Int} (ha : isBits a) (hb : isBits b) : isBits (a ++ b) := by
  intro x hx
  rcases List.mem_append.1 hx with h | h
  · exact ha x h
  · exact hb x h
theorem isBits_nought : isBits [0] := by
  intro b hb
  rw [List.mem_singleton] at hb
  exact Or.inl hb
theorem blk_bits (c : List UInt8) : isBits (blk c) := isBits_cat (numBits_isBits _ _) (isBits_cat (numBits_isBits _ _) (isBits_cat isBits_nought (byteBits_isBits c)))
theorem stored_bits : ∀ l : List (List UInt8), isBits (stored l)
  | [] => numBits_isBits _ _
  | c :: l => isBits_cat (blk_bits c) (stored_bits l)
theorem plain_bits (w : Int) (note : List UInt8) (cs : List (List UInt8)) : isBits (plainBits w note cs) :=
  isBits_cat (numBits_isBits _ _) (isBits_cat (numBits_isBits _ _) (isBits_cat (numBits_isBits _ _) (isBits_cat isBits_nought (isBits_cat (byteBits_isBits _) (stored_bits _)))))
end Wr
