/- what 'bits' makes, byte by byte. No Go. -/
import Derived.Test.YtmpfgdmdnghhgaaBits
namespace Wr

/-- byte j of the first k bits -/
def byteAt (l : List Int) (k j : Nat) : Int := valOf (l.take k) / 2 ^ (8 * j) % 256

theorem isBits_take {l : List Int} (h : isBits l) (k : Nat) : isBits (l.take k) := fun b hb => h b (List.mem_of_mem_take hb)
theorem valOf_take_succ {l : List Int} {k : Nat} (hk : k < l.length) : valOf (l.take (k + 1)) = valOf (l.take k) + 2 ^ k * l[k] := by
  rw [List.take_succ_eq_append_getElem hk, valOf_append, List.length_take, Nat.min_eq_left (by omega)]
  show _ + 2 ^ k * (l[k] + 2 * 0) = _
  rw [Int.mul_zero, Int.add_zero]

theorem byteAt_zero (l : List Int) (j : Nat) : byteAt l 0 j = 0 := by
  show (0 : Int) / 2 ^ (8 * j) % 256 = 0
  rw [Int.zero_ediv]; rfl

theorem byteAt_same {l : List Int} {k : Nat} (hk : k < l.length) (h0 : l[k] = 0) (j : Nat) : byteAt l (k + 1) j = byteAt l k j := by
  unfold byteAt
  rw [valOf_take_succ hk, h0, Int.mul_zero, Int.add_zero]

theorem byteAt_bounds {l : List Int} (hb : isBits l) {k : Nat} (hk : k ≤ l.length) : 0 ≤ byteAt l k (k / 8) ∧ byteAt l k (k / 8) < 2 ^ (k % 8) := by
  have vb := valOf_bounds _ (isBits_take hb k)
  rw [List.length_take, Nat.min_eq_left hk] at vb
  have hp := pow_pos2 (8 * (k / 8))
  have e : (2 : Int) ^ k = 2 ^ (k % 8) * 2 ^ (8 * (k / 8)) := by rw [← pow_add2, show k % 8 + 8 * (k / 8) = k by omega]
  have d1 : 0 ≤ valOf (l.take k) / 2 ^ (8 * (k / 8)) := Int.ediv_nonneg vb.1 (by omega)
  have d2 : valOf (l.take k) / 2 ^ (8 * (k / 8)) < 2 ^ (k % 8) := Int.ediv_lt_of_lt_mul (by omega) (by rw [← e]; exact vb.2)
  have d3 : (2 : Int) ^ (k % 8) ≤ 128 := by
    have : k % 8 = 0 ∨ k % 8 = 1 ∨ k % 8 = 2 ∨ k % 8 = 3 ∨ k % 8 = 4 ∨ k % 8 = 5 ∨ k % 8 = 6 ∨ k % 8 = 7 := by omega
    rcases this with e | e | e | e | e | e | e | e <;> rw [e] <;> decide
  unfold byteAt
  rw [Int.emod_eq_of_lt d1 (by omega)]
  exact ⟨d1, d2⟩

theorem byteAt_set {l : List Int} (hb : isBits l) {k : Nat} (hk : k < l.length) (h1 : l[k] = 1) (j : Nat) :
    byteAt l (k + 1) j = if j = k / 8 then byteAt l k j + 2 ^ (k % 8) else byteAt l k j := by
  have vb := valOf_bounds _ (isBits_take hb k)
  rw [List.length_take, Nat.min_eq_left (by omega)] at vb
  have bb := byteAt_bounds hb (Nat.le_of_lt hk)
  unfold byteAt at *
  rw [valOf_take_succ hk, h1, Int.mul_one]
  have hp := pow_pos2 (8 * j)
  by_cases e : j = k / 8
  · rw [if_pos e]
    subst e
    have e2 : (2 : Int) ^ k = 2 ^ (k % 8) * 2 ^ (8 * (k / 8)) := by rw [← pow_add2, show k % 8 + 8 * (k / 8) = k by omega]
    have d1 : 0 ≤ valOf (l.take k) / 2 ^ (8 * (k / 8)) := Int.ediv_nonneg vb.1 (by omega)
    have d2 : valOf (l.take k) / 2 ^ (8 * (k / 8)) < 2 ^ (k % 8) := Int.ediv_lt_of_lt_mul (by omega) (by rw [← e2]; exact vb.2)
    have d3 : (2 : Int) ^ (k % 8) ≤ 128 := by
      have : k % 8 = 0 ∨ k % 8 = 1 ∨ k % 8 = 2 ∨ k % 8 = 3 ∨ k % 8 = 4 ∨ k % 8 = 5 ∨ k % 8 = 6 ∨ k % 8 = 7 := by omega
      rcases this with e | e | e | e | e | e | e | e <;> rw [e] <;> decide
    rw [e2, Int.add_mul_ediv_right _ _ (by omega), Int.emod_eq_of_lt d1 (by omega), Int.emod_eq_of_lt (by omega) (by omega)]
  · rw [if_neg e]
    rcases Nat.lt_or_gt_of_ne e with hlt | hgt
    · have e2 : (2 : Int) ^ k = (2 ^ (k - 8 * j - 8) * 256) * 2 ^ (8 * j) := by
        have : (256 : Int) = 2 ^ 8 := rfl
        rw [this, ← pow_add2, ← pow_add2, show k - 8 * j - 8 + 8 + 8 * j = k by omega]
      rw [e2, Int.add_mul_ediv_right _ _ (by omega), Int.add_mul_emod_self_right]
    · have hle : (2 : Int) ^ (k + 1) ≤ 2 ^ (8 * j) := by
        have e3 : (2 : Int) ^ (8 * j) = 2 ^ (k + 1) * 2 ^ (8 * j - (k + 1)) := by rw [← pow_add2, show k + 1 + (8 * j - (k + 1)) = 8 * j by omega]
        have m := Int.mul_le_mul_of_nonneg_left (show (1 : Int) ≤ 2 ^ (8 * j - (k + 1)) from pow_pos2 _) (show (0 : Int) ≤ 2 ^ (k + 1) by have := pow_pos2 (k + 1); omega)
        rw [Int.mul_one] at m
        rw [e3]
        exact m
      rw [Int.pow_succ] at hle
      rw [Int.ediv_eq_zero_of_lt (by omega) (by omega), Int.ediv_eq_zero_of_lt vb.1 (by omega)]

theorem outStr_list (l : List Int) : (outStr l).data.toList = l.map fun n => UInt8.ofNat n.toNat := by
  have key : ∀ (l : List Int) (b : ByteArray), (l.foldl (fun r n => r.push (UInt8.ofNat n.toNat)) b).data.toList = b.data.toList ++ l.map fun n => UInt8.ofNat n.toNat := by
    intro l
    induction l with
    | nil => intro b; simp
    | cons x l ih =>
      intro b
      rw [List.foldl_cons, ih, ByteArray.data_push, Array.toList_push, List.map_cons, List.append_assoc]
      rfl
  have := key l ByteArray.empty
  exact this

theorem bytes_of_bits (l : List Int) : (outStr ((List.range ((l.length + 7) / 8)).map (byteAt l l.length))).data.toList = bytesOf (valOf l) ((l.length + 7) / 8) := by
  rw [outStr_list, List.map_map]
  unfold bytesOf byteAt
  rw [List.take_length]
  rfl

end Wr
