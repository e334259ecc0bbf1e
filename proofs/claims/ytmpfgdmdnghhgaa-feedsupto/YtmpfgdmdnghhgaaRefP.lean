/- THE DOCUMENT's READER AS A PLAIN STATE: bits of a text, numbers of bits. No Go. -/
import Derived.Test.YtmpfgdmdnghhgaaBits
namespace Wr

structure Sr where
  at_ : Nat
  state : Int
  w : Int

def bitV (S : ByteArray) (x : Sr) : Int := if x.state ≠ 0 then 0 else if 8 * S.size ≤ x.at_ then 0 else valB S.data.toList / 2 ^ x.at_ % 2
def bitS (S : ByteArray) (x : Sr) : Sr := if x.state ≠ 0 then x else if 8 * S.size ≤ x.at_ then { x with state := 1 } else { x with at_ := x.at_ + 1 }
def numV (S : ByteArray) (x : Sr) (n : Nat) : Int := if x.state ≠ 0 then 0 else valB S.data.toList / 2 ^ x.at_ % 2 ^ n
def numS (S : ByteArray) (x : Sr) (n : Nat) : Sr := if x.state ≠ 0 then x else if x.at_ + n ≤ 8 * S.size then { x with at_ := x.at_ + n } else { x with state := 1, at_ := 8 * S.size }
def needS (x : Sr) (ok : Bool) : Sr := if x.state = 0 ∧ ok = false then { x with state := 2 } else x
/-- where a reading stands well -/
def okAt (S : ByteArray) (x : Sr) : Prop := x.at_ ≤ 8 * S.size

theorem pow_mono2 {n m : Nat} (h : n ≤ m) : (2 : Int) ^ n ≤ 2 ^ m := by
  rw [show m = n + (m - n) by omega, pow_add2]
  have := Int.mul_le_mul_of_nonneg_left (pow_pos2 (m - n)) (show (0 : Int) ≤ 2 ^ n by have := pow_pos2 n; omega)
  omega
theorem valB_lt : ∀ l : List UInt8, 0 ≤ valB l ∧ valB l < 2 ^ (8 * l.length)
  | [] => ⟨Int.le_refl _, by show (0 : Int) < 1; omega⟩
  | c :: l => by
    obtain ⟨h1, h2⟩ := valB_lt l
    have hc : (0 : Int) ≤ c.toNat ∧ (c.toNat : Int) < 256 := ⟨by omega, by have := c.toNat_lt; omega⟩
    show 0 ≤ (c.toNat : Int) + 256 * valB l ∧ (c.toNat : Int) + 256 * valB l < 2 ^ (8 * (l.length + 1))
    rw [show 8 * (l.length + 1) = 8 * l.length + 8 by omega, pow_add2]
    have : (2 : Int) ^ 8 = 256 := rfl
    rw [this]
    omega

theorem valB_bound (S : ByteArray) : 0 ≤ valB S.data.toList ∧ valB S.data.toList < 2 ^ (8 * S.size) := by
  have := valB_lt S.data.toList
  rw [show S.data.toList.length = S.size by simp] at this
  exact this

theorem valB_byte : ∀ (l : List UInt8) (i : Nat) (h : i < l.length), valB l / 2 ^ (8 * i) % 256 = (l[i].toNat : Int)
  | c :: l, 0, _ => by
    have hc : (c.toNat : Int) < 256 := by have := c.toNat_lt; omega
    rw [Nat.mul_zero, Int.pow_zero, Int.ediv_one, List.getElem_cons_zero]
    show ((c.toNat : Int) + 256 * valB l) % 256 = _
    omega
  | c :: l, i + 1, h => by
    have hc : (c.toNat : Int) < 256 := by have := c.toNat_lt; omega
    have ih := valB_byte l i (by simpa using h)
    rw [List.getElem_cons_succ, show valB (c :: l) = (c.toNat : Int) + 256 * valB l from rfl, show 8 * (i + 1) = 8 + 8 * i by omega, pow_add2, ← ih]
    have : (2 : Int) ^ 8 = 256 := rfl
    rw [this, ← Int.ediv_ediv_of_nonneg (by omega), show ((c.toNat : Int) + 256 * valB l) / 256 = valB l by omega]

theorem div_mod_pow (v : Int) (a b : Nat) (h : b < a) : v % 2 ^ a / 2 ^ b % 2 = v / 2 ^ b % 2 := by
  have e : (2 : Int) ^ a = 2 ^ b * (2 * 2 ^ (a - b - 1)) := by
    rw [show a = b + (1 + (a - b - 1)) by omega, pow_add2, pow_add2, show b + (1 + (a - b - 1)) - b - 1 = a - b - 1 by omega]
    rfl
  have p := pow_pos2 b
  have h1 : v % 2 ^ a = v - 2 ^ b * (2 * 2 ^ (a - b - 1)) * (v / 2 ^ a) := by
    have := Int.emod_add_mul_ediv v (2 ^ a)
    rw [← e]
    omega
  rw [h1, show v - 2 ^ b * (2 * 2 ^ (a - b - 1)) * (v / 2 ^ a) = v + 2 ^ b * (-(2 * (2 ^ (a - b - 1) * (v / 2 ^ a)))) by rw [Int.mul_neg, Int.mul_assoc, Int.mul_assoc]; omega, Int.add_mul_ediv_left _ _ (by omega)]
  omega

theorem byte_bit (S : ByteArray) (k : Nat) (_h : k < 8 * S.size) (hk : k / 8 < S.size) : (S[k / 8].toNat : Int) / 2 ^ (k % 8) % 2 = valB S.data.toList / 2 ^ k % 2 := by
  have hlen : k / 8 < S.data.toList.length := by simpa using hk
  have e := valB_byte S.data.toList (k / 8) hlen
  have e2 : S.data.toList[k / 8] = S[k / 8] := rfl
  rw [e2] at e
  rw [← e]
  have : (256 : Int) = 2 ^ 8 := rfl
  rw [this, div_mod_pow _ _ _ (by omega), Int.ediv_ediv_of_nonneg (by have := pow_pos2 (8 * (k / 8)); omega), ← pow_add2, show 8 * (k / 8) + k % 8 = k by omega]

theorem numV_zero (S : ByteArray) (x : Sr) : numV S x 0 = 0 := by
  unfold numV
  split
  · rfl
  · show valB S.data.toList / 2 ^ x.at_ % 1 = 0
    omega
theorem numS_zero {S : ByteArray} {x : Sr} (h : okAt S x) : numS S x 0 = x := by
  unfold numS
  unfold okAt at h
  split
  · rfl
  · rw [if_pos (by omega)]
    rfl
theorem numS_succ {S : ByteArray} {x : Sr} (_h : okAt S x) (n : Nat) : numS S x (n + 1) = bitS S (numS S x n) := by
  by_cases h0 : x.state ≠ 0
  · simp only [numS, bitS, if_pos h0]
  · have h0' : x.state = 0 := by omega
    by_cases h1 : x.at_ + n ≤ 8 * S.size
    · have e : numS S x n = { x with at_ := x.at_ + n } := by simp only [numS, if_neg h0, if_pos h1]
      rw [e]
      unfold bitS numS
      rw [if_neg h0, if_neg (show ¬ x.state ≠ 0 from h0)]
      dsimp only
      by_cases h2 : x.at_ + (n + 1) ≤ 8 * S.size
      · rw [if_pos h2, if_neg (by omega)]
        rfl
      · rw [if_neg h2, if_pos (by omega), show x.at_ + n = 8 * S.size by omega]
    · have e : numS S x n = { x with state := 1, at_ := 8 * S.size } := by simp only [numS, if_neg h0, if_neg h1]
      rw [e]
      unfold bitS numS
      rw [if_neg h0, if_neg (by omega), if_pos (by show (1 : Int) ≠ 0; omega)]
theorem numV_succ {S : ByteArray} {x : Sr} (_h : okAt S x) (n : Nat) : numV S x (n + 1) = numV S x n + 2 ^ n * bitV S (numS S x n) := by
  by_cases h0 : x.state ≠ 0
  · simp only [numV, numS, bitV, if_pos h0]
    simp
  · have vb := valB_bound S
    have e1 : numV S x (n + 1) = valB S.data.toList / 2 ^ x.at_ % 2 ^ (n + 1) := by simp only [numV, if_neg h0]
    have e2 : numV S x n = valB S.data.toList / 2 ^ x.at_ % 2 ^ n := by simp only [numV, if_neg h0]
    rw [e1, e2, mod_step]
    congr 2
    rw [Int.ediv_ediv_of_nonneg (by have := pow_pos2 x.at_; omega), ← pow_add2]
    by_cases h1 : x.at_ + n ≤ 8 * S.size
    · have e : numS S x n = { x with at_ := x.at_ + n } := by simp only [numS, if_neg h0, if_pos h1]
      rw [e]
      unfold bitV
      rw [if_neg (show ¬ x.state ≠ 0 from h0)]
      dsimp only
      split
      · rw [show x.at_ + n = 8 * S.size by omega, Int.ediv_eq_zero_of_lt vb.1 vb.2]
        rfl
      · rfl
    · have e : numS S x n = { x with state := 1, at_ := 8 * S.size } := by simp only [numS, if_neg h0, if_neg h1]
      rw [e]
      unfold bitV
      rw [if_pos (by show (1 : Int) ≠ 0; omega)]
      have : (2 : Int) ^ (8 * S.size) ≤ 2 ^ (x.at_ + n) := pow_mono2 (by omega)
      rw [Int.ediv_eq_zero_of_lt vb.1 (by omega)]
      rfl
theorem bitS_ok {S : ByteArray} {x : Sr} (h : okAt S x) : okAt S (bitS S x) := by
  unfold okAt bitS at *
  split
  · exact h
  · split
    · exact h
    · show x.at_ + 1 ≤ _; omega
theorem numS_ok {S : ByteArray} {x : Sr} (h : okAt S x) (n : Nat) : okAt S (numS S x n) := by
  unfold okAt numS at *
  split
  · exact h
  · split
    · assumption
    · exact Nat.le_refl _
theorem numV_bounds (S : ByteArray) (x : Sr) (n : Nat) : 0 ≤ numV S x n ∧ numV S x n < 2 ^ n := by
  have p := pow_pos2 n
  unfold numV
  split
  · omega
  · exact ⟨Int.emod_nonneg _ (by omega), Int.emod_lt_of_pos _ (by omega)⟩
theorem bitV_bounds (S : ByteArray) (x : Sr) : 0 ≤ bitV S x ∧ bitV S x ≤ 1 := by
  unfold bitV
  split
  · omega
  · split <;> omega

/-- bits 0 up to the next byte -/
def fillK (S : ByteArray) : Nat → Sr → Sr
  | 0, x => x
  | k + 1, x => if x.state ≠ 0 then x else fillK S k (needS (bitS S x) (bitV S x == 0))
def fillS (S : ByteArray) (x : Sr) : Sr := fillK S ((8 - x.at_ % 8) % 8) x
theorem fillK_stop (S : ByteArray) (k : Nat) {x : Sr} (h : x.state ≠ 0) : fillK S k x = x := by
  cases k with
  | zero => rfl
  | succ k => unfold fillK; rw [if_pos h]
theorem needS_ok {S : ByteArray} {x : Sr} (h : okAt S x) (ok : Bool) : okAt S (needS x ok) := by
  unfold needS
  split
  · exact h
  · exact h
theorem fillK_ok (S : ByteArray) : ∀ (k : Nat) (x : Sr), okAt S x → okAt S (fillK S k x)
  | 0, _, h => h
  | k + 1, x, h => by
    unfold fillK
    split
    · exact h
    · exact fillK_ok S k _ (needS_ok (bitS_ok h) _)
theorem fillS_ok {S : ByteArray} {x : Sr} (h : okAt S x) : okAt S (fillS S x) := fillK_ok S _ x h
end Wr
