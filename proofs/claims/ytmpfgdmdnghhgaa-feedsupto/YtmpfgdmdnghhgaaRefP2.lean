/- TEXTS OF 0 AND 1. No Go. -/
import Derived.Test.YtmpfgdmdnghhgaaRefP
namespace Wr

def digit (c : Int) (j : Nat) : UInt8 := if c / 2 ^ j % 2 = 1 then 49 else 48
def digits (n : Nat) (c : Int) : List UInt8 := (List.range n).map fun i => digit c (n - 1 - i)
/-- the number c with n digits, the greatest first -/
def bstr (n : Nat) (c : Int) : ByteArray := ⟨(digits n c).toArray⟩
theorem digits_length (n : Nat) (c : Int) : (digits n c).length = n := by simp [digits]
theorem bstr_size (n : Nat) (c : Int) : (bstr n c).size = n := by
  show ((digits n c).toArray).size = n
  rw [List.size_toArray, digits_length]
theorem bstr_at {n : Nat} {c : Int} {i : Nat} (h : i < (bstr n c).size) : (bstr n c)[i] = digit c (n - 1 - i) := by
  have h1 : i < (digits n c).length := by rw [digits_length]; rw [bstr_size] at h; exact h
  show (digits n c).toArray[i]'(by rw [List.size_toArray]; exact h1) = _
  rw [List.getElem_toArray]
  simp [digits]
def noughts (n : Nat) : ByteArray := ⟨(List.replicate n (48 : UInt8)).toArray⟩
theorem noughts_size (n : Nat) : (noughts n).size = n := by
  show ((List.replicate n (48 : UInt8)).toArray).size = n
  rw [List.size_toArray, List.length_replicate]
theorem bytes_ext {a b : ByteArray} (h : a.data.toList = b.data.toList) : a = b := by
  cases a; cases b
  congr 1
  exact Array.toList_inj.1 h
theorem app_list (a b : ByteArray) : (a ++ b).data.toList = a.data.toList ++ b.data.toList := by
  rw [ByteArray.data_append, Array.toList_append]
theorem noughts_succ (n : Nat) : noughts n ++ noughts 1 = noughts (n + 1) := by
  apply bytes_ext
  rw [app_list]
  show List.replicate n (48 : UInt8) ++ List.replicate 1 48 = List.replicate (n + 1) 48
  rw [List.replicate_append_replicate]

theorem digit_high {c : Int} {j k : Nat} (_h0 : 0 ≤ c) (hm : c % 2 ^ j = 2 ^ j - 1) (hz : c / 2 ^ j % 2 = 0) (hk : j < k) : digit (c + 1) k = digit c k := by
  have pj := pow_pos2 j
  have e1 : c = 2 ^ j * (c / 2 ^ j) + (2 ^ j - 1) := by have := Int.emod_add_mul_ediv c (2 ^ j); omega
  have key : (c + 1) / 2 ^ k = c / 2 ^ k := by
    have ek : (2 : Int) ^ k = 2 ^ j * (2 * 2 ^ (k - j - 1)) := by
      rw [show k = j + (1 + (k - j - 1)) by omega, pow_add2, pow_add2, show j + (1 + (k - j - 1)) - j - 1 = k - j - 1 by omega]
      rfl
    have d1 : (c + 1) / 2 ^ j = c / 2 ^ j + 1 := by
      have e2 : c + 1 = 2 ^ j * (c / 2 ^ j + 1) := by rw [Int.mul_add, Int.mul_one]; omega
      conv => lhs; rw [e2]
      rw [Int.mul_ediv_cancel_left _ (by omega)]
    rw [ek, ← Int.ediv_ediv_of_nonneg (by omega), ← Int.ediv_ediv_of_nonneg (by omega), ← Int.ediv_ediv_of_nonneg (x := c) (by omega), ← Int.ediv_ediv_of_nonneg (x := c / 2 ^ j) (by omega), d1]
    rw [show (c / 2 ^ j + 1) / 2 = c / 2 ^ j / 2 by omega]
  unfold digit
  rw [key]
theorem digit_mid {c : Int} {j : Nat} (hm : c % 2 ^ j = 2 ^ j - 1) (hz : c / 2 ^ j % 2 = 0) : digit (c + 1) j = 49 := by
  have pj := pow_pos2 j
  have e1 : c + 1 = 2 ^ j * (c / 2 ^ j + 1) := by have := Int.emod_add_mul_ediv c (2 ^ j); rw [Int.mul_add, Int.mul_one]; omega
  have d1 : (c + 1) / 2 ^ j = c / 2 ^ j + 1 := by
    conv => lhs; rw [e1]
    rw [Int.mul_ediv_cancel_left _ (by omega)]
  unfold digit
  rw [d1, if_pos (by omega)]
theorem digit_low {c : Int} {j k : Nat} (hm : c % 2 ^ j = 2 ^ j - 1) (hk : k < j) : digit (c + 1) k = 48 := by
  have pj := pow_pos2 j
  have e1 : c + 1 = 2 ^ j * (c / 2 ^ j + 1) := by have := Int.emod_add_mul_ediv c (2 ^ j); rw [Int.mul_add, Int.mul_one]; omega
  have ej : (2 : Int) ^ j = 2 ^ k * (2 * 2 ^ (j - k - 1)) := by
    rw [show j = k + (1 + (j - k - 1)) by omega, pow_add2, pow_add2, show k + (1 + (j - k - 1)) - k - 1 = j - k - 1 by omega]
    rfl
  have pk := pow_pos2 k
  have d1 : (c + 1) / 2 ^ k = 2 * (2 ^ (j - k - 1) * (c / 2 ^ j + 1)) := by
    rw [e1]
    conv => lhs; lhs; lhs; rw [ej]
    rw [Int.mul_assoc, Int.mul_ediv_cancel_left _ (by omega), Int.mul_assoc]
  unfold digit
  rw [d1, if_neg (by omega)]
theorem more_eq {n : Nat} {c : Int} {j : Nat} (h0 : 0 ≤ c) (hj : j < n) (hm : c % 2 ^ j = 2 ^ j - 1) (hz : c / 2 ^ j % 2 = 0) (one : ByteArray) (h1 : one.data.toList = [49]) :
    (bstr n c).extract 0 (n - 1 - j) ++ one ++ noughts j = bstr n (c + 1) := by
  apply bytes_ext
  rw [app_list, app_list, h1]
  have ex : ((bstr n c).extract 0 (n - 1 - j)).data.toList = (digits n c).take (n - 1 - j) := by
    rw [ByteArray.data_extract, Array.toList_extract]
    simp [bstr]
  rw [ex]
  show (digits n c).take (n - 1 - j) ++ [49] ++ List.replicate j 48 = digits n (c + 1)
  apply List.ext_getElem
  · simp [digits_length]; omega
  · intro i hi1 hi2
    rw [digits_length] at hi2
    have e2 : (digits n (c + 1))[i] = digit (c + 1) (n - 1 - i) := by simp [digits]
    rw [e2]
    by_cases ha : i < n - 1 - j
    · rw [List.getElem_append_left (by simp [digits_length]; omega), List.getElem_append_left (by simp [digits_length]; omega), List.getElem_take, digit_high h0 hm hz (show j < n - 1 - i by omega)]
      simp [digits]
    · by_cases hb : i = n - 1 - j
      · rw [List.getElem_append_left (by simp [digits_length]; omega), List.getElem_append_right (by simp [digits_length]; omega), show n - 1 - i = j by omega, digit_mid hm hz]
        simp
      · rw [List.getElem_append_right (by simp [digits_length]; omega), digit_low hm (show n - 1 - i < j by omega)]
        simp
end Wr
