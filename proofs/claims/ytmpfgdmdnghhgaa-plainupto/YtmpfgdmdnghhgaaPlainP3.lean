import Derived.Test.YtmpfgdmdnghhgaaPlainP2
import Derived.Lib.Strings
namespace Wr

theorem chunk_list (x : ByteArray) (p n : Nat) : ((x.extract p x.size).extract 0 n).data.toList = ((x.data.toList.drop p).take (x.size - p)).take n := by
  rw [Go.Lib.extract_data, Go.Lib.extract_data, List.drop_zero, Nat.sub_zero]
theorem chunk_list2 {x : ByteArray} {p n : Nat} (h : p + n ≤ x.size) : ((x.extract p x.size).extract 0 n).data.toList = (x.data.toList.drop p).take n := by
  rw [chunk_list, List.take_take, Nat.min_eq_left (by omega)]
theorem chunk_len {x : ByteArray} {p n : Nat} (h : p + n ≤ x.size) : ((x.extract p x.size).extract 0 n).data.toList.length = n := by
  rw [chunk_list2 h, List.length_take, List.length_drop]
  have : x.data.toList.length = x.size := by simp
  omega
theorem chunk_more {x : ByteArray} {p n : Nat} (h : p + n ≤ x.size) {cs : List (List UInt8)} (hf : cs.flatten = x.data.toList.take p) : (cs ++ [((x.extract p x.size).extract 0 n).data.toList]).flatten = x.data.toList.take (p + n) := by
  rw [List.flatten_append, hf, chunk_list2 h, List.take_add]
  simp
theorem tail_more {x : ByteArray} {p n m : Nat} (h : p + n ≤ x.size) (hm : m = x.size - p) : (x.extract p x.size).extract n m = x.extract (p + n) x.size := by
  rw [Go.Lib.extract_eq, Go.Lib.extract_data, Go.Lib.extract_eq, List.drop_take, List.drop_drop, List.take_take, hm]
  congr 3
  omega
theorem outStr_sz (l : List Int) : (outStr l).size = l.length := by
  have := congrArg List.length (outStr_list l)
  rw [List.length_map] at this
  rw [← this]
  simp
theorem str_back (x : ByteArray) : outStr (ints8 x.data.toList) = x := by
  have e : (outStr (ints8 x.data.toList)).data.toList = x.data.toList := by
    rw [outStr_list]
    unfold ints8
    rw [List.map_map]
    have : ∀ c : UInt8, ((fun n : Int => UInt8.ofNat n.toNat) ∘ fun c : UInt8 => (c.toNat : Int)) c = c := by
      intro c
      show UInt8.ofNat ((c.toNat : Int)).toNat = c
      rw [Int.toNat_natCast]
      exact UInt8.ofNat_toNat
    rw [show ((fun n : Int => UInt8.ofNat n.toNat) ∘ fun c : UInt8 => (c.toNat : Int)) = id from funext this, List.map_id]
  have := congrArg List.toArray e
  cases h : outStr (ints8 x.data.toList)
  rw [h] at this
  cases x
  simpa using this

theorem plain_dec (w : Int) (note : List UInt8) (cs : List (List UInt8)) (x S : ByteArray) (w0 : 0 ≤ w) (w8 : w ≤ 8) (hn : note.length ≤ 255) (hg : good cs) (hf : cs.flatten = x.data.toList) (hS : S.data.toList = bytesOf (valOf (plainBits w note cs)) (((plainBits w note cs).length + 7) / 8)) :
    outStr (feed initRd S.data.toList).out = x ∧ errno (feed initRd S.data.toList) = 0 := by
  obtain ⟨f1, f2⟩ := feed_full S.data.toList
  have hb := plain_bits w note cs
  have vb := valOf_bounds _ hb
  have hlen : (plainBits w note cs).length = 16 + 8 * note.length + 16 * cs.length + 8 * cs.flatten.length + 3 := by
    rw [← soFar_end, List.length_append, soFar_length, numBits_length]
  have h8 : ((8 * (((plainBits w note cs).length + 7) / 8) : Nat) : Int) = ((plainBits w note cs).length : Int) + 5 := by omega
  have hv : valOf (plainBits w note cs) < 2 ^ (8 * (((plainBits w note cs).length + 7) / 8)) := by
    rw [show 8 * (((plainBits w note cs).length + 7) / 8) = (plainBits w note cs).length + 5 by omega, pow_add2]
    have : (2 : Int) ^ 5 = 32 := rfl
    rw [this]
    have := vb.2
    omega
  obtain ⟨r1, r2⟩ := plain_read w note cs w0 w8 hn hg hb
  have e : full S.data.toList = drive { initRd with hold := valOf (plainBits w note cs), have_ := (plainBits w note cs).length + 5 } := by
    rw [hS, full_bytes _ _ vb.1 hv, ← h8]
    rfl
  rw [f1, f2, e, r1, r2, hf]
  exact ⟨str_back x, rfl⟩
end Wr
