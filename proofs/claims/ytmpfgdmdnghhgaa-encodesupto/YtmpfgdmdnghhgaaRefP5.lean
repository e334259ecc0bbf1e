import Derived.Test.YtmpfgdmdnghhgaaRing
/- THE DOCUMENT's READER AS A PLAIN STATE: bits of a text, numbers of bits. No Go. -/
namespace Wr

structure Sr where
  at_ : Nat
  state : Int
  w : Int

def bitV (S : ByteArray) (x : Sr) : Int := if x.state ≠ 0 then 0 else if 8 * S.size ≤ x.at_ then 0 else valB S.data.toList / 2 ^ x.at_ % 2
def bitS (S : ByteArray) (x : Sr) : Sr := if x.state ≠ 0 then x else if 8 * S.size ≤ x.at_ then { x with state := 1 } else { x with at_ := x.at_ + 1 }
def numV (S : ByteArray) (x : Sr) (n : Nat) : Int := if x.state ≠ 0 then 0 else valB S.data.toList / 2 ^ x.at_ % 2 ^ n
def numS (S : ByteArray) (x : Sr) (n : Nat) : Sr := if x.state ≠ 0 then x else if x.at_ + n ≤ 8 * S.size then { x with at_ := x.at_ + n } else { x with state := 1, at_ := 8 * S.size }
def needS (x : Sr) (ok : Bool) : Sr := if x.state = 0 ∧ ok = false then { x with state := 2 } else x
/-- where a reading stands well -/
def okAt (S : ByteArray) (x : Sr) : Prop := x.at_ ≤ 8 * S.size

theorem pow_mono2 {n m : Nat} (h : n ≤ m) : (2 : Int) ^ n ≤ 2 ^ m := by
  rw [show m = n + (m - n) by omega, pow_add2]
  have := Int.mul_le_mul_of_nonneg_left (pow_pos2 (m - n)) (show (0 : Int) ≤ 2 ^ n by have := pow_pos2 n; omega)
  omega
theorem valB_lt : ∀ l : List UInt8, 0 ≤ valB l ∧ valB l < 2 ^ (8 * l.length)
  | [] => ⟨Int.le_refl _, by show (0 : Int) < 1; omega⟩
  | c :: l => by
    obtain ⟨h1, h2⟩ := valB_lt l
    have hc : (0 : Int) ≤ c.toNat ∧ (c.toNat : Int) < 256 := ⟨by omega, by have := c.toNat_lt; omega⟩
    show 0 ≤ (c.toNat : Int) + 256 * valB l ∧ (c.toNat : Int) + 256 * valB l < 2 ^ (8 * (l.length + 1))
    rw [show 8 * (l.length + 1) = 8 * l.length + 8 by omega, pow_add2]
    have : (2 : Int) ^ 8 = 256 := rfl
    rw [this]
    omega

theorem valB_bound (S : ByteArray) : 0 ≤ valB S.data.toList ∧ valB S.data.toList < 2 ^ (8 * S.size) := by
  have := valB_lt S.data.toList
  rw [show S.data.toList.length = S.size by simp] at this
  exact this

theorem valB_byte : ∀ (l : List UInt8) (i : Nat) (h : i < l.length), valB l / 2 ^ (8 * i) % 256 = (l[i].toNat : Int)
  | c :: l, 0, _ => by
    have hc : (c.toNat : Int) < 256 := by have := c.toNat_lt; omega
    rw [Nat.mul_zero, Int.pow_zero, Int.ediv_one, List.getElem_cons_zero]
    show ((c.toNat : Int) + 256 * valB l) % 256 = _
    omega
  | c :: l, i + 1, h => by
    have hc : (c.toNat : Int) < 256 := by have := c.toNat_lt; omega
    have ih := valB_byte l i (by simpa using h)
    rw [List.getElem_cons_succ, show valB (c :: l) = (c.toNat : Int) + 256 * valB l from rfl, show 8 * (i + 1) = 8 + 8 * i by omega, pow_add2, ← ih]
    have : (2 : Int) ^ 8 = 256 := rfl
    rw [this, ← Int.ediv_ediv_of_nonneg (by omega), show ((c.toNat : Int) + 256 * valB l) / 256 = valB l by omega]

theorem div_mod_pow (v : Int) (a b : Nat) (h : b < a) : v % 2 ^ a / 2 ^ b % 2 = v / 2 ^ b % 2 := by
  have e : (2 : Int) ^ a = 2 ^ b * (2 * 2 ^ (a - b - 1)) := by
    rw [show a = b + (1 + (a - b - 1)) by omega, pow_add2, pow_add2, show b + (1 + (a - b - 1)) - b - 1 = a - b - 1 by omega]
    rfl
  have p := pow_pos2 b
  have h1 : v % 2 ^ a = v - 2 ^ b * (2 * 2 ^ (a - b - 1)) * (v / 2 ^ a) := by
    have := Int.emod_add_mul_ediv v (2 ^ a)
    rw [← e]
    omega
  rw [h1, show v - 2 ^ b * (2 * 2 ^ (a - b - 1)) * (v / 2 ^ a) = v + 2 ^ b * (-(2 * (2 ^ (a - b - 1) * (v / 2 ^ a)))) by rw [Int.mul_neg, Int.mul_assoc, Int.mul_assoc]; omega, Int.add_mul_ediv_left _ _ (by omega)]
  omega

theorem byte_bit (S : ByteArray) (k : Nat) (_h : k < 8 * S.size) (hk : k / 8 < S.size) : (S[k / 8].toNat : Int) / 2 ^ (k % 8) % 2 = valB S.data.toList / 2 ^ k % 2 := by
  have hlen : k / 8 < S.data.toList.length := by simpa using hk
  have e := valB_byte S.data.toList (k / 8) hlen
  have e2 : S.data.toList[k / 8] = S[k / 8] := rfl
  rw [e2] at e
  rw [← e]
  have : (256 : Int) = 2 ^ 8 := rfl
  rw [this, div_mod_pow _ _ _ (by omega), Int.ediv_ediv_of_nonneg (by have := pow_pos2 (8 * (k / 8)); omega), ← pow_add2, show 8 * (k / 8) + k % 8 = k by omega]

theorem numV_zero (S : ByteArray) (x : Sr) : numV S x 0 = 0 := by
  unfold numV
  split
  · rfl
  · show valB S.data.toList / 2 ^ x.at_ % 1 = 0
    omega
theorem numS_zero {S : ByteArray} {x : Sr} (h : okAt S x) : numS S x 0 = x := by
  unfold numS
  unfold okAt at h
  split
  · rfl
  · rw [if_pos (by omega)]
    rfl
theorem numS_succ {S : ByteArray} {x : Sr} (_h : okAt S x) (n : Nat) : numS S x (n + 1) = bitS S (numS S x n) := by
  by_cases h0 : x.state ≠ 0
  · simp only [numS, bitS, if_pos h0]
  · have h0' : x.state = 0 := by omega
    by_cases h1 : x.at_ + n ≤ 8 * S.size
    · have e : numS S x n = { x with at_ := x.at_ + n } := by simp only [numS, if_neg h0, if_pos h1]
      rw [e]
      unfold bitS numS
      rw [if_neg h0, if_neg (show ¬ x.state ≠ 0 from h0)]
      dsimp only
      by_cases h2 : x.at_ + (n + 1) ≤ 8 * S.size
      · rw [if_pos h2, if_neg (by omega)]
        rfl
      · rw [if_neg h2, if_pos (by omega), show x.at_ + n = 8 * S.size by omega]
    · have e : numS S x n = { x with state := 1, at_ := 8 * S.size } := by simp only [numS, if_neg h0, if_neg h1]
      rw [e]
      unfold bitS numS
      rw [if_neg h0, if_neg (by omega), if_pos (by show (1 : Int) ≠ 0; omega)]
theorem numV_succ {S : ByteArray} {x : Sr} (_h : okAt S x) (n : Nat) : numV S x (n + 1) = numV S x n + 2 ^ n * bitV S (numS S x n) := by
  by_cases h0 : x.state ≠ 0
  · simp only [numV, numS, bitV, if_pos h0]
    simp
  · have vb := valB_bound S
    have e1 : numV S x (n + 1) = valB S.data.toList / 2 ^ x.at_ % 2 ^ (n + 1) := by simp only [numV, if_neg h0]
    have e2 : numV S x n = valB S.data.toList / 2 ^ x.at_ % 2 ^ n := by simp only [numV, if_neg h0]
    rw [e1, e2, mod_step]
    congr 2
    rw [Int.ediv_ediv_of_nonneg (by have := pow_pos2 x.at_; omega), ← pow_add2]
    by_cases h1 : x.at_ + n ≤ 8 * S.size
    · have e : numS S x n = { x with at_ := x.at_ + n } := by simp only [numS, if_neg h0, if_pos h1]
      rw [e]
      unfold bitV
      rw [if_neg (show ¬ x.state ≠ 0 from h0)]
      dsimp only
      split
      · rw [show x.at_ + n = 8 * S.size by omega, Int.ediv_eq_zero_of_lt vb.1 vb.2]
        rfl
      · rfl
    · have e : numS S x n = { x with state := 1, at_ := 8 * S.size } := by simp only [numS, if_neg h0, if_neg h1]
      rw [e]
      unfold bitV
      rw [if_pos (by show (1 : Int) ≠ 0; omega)]
      have : (2 : Int) ^ (8 * S.size) ≤ 2 ^ (x.at_ + n) := pow_mono2 (by omega)
      rw [Int.ediv_eq_zero_of_lt vb.1 (by omega)]
      rfl
theorem bitS_ok {S : ByteArray} {x : Sr} (h : okAt S x) : okAt S (bitS S x) := by
  unfold okAt bitS at *
  split
  · exact h
  · split
    · exact h
    · show x.at_ + 1 ≤ _; omega
theorem numS_ok {S : ByteArray} {x : Sr} (h : okAt S x) (n : Nat) : okAt S (numS S x n) := by
  unfold okAt numS at *
  split
  · exact h
  · split
    · assumption
    · exact Nat.le_refl _
theorem numV_bounds (S : ByteArray) (x : Sr) (n : Nat) : 0 ≤ numV S x n ∧ numV S x n < 2 ^ n := by
  have p := pow_pos2 n
  unfold numV
  split
  · omega
  · exact ⟨Int.emod_nonneg _ (by omega), Int.emod_lt_of_pos _ (by omega)⟩
theorem bitV_bounds (S : ByteArray) (x : Sr) : 0 ≤ bitV S x ∧ bitV S x ≤ 1 := by
  unfold bitV
  split
  · omega
  · split <;> omega

/-- bits 0 up to the next byte -/
def fillK (S : ByteArray) : Nat → Sr → Sr
  | 0, x => x
  | k + 1, x => if x.state ≠ 0 then x else fillK S k (needS (bitS S x) (bitV S x == 0))
def fillS (S : ByteArray) (x : Sr) : Sr := fillK S ((8 - x.at_ % 8) % 8) x
theorem fillK_stop (S : ByteArray) (k : Nat) {x : Sr} (h : x.state ≠ 0) : fillK S k x = x := by
  cases k with
  | zero => rfl
  | succ k => unfold fillK; rw [if_pos h]
theorem needS_ok {S : ByteArray} {x : Sr} (h : okAt S x) (ok : Bool) : okAt S (needS x ok) := by
  unfold needS
  split
  · exact h
  · exact h
theorem fillK_ok (S : ByteArray) : ∀ (k : Nat) (x : Sr), okAt S x → okAt S (fillK S k x)
  | 0, _, h => h
  | k + 1, x, h => by
    unfold fillK
    split
    · exact h
    · exact fillK_ok S k _ (needS_ok (bitS_ok h) _)
theorem fillS_ok {S : ByteArray} {x : Sr} (h : okAt S x) : okAt S (fillS S x) := fillK_ok S _ x h
end Wr

/- TEXTS OF 0 AND 1. No Go. -/
namespace Wr

def digit (c : Int) (j : Nat) : UInt8 := if c / 2 ^ j % 2 = 1 then 49 else 48
def digits (n : Nat) (c : Int) : List UInt8 := (List.range n).map fun i => digit c (n - 1 - i)
/-- the number c with n digits, the greatest first -/
def bstr (n : Nat) (c : Int) : ByteArray := ⟨(digits n c).toArray⟩
theorem digits_length (n : Nat) (c : Int) : (digits n c).length = n := by simp [digits]
theorem bstr_size (n : Nat) (c : Int) : (bstr n c).size = n := by
  show ((digits n c).toArray).size = n
  rw [List.size_toArray, digits_length]
theorem bstr_at {n : Nat} {c : Int} {i : Nat} (h : i < (bstr n c).size) : (bstr n c)[i] = digit c (n - 1 - i) := by
  have h1 : i < (digits n c).length := by rw [digits_length]; rw [bstr_size] at h; exact h
  show (digits n c).toArray[i]'(by rw [List.size_toArray]; exact h1) = _
  rw [List.getElem_toArray]
  simp [digits]
def noughts (n : Nat) : ByteArray := ⟨(List.replicate n (48 : UInt8)).toArray⟩
theorem noughts_size (n : Nat) : (noughts n).size = n := by
  show ((List.replicate n (48 : UInt8)).toArray).size = n
  rw [List.size_toArray, List.length_replicate]
theorem bytes_ext {a b : ByteArray} (h : a.data.toList = b.data.toList) : a = b := by
  cases a; cases b
  congr 1
  exact Array.toList_inj.1 h
theorem app_list (a b : ByteArray) : (a ++ b).data.toList = a.data.toList ++ b.data.toList := by
  rw [ByteArray.data_append, Array.toList_append]
theorem noughts_succ (n : Nat) : noughts n ++ noughts 1 = noughts (n + 1) := by
  apply bytes_ext
  rw [app_list]
  show List.replicate n (48 : UInt8) ++ List.replicate 1 48 = List.replicate (n + 1) 48
  rw [List.replicate_append_replicate]

theorem digit_high {c : Int} {j k : Nat} (_h0 : 0 ≤ c) (hm : c % 2 ^ j = 2 ^ j - 1) (hz : c / 2 ^ j % 2 = 0) (hk : j < k) : digit (c + 1) k = digit c k := by
  have pj := pow_pos2 j
  have e1 : c = 2 ^ j * (c / 2 ^ j) + (2 ^ j - 1) := by have := Int.emod_add_mul_ediv c (2 ^ j); omega
  have key : (c + 1) / 2 ^ k = c / 2 ^ k := by
    have ek : (2 : Int) ^ k = 2 ^ j * (2 * 2 ^ (k - j - 1)) := by
      rw [show k = j + (1 + (k - j - 1)) by omega, pow_add2, pow_add2, show j + (1 + (k - j - 1)) - j - 1 = k - j - 1 by omega]
      rfl
    have d1 : (c + 1) / 2 ^ j = c / 2 ^ j + 1 := by
      have e2 : c + 1 = 2 ^ j * (c / 2 ^ j + 1) := by rw [Int.mul_add, Int.mul_one]; omega
      conv => lhs; rw [e2]
      rw [Int.mul_ediv_cancel_left _ (by omega)]
    rw [ek, ← Int.ediv_ediv_of_nonneg (by omega), ← Int.ediv_ediv_of_nonneg (by omega), ← Int.ediv_ediv_of_nonneg (x := c) (by omega), ← Int.ediv_ediv_of_nonneg (x := c / 2 ^ j) (by omega), d1]
    rw [show (c / 2 ^ j + 1) / 2 = c / 2 ^ j / 2 by omega]
  unfold digit
  rw [key]
theorem digit_mid {c : Int} {j : Nat} (hm : c % 2 ^ j = 2 ^ j - 1) (hz : c / 2 ^ j % 2 = 0) : digit (c + 1) j = 49 := by
  have pj := pow_pos2 j
  have e1 : c + 1 = 2 ^ j * (c / 2 ^ j + 1) := by have := Int.emod_add_mul_ediv c (2 ^ j); rw [Int.mul_add, Int.mul_one]; omega
  have d1 : (c + 1) / 2 ^ j = c / 2 ^ j + 1 := by
    conv => lhs; rw [e1]
    rw [Int.mul_ediv_cancel_left _ (by omega)]
  unfold digit
  rw [d1, if_pos (by omega)]
theorem digit_low {c : Int} {j k : Nat} (hm : c % 2 ^ j = 2 ^ j - 1) (hk : k < j) : digit (c + 1) k = 48 := by
  have pj := pow_pos2 j
  have e1 : c + 1 = 2 ^ j * (c / 2 ^ j + 1) := by have := Int.emod_add_mul_ediv c (2 ^ j); rw [Int.mul_add, Int.mul_one]; omega
  have ej : (2 : Int) ^ j = 2 ^ k * (2 * 2 ^ (j - k - 1)) := by
    rw [show j = k + (1 + (j - k - 1)) by omega, pow_add2, pow_add2, show k + (1 + (j - k - 1)) - k - 1 = j - k - 1 by omega]
    rfl
  have pk := pow_pos2 k
  have d1 : (c + 1) / 2 ^ k = 2 * (2 ^ (j - k - 1) * (c / 2 ^ j + 1)) := by
    rw [e1]
    conv => lhs; lhs; lhs; rw [ej]
    rw [Int.mul_assoc, Int.mul_ediv_cancel_left _ (by omega), Int.mul_assoc]
  unfold digit
  rw [d1, if_neg (by omega)]
theorem more_eq {n : Nat} {c : Int} {j : Nat} (h0 : 0 ≤ c) (hj : j < n) (hm : c % 2 ^ j = 2 ^ j - 1) (hz : c / 2 ^ j % 2 = 0) (one : ByteArray) (h1 : one.data.toList = [49]) :
    (bstr n c).extract 0 (n - 1 - j) ++ one ++ noughts j = bstr n (c + 1) := by
  apply bytes_ext
  rw [app_list, app_list, h1]
  have ex : ((bstr n c).extract 0 (n - 1 - j)).data.toList = (digits n c).take (n - 1 - j) := by
    rw [ByteArray.data_extract, Array.toList_extract]
    simp [bstr]
  rw [ex]
  show (digits n c).take (n - 1 - j) ++ [49] ++ List.replicate j 48 = digits n (c + 1)
  apply List.ext_getElem
  · simp [digits_length]; omega
  · intro i hi1 hi2
    rw [digits_length] at hi2
    have e2 : (digits n (c + 1))[i] = digit (c + 1) (n - 1 - i) := by simp [digits]
    rw [e2]
    by_cases ha : i < n - 1 - j
    · rw [List.getElem_append_left (by simp [digits_length]; omega), List.getElem_append_left (by simp [digits_length]; omega), List.getElem_take, digit_high h0 hm hz (show j < n - 1 - i by omega)]
      simp [digits]
    · by_cases hb : i = n - 1 - j
      · rw [List.getElem_append_left (by simp [digits_length]; omega), List.getElem_append_right (by simp [digits_length]; omega), show n - 1 - i = j by omega, digit_mid hm hz]
        simp
      · rw [List.getElem_append_right (by simp [digits_length]; omega), digit_low hm (show n - 1 - i < j by omega)]
        simp
end Wr

/- THE SYMBOLS WITH THEIR BITS, IN THE ORDER OF THEIR LENGTHS. No Go. -/
namespace Wr

structure Wd where
  sym : Int
  len : Nat
  code : Int

def nextCode (f : Nat → Int) (N n i : Nat) : Int := firstOf (countGo f N).1 n + occ f n i

structure WordsAt (f : Nat → Int) (N n i : Nat) (ws : List Wd) : Prop where
  len : (ws.length : Int) = aheadOf (countGo f N).1 n + occ f n i
  at_ : ∀ k, k < N → 1 ≤ f k → (f k < n ∨ (f k = n ∧ k < i)) → ws[(placeOf (countGo f N).1 f k).toNat]? = some ⟨k, (f k).toNat, firstOf (countGo f N).1 (f k).toNat + occ f (f k) k⟩

structure BitsAt (f : Nat → Int) (N n i : Nat) (ws : List Wd) (m : Nat) (c : Int) : Prop where
  le : m ≤ n
  is : (ws = [] ∧ m = 0 ∧ c = 0 ∧ nextCode f N n i = 0) ∨ (ws ≠ [] ∧ 0 ≤ c ∧ (c + 1) * 2 ^ (n - m) = nextCode f N n i)

theorem cnt_zero (f : Nat → Int) (N : Nat) : (countGo f N).1 0 = 0 := by rw [count_occ, if_neg (by omega)]

theorem words_start (f : Nat → Int) (N : Nat) : WordsAt f N 1 0 [] ∧ BitsAt f N 1 0 [] 0 0 := by
  have z := cnt_zero f N
  refine ⟨⟨?_, fun k _ h1 h => absurd h (by omega)⟩, by omega, Or.inl ⟨rfl, rfl, rfl, ?_⟩⟩
  · show (0 : Int) = 0 + (countGo f N).1 0 + 0
    omega
  · show 2 * (0 + (countGo f N).1 0) + 0 = 0
    omega

theorem words_skip {f : Nat → Int} {N n i : Nat} {ws : List Wd} {m : Nat} {c : Int} (h : WordsAt f N n i ws) (hb : BitsAt f N n i ws m c) (hf : f i ≠ n) :
    WordsAt f N n (i + 1) ws ∧ BitsAt f N n (i + 1) ws m c := by
  have e : occ f n (i + 1) = occ f n i := by
    show occ f n i + (if f i = (n : Int) then 1 else 0) = _
    rw [if_neg hf, Int.add_zero]
  have e2 : nextCode f N n (i + 1) = nextCode f N n i := by unfold nextCode; rw [e]
  refine ⟨⟨by rw [e]; exact h.len, fun k hk h1 hc => h.at_ k hk h1 ?_⟩, hb.le, by rw [e2]; exact hb.is⟩
  rcases hc with hc | ⟨hc, hk2⟩
  · exact Or.inl hc
  · refine Or.inr ⟨hc, ?_⟩
    by_cases hki : k = i
    · subst hki; exact absurd hc hf
    · omega

theorem words_take {f : Nat → Int} {N n i : Nat} {ws : List Wd} (h : WordsAt f N n i ws) (hf : f i = n) :
    WordsAt f N n (i + 1) (ws ++ [⟨i, n, nextCode f N n i⟩]) ∧ BitsAt f N n (i + 1) (ws ++ [⟨i, n, nextCode f N n i⟩]) n (nextCode f N n i) := by
  have e : occ f n (i + 1) = occ f n i + 1 := by
    show occ f n i + (if f i = (n : Int) then 1 else 0) = _
    rw [if_pos hf]
  have hp : placeOf (countGo f N).1 f i = ws.length := by
    rw [h.len]
    unfold placeOf
    rw [hf, Int.toNat_natCast]
  have n0 : 0 ≤ nextCode f N n i := by
    unfold nextCode
    have := occ_nonneg f n i
    have fn : ∀ l, 0 ≤ firstOf (countGo f N).1 l := by
      intro l
      induction l with
      | zero => exact Int.le_refl _
      | succ l ih =>
        have := count_lo f N l
        show 0 ≤ 2 * (firstOf (countGo f N).1 l + (countGo f N).1 l)
        omega
    have := fn n
    omega
  refine ⟨⟨?_, fun k hk h1 hc => ?_⟩, Nat.le_refl _, Or.inr ⟨by simp, n0, ?_⟩⟩
  · rw [e, List.length_append]
    have := h.len
    show ((ws.length + 1 : Nat) : Int) = _
    omega
  · by_cases hki : k = i
    · subst hki
      rw [hp, Int.toNat_natCast, List.getElem?_append_right (Nat.le_refl _), Nat.sub_self]
      show some _ = some _
      congr 2
      · rw [hf, Int.toNat_natCast]
      · unfold nextCode
        rw [hf, Int.toNat_natCast]
    · have := h.at_ k hk h1 (by omega)
      rw [List.getElem?_append_left]
      · exact this
      · have := (List.getElem?_eq_some_iff.1 this).1
        exact this
  · rw [Nat.sub_self, Int.pow_zero, Int.mul_one]
    unfold nextCode
    rw [e]
    omega

theorem words_next {f : Nat → Int} {N n : Nat} {ws : List Wd} {m : Nat} {c : Int} (h1 : 1 ≤ n) (h12 : n ≤ 12) (h : WordsAt f N n N ws) (hb : BitsAt f N n N ws m c) :
    WordsAt f N (n + 1) 0 ws ∧ BitsAt f N (n + 1) 0 ws m c := by
  have ec : (countGo f N).1 n = occ f n N := by rw [count_occ, if_pos ⟨h1, h12⟩]
  have ea : aheadOf (countGo f N).1 (n + 1) = aheadOf (countGo f N).1 n + (countGo f N).1 n := rfl
  have ef : nextCode f N (n + 1) 0 = 2 * nextCode f N n N := by
    show 2 * (firstOf (countGo f N).1 n + (countGo f N).1 n) + 0 = 2 * (firstOf (countGo f N).1 n + occ f n N)
    omega
  refine ⟨⟨?_, fun k hk k1 hc => h.at_ k hk k1 ?_⟩, by have := hb.le; omega, ?_⟩
  · have := h.len
    have e0 : occ f ((n + 1 : Nat) : Int) 0 = 0 := rfl
    omega
  · rcases hc with hc | ⟨_, hc⟩
    · by_cases hn : f k = n
      · exact Or.inr ⟨hn, hk⟩
      · exact Or.inl (by omega)
    · omega
  · rcases hb.is with ⟨a, b, d, e⟩ | ⟨a, b, d⟩
    · exact Or.inl ⟨a, b, d, by rw [ef, e]; rfl⟩
    · refine Or.inr ⟨a, b, ?_⟩
      have := hb.le
      rw [ef, ← d, show n + 1 - m = n - m + 1 by omega, Int.pow_succ, ← Int.mul_assoc]
      omega

theorem first_top {cnt : Nat → Int} (lo : ∀ i, 0 ≤ cnt i) : ∀ d l : Nat, (firstOf cnt l + cnt l) * 2 ^ (d + 1) ≤ firstOf cnt (l + 1 + d)
  | 0, l => by
    show (firstOf cnt l + cnt l) * 2 ≤ 2 * (firstOf cnt l + cnt l)
    omega
  | d + 1, l => by
    have ih := first_top lo d l
    have e : firstOf cnt (l + 1 + (d + 1)) = 2 * (firstOf cnt (l + 1 + d) + cnt (l + 1 + d)) := rfl
    have := lo (l + 1 + d)
    rw [e, Int.pow_succ, ← Int.mul_assoc]
    omega
theorem first_room {cnt : Nat → Int} (lo : ∀ i, 0 ≤ cnt i) (full : firstOf cnt 13 = 8192) {l : Nat} (hl : l ≤ 12) : firstOf cnt l + cnt l ≤ 2 ^ l := by
  have h := first_top lo (12 - l) l
  rw [show l + 1 + (12 - l) = 13 by omega, full] at h
  have e : (8192 : Int) = 2 ^ l * 2 ^ (12 - l + 1) := by
    rw [← pow_add2, show l + (12 - l + 1) = 13 by omega]
    rfl
  rw [e] at h
  exact Int.le_of_mul_le_mul_right h (by have := pow_pos2 (12 - l + 1); omega)

theorem next_room {f : Nat → Int} {N n i : Nat} (hs : (countGo f N).2 = 4096) (h1 : 1 ≤ n) (h12 : n ≤ 12) (hi : i < N) (hf : f i = n) : nextCode f N n i < 2 ^ n := by
  have full : firstOf (countGo f N).1 13 = 8192 := by rw [(count_sums f N).1, hs]; rfl
  have r := first_room (count_lo f N) full h12
  have ec : (countGo f N).1 n = occ f n N := by rw [count_occ, if_pos ⟨h1, h12⟩]
  have o := occ_lt f hi
  rw [hf] at o
  unfold nextCode
  omega

theorem words_few {f : Nat → Int} {N n i : Nat} (h1 : 1 ≤ n) (h12 : n ≤ 12) (hi : i < N) (hf : f i = n) : aheadOf (countGo f N).1 n + occ f n i < N := by
  have ec : (countGo f N).1 n = occ f n N := by rw [count_occ, if_pos ⟨h1, h12⟩]
  have o := occ_lt f hi
  rw [hf] at o
  have ea : aheadOf (countGo f N).1 (n + 1) = aheadOf (countGo f N).1 n + (countGo f N).1 n := rfl
  have m := ahead_mono (count_lo f N) (show n + 1 ≤ 13 by omega)
  have cs := (count_sums f N).2
  omega

theorem pad_eq (m d : Nat) (c : Int) : bstr m c ++ noughts d = bstr (m + d) (c * 2 ^ d) := by
  apply bytes_ext
  rw [app_list]
  show digits m c ++ List.replicate d 48 = digits (m + d) (c * 2 ^ d)
  apply List.ext_getElem
  · simp [digits_length]
  · intro i hi1 hi2
    rw [digits_length] at hi2
    have e2 : (digits (m + d) (c * 2 ^ d))[i] = digit (c * 2 ^ d) (m + d - 1 - i) := by simp [digits]
    rw [e2]
    have pd := pow_pos2 d
    by_cases ha : i < m
    · rw [List.getElem_append_left (by rw [digits_length]; exact ha)]
      have e3 : (digits m c)[i]'(by rw [digits_length]; exact ha) = digit c (m - 1 - i) := by simp [digits]
      rw [e3]
      unfold digit
      rw [show m + d - 1 - i = d + (m - 1 - i) by omega, pow_add2, ← Int.ediv_ediv_of_nonneg (by omega), Int.mul_ediv_cancel _ (by omega)]
    · rw [List.getElem_append_right (by rw [digits_length]; omega)]
      rw [List.getElem_replicate]
      unfold digit
      have ek : (2 : Int) ^ d = 2 ^ (m + d - 1 - i) * (2 * 2 ^ (d - (m + d - 1 - i) - 1)) := by
        conv => lhs; rw [show d = (m + d - 1 - i) + (1 + (d - (m + d - 1 - i) - 1)) by omega, pow_add2, pow_add2]
        rfl
      have pk := pow_pos2 (m + d - 1 - i)
      rw [ek, show c * (2 ^ (m + d - 1 - i) * (2 * 2 ^ (d - (m + d - 1 - i) - 1))) = 2 ^ (m + d - 1 - i) * (2 * (2 ^ (d - (m + d - 1 - i) - 1) * c)) by rw [Int.mul_comm, Int.mul_assoc, Int.mul_assoc], Int.mul_ediv_cancel_left _ (by omega), if_neg (by omega)]
end Wr

/- A SYMBOL IS FOUND BY ITS BITS. No Go. -/
namespace Wr

theorem digit_same {c d : Int} {j : Nat} (h : digit c j = digit d j) : c / 2 ^ j % 2 = d / 2 ^ j % 2 := by
  unfold digit at h
  have hc : c / 2 ^ j % 2 = 0 ∨ c / 2 ^ j % 2 = 1 := by omega
  have hd : d / 2 ^ j % 2 = 0 ∨ d / 2 ^ j % 2 = 1 := by omega
  rcases hc with hc | hc <;> rcases hd with hd | hd
  · omega
  · rw [if_neg (by omega), if_pos hd] at h
    exact absurd h (by decide)
  · rw [if_pos hc, if_neg (by omega)] at h
    exact absurd h (by decide)
  · omega
theorem same_mod {c d : Int} : ∀ n : Nat, (∀ j, j < n → c / 2 ^ j % 2 = d / 2 ^ j % 2) → c % 2 ^ n = d % 2 ^ n
  | 0, _ => by
    have e : (2 : Int) ^ 0 = 1 := rfl
    rw [e]
    omega
  | n + 1, h => by
    rw [mod_step, mod_step, same_mod n (fun j hj => h j (by omega)), h n (by omega)]
theorem bstr_inj {n m : Nat} {c d : Int} (c0 : 0 ≤ c) (c1 : c < 2 ^ n) (d0 : 0 ≤ d) (d1 : d < 2 ^ m) (h : bstr n c = bstr m d) : n = m ∧ c = d := by
  have hs := congrArg ByteArray.size h
  rw [bstr_size, bstr_size] at hs
  subst hs
  refine ⟨rfl, ?_⟩
  have hl : digits n c = digits n d := by
    have := congrArg (fun b : ByteArray => b.data.toList) h
    exact this
  have := same_mod (c := c) (d := d) n (fun j hj => by
    apply digit_same
    have e := congrArg (fun l : List UInt8 => l[n - 1 - j]?) hl
    have h1 : n - 1 - j < n := by omega
    simp [digits, h1] at e
    rw [show n - 1 - (n - 1 - j) = j by omega] at e
    exact e)
  rw [Int.emod_eq_of_lt c0 c1, Int.emod_eq_of_lt d0 d1] at this
  exact this

/-- the place of the first word with these bits -/
def lookGo (k : Nat) (m : Int) : List Wd → Option Int
  | [] => none
  | x :: l => if x.len = k ∧ x.code = m then some x.sym else lookGo k m l

/-- the words' numbers fit their digits -/
def wdOk (ws : List Wd) : Prop := ∀ x ∈ ws, x.len ≤ 12 ∧ 0 ≤ x.code ∧ x.code < 2 ^ x.len

/-- reading a symbol: k bits were read, the number m -/
def symGo (S : ByteArray) (ws : List Wd) : Nat → Nat → Int → Sr → Int × Sr
  | 0, _, _, x => (0, x)
  | f + 1, k, m, x =>
    if x.state ≠ 0 then (0, x)
    else match lookGo k m ws with
      | some s => (s, x)
      | none => symGo S ws f (k + 1) (2 * m + bitV S x) (needS (bitS S x) (decide (k + 1 ≤ 12)))
def symV (S : ByteArray) (ws : List Wd) (x : Sr) : Int := (symGo S ws 14 0 0 x).1
def symS (S : ByteArray) (ws : List Wd) (x : Sr) : Sr := (symGo S ws 14 0 0 x).2

theorem look_drop {k : Nat} {m : Int} : ∀ (ws : List Wd) (i : Nat) (h : i < ws.length), lookGo k m (ws.drop i) = if ws[i].len = k ∧ ws[i].code = m then some ws[i].sym else lookGo k m (ws.drop (i + 1))
  | x :: l, 0, _ => rfl
  | x :: l, i + 1, h => look_drop l i (by simpa using h)

theorem digit_push {n : Nat} {c : Int} (b : Int) (h0 : 0 ≤ b) (h1 : b ≤ 1) : bstr n c ++ ⟨#[if b = 0 then 48 else 49]⟩ = bstr (n + 1) (2 * c + b) := by
  apply bytes_ext
  rw [app_list]
  show digits n c ++ [if b = 0 then 48 else 49] = digits (n + 1) (2 * c + b)
  apply List.ext_getElem
  · simp [digits_length]
  · intro i hi1 hi2
    rw [digits_length] at hi2
    have e2 : (digits (n + 1) (2 * c + b))[i] = digit (2 * c + b) (n - i) := by simp [digits]
    rw [e2]
    by_cases ha : i < n
    · rw [List.getElem_append_left (by rw [digits_length]; exact ha)]
      have e3 : (digits n c)[i]'(by rw [digits_length]; exact ha) = digit c (n - 1 - i) := by simp [digits]
      rw [e3]
      unfold digit
      rw [show n - i = 1 + (n - 1 - i) by omega, pow_add2, ← Int.ediv_ediv_of_nonneg (by decide), show (2 * c + b) / 2 ^ 1 = c by show (2 * c + b) / 2 = c; omega]
    · have hin : i = n := by omega
      subst hin
      rw [List.getElem_append_right (by rw [digits_length]; exact Nat.le_refl _)]
      simp only [digits_length, Nat.sub_self, List.getElem_cons_zero]
      unfold digit
      rw [Int.pow_zero, Int.ediv_one]
      rcases (show b = 0 ∨ b = 1 by omega) with rfl | rfl
      · rw [if_pos rfl, if_neg (by omega)]
      · rw [if_neg (by omega), if_pos (by omega)]
end Wr

/- THE DOCUMENT's CODES, PLAINLY: the words of a code, simple codes, full codes. No Go. -/
namespace Wr

/-- the length of the word at place p -/
def lenAt (cnt : Nat → Int) (p : Int) : Nat → Nat
  | 0 => 0
  | l + 1 => if aheadOf cnt (l + 1) ≤ p then l + 1 else lenAt cnt p l
def wordAt (cnt sym : Nat → Int) (p : Nat) : Wd := ⟨sym p, lenAt cnt p 12, firstOf cnt (lenAt cnt p 12) + (p - aheadOf cnt (lenAt cnt p 12))⟩
/-- the words of a code -/
def codeWs (cnt sym : Nat → Int) : List Wd := (List.range (aheadOf cnt 13).toNat).map (wordAt cnt sym)

structure CodeIs (ws : List Wd) (cnt sym : Nat → Int) : Prop where
  len : (ws.length : Int) = aheadOf cnt 13
  at_ : ∀ (l p : Nat), l ≤ 12 → aheadOf cnt l ≤ p → (p : Int) < aheadOf cnt (l + 1) → ws[p]? = some ⟨sym p, l, firstOf cnt l + (p - aheadOf cnt l)⟩

theorem lenAt_eq {cnt : Nat → Int} (lo : ∀ i, 0 ≤ cnt i) {p : Int} {l : Nat} (h1 : aheadOf cnt l ≤ p) (h2 : p < aheadOf cnt (l + 1)) : ∀ m : Nat, l ≤ m → lenAt cnt p m = l
  | 0, h => by have : l = 0 := by omega
               subst this; rfl
  | m + 1, h => by
    unfold lenAt
    by_cases e : l = m + 1
    · subst e; rw [if_pos h1]
    · have := ahead_mono lo (show l + 1 ≤ m + 1 by omega)
      rw [if_neg (by omega), lenAt_eq lo h1 h2 m (by omega)]

theorem codeWs_at {cnt sym : Nat → Int} (lo : ∀ i, 0 ≤ cnt i) {l p : Nat} (hl : l ≤ 12) (h1 : aheadOf cnt l ≤ p) (h2 : (p : Int) < aheadOf cnt (l + 1)) :
    (codeWs cnt sym)[p]? = some ⟨sym p, l, firstOf cnt l + (p - aheadOf cnt l)⟩ := by
  have m := ahead_mono lo (show l + 1 ≤ 13 by omega)
  have hp : p < (aheadOf cnt 13).toNat := by omega
  unfold codeWs
  rw [List.getElem?_map, List.getElem?_range hp]
  show some (wordAt cnt sym p) = _
  unfold wordAt
  rw [lenAt_eq lo h1 h2 12 hl]
theorem codeWs_length {cnt sym : Nat → Int} (lo : ∀ i, 0 ≤ cnt i) : ((codeWs cnt sym).length : Int) = aheadOf cnt 13 := by
  have := ahead_nonneg lo 13
  simp [codeWs]
  omega

theorem CodeIs.eq {ws : List Wd} {cnt sym : Nat → Int} (h : CodeIs ws cnt sym) (lo : ∀ i, 0 ≤ cnt i) : ws = codeWs cnt sym := by
  apply List.ext_getElem?
  intro p
  by_cases hp : (p : Int) < aheadOf cnt 13
  · obtain ⟨l, l1, l2, l3⟩ := ahead_find cnt p (by omega) 13 hp
    rw [h.at_ l p (by omega) l2 l3, codeWs_at lo (by omega) l2 l3]
  · have := h.len
    have e := codeWs_length (sym := sym) lo
    rw [List.getElem?_eq_none (by omega), List.getElem?_eq_none (by omega)]

theorem codeWs_congr {cnt sym sym' : Nat → Int} (h : ∀ p : Nat, (p : Int) < aheadOf cnt 13 → sym p = sym' p) : codeWs cnt sym = codeWs cnt sym' := by
  unfold codeWs
  apply List.map_congr_left
  intro p hp
  rw [List.mem_range] at hp
  unfold wordAt
  rw [h p (by omega)]

theorem codeWs_ok {cnt sym : Nat → Int} {S : Int} (h : Cod cnt sym S) : wdOk (codeWs cnt sym) ∧ (codeWs cnt sym).length ≤ 272 := by
  have e := codeWs_length (sym := sym) h.lo
  have hf := h.few
  refine ⟨fun x hx => ?_, by omega⟩
  obtain ⟨p, hp, rfl⟩ := List.mem_iff_getElem.1 hx
  obtain ⟨l, l1, l2, l3⟩ := ahead_find cnt p (by omega) 13 (by omega)
  have ha := codeWs_at (sym := sym) h.lo (show l ≤ 12 by omega) l2 l3
  rw [List.getElem?_eq_getElem hp] at ha
  have ha := Option.some.inj ha
  rw [ha]
  have r := first_room h.lo h.full (show l ≤ 12 by omega)
  have a1 : aheadOf cnt (l + 1) = aheadOf cnt l + cnt l := rfl
  have fn : ∀ l, 0 ≤ firstOf cnt l := by
    intro l
    induction l with
    | zero => exact Int.le_refl _
    | succ l ih =>
      have := h.lo l
      show 0 ≤ 2 * (firstOf cnt l + cnt l)
      omega
  have := fn l
  exact ⟨by show l ≤ 12; omega, by show 0 ≤ firstOf cnt l + (p - aheadOf cnt l); omega, by show firstOf cnt l + (p - aheadOf cnt l) < 2 ^ l; omega⟩

theorem words_code {f sym : Nat → Int} {N : Nat} {ws : List Wd} (h : WordsAt f N 13 0 ws) (hs : ∀ k, k < N → 1 ≤ f k → f k ≤ 12 → sym (placeOf (countGo f N).1 f k).toNat = k) : CodeIs ws (countGo f N).1 sym := by
  refine ⟨by rw [h.len]; show _ + 0 = _; omega, fun l p hl h1 h2 => ?_⟩
  have a1 : aheadOf (countGo f N).1 (l + 1) = aheadOf (countGo f N).1 l + (countGo f N).1 l := rfl
  have c := count_occ f N l
  have hl1 : 1 ≤ l := by
    rcases Nat.eq_zero_or_pos l with e | e
    · subst e; rw [if_neg (by omega)] at c; omega
    · exact e
  rw [if_pos ⟨hl1, hl⟩] at c
  obtain ⟨i, i1, i2, i3⟩ := occ_find f l ((p : Int) - aheadOf (countGo f N).1 l) (by omega) N (by omega)
  have ep : placeOf (countGo f N).1 f i = p := by
    unfold placeOf
    rw [i2, i3, Int.toNat_natCast]
    omega
  have w := h.at_ i i1 (by omega) (Or.inl (by omega))
  have s := hs i i1 (by omega) (by omega)
  rw [ep, Int.toNat_natCast] at w s
  rw [w, s, i2, i3, Int.toNat_natCast]

/- names -/
def simpLen (n p : Nat) : Int := if n = 2 ∨ (n = 3 ∧ p = 0) then 1 else 2
def lenF (n : Nat) (nm : Nat → Int) : Nat → (Nat → Int)
  | 0 => fun _ => 0
  | k + 1 => upd (lenF n nm k) (nm k).toNat (simpLen n k)

theorem occ_upd {f : Nat → Int} {j : Nat} (hf : f j = 0) (a l : Int) (hl : l ≠ 0) : ∀ i : Nat, occ (upd f j a) l i = occ f l i + if a = l ∧ j < i then 1 else 0
  | 0 => by rw [if_neg (by omega)]; rfl
  | i + 1 => by
    have ih := occ_upd hf a l hl i
    show occ (upd f j a) l i + (if upd f j a i = l then 1 else 0) = occ f l i + (if f i = l then 1 else 0) + _
    rw [ih]
    unfold upd
    by_cases e : i = j
    · subst e
      rw [if_pos rfl, hf, if_neg (show ¬ (0 : Int) = l by omega), if_neg (show ¬ (a = l ∧ i < i) by omega)]
      by_cases ha : a = l
      · rw [if_pos ha, if_pos ⟨ha, by omega⟩]
      · rw [if_neg ha, if_neg (by omega)]
    · rw [if_neg e]
      by_cases ha : a = l ∧ j < i
      · rw [if_pos ha, if_pos (show a = l ∧ j < i + 1 from ⟨ha.1, by omega⟩)]
        omega
      · rw [if_neg ha, if_neg (show ¬ (a = l ∧ j < i + 1) by omega)]
        omega
theorem occ_nil (l : Int) (hl : l ≠ 0) : ∀ i : Nat, occ (fun _ => 0) l i = 0
  | 0 => rfl
  | i + 1 => by
    show occ (fun _ => 0) l i + (if (0 : Int) = l then 1 else 0) = 0
    rw [occ_nil l hl i, if_neg (by omega)]
    rfl

/-- the names in their order -/
structure NamesOk (N : Nat) (nm : Nat → Int) (k : Nat) : Prop where
  lt : ∀ p, p < k → 0 ≤ nm p ∧ nm p < N
  inc : ∀ p, p + 1 < k → nm p < nm (p + 1)
theorem NamesOk.mono {N : Nat} {nm : Nat → Int} {k : Nat} (h : NamesOk N nm k) : ∀ {p q : Nat}, p < q → q < k → nm p < nm q
  | p, q + 1, h1, h2 => by
    by_cases e : p = q
    · subst e; exact h.inc p h2
    · have := h.mono (show p < q by omega) (show q < k by omega)
      have := h.inc q h2
      omega
theorem lenF_zero {N n : Nat} {nm : Nat → Int} : ∀ {k : Nat}, NamesOk N nm k → ∀ j : Nat, (∀ p, p < k → nm p ≠ j) → lenF n nm k j = 0
  | 0, _, _, _ => rfl
  | k + 1, h, j, hj => by
    have hk := h.lt k (by omega)
    have := hj k (by omega)
    show upd (lenF n nm k) (nm k).toNat (simpLen n k) j = 0
    unfold upd
    rw [if_neg (by omega)]
    exact lenF_zero ⟨fun p hp => h.lt p (by omega), fun p hp => h.inc p (by omega)⟩ j (fun p hp => hj p (by omega))
theorem NamesOk.pre {N : Nat} {nm : Nat → Int} {k m : Nat} (h : NamesOk N nm k) (hm : m ≤ k) : NamesOk N nm m := ⟨fun p hp => h.lt p (by omega), fun p hp => h.inc p (by omega)⟩
theorem lenF_free {N n : Nat} {nm : Nat → Int} {k : Nat} (h : NamesOk N nm (k + 1)) : lenF n nm k (nm k).toNat = 0 := by
  refine lenF_zero (h.pre (by omega)) _ fun p hp => ?_
  have := h.mono (show p < k from hp) (by omega)
  have := h.lt k (by omega)
  omega
/-- how many of the first k names have this length and lie below i -/
def nameOcc (n : Nat) (nm : Nat → Int) (l : Int) (i : Nat) : Nat → Int
  | 0 => 0
  | k + 1 => nameOcc n nm l i k + if simpLen n k = l ∧ nm k < i then 1 else 0
theorem lenF_occ {N n : Nat} {nm : Nat → Int} (l : Int) (hl : l ≠ 0) (i : Nat) : ∀ {k : Nat}, NamesOk N nm k → occ (lenF n nm k) l i = nameOcc n nm l i k
  | 0, _ => occ_nil l hl i
  | k + 1, h => by
    have hk := h.lt k (by omega)
    show occ (upd (lenF n nm k) (nm k).toNat (simpLen n k)) l i = nameOcc n nm l i k + _
    rw [occ_upd (lenF_free h) _ l hl i, lenF_occ l hl i (h.pre (by omega))]
    congr 1
    by_cases e : simpLen n k = l ∧ nm k < i
    · rw [if_pos e, if_pos ⟨e.1, by omega⟩]
    · rw [if_neg e, if_neg (fun q => e ⟨q.1, by omega⟩)]
theorem lenF_at {N n : Nat} {nm : Nat → Int} : ∀ {k : Nat}, NamesOk N nm k → ∀ p, p < k → lenF n nm k (nm p).toNat = simpLen n p
  | k + 1, h, p, hp => by
    show upd (lenF n nm k) (nm k).toNat (simpLen n k) (nm p).toNat = _
    unfold upd
    by_cases e : p = k
    · subst e; rw [if_pos rfl]
    · have := h.mono (show p < k by omega) (by omega)
      have := h.lt p (by omega)
      rw [if_neg (by omega)]
      exact lenF_at (h.pre (by omega)) p (by omega)
theorem lenF_bounds (n : Nat) (nm : Nat → Int) : ∀ (k j : Nat), 0 ≤ lenF n nm k j ∧ lenF n nm k j ≤ 12
  | 0, _ => ⟨Int.le_refl _, by show (0 : Int) ≤ 12; omega⟩
  | k + 1, j => by
    have ih := lenF_bounds n nm k j
    show 0 ≤ upd (lenF n nm k) (nm k).toNat (simpLen n k) j ∧ upd (lenF n nm k) (nm k).toNat (simpLen n k) j ≤ 12
    unfold upd simpLen
    split
    · split <;> omega
    · exact ih

theorem simp_count {N n : Nat} {nm : Nat → Int} (h2 : 2 ≤ n) (h4 : n ≤ 4) (h : NamesOk N nm n) : (countGo (lenF n nm n) N).1 = simpleCnt n := by
  funext j
  rw [count_occ]
  have key : 1 ≤ j → occ (lenF n nm n) j N = nameOcc n nm j N n := fun hj => lenF_occ (j : Int) (by omega) N h
  have l0 := h.lt
  rcases (show n = 2 ∨ n = 3 ∨ n = 4 by omega) with rfl | rfl | rfl
  · have a := l0 0 (by omega); have b := l0 1 (by omega)
    simp only [nameOcc, simpLen] at key
    unfold simpleCnt
    split
    · rename_i hj
      rw [key hj.1]
      simp
      by_cases e : j = 1
      · subst e; simp [a.2, b.2]
      · rw [if_neg e, if_neg (by omega), if_neg (by omega)]; rfl
    · simp
      omega
  · have a := l0 0 (by omega); have b := l0 1 (by omega); have c := l0 2 (by omega)
    simp only [nameOcc, simpLen] at key
    unfold simpleCnt
    split
    · rename_i hj
      rw [key hj.1]
      simp
      by_cases e : j = 1
      · subst e; simp [a.2]
      · by_cases e2 : j = 2
        · subst e2; simp [b.2, c.2]
        · rw [if_neg e, if_neg e2, if_neg (by omega), if_neg (by omega), if_neg (by omega)]; rfl
    · simp
      omega
  · have a := l0 0 (by omega); have b := l0 1 (by omega); have c := l0 2 (by omega); have d := l0 3 (by omega)
    simp only [nameOcc, simpLen] at key
    unfold simpleCnt
    split
    · rename_i hj
      rw [key hj.1]
      simp
      by_cases e2 : j = 2
      · subst e2; simp [a.2, b.2, c.2, d.2]
      · rw [if_neg e2, if_neg (by omega), if_neg (by omega), if_neg (by omega), if_neg (by omega)]; rfl
    · simp
      omega

theorem simp_sum {N n : Nat} {nm : Nat → Int} (h2 : 2 ≤ n) (h4 : n ≤ 4) (h : NamesOk N nm n) : (countGo (lenF n nm n) N).2 = 4096 := by
  have c := (count_sums (lenF n nm n) N).1
  rw [simp_count h2 h4 h] at c
  have e : firstOf (simpleCnt n) 13 = 8192 := by rcases (show n = 2 ∨ n = 3 ∨ n = 4 by omega) with rfl | rfl | rfl <;> decide
  omega

theorem simp_place {N n : Nat} {nm : Nat → Int} (h2 : 2 ≤ n) (h4 : n ≤ 4) (h : NamesOk N nm n) (p : Nat) (hp : p < n) : placeOf (simpleCnt n) (lenF n nm n) (nm p).toNat = p := by
  unfold placeOf
  rw [lenF_at h p hp, lenF_occ _ (by unfold simpLen; split <;> omega) _ h]
  have l0 := h.lt
  have hp0 := l0 p hp
  have mo : ∀ q, q < n → (nm q < ((nm p).toNat : Int) ↔ q < p) := by
    intro q hq
    constructor
    · intro hlt
      rcases Nat.lt_or_ge q p with e | e
      · exact e
      · rcases Nat.lt_or_ge p q with e2 | e2
        · have := h.mono e2 hq; omega
        · have : p = q := by omega
          subst this; omega
    · intro hlt
      have := h.mono hlt hp
      omega
  rcases (show n = 2 ∨ n = 3 ∨ n = 4 by omega) with rfl | rfl | rfl
  · have m0 := mo 0 (by omega); have m1 := mo 1 (by omega)
    simp only [nameOcc, m0, m1]
    rcases (show p = 0 ∨ p = 1 by omega) with rfl | rfl <;> decide
  · have m0 := mo 0 (by omega); have m1 := mo 1 (by omega); have m2 := mo 2 (by omega)
    simp only [nameOcc, m0, m1, m2]
    rcases (show p = 0 ∨ p = 1 ∨ p = 2 by omega) with rfl | rfl | rfl <;> decide
  · have m0 := mo 0 (by omega); have m1 := mo 1 (by omega); have m2 := mo 2 (by omega); have m3 := mo 3 (by omega)
    simp only [nameOcc, m0, m1, m2, m3]
    rcases (show p = 0 ∨ p = 1 ∨ p = 2 ∨ p = 3 by omega) with rfl | rfl | rfl | rfl <;> decide

theorem simp_words {N n : Nat} {nm : Nat → Int} {ws : List Wd} (h2 : 2 ≤ n) (h4 : n ≤ 4) (h : NamesOk N nm n) (hw : WordsAt (lenF n nm n) N 13 0 ws) : ws = codeWs (simpleCnt n) nm := by
  have c := simp_count h2 h4 h
  have ci := words_code (sym := nm) hw (fun k hk k1 _ => by
    rw [c]
    by_cases e : ∃ p, p < n ∧ nm p = k
    · obtain ⟨p, hp, e⟩ := e
      have := simp_place h2 h4 h p hp
      rw [show (nm p).toNat = k by omega] at this
      rw [this, Int.toNat_natCast, e]
    · exfalso
      have := lenF_zero (n := n) h k (fun p hp e2 => e ⟨p, hp, e2⟩)
      omega)
  rw [c] at ci
  exact ci.eq (fun i => by rw [← c]; exact count_lo _ _ i)
theorem simp_one (nm : Nat → Int) : codeWs (simpleCnt 1) nm = [⟨nm 0, 0, 0⟩] := rfl
end Wr
