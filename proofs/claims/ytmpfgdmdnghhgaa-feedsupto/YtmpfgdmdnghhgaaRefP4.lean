/- A SYMBOL IS FOUND BY ITS BITS. No Go. -/
import Derived.Test.YtmpfgdmdnghhgaaRefP3
namespace Wr

theorem digit_same {c d : Int} {j : Nat} (h : digit c j = digit d j) : c / 2 ^ j % 2 = d / 2 ^ j % 2 := by
  unfold digit at h
  have hc : c / 2 ^ j % 2 = 0 ∨ c / 2 ^ j % 2 = 1 := by omega
  have hd : d / 2 ^ j % 2 = 0 ∨ d / 2 ^ j % 2 = 1 := by omega
  rcases hc with hc | hc <;> rcases hd with hd | hd
  · omega
  · rw [if_neg (by omega), if_pos hd] at h
    exact absurd h (by decide)
  · rw [if_pos hc, if_neg (by omega)] at h
    exact absurd h (by decide)
  · omega
theorem same_mod {c d : Int} : ∀ n : Nat, (∀ j, j < n → c / 2 ^ j % 2 = d / 2 ^ j % 2) → c % 2 ^ n = d % 2 ^ n
  | 0, _ => by
    have e : (2 : Int) ^ 0 = 1 := rfl
    rw [e]
    omega
  | n + 1, h => by
    rw [mod_step, mod_step, same_mod n (fun j hj => h j (by omega)), h n (by omega)]
theorem bstr_inj {n m : Nat} {c d : Int} (c0 : 0 ≤ c) (c1 : c < 2 ^ n) (d0 : 0 ≤ d) (d1 : d < 2 ^ m) (h : bstr n c = bstr m d) : n = m ∧ c = d := by
  have hs := congrArg ByteArray.size h
  rw [bstr_size, bstr_size] at hs
  subst hs
  refine ⟨rfl, ?_⟩
  have hl : digits n c = digits n d := by
    have := congrArg (fun b : ByteArray => b.data.toList) h
    exact this
  have := same_mod (c := c) (d := d) n (fun j hj => by
    apply digit_same
    have e := congrArg (fun l : List UInt8 => l[n - 1 - j]?) hl
    have h1 : n - 1 - j < n := by omega
    simp [digits, h1] at e
    rw [show n - 1 - (n - 1 - j) = j by omega] at e
    exact e)
  rw [Int.emod_eq_of_lt c0 c1, Int.emod_eq_of_lt d0 d1] at this
  exact this

/-- the place of the first word with these bits -/
def lookGo (k : Nat) (m : Int) : List Wd → Option Int
  | [] => none
  | x :: l => if x.len = k ∧ x.code = m then some x.sym else lookGo k m l

/-- the words' numbers fit their digits -/
def wdOk (ws : List Wd) : Prop := ∀ x ∈ ws, x.len ≤ 12 ∧ 0 ≤ x.code ∧ x.code < 2 ^ x.len

/-- reading a symbol: k bits were read, the number m -/
def symGo (S : ByteArray) (ws : List Wd) : Nat → Nat → Int → Sr → Int × Sr
  | 0, _, _, x => (0, x)
  | f + 1, k, m, x =>
    if x.state ≠ 0 then (0, x)
    else match lookGo k m ws with
      | some s => (s, x)
      | none => symGo S ws f (k + 1) (2 * m + bitV S x) (needS (bitS S x) (decide (k + 1 ≤ 12)))
def symV (S : ByteArray) (ws : List Wd) (x : Sr) : Int := (symGo S ws 14 0 0 x).1
def symS (S : ByteArray) (ws : List Wd) (x : Sr) : Sr := (symGo S ws 14 0 0 x).2

theorem look_drop {k : Nat} {m : Int} : ∀ (ws : List Wd) (i : Nat) (h : i < ws.length), lookGo k m (ws.drop i) = if ws[i].len = k ∧ ws[i].code = m then some ws[i].sym else lookGo k m (ws.drop (i + 1))
  | x :: l, 0, _ => rfl
  | x :: l, i + 1, h => look_drop l i (by simpa using h)

theorem digit_push {n : Nat} {c : Int} (b : Int) (h0 : 0 ≤ b) (h1 : b ≤ 1) : bstr n c ++ ⟨#[if b = 0 then 48 else 49]⟩ = bstr (n + 1) (2 * c + b) := by
  apply bytes_ext
  rw [app_list]
  show digits n c ++ [if b = 0 then 48 else 49] = digits (n + 1) (2 * c + b)
  apply List.ext_getElem
  · simp [digits_length]
  · intro i hi1 hi2
    rw [digits_length] at hi2
    have e2 : (digits (n + 1) (2 * c + b))[i] = digit (2 * c + b) (n - i) := by simp [digits]
    rw [e2]
    by_cases ha : i < n
    · rw [List.getElem_append_left (by rw [digits_length]; exact ha)]
      have e3 : (digits n c)[i]'(by rw [digits_length]; exact ha) = digit c (n - 1 - i) := by simp [digits]
      rw [e3]
      unfold digit
      rw [show n - i = 1 + (n - 1 - i) by omega, pow_add2, ← Int.ediv_ediv_of_nonneg (by decide), show (2 * c + b) / 2 ^ 1 = c by show (2 * c + b) / 2 = c; omega]
    · have hin : i = n := by omega
      subst hin
      rw [List.getElem_append_right (by rw [digits_length]; exact Nat.le_refl _)]
      simp only [digits_length, Nat.sub_self, List.getElem_cons_zero]
      unfold digit
      rw [Int.pow_zero, Int.ediv_one]
      rcases (show b = 0 ∨ b = 1 by omega) with rfl | rfl
      · rw [if_pos rfl, if_neg (by omega)]
      · rw [if_neg (by omega), if_pos (by omega)]
end Wr
