/- THE SYMBOLS WITH THEIR BITS, IN THE ORDER OF THEIR LENGTHS. No Go. -/
import Derived.Test.YtmpfgdmdnghhgaaRefP2
namespace Wr

structure Wd where
  sym : Int
  len : Nat
  code : Int

def nextCode (f : Nat → Int) (N n i : Nat) : Int := firstOf (countGo f N).1 n + occ f n i

structure WordsAt (f : Nat → Int) (N n i : Nat) (ws : List Wd) : Prop where
  len : (ws.length : Int) = aheadOf (countGo f N).1 n + occ f n i
  at_ : ∀ k, k < N → 1 ≤ f k → (f k < n ∨ (f k = n ∧ k < i)) → ws[(placeOf (countGo f N).1 f k).toNat]? = some ⟨k, (f k).toNat, firstOf (countGo f N).1 (f k).toNat + occ f (f k) k⟩

structure BitsAt (f : Nat → Int) (N n i : Nat) (ws : List Wd) (m : Nat) (c : Int) : Prop where
  le : m ≤ n
  is : (ws = [] ∧ m = 0 ∧ c = 0 ∧ nextCode f N n i = 0) ∨ (ws ≠ [] ∧ 0 ≤ c ∧ (c + 1) * 2 ^ (n - m) = nextCode f N n i)

theorem cnt_zero (f : Nat → Int) (N : Nat) : (countGo f N).1 0 = 0 := by rw [count_occ, if_neg (by omega)]

theorem words_start (f : Nat → Int) (N : Nat) : WordsAt f N 1 0 [] ∧ BitsAt f N 1 0 [] 0 0 := by
  have z := cnt_zero f N
  refine ⟨⟨?_, fun k _ h1 h => absurd h (by omega)⟩, by omega, Or.inl ⟨rfl, rfl, rfl, ?_⟩⟩
  · show (0 : Int) = 0 + (countGo f N).1 0 + 0
    omega
  · show 2 * (0 + (countGo f N).1 0) + 0 = 0
    omega

theorem words_skip {f : Nat → Int} {N n i : Nat} {ws : List Wd} {m : Nat} {c : Int} (h : WordsAt f N n i ws) (hb : BitsAt f N n i ws m c) (hf : f i ≠ n) :
    WordsAt f N n (i + 1) ws ∧ BitsAt f N n (i + 1) ws m c := by
  have e : occ f n (i + 1) = occ f n i := by
    show occ f n i + (if f i = (n : Int) then 1 else 0) = _
    rw [if_neg hf, Int.add_zero]
  have e2 : nextCode f N n (i + 1) = nextCode f N n i := by unfold nextCode; rw [e]
  refine ⟨⟨by rw [e]; exact h.len, fun k hk h1 hc => h.at_ k hk h1 ?_⟩, hb.le, by rw [e2]; exact hb.is⟩
  rcases hc with hc | ⟨hc, hk2⟩
  · exact Or.inl hc
  · refine Or.inr ⟨hc, ?_⟩
    by_cases hki : k = i
    · subst hki; exact absurd hc hf
    · omega

theorem words_take {f : Nat → Int} {N n i : Nat} {ws : List Wd} (h : WordsAt f N n i ws) (hf : f i = n) :
    WordsAt f N n (i + 1) (ws ++ [⟨i, n, nextCode f N n i⟩]) ∧ BitsAt f N n (i + 1) (ws ++ [⟨i, n, nextCode f N n i⟩]) n (nextCode f N n i) := by
  have e : occ f n (i + 1) = occ f n i + 1 := by
    show occ f n i + (if f i = (n : Int) then 1 else 0) = _
    rw [if_pos hf]
  have hp : placeOf (countGo f N).1 f i = ws.length := by
    rw [h.len]
    unfold placeOf
    rw [hf, Int.toNat_natCast]
  have n0 : 0 ≤ nextCode f N n i := by
    unfold nextCode
    have := occ_nonneg f n i
    have fn : ∀ l, 0 ≤ firstOf (countGo f N).1 l := by
      intro l
      induction l with
      | zero => exact Int.le_refl _
      | succ l ih =>
        have := count_lo f N l
        show 0 ≤ 2 * (firstOf (countGo f N).1 l + (countGo f N).1 l)
        omega
    have := fn n
    omega
  refine ⟨⟨?_, fun k hk h1 hc => ?_⟩, Nat.le_refl _, Or.inr ⟨by simp, n0, ?_⟩⟩
  · rw [e, List.length_append]
    have := h.len
    show ((ws.length + 1 : Nat) : Int) = _
    omega
  · by_cases hki : k = i
    · subst hki
      rw [hp, Int.toNat_natCast, List.getElem?_append_right (Nat.le_refl _), Nat.sub_self]
      show some _ = some _
      congr 2
      · rw [hf, Int.toNat_natCast]
      · unfold nextCode
        rw [hf, Int.toNat_natCast]
    · have := h.at_ k hk h1 (by omega)
      rw [List.getElem?_append_left]
      · exact this
      · have := (List.getElem?_eq_some_iff.1 this).1
        exact this
  · rw [Nat.sub_self, Int.pow_zero, Int.mul_one]
    unfold nextCode
    rw [e]
    omega

theorem words_next {f : Nat → Int} {N n : Nat} {ws : List Wd} {m : Nat} {c : Int} (h1 : 1 ≤ n) (h12 : n ≤ 12) (h : WordsAt f N n N ws) (hb : BitsAt f N n N ws m c) :
    WordsAt f N (n + 1) 0 ws ∧ BitsAt f N (n + 1) 0 ws m c := by
  have ec : (countGo f N).1 n = occ f n N := by rw [count_occ, if_pos ⟨h1, h12⟩]
  have ea : aheadOf (countGo f N).1 (n + 1) = aheadOf (countGo f N).1 n + (countGo f N).1 n := rfl
  have ef : nextCode f N (n + 1) 0 = 2 * nextCode f N n N := by
    show 2 * (firstOf (countGo f N).1 n + (countGo f N).1 n) + 0 = 2 * (firstOf (countGo f N).1 n + occ f n N)
    omega
  refine ⟨⟨?_, fun k hk k1 hc => h.at_ k hk k1 ?_⟩, by have := hb.le; omega, ?_⟩
  · have := h.len
    have e0 : occ f ((n + 1 : Nat) : Int) 0 = 0 := rfl
    omega
  · rcases hc with hc | ⟨_, hc⟩
    · by_cases hn : f k = n
      · exact Or.inr ⟨hn, hk⟩
      · exact Or.inl (by omega)
    · omega
  · rcases hb.is with ⟨a, b, d, e⟩ | ⟨a, b, d⟩
    · exact Or.inl ⟨a, b, d, by rw [ef, e]; rfl⟩
    · refine Or.inr ⟨a, b, ?_⟩
      have := hb.le
      rw [ef, ← d, show n + 1 - m = n - m + 1 by omega, Int.pow_succ, ← Int.mul_assoc]
      omega

theorem first_top {cnt : Nat → Int} (lo : ∀ i, 0 ≤ cnt i) : ∀ d l : Nat, (firstOf cnt l + cnt l) * 2 ^ (d + 1) ≤ firstOf cnt (l + 1 + d)
  | 0, l => by
    show (firstOf cnt l + cnt l) * 2 ≤ 2 * (firstOf cnt l + cnt l)
    omega
  | d + 1, l => by
    have ih := first_top lo d l
    have e : firstOf cnt (l + 1 + (d + 1)) = 2 * (firstOf cnt (l + 1 + d) + cnt (l + 1 + d)) := rfl
    have := lo (l + 1 + d)
    rw [e, Int.pow_succ, ← Int.mul_assoc]
    omega
theorem first_room {cnt : Nat → Int} (lo : ∀ i, 0 ≤ cnt i) (full : firstOf cnt 13 = 8192) {l : Nat} (hl : l ≤ 12) : firstOf cnt l + cnt l ≤ 2 ^ l := by
  have h := first_top lo (12 - l) l
  rw [show l + 1 + (12 - l) = 13 by omega, full] at h
  have e : (8192 : Int) = 2 ^ l * 2 ^ (12 - l + 1) := by
    rw [← pow_add2, show l + (12 - l + 1) = 13 by omega]
    rfl
  rw [e] at h
  exact Int.le_of_mul_le_mul_right h (by have := pow_pos2 (12 - l + 1); omega)

theorem next_room {f : Nat → Int} {N n i : Nat} (hs : (countGo f N).2 = 4096) (h1 : 1 ≤ n) (h12 : n ≤ 12) (hi : i < N) (hf : f i = n) : nextCode f N n i < 2 ^ n := by
  have full : firstOf (countGo f N).1 13 = 8192 := by rw [(count_sums f N).1, hs]; rfl
  have r := first_room (count_lo f N) full h12
  have ec : (countGo f N).1 n = occ f n N := by rw [count_occ, if_pos ⟨h1, h12⟩]
  have o := occ_lt f hi
  rw [hf] at o
  unfold nextCode
  omega

theorem words_few {f : Nat → Int} {N n i : Nat} (h1 : 1 ≤ n) (h12 : n ≤ 12) (hi : i < N) (hf : f i = n) : aheadOf (countGo f N).1 n + occ f n i < N := by
  have ec : (countGo f N).1 n = occ f n N := by rw [count_occ, if_pos ⟨h1, h12⟩]
  have o := occ_lt f hi
  rw [hf] at o
  have ea : aheadOf (countGo f N).1 (n + 1) = aheadOf (countGo f N).1 n + (countGo f N).1 n := rfl
  have m := ahead_mono (count_lo f N) (show n + 1 ≤ 13 by omega)
  have cs := (count_sums f N).2
  omega

theorem pad_eq (m d : Nat) (c : Int) : bstr m c ++ noughts d = bstr (m + d) (c * 2 ^ d) := by
  apply bytes_ext
  rw [app_list]
  show digits m c ++ List.replicate d 48 = digits (m + d) (c * 2 ^ d)
  apply List.ext_getElem
  · simp [digits_length]
  · intro i hi1 hi2
    rw [digits_length] at hi2
    have e2 : (digits (m + d) (c * 2 ^ d))[i] = digit (c * 2 ^ d) (m + d - 1 - i) := by simp [digits]
    rw [e2]
    have pd := pow_pos2 d
    by_cases ha : i < m
    · rw [List.getElem_append_left (by rw [digits_length]; exact ha)]
      have e3 : (digits m c)[i]'(by rw [digits_length]; exact ha) = digit c (m - 1 - i) := by simp [digits]
      rw [e3]
      unfold digit
      rw [show m + d - 1 - i = d + (m - 1 - i) by omega, pow_add2, ← Int.ediv_ediv_of_nonneg (by omega), Int.mul_ediv_cancel _ (by omega)]
    · rw [List.getElem_append_right (by rw [digits_length]; omega)]
      rw [List.getElem_replicate]
      unfold digit
      have ek : (2 : Int) ^ d = 2 ^ (m + d - 1 - i) * (2 * 2 ^ (d - (m + d - 1 - i) - 1)) := by
        conv => lhs; rw [show d = (m + d - 1 - i) + (1 + (d - (m + d - 1 - i) - 1)) by omega, pow_add2, pow_add2]
        rfl
      have pk := pow_pos2 (m + d - 1 - i)
      rw [ek, show c * (2 ^ (m + d - 1 - i) * (2 * 2 ^ (d - (m + d - 1 - i) - 1))) = 2 ^ (m + d - 1 - i) * (2 * (2 ^ (d - (m + d - 1 - i) - 1) * c)) by rw [Int.mul_comm, Int.mul_assoc, Int.mul_assoc], Int.mul_ediv_cancel_left _ (by omega), if_neg (by omega)]
end Wr
