import Derived.Test.YtmpfgdmdnghhgaaHeap
/- PREFIX CODES, PLAINLY: a code that leaves no bits without a symbol; what 'find' finds; what 'count' and 'order' make. No Go. -/
namespace Wr

def firstOf (cnt : Nat → Int) : Nat → Int
  | 0 => 0
  | l + 1 => 2 * (firstOf cnt l + cnt l)
def aheadOf (cnt : Nat → Int) : Nat → Int
  | 0 => 0
  | l + 1 => aheadOf cnt l + cnt l
/-- the first l bits of hold as a number, the first bit the highest -/
def msb (hold : Int) : Nat → Int
  | 0 => 0
  | l + 1 => 2 * msb hold l + hold / 2 ^ l % 2

structure Cod (cnt sym : Nat → Int) (S : Int) : Prop where
  lo : ∀ i, 0 ≤ cnt i
  hi : ∀ i, cnt i ≤ 272
  full : firstOf cnt 13 = 8192
  few : aheadOf cnt 13 ≤ 272
  sym : ∀ p : Nat, (p : Int) < aheadOf cnt 13 → 0 ≤ sym p ∧ sym p < S

theorem pow_pos2 (n : Nat) : (1 : Int) ≤ 2 ^ n := by
  induction n with
  | zero => decide
  | succ n ih => rw [Int.pow_succ]; omega

theorem msb_bounds (hold : Int) : ∀ l : Nat, 0 ≤ msb hold l ∧ msb hold l < 2 ^ l
  | 0 => ⟨Int.le_refl _, by show (0 : Int) < 1; decide⟩
  | l + 1 => by
    have ih := msb_bounds hold l
    have e : msb hold (l + 1) = 2 * msb hold l + hold / 2 ^ l % 2 := rfl
    rw [e, Int.pow_succ]
    omega

theorem ahead_mono {cnt : Nat → Int} (h : ∀ i, 0 ≤ cnt i) {a : Nat} : ∀ {b : Nat}, a ≤ b → aheadOf cnt a ≤ aheadOf cnt b
  | 0, hab => by have : a = 0 := by omega
                 subst this; exact Int.le_refl _
  | b + 1, hab => by
    by_cases e : a = b + 1
    · subst e; exact Int.le_refl _
    · have := ahead_mono h (a := a) (b := b) (by omega)
      have hb := h b
      show _ ≤ aheadOf cnt b + cnt b
      omega
theorem ahead_nonneg {cnt : Nat → Int} (h : ∀ i, 0 ≤ cnt i) (a : Nat) : 0 ≤ aheadOf cnt a := ahead_mono h (Nat.zero_le a)

/-- what find comes to -/
structure Hit (cnt sym : Nat → Int) (hold have_ : Int) (l : Nat) : Prop where
  l12 : l ≤ 12
  lh : (l : Int) ≤ have_
  ge : firstOf cnt l ≤ msb hold l
  lt : msb hold l - firstOf cnt l < cnt l
  before : ∀ k, k < l → cnt k ≤ msb hold k - firstOf cnt k
  eq : find cnt sym hold have_ = (sym (aheadOf cnt l + msb hold l - firstOf cnt l).toNat, (l : Int))

structure Miss (cnt sym : Nat → Int) (hold have_ : Int) : Prop where
  h11 : have_ ≤ 11
  none : ∀ k : Nat, (k : Int) ≤ have_ → cnt k ≤ msb hold k - firstOf cnt k
  eq : find cnt sym hold have_ = (0, have_ + 1)

theorem findGo_cases {cnt sym : Nat → Int} {S : Int} (hc : Cod cnt sym S) (hold have_ : Int) (hh : 0 ≤ have_) :
    ∀ (f len : Nat), f + len = 14 → (len : Int) ≤ have_ + 1 → firstOf cnt len ≤ msb hold len → (∀ k, k < len → cnt k ≤ msb hold k - firstOf cnt k) →
      (∃ l : Nat, l ≤ 12 ∧ (l : Int) ≤ have_ ∧ firstOf cnt l ≤ msb hold l ∧ msb hold l - firstOf cnt l < cnt l ∧ (∀ k, k < l → cnt k ≤ msb hold k - firstOf cnt k) ∧
        findGo cnt sym hold have_ f len (msb hold len) (firstOf cnt len) (aheadOf cnt len) = (sym (aheadOf cnt l + msb hold l - firstOf cnt l).toNat, (l : Int))) ∨
      (have_ ≤ 11 ∧ (∀ k : Nat, (k : Int) ≤ have_ → cnt k ≤ msb hold k - firstOf cnt k) ∧
        findGo cnt sym hold have_ f len (msb hold len) (firstOf cnt len) (aheadOf cnt len) = (0, have_ + 1))
  | 0, len, hf, hl, hge, hb => by
    have e : len = 14 := by omega
    subst e
    have h13 := hb 13 (by omega)
    have m := msb_bounds hold 13
    have hfull := hc.full
    have := hc.lo 13
    omega
  | f + 1, len, hf, hl, hge, hb => by
    have m := msb_bounds hold len
    by_cases h13 : len = 13
    · subst h13
      have hfull := hc.full
      omega
    by_cases hlh : (len : Int) ≤ have_
    · by_cases hit : msb hold len - firstOf cnt len < cnt len
      · left
        refine ⟨len, by omega, hlh, hge, hit, hb, ?_⟩
        have a0 := ahead_nonneg hc.lo len
        have a1 := ahead_mono hc.lo (show len + 1 ≤ 13 by omega)
        have a2 : aheadOf cnt (len + 1) = aheadOf cnt len + cnt len := rfl
        have a3 := hc.few
        unfold findGo
        rw [if_pos ⟨by omega, hlh⟩, if_pos ⟨hit, by omega, by omega⟩]
      · have hge' : firstOf cnt (len + 1) ≤ msb hold (len + 1) := by
          have e1 : firstOf cnt (len + 1) = 2 * (firstOf cnt len + cnt len) := rfl
          have e2 : msb hold (len + 1) = 2 * msb hold len + hold / 2 ^ len % 2 := rfl
          omega
        have hb' : ∀ k, k < len + 1 → cnt k ≤ msb hold k - firstOf cnt k := by
          intro k hk
          by_cases e : k = len
          · subst e; omega
          · exact hb k (by omega)
        have ih := findGo_cases hc hold have_ hh f (len + 1) (by omega) (by omega) hge' hb'
        have e : findGo cnt sym hold have_ (f + 1) len (msb hold len) (firstOf cnt len) (aheadOf cnt len) = findGo cnt sym hold have_ f (len + 1) (msb hold (len + 1)) (firstOf cnt (len + 1)) (aheadOf cnt (len + 1)) := by
          conv => lhs; unfold findGo
          rw [if_pos ⟨by omega, hlh⟩, if_neg (fun h => hit h.1)]
          rfl
        rw [e]
        exact ih
    · right
      refine ⟨by omega, fun k hk => hb k (by omega), ?_⟩
      unfold findGo
      rw [if_neg (fun h => hlh h.2)]

theorem find_cases {cnt sym : Nat → Int} {S : Int} (hc : Cod cnt sym S) (hold have_ : Int) (hh : 0 ≤ have_) :
    (∃ l, Hit cnt sym hold have_ l) ∨ Miss cnt sym hold have_ := by
  rcases findGo_cases hc hold have_ hh 14 0 rfl (by omega) (Int.le_refl _) (fun k hk => absurd hk (by omega)) with ⟨l, h1, h2, h3, h4, h5, h6⟩ | ⟨h1, h2, h3⟩
  · exact Or.inl ⟨l, h1, h2, h3, h4, h5, h6⟩
  · exact Or.inr ⟨h1, h2, h3⟩

theorem hit_sym {cnt sym : Nat → Int} {S hold have_ : Int} {l : Nat} (hc : Cod cnt sym S) (h : Hit cnt sym hold have_ l) :
    0 ≤ (find cnt sym hold have_).1 ∧ (find cnt sym hold have_).1 < S := by
  rw [h.eq]
  have a0 := ahead_nonneg hc.lo l
  have a1 := ahead_mono hc.lo (show l + 1 ≤ 13 by have := h.l12; omega)
  have a2 : aheadOf cnt (l + 1) = aheadOf cnt l + cnt l := rfl
  have h1 := h.ge
  have h2 := h.lt
  exact hc.sym _ (by omega)

/- count and order -/
theorem first_upd (c : Nat → Int) (l : Nat) : ∀ m : Nat, firstOf (upd c l (c l + 1)) m = firstOf c m + if l < m then 2 ^ (m - l) else 0
  | 0 => by simp [firstOf]
  | m + 1 => by
    have ih := first_upd c l m
    have e1 : firstOf (upd c l (c l + 1)) (m + 1) = 2 * (firstOf (upd c l (c l + 1)) m + upd c l (c l + 1) m) := rfl
    have e2 : firstOf c (m + 1) = 2 * (firstOf c m + c m) := rfl
    rw [e1, e2, ih]
    unfold upd
    by_cases h : l < m
    · rw [if_pos h, if_neg (show ¬ m = l by omega), if_pos (show l < m + 1 by omega), show m + 1 - l = (m - l) + 1 by omega, Int.pow_succ]
      omega
    · rw [if_neg h]
      by_cases e : m = l
      · subst e
        rw [if_pos rfl, if_pos (by omega), show m + 1 - m = 1 by omega]
        omega
      · rw [if_neg e, if_neg (by omega)]
        omega
theorem ahead_upd (c : Nat → Int) (l : Nat) : ∀ m : Nat, aheadOf (upd c l (c l + 1)) m = aheadOf c m + if l < m then 1 else 0
  | 0 => by simp [aheadOf]
  | m + 1 => by
    have ih := ahead_upd c l m
    have e1 : aheadOf (upd c l (c l + 1)) (m + 1) = aheadOf (upd c l (c l + 1)) m + upd c l (c l + 1) m := rfl
    have e2 : aheadOf c (m + 1) = aheadOf c m + c m := rfl
    rw [e1, e2, ih]
    unfold upd
    by_cases h : l < m
    · rw [if_pos h, if_neg (show ¬ m = l by omega), if_pos (show l < m + 1 by omega)]; omega
    · rw [if_neg h]
      by_cases e : m = l
      · subst e
        rw [if_pos rfl, if_pos (by omega)]; omega
      · rw [if_neg e, if_neg (by omega)]; omega

/-- how many of the first k have this length -/
def occ (f : Nat → Int) (l : Int) : Nat → Int
  | 0 => 0
  | k + 1 => occ f l k + if f k = l then 1 else 0

theorem occ_mono (f : Nat → Int) (l : Int) {a : Nat} : ∀ {b : Nat}, a ≤ b → occ f l a ≤ occ f l b
  | 0, h => by have : a = 0 := by omega
               subst this; exact Int.le_refl _
  | b + 1, h => by
    by_cases e : a = b + 1
    · subst e; exact Int.le_refl _
    · have := occ_mono f l (a := a) (b := b) (by omega)
      show _ ≤ occ f l b + if f b = l then 1 else 0
      split <;> omega
theorem occ_nonneg (f : Nat → Int) (l : Int) (a : Nat) : 0 ≤ occ f l a := occ_mono f l (Nat.zero_le a)
theorem occ_lt (f : Nat → Int) {i n : Nat} (h : i < n) : occ f (f i) i < occ f (f i) n := by
  have h1 := occ_mono f (f i) (show i + 1 ≤ n from h)
  have e : occ f (f i) (i + 1) = occ f (f i) i + if f i = f i then 1 else 0 := rfl
  rw [if_pos rfl] at e
  omega
/-- the q-th of this length -/
theorem occ_find (f : Nat → Int) (l q : Int) (h0 : 0 ≤ q) : ∀ n : Nat, q < occ f l n → ∃ i, i < n ∧ f i = l ∧ occ f l i = q
  | 0, h => by have : occ f l 0 = 0 := rfl
               omega
  | n + 1, h => by
    by_cases hq : q < occ f l n
    · obtain ⟨i, h1, h2, h3⟩ := occ_find f l q h0 n hq
      exact ⟨i, by omega, h2, h3⟩
    · have e : occ f l (n + 1) = occ f l n + if f n = l then 1 else 0 := rfl
      by_cases hf : f n = l
      · rw [if_pos hf] at e
        exact ⟨n, by omega, hf, by omega⟩
      · rw [if_neg hf] at e
        omega

theorem count_occ (f : Nat → Int) : ∀ (n : Nat) (j : Nat), (countGo f n).1 j = if 1 ≤ j ∧ j ≤ 12 then occ f j n else 0
  | 0, j => by simp [countGo, occ]
  | n + 1, j => by
    have ih := count_occ f n
    have eo : occ f j (n + 1) = occ f j n + if f n = (j : Int) then 1 else 0 := rfl
    unfold countGo
    by_cases h : 0 < f n ∧ f n ≤ 12
    · simp only [if_pos h, upd]
      by_cases e : j = (f n).toNat
      · rw [if_pos e, ih, ← e, eo, if_pos (by omega), if_pos (by omega), if_pos (by omega)]
      · rw [if_neg e, ih, eo]
        by_cases hj : 1 ≤ j ∧ j ≤ 12
        · rw [if_pos hj, if_pos hj, if_neg (by omega)]; omega
        · rw [if_neg hj, if_neg hj]
    · simp only [if_neg h]
      rw [ih, eo]
      by_cases hj : 1 ≤ j ∧ j ≤ 12
      · rw [if_pos hj, if_pos hj, if_neg (by omega)]; omega
      · rw [if_neg hj, if_neg hj]

theorem first_zero : ∀ m : Nat, firstOf (fun _ => 0) m = 0
  | 0 => rfl
  | m + 1 => by show 2 * (firstOf (fun _ => 0) m + 0) = 0; rw [first_zero m]; rfl
theorem ahead_zero : ∀ m : Nat, aheadOf (fun _ => 0) m = 0
  | 0 => rfl
  | m + 1 => by show aheadOf (fun _ => 0) m + 0 = 0; rw [ahead_zero m]; rfl

theorem count_sums (f : Nat → Int) : ∀ n : Nat, firstOf (countGo f n).1 13 = 2 * (countGo f n).2 ∧ aheadOf (countGo f n).1 13 ≤ n
  | 0 => ⟨by show firstOf (fun _ => 0) 13 = 0; exact first_zero 13, by show aheadOf (fun _ => 0) 13 ≤ 0; rw [ahead_zero]; exact Int.le_refl _⟩
  | n + 1 => by
    obtain ⟨h1, h2⟩ := count_sums f n
    unfold countGo
    by_cases h : 0 < f n ∧ f n ≤ 12
    · simp only [if_pos h]
      rw [first_upd, ahead_upd, h1, if_pos (by omega), if_pos (by omega), show 13 - (f n).toNat = (12 - f n).toNat + 1 by omega, Int.pow_succ]
      constructor <;> omega
    · simp only [if_neg h]
      exact ⟨h1, by omega⟩

theorem next_ahead (cnt : Nat → Int) (h0 : cnt 0 = 0) : ∀ l : Nat, nextGo cnt l = aheadOf cnt l
  | 0 => rfl
  | 1 => by show (0 : Int) = 0 + cnt 0; omega
  | l + 2 => by
    have := next_ahead cnt h0 (l + 1)
    show nextGo cnt (l + 1) + cnt (l + 1) = aheadOf cnt (l + 1) + cnt (l + 1)
    rw [this]

/-- the place of symbol i -/
def placeOf (cnt f : Nat → Int) (i : Nat) : Int := aheadOf cnt (f i).toNat + occ f (f i) i

theorem count_lo (f : Nat → Int) (n : Nat) (i : Nat) : 0 ≤ (countGo f n).1 i := by
  rw [count_occ]
  split
  · exact occ_nonneg _ _ _
  · exact Int.le_refl _

theorem place_bounds (f : Nat → Int) (n i : Nat) (hi : i < n) (h1 : 1 ≤ f i) (h2 : f i ≤ 12) :
    aheadOf (countGo f n).1 (f i).toNat ≤ placeOf (countGo f n).1 f i ∧ placeOf (countGo f n).1 f i < aheadOf (countGo f n).1 ((f i).toNat + 1) := by
  have e : aheadOf (countGo f n).1 ((f i).toNat + 1) = aheadOf (countGo f n).1 (f i).toNat + (countGo f n).1 (f i).toNat := rfl
  have c := count_occ f n (f i).toNat
  rw [if_pos (by omega), show (((f i).toNat : Nat) : Int) = f i by omega] at c
  have o := occ_lt f hi
  have o2 := occ_nonneg f (f i) i
  unfold placeOf
  omega

theorem place_ne (f : Nat → Int) (n i k : Nat) (hi : i < k) (hk : k < n) (h1 : 1 ≤ f i) (h2 : f i ≤ 12) (k1 : 1 ≤ f k) (k2 : f k ≤ 12) :
    placeOf (countGo f n).1 f i ≠ placeOf (countGo f n).1 f k := by
  have bi := place_bounds f n i (by omega) h1 h2
  have bk := place_bounds f n k hk k1 k2
  by_cases e : f i = f k
  · have o := occ_lt f hi
    have e1 : placeOf (countGo f n).1 f i = aheadOf (countGo f n).1 (f i).toNat + occ f (f i) i := rfl
    have e2 : placeOf (countGo f n).1 f k = aheadOf (countGo f n).1 (f i).toNat + occ f (f i) k := by unfold placeOf; rw [e]
    omega
  · rcases Int.lt_or_gt_of_ne e with hlt | hgt
    · have m := ahead_mono (count_lo f n) (show (f i).toNat + 1 ≤ (f k).toNat by omega)
      omega
    · have m := ahead_mono (count_lo f n) (show (f k).toNat + 1 ≤ (f i).toNat by omega)
      omega

theorem order_spec (f sym : Nat → Int) (n : Nat) (hn : n ≤ 272) : ∀ k : Nat, k ≤ n →
    (∀ l : Nat, 1 ≤ l → l ≤ 12 → (orderGo (countGo f n).1 sym f k).2 l = aheadOf (countGo f n).1 l + occ f l k) ∧
    (∀ i : Nat, i < k → 1 ≤ f i → f i ≤ 12 → (orderGo (countGo f n).1 sym f k).1 (placeOf (countGo f n).1 f i).toNat = i)
  | 0, _ => by
    refine ⟨fun l h1 h2 => ?_, fun i hi => absurd hi (by omega)⟩
    show nextGo (countGo f n).1 l = _ + 0
    rw [next_ahead _ (by rw [count_occ, if_neg (by omega)])]
    omega
  | k + 1, hk => by
    obtain ⟨ih1, ih2⟩ := order_spec f sym n hn k (by omega)
    unfold orderGo
    by_cases hy : 0 < f k ∧ f k ≤ 12
    · have e : (orderGo (countGo f n).1 sym f k).2 (f k).toNat = placeOf (countGo f n).1 f k := by
        rw [ih1 (f k).toNat (by omega) (by omega), show (((f k).toNat : Nat) : Int) = f k by omega]
        rfl
      have pb := place_bounds f n k (by omega) (by omega) hy.2
      have m := ahead_mono (count_lo f n) (show (f k).toNat + 1 ≤ 13 by omega)
      have m0 := ahead_nonneg (count_lo f n) (f k).toNat
      have cs := (count_sums f n).2
      have hlt : 0 < f k ∧ f k ≤ 12 ∧ (orderGo (countGo f n).1 sym f k).2 (f k).toNat < 272 := ⟨hy.1, hy.2, by rw [e]; omega⟩
      simp only [if_pos hlt]
      rw [e]
      refine ⟨fun l h1 h2 => ?_, fun i hi h1 h2 => ?_⟩
      · have eo : occ f l (k + 1) = occ f l k + if f k = (l : Int) then 1 else 0 := rfl
        unfold upd
        by_cases hl : l = (f k).toNat
        · rw [if_pos hl, eo, if_pos (by omega)]
          have : placeOf (countGo f n).1 f k = aheadOf (countGo f n).1 l + occ f l k := by
            unfold placeOf
            rw [hl, show (((f k).toNat : Nat) : Int) = f k by omega]
          omega
        · rw [if_neg hl, eo, if_neg (by omega), ih1 l h1 h2]
          omega
      · unfold upd
        by_cases hik : i = k
        · subst hik
          rw [if_pos rfl]
        · have hne := place_ne f n i k (by omega) (by omega) h1 h2 (by omega) hy.2
          have pbi := place_bounds f n i (by omega) h1 h2
          have mi := ahead_nonneg (count_lo f n) (f i).toNat
          rw [if_neg (by omega), ih2 i (by omega) h1 h2]
    · simp only [if_neg (fun h : 0 < f k ∧ f k ≤ 12 ∧ _ => hy ⟨h.1, h.2.1⟩)]
      refine ⟨fun l h1 h2 => ?_, fun i hi h1 h2 => ?_⟩
      · have eo : occ f l (k + 1) = occ f l k + if f k = (l : Int) then 1 else 0 := rfl
        rw [ih1 l h1 h2, eo, if_neg (by omega)]
        omega
      · by_cases hik : i = k
        · subst hik; omega
        · exact ih2 i (by omega) h1 h2

/-- which length a place belongs to -/
theorem ahead_find (cnt : Nat → Int) (p : Int) (h0 : 0 ≤ p) : ∀ m : Nat, p < aheadOf cnt m → ∃ l, l < m ∧ aheadOf cnt l ≤ p ∧ p < aheadOf cnt (l + 1)
  | 0, h => by have : aheadOf cnt 0 = 0 := rfl
               omega
  | m + 1, h => by
    by_cases hm : p < aheadOf cnt m
    · obtain ⟨l, h1, h2, h3⟩ := ahead_find cnt p h0 m hm
      exact ⟨l, by omega, h2, h3⟩
    · exact ⟨m, by omega, by omega, h⟩

theorem order_cod (f sym : Nat → Int) (n : Nat) (hn : n ≤ 272) (hs : (countGo f n).2 = 4096) :
    Cod (countGo f n).1 (orderGo (countGo f n).1 sym f n).1 n := by
  obtain ⟨s1, s2⟩ := count_sums f n
  refine ⟨count_lo f n, fun i => ?_, by rw [s1, hs]; rfl, by omega, fun p hp => ?_⟩
  · by_cases hi : i < 13
    · have m := ahead_mono (count_lo f n) (show i + 1 ≤ 13 by omega)
      have m0 := ahead_nonneg (count_lo f n) i
      have e : aheadOf (countGo f n).1 (i + 1) = aheadOf (countGo f n).1 i + (countGo f n).1 i := rfl
      omega
    · rw [count_occ, if_neg (by omega)]; omega
  · obtain ⟨l, h1, h2, h3⟩ := ahead_find _ (p : Int) (by omega) 13 hp
    have e : aheadOf (countGo f n).1 (l + 1) = aheadOf (countGo f n).1 l + (countGo f n).1 l := rfl
    have c := count_occ f n l
    have hl : 1 ≤ l ∧ l ≤ 12 := by
      by_cases hl0 : 1 ≤ l ∧ l ≤ 12
      · exact hl0
      · rw [if_neg hl0] at c; omega
    rw [if_pos hl] at c
    obtain ⟨i, i1, i2, i3⟩ := occ_find f l ((p : Int) - aheadOf (countGo f n).1 l) (by omega) n (by omega)
    have sp := (order_spec f sym n hn n (Nat.le_refl n)).2 i i1 (by omega) (by omega)
    have ep : placeOf (countGo f n).1 f i = p := by
      unfold placeOf
      rw [i2, i3, show ((l : Int)).toNat = l by omega]
      omega
    rw [ep, show ((p : Int)).toNat = p by omega] at sp
    rw [sp]
    omega

theorem simple_cod (n : Int) (h1 : 1 ≤ n) (h4 : n ≤ 4) (sym : Nat → Int) (S : Int) (hs : ∀ p : Nat, (p : Int) < n → 0 ≤ sym p ∧ sym p < S) : Cod (simpleCnt n) sym S := by
  have hc : n = 1 ∨ n = 2 ∨ n = 3 ∨ n = 4 := by omega
  have e13 : aheadOf (simpleCnt n) 13 = n := by rcases hc with rfl | rfl | rfl | rfl <;> decide
  refine ⟨fun i => ?_, fun i => ?_, ?_, by omega, fun p hp => hs p (by omega)⟩
  · unfold simpleCnt; repeat' split
    all_goals omega
  · unfold simpleCnt; repeat' split
    all_goals omega
  · rcases hc with rfl | rfl | rfl | rfl <;> decide

end Wr

/- LENGTHS FOR A CODE, BY COUNTS: the sum is whole. No Go. -/
namespace Wr

def sumTo (c : Nat → Int) : Nat → Int
  | 0 => 0
  | n + 1 => sumTo c n + c n
/-- the least length for a count -/
def lenGo (count total : Int) : Nat → Nat → Nat
  | 0, l => l
  | g + 1, l => if count * 2 ^ l < total then lenGo count total g (l + 1) else l
def lenFor (count total : Int) : Int := lenGo count total 11 1
def lens0 (c : Nat → Int) (N : Nat) : Nat → (Nat → Int)
  | 0 => fun _ => 0
  | i + 1 => if 0 < c i then upd (lens0 c N i) i (lenFor (c i) (sumTo c N)) else lens0 c N i
/-- the part of the whole that a length takes -/
def partOf (l : Int) : Int := 4096 / 2 ^ l.toNat
def spare0 (c : Nat → Int) (N : Nat) : Nat → Int
  | 0 => 4096
  | i + 1 => if 0 < c i then spare0 c N i - partOf (lenFor (c i) (sumTo c N)) else spare0 c N i
/-- the symbol that is shortened next -/
def shGo (c f : Nat → Int) (spare : Int) : Nat → Int × Int
  | 0 => (-1, 0)
  | i + 1 =>
    if f i < 2 ∨ spare < partOf (f i) then shGo c f spare i
    else if (shGo c f spare i).2 < c i * 2 ^ (f i).toNat then (i, c i * 2 ^ (f i).toNat) else shGo c f spare i
def ltGo (c : Nat → Int) (N : Nat) : Nat → (Nat → Int) → Int → (Nat → Int)
  | 0, f, _ => f
  | g + 1, f, spare =>
    if 0 < spare then
      if (shGo c f spare N).1 < 0 then f
      else ltGo c N g (upd f (shGo c f spare N).1.toNat (f (shGo c f spare N).1.toNat - 1)) (spare - partOf (f (shGo c f spare N).1.toNat))
    else f
def lensFor (c : Nat → Int) (N : Nat) : Nat → Int := ltGo c N 4097 (lens0 c N N) (spare0 c N N)

theorem lenGo_spec {count total : Int} : ∀ (g l : Nat), l ≤ lenGo count total g l ∧ lenGo count total g l ≤ l + g ∧ (lenGo count total g l = l + g ∨ total ≤ count * 2 ^ lenGo count total g l)
  | 0, l => ⟨Nat.le_refl _, Nat.le_refl _, Or.inl rfl⟩
  | g + 1, l => by
    unfold lenGo
    split
    · obtain ⟨h1, h2, h3⟩ := lenGo_spec (count := count) (total := total) g (l + 1)
      refine ⟨by omega, by omega, ?_⟩
      rcases h3 with h | h
      · exact Or.inl (by omega)
      · exact Or.inr h
    · rename_i h
      exact ⟨Nat.le_refl _, by omega, Or.inr (by omega)⟩
theorem lenFor_spec {count total : Int} (h1 : 1 ≤ count) (h2 : total ≤ 4096) : ∃ l : Nat, lenFor count total = l ∧ 1 ≤ l ∧ l ≤ 12 ∧ total ≤ count * 2 ^ l := by
  obtain ⟨a, b, e⟩ := lenGo_spec (count := count) (total := total) 11 1
  refine ⟨lenGo count total 11 1, rfl, a, b, ?_⟩
  rcases e with e | e
  · rw [e]
    have : (2 : Int) ^ (1 + 11) = 4096 := rfl
    rw [this]
    omega
  · exact e
theorem partOf_nat {l : Nat} (h : l ≤ 12) : partOf l = 2 ^ (12 - l) := by
  unfold partOf
  rw [Int.toNat_natCast]
  have e : (4096 : Int) = 2 ^ (12 - l) * 2 ^ l := by rw [← Int.pow_add, show 12 - l + l = 12 by omega]; rfl
  have := pow_pos2 l
  rw [e, Int.mul_ediv_cancel _ (by omega)]
theorem part_pos {l : Int} (h0 : 0 ≤ l) (h : l ≤ 12) : 1 ≤ partOf l := by
  obtain ⟨n, rfl⟩ := Int.eq_ofNat_of_zero_le h0
  have e : partOf ((n : Nat) : Int) = 2 ^ (12 - n) := partOf_nat (by omega)
  rw [e]
  exact pow_pos2 _

/- the sum of the parts -/
def parts (f : Nat → Int) : Nat → Int
  | 0 => 0
  | n + 1 => parts f n + if 0 < f n ∧ f n ≤ 12 then partOf (f n) else 0
theorem count_parts (f : Nat → Int) : ∀ n, (countGo f n).2 = parts f n
  | 0 => rfl
  | n + 1 => by
    have ih := count_parts f n
    unfold countGo parts
    by_cases h : 0 < f n ∧ f n ≤ 12
    · simp only [if_pos h]
      obtain ⟨k, hk⟩ := Int.eq_ofNat_of_zero_le (show 0 ≤ f n by omega)
      rw [ih, hk]
      rw [partOf_nat (by omega), show (12 - (k : Int)).toNat = 12 - k by omega]
    · simp only [if_neg h]
      rw [ih]
      omega
theorem parts_congr {f g : Nat → Int} : ∀ n, (∀ i, i < n → f i = g i) → parts f n = parts g n
  | 0, _ => rfl
  | n + 1, h => by
    unfold parts
    rw [parts_congr n (fun i hi => h i (by omega)), h n (by omega)]
theorem parts_upd (f : Nat → Int) (i : Nat) (v : Int) : ∀ n, i < n → parts (upd f i v) n = parts f n - (if 0 < f i ∧ f i ≤ 12 then partOf (f i) else 0) + (if 0 < v ∧ v ≤ 12 then partOf v else 0)
  | 0, h => absurd h (by omega)
  | n + 1, h => by
    unfold parts
    by_cases e : i = n
    · subst e
      have e1 : parts (upd f i v) i = parts f i := parts_congr i (fun j hj => if_neg (by omega))
      have e2 : upd f i v i = v := if_pos rfl
      rw [e1, e2]
      omega
    · have e2 : upd f i v n = f n := if_neg (by omega)
      rw [parts_upd f i v n (by omega), e2]
      omega

/- the first lengths -/
theorem lens0_out (c : Nat → Int) (N : Nat) : ∀ i j : Nat, i ≤ j → lens0 c N i j = 0
  | 0, _, _ => rfl
  | i + 1, j, h => by
    unfold lens0
    split
    · unfold upd
      rw [if_neg (by omega)]
      exact lens0_out c N i j (by omega)
    · exact lens0_out c N i j (by omega)
theorem lens0_at (c : Nat → Int) (N : Nat) : ∀ i j : Nat, j < i → lens0 c N i j = if 0 < c j then lenFor (c j) (sumTo c N) else 0
  | 0, _, h => absurd h (by omega)
  | i + 1, j, h => by
    unfold lens0
    by_cases e : j = i
    · subst e
      split
      · rw [upd, if_pos rfl]
      · exact lens0_out c N j j (Nat.le_refl _)
    · have ih := lens0_at c N i j (by omega)
      split
      · unfold upd
        rw [if_neg e]
        exact ih
      · exact ih
theorem sum_nonneg {c : Nat → Int} (h : ∀ i, 0 ≤ c i) : ∀ n, 0 ≤ sumTo c n
  | 0 => Int.le_refl _
  | n + 1 => by
    have := sum_nonneg h n
    have := h n
    unfold sumTo
    omega
/-- what is spare is what is not taken -/
theorem spare0_parts {c : Nat → Int} {N : Nat} (ht : sumTo c N ≤ 4096) : ∀ i, i ≤ N → spare0 c N i = 4096 - parts (lens0 c N N) i
  | 0, _ => by show (4096 : Int) = 4096 - 0; omega
  | i + 1, h => by
    have ih := spare0_parts ht i (by omega)
    unfold spare0 parts
    rw [lens0_at c N N i (by omega)]
    by_cases hc : 0 < c i
    · obtain ⟨l, e, h1, h2, _⟩ := lenFor_spec (count := c i) hc ht
      rw [if_pos hc, if_pos hc, e, if_pos (by omega), ih]
      omega
    · rw [if_neg hc, if_neg hc, if_neg (by omega), ih]
      omega
/-- no more than the whole is taken -/
theorem parts_le {c : Nat → Int} {N : Nat} (h : ∀ i, 0 ≤ c i) (ht : sumTo c N ≤ 4096) : ∀ i, i ≤ N → parts (lens0 c N N) i * sumTo c N ≤ 4096 * sumTo c i
  | 0, _ => by show 0 * _ ≤ 4096 * 0; omega
  | i + 1, hi => by
    have ih := parts_le h ht i (by omega)
    have key : (if 0 < lens0 c N N i ∧ lens0 c N N i ≤ 12 then partOf (lens0 c N N i) else 0) * sumTo c N ≤ 4096 * c i := by
      rw [lens0_at c N N i (by omega)]
      have h0 := h i
      by_cases hc : 0 < c i
      · obtain ⟨l, e, h1, h2, h3⟩ := lenFor_spec (count := c i) hc ht
        rw [if_pos hc, e, if_pos (by omega), partOf_nat h2]
        have hp := pow_pos2 (12 - l)
        have h4 : 2 ^ (12 - l) * sumTo c N ≤ 2 ^ (12 - l) * (c i * 2 ^ l) := Int.mul_le_mul_of_nonneg_left h3 (by omega)
        have h5 : (2 : Int) ^ (12 - l) * (c i * 2 ^ l) = 4096 * c i := by
          rw [Int.mul_comm (c i), ← Int.mul_assoc, ← Int.pow_add, show 12 - l + l = 12 by omega]
          rfl
        omega
      · rw [if_neg hc, if_neg (by omega)]
        omega
    unfold parts
    rw [Int.add_mul]
    show _ ≤ 4096 * (sumTo c i + c i)
    omega

/- shortening -/
def Cand (_c f : Nat → Int) (spare : Int) (i : Nat) : Prop := 2 ≤ f i ∧ partOf (f i) ≤ spare
theorem shGo_spec {c f : Nat → Int} {spare : Int} : ∀ n, ((shGo c f spare n).1 = -1 ∧ (shGo c f spare n).2 = 0 ∧ ∀ i, i < n → Cand c f spare i → c i * 2 ^ (f i).toNat ≤ 0) ∨
    (∃ i : Nat, (shGo c f spare n).1 = i ∧ i < n ∧ Cand c f spare i ∧ 0 < c i * 2 ^ (f i).toNat ∧ (shGo c f spare n).2 = c i * 2 ^ (f i).toNat)
  | 0 => Or.inl ⟨rfl, rfl, fun _ h => absurd h (by omega)⟩
  | n + 1 => by
    have ih := shGo_spec (c := c) (f := f) (spare := spare) n
    unfold shGo
    by_cases h : f n < 2 ∨ spare < partOf (f n)
    · rw [if_pos h]
      rcases ih with ⟨h1, h2, h3⟩ | ⟨i, h1, h2, h3, h4⟩
      · refine Or.inl ⟨h1, h2, fun i hi hc => ?_⟩
        by_cases e : i = n
        · subst e
          unfold Cand at hc
          omega
        · exact h3 i (by omega) hc
      · exact Or.inr ⟨i, h1, by omega, h3, h4⟩
    · rw [if_neg h]
      have hcn : Cand c f spare n := by unfold Cand; omega
      by_cases hg : (shGo c f spare n).2 < c n * 2 ^ (f n).toNat
      · rw [if_pos hg]
        refine Or.inr ⟨n, rfl, by omega, hcn, ?_, rfl⟩
        rcases ih with ⟨h1, h2, h3⟩ | ⟨i, h1, h2, h3, h4, h5⟩ <;> omega
      · rw [if_neg hg]
        rcases ih with ⟨h1, h2, h3⟩ | ⟨i, h1, h2, h3, h4⟩
        · refine Or.inl ⟨h1, h2, fun i hi hc => ?_⟩
          by_cases e : i = n
          · subst e
            omega
          · exact h3 i (by omega) hc
        · exact Or.inr ⟨i, h1, by omega, h3, h4⟩

/-- lengths that fit the counts -/
structure Fits (c f : Nat → Int) (N : Nat) : Prop where
  used : ∀ i, i < N → 0 < c i → 1 ≤ f i ∧ f i ≤ 12
  none : ∀ i, (i < N → ¬ 0 < c i) → f i = 0
def maxTo (f : Nat → Int) : Nat → Int
  | 0 => 0
  | n + 1 => if maxTo f n < f n then f n else maxTo f n
theorem maxTo_ge (f : Nat → Int) : ∀ n i, i < n → f i ≤ maxTo f n
  | 0, _, h => absurd h (by omega)
  | n + 1, i, h => by
    unfold maxTo
    by_cases e : i = n
    · subst e
      split <;> omega
    · have := maxTo_ge f n i (by omega)
      split <;> omega
theorem maxTo_is (f : Nat → Int) : ∀ n, maxTo f n = 0 ∨ ∃ i, i < n ∧ f i = maxTo f n
  | 0 => Or.inl rfl
  | n + 1 => by
    unfold maxTo
    split
    · exact Or.inr ⟨n, by omega, rfl⟩
    · rcases maxTo_is f n with h | ⟨i, h1, h2⟩
      · exact Or.inl h
      · exact Or.inr ⟨i, by omega, h2⟩
theorem maxTo_nonneg (f : Nat → Int) : ∀ n, 0 ≤ maxTo f n
  | 0 => Int.le_refl _
  | n + 1 => by
    have := maxTo_nonneg f n
    unfold maxTo
    split <;> omega
theorem part_dvd {l m : Int} (h0 : 0 ≤ l) (h1 : l ≤ m) (h2 : m ≤ 12) : partOf m ∣ partOf l := by
  obtain ⟨a, rfl⟩ := Int.eq_ofNat_of_zero_le h0
  obtain ⟨b, rfl⟩ := Int.eq_ofNat_of_zero_le (show 0 ≤ m by omega)
  rw [partOf_nat (by omega), partOf_nat (by omega)]
  exact ⟨2 ^ (b - a), by rw [← Int.pow_add, show 12 - b + (b - a) = 12 - a by omega]⟩
theorem parts_dvd {f : Nat → Int} {m : Int} (hm : m ≤ 12) : ∀ n, (∀ i, i < n → f i ≤ m) → partOf m ∣ parts f n
  | 0, _ => ⟨0, by show (0 : Int) = _; omega⟩
  | n + 1, h => by
    have ih := parts_dvd hm n (fun i hi => h i (by omega))
    unfold parts
    refine Int.dvd_add ih ?_
    split
    · rename_i hq
      exact part_dvd (by omega) (h n (by omega)) hm
    · exact ⟨0, by omega⟩
/-- how many come -/
def usedTo (c : Nat → Int) : Nat → Int
  | 0 => 0
  | n + 1 => usedTo c n + if 0 < c n then 1 else 0
theorem usedTo_nonneg (c : Nat → Int) : ∀ n, 0 ≤ usedTo c n
  | 0 => Int.le_refl _
  | n + 1 => by
    have := usedTo_nonneg c n
    unfold usedTo
    split <;> omega
theorem parts_ones {c f : Nat → Int} {N : Nat} (hf : Fits c f N) : ∀ n, n ≤ N → (∀ i, i < n → f i ≤ 1) → parts f n = 2048 * usedTo c n
  | 0, _, _ => rfl
  | n + 1, hn, h => by
    have ih := parts_ones hf n (by omega) (fun i hi => h i (by omega))
    have h1 := h n (by omega)
    unfold parts usedTo
    by_cases hc : 0 < c n
    · have := hf.used n (by omega) hc
      have e : f n = 1 := by omega
      rw [if_pos hc, e, if_pos (by omega), show partOf 1 = 2048 from rfl, ih]
      omega
    · rw [if_neg hc, hf.none n (fun _ => hc), if_neg (by omega), ih]
      omega
theorem cand_some {c f : Nat → Int} {N : Nat} {spare : Int} (hf : Fits c f N) (hu : 2 ≤ usedTo c N) (hs : spare = 4096 - parts f N) (h0 : 0 < spare) : ∃ i, i < N ∧ 0 < c i ∧ Cand c f spare i := by
  have hle : ∀ i, f i ≤ 12 := by
    intro i
    by_cases h : i < N ∧ 0 < c i
    · exact (hf.used i h.1 h.2).2
    · rw [hf.none i (fun hi => fun hc => h ⟨hi, hc⟩)]
      omega
  rcases maxTo_is f N with hz | ⟨i, i1, i2⟩
  · have := parts_ones hf N (Nat.le_refl _) (fun i hi => by have := maxTo_ge f N i hi; omega)
    omega
  · by_cases h2 : maxTo f N ≤ 1
    · have := parts_ones hf N (Nat.le_refl _) (fun i hi => by have := maxTo_ge f N i hi; omega)
      omega
    · have hm12 := hle i
      have hd : partOf (maxTo f N) ∣ spare := by
        rw [hs]
        refine Int.dvd_sub ?_ (parts_dvd (by omega) N (fun j hj => maxTo_ge f N j hj))
        exact part_dvd (l := 0) (Int.le_refl _) (by omega) (by omega)
      have hle2 := Int.le_of_dvd h0 hd
      refine ⟨i, i1, ?_, ?_, ?_⟩
      · by_cases hc : 0 < c i
        · exact hc
        · have := hf.none i (fun _ => hc)
          omega
      · omega
      · rw [i2]; exact hle2
theorem part_half {l : Int} (h : 2 ≤ l) (h12 : l ≤ 12) : partOf (l - 1) = 2 * partOf l := by
  obtain ⟨a, rfl⟩ := Int.eq_ofNat_of_zero_le (show 0 ≤ l by omega)
  rw [show (a : Int) - 1 = ((a - 1 : Nat) : Int) by omega, partOf_nat (by omega), partOf_nat (by omega), show 12 - (a - 1) = (12 - a) + 1 by omega, Int.pow_succ]
  omega
theorem ltGo_full {c : Nat → Int} {N : Nat} (hu : 2 ≤ usedTo c N) : ∀ (g : Nat) (f : Nat → Int) (spare : Int), Fits c f N → spare = 4096 - parts f N → 0 ≤ spare → spare < g → Fits c (ltGo c N g f spare) N ∧ parts (ltGo c N g f spare) N = 4096
  | 0, _, _, _, _, h0, h1 => absurd h1 (by omega)
  | g + 1, f, spare, hf, hs, h0, h1 => by
    unfold ltGo
    by_cases hp : 0 < spare
    · rw [if_pos hp]
      obtain ⟨k, k1, k2, k3⟩ := cand_some hf hu hs hp
      rcases shGo_spec (c := c) (f := f) (spare := spare) N with ⟨_, _, h5⟩ | ⟨i, e, i1, i2, i3, _⟩
      · have := h5 k k1 k3
        have hpp := pow_pos2 (f k).toNat
        have : 0 < c k * 2 ^ (f k).toNat := Int.mul_pos k2 (by omega)
        omega
      · rw [e, if_neg (by omega), Int.toNat_natCast]
        have hci : 0 < c i := by
          by_cases hc : 0 < c i
          · exact hc
          · have := hf.none i (fun _ => hc)
            unfold Cand at i2
            omega
        have hfi := hf.used i i1 hci
        obtain ⟨d1, d2⟩ := i2
        have hpu := parts_upd f i (f i - 1) N i1
        rw [if_pos (by omega), if_pos (by omega), part_half d1 hfi.2] at hpu
        have hpos := part_pos (show 0 ≤ f i by omega) hfi.2
        refine ltGo_full hu g _ _ ⟨fun j hj hc => ?_, fun j hj => ?_⟩ (by omega) (by omega) (by omega)
        · unfold upd
          by_cases ej : j = i
          · rw [if_pos ej]; omega
          · rw [if_neg ej]; exact hf.used j hj hc
        · unfold upd
          by_cases ej : j = i
          · subst ej; exact absurd hci (hj i1)
          · rw [if_neg ej]; exact hf.none j hj
    · rw [if_neg hp]
      exact ⟨hf, by omega⟩
theorem lens0_fits {c : Nat → Int} {N : Nat} (ht : sumTo c N ≤ 4096) : Fits c (lens0 c N N) N := by
  refine ⟨fun i hi hc => ?_, fun i hi => ?_⟩
  · obtain ⟨l, e, h1, h2, _⟩ := lenFor_spec (count := c i) hc ht
    rw [lens0_at c N N i hi, if_pos hc, e]
    omega
  · by_cases h : i < N
    · rw [lens0_at c N N i h, if_neg (hi h)]
    · exact lens0_out c N N i (by omega)
theorem used_sum {c : Nat → Int} (h : ∀ i, 0 ≤ c i) : ∀ n, usedTo c n ≤ sumTo c n
  | 0 => Int.le_refl _
  | n + 1 => by
    have := used_sum h n
    have := h n
    unfold usedTo sumTo
    split <;> omega
theorem lensFor_full {c : Nat → Int} {N : Nat} (h : ∀ i, 0 ≤ c i) (ht : sumTo c N ≤ 4096) (hu : 2 ≤ usedTo c N) : Fits c (lensFor c N) N ∧ (countGo (lensFor c N) N).2 = 4096 := by
  have hp := parts_le h ht N (Nat.le_refl _)
  have hs := spare0_parts ht N (Nat.le_refl _)
  have hus := used_sum h N
  have hle : parts (lens0 c N N) N ≤ 4096 := Int.le_of_mul_le_mul_right hp (by omega)
  have hpn : 0 ≤ parts (lens0 c N N) N := by
    have : ∀ f : Nat → Int, ∀ n, 0 ≤ parts f n := by
      intro f n
      induction n with
      | zero => exact Int.le_refl _
      | succ n ih =>
        unfold parts
        split
        · rename_i hq
          have := part_pos (show 0 ≤ f n by omega) hq.2
          omega
        · omega
    exact this _ _
  obtain ⟨a, b⟩ := ltGo_full hu 4097 (lens0 c N N) (spare0 c N N) (lens0_fits ht) hs (by omega) (by omega)
  exact ⟨a, by rw [count_parts]; exact b⟩
end Wr
