/- THE DOCUMENT's CODES, PLAINLY: the words of a code, simple codes, full codes. No Go. -/
import Derived.Test.YtmpfgdmdnghhgaaRefP4
namespace Wr

/-- the length of the word at place p -/
def lenAt (cnt : Nat → Int) (p : Int) : Nat → Nat
  | 0 => 0
  | l + 1 => if aheadOf cnt (l + 1) ≤ p then l + 1 else lenAt cnt p l
def wordAt (cnt sym : Nat → Int) (p : Nat) : Wd := ⟨sym p, lenAt cnt p 12, firstOf cnt (lenAt cnt p 12) + (p - aheadOf cnt (lenAt cnt p 12))⟩
/-- the words of a code -/
def codeWs (cnt sym : Nat → Int) : List Wd := (List.range (aheadOf cnt 13).toNat).map (wordAt cnt sym)

structure CodeIs (ws : List Wd) (cnt sym : Nat → Int) : Prop where
  len : (ws.length : Int) = aheadOf cnt 13
  at_ : ∀ (l p : Nat), l ≤ 12 → aheadOf cnt l ≤ p → (p : Int) < aheadOf cnt (l + 1) → ws[p]? = some ⟨sym p, l, firstOf cnt l + (p - aheadOf cnt l)⟩

theorem lenAt_eq {cnt : Nat → Int} (lo : ∀ i, 0 ≤ cnt i) {p : Int} {l : Nat} (h1 : aheadOf cnt l ≤ p) (h2 : p < aheadOf cnt (l + 1)) : ∀ m : Nat, l ≤ m → lenAt cnt p m = l
  | 0, h => by have : l = 0 := by omega
               subst this; rfl
  | m + 1, h => by
    unfold lenAt
    by_cases e : l = m + 1
    · subst e; rw [if_pos h1]
    · have := ahead_mono lo (show l + 1 ≤ m + 1 by omega)
      rw [if_neg (by omega), lenAt_eq lo h1 h2 m (by omega)]

theorem codeWs_at {cnt sym : Nat → Int} (lo : ∀ i, 0 ≤ cnt i) {l p : Nat} (hl : l ≤ 12) (h1 : aheadOf cnt l ≤ p) (h2 : (p : Int) < aheadOf cnt (l + 1)) :
    (codeWs cnt sym)[p]? = some ⟨sym p, l, firstOf cnt l + (p - aheadOf cnt l)⟩ := by
  have m := ahead_mono lo (show l + 1 ≤ 13 by omega)
  have hp : p < (aheadOf cnt 13).toNat := by omega
  unfold codeWs
  rw [List.getElem?_map, List.getElem?_range hp]
  show some (wordAt cnt sym p) = _
  unfold wordAt
  rw [lenAt_eq lo h1 h2 12 hl]
theorem codeWs_length {cnt sym : Nat → Int} (lo : ∀ i, 0 ≤ cnt i) : ((codeWs cnt sym).length : Int) = aheadOf cnt 13 := by
  have := ahead_nonneg lo 13
  simp [codeWs]
  omega

theorem CodeIs.eq {ws : List Wd} {cnt sym : Nat → Int} (h : CodeIs ws cnt sym) (lo : ∀ i, 0 ≤ cnt i) : ws = codeWs cnt sym := by
  apply List.ext_getElem?
  intro p
  by_cases hp : (p : Int) < aheadOf cnt 13
  · obtain ⟨l, l1, l2, l3⟩ := ahead_find cnt p (by omega) 13 hp
    rw [h.at_ l p (by omega) l2 l3, codeWs_at lo (by omega) l2 l3]
  · have := h.len
    have e := codeWs_length (sym := sym) lo
    rw [List.getElem?_eq_none (by omega), List.getElem?_eq_none (by omega)]

theorem codeWs_congr {cnt sym sym' : Nat → Int} (h : ∀ p : Nat, (p : Int) < aheadOf cnt 13 → sym p = sym' p) : codeWs cnt sym = codeWs cnt sym' := by
  unfold codeWs
  apply List.map_congr_left
  intro p hp
  rw [List.mem_range] at hp
  unfold wordAt
  rw [h p (by omega)]

theorem codeWs_ok {cnt sym : Nat → Int} {S : Int} (h : Cod cnt sym S) : wdOk (codeWs cnt sym) ∧ (codeWs cnt sym).length ≤ 272 := by
  have e := codeWs_length (sym := sym) h.lo
  have hf := h.few
  refine ⟨fun x hx => ?_, by omega⟩
  obtain ⟨p, hp, rfl⟩ := List.mem_iff_getElem.1 hx
  obtain ⟨l, l1, l2, l3⟩ := ahead_find cnt p (by omega) 13 (by omega)
  have ha := codeWs_at (sym := sym) h.lo (show l ≤ 12 by omega) l2 l3
  rw [List.getElem?_eq_getElem hp] at ha
  have ha := Option.some.inj ha
  rw [ha]
  have r := first_room h.lo h.full (show l ≤ 12 by omega)
  have a1 : aheadOf cnt (l + 1) = aheadOf cnt l + cnt l := rfl
  have fn : ∀ l, 0 ≤ firstOf cnt l := by
    intro l
    induction l with
    | zero => exact Int.le_refl _
    | succ l ih =>
      have := h.lo l
      show 0 ≤ 2 * (firstOf cnt l + cnt l)
      omega
  have := fn l
  exact ⟨by show l ≤ 12; omega, by show 0 ≤ firstOf cnt l + (p - aheadOf cnt l); omega, by show firstOf cnt l + (p - aheadOf cnt l) < 2 ^ l; omega⟩

theorem words_code {f sym : Nat → Int} {N : Nat} {ws : List Wd} (h : WordsAt f N 13 0 ws) (hs : ∀ k, k < N → 1 ≤ f k → f k ≤ 12 → sym (placeOf (countGo f N).1 f k).toNat = k) : CodeIs ws (countGo f N).1 sym := by
  refine ⟨by rw [h.len]; show _ + 0 = _; omega, fun l p hl h1 h2 => ?_⟩
  have a1 : aheadOf (countGo f N).1 (l + 1) = aheadOf (countGo f N).1 l + (countGo f N).1 l := rfl
  have c := count_occ f N l
  have hl1 : 1 ≤ l := by
    rcases Nat.eq_zero_or_pos l with e | e
    · subst e; rw [if_neg (by omega)] at c; omega
    · exact e
  rw [if_pos ⟨hl1, hl⟩] at c
  obtain ⟨i, i1, i2, i3⟩ := occ_find f l ((p : Int) - aheadOf (countGo f N).1 l) (by omega) N (by omega)
  have ep : placeOf (countGo f N).1 f i = p := by
    unfold placeOf
    rw [i2, i3, Int.toNat_natCast]
    omega
  have w := h.at_ i i1 (by omega) (Or.inl (by omega))
  have s := hs i i1 (by omega) (by omega)
  rw [ep, Int.toNat_natCast] at w s
  rw [w, s, i2, i3, Int.toNat_natCast]

/- names -/
def simpLen (n p : Nat) : Int := if n = 2 ∨ (n = 3 ∧ p = 0) then 1 else 2
def lenF (n : Nat) (nm : Nat → Int) : Nat → (Nat → Int)
  | 0 => fun _ => 0
  | k + 1 => upd (lenF n nm k) (nm k).toNat (simpLen n k)

theorem occ_upd {f : Nat → Int} {j : Nat} (hf : f j = 0) (a l : Int) (hl : l ≠ 0) : ∀ i : Nat, occ (upd f j a) l i = occ f l i + if a = l ∧ j < i then 1 else 0
  | 0 => by rw [if_neg (by omega)]; rfl
  | i + 1 => by
    have ih := occ_upd hf a l hl i
    show occ (upd f j a) l i + (if upd f j a i = l then 1 else 0) = occ f l i + (if f i = l then 1 else 0) + _
    rw [ih]
    unfold upd
    by_cases e : i = j
    · subst e
      rw [if_pos rfl, hf, if_neg (show ¬ (0 : Int) = l by omega), if_neg (show ¬ (a = l ∧ i < i) by omega)]
      by_cases ha : a = l
      · rw [if_pos ha, if_pos ⟨ha, by omega⟩]
      · rw [if_neg ha, if_neg (by omega)]
    · rw [if_neg e]
      by_cases ha : a = l ∧ j < i
      · rw [if_pos ha, if_pos (show a = l ∧ j < i + 1 from ⟨ha.1, by omega⟩)]
        omega
      · rw [if_neg ha, if_neg (show ¬ (a = l ∧ j < i + 1) by omega)]
        omega
theorem occ_nil (l : Int) (hl : l ≠ 0) : ∀ i : Nat, occ (fun _ => 0) l i = 0
  | 0 => rfl
  | i + 1 => by
    show occ (fun _ => 0) l i + (if (0 : Int) = l then 1 else 0) = 0
    rw [occ_nil l hl i, if_neg (by omega)]
    rfl

/-- the names in their order -/
structure NamesOk (N : Nat) (nm : Nat → Int) (k : Nat) : Prop where
  lt : ∀ p, p < k → 0 ≤ nm p ∧ nm p < N
  inc : ∀ p, p + 1 < k → nm p < nm (p + 1)
theorem NamesOk.mono {N : Nat} {nm : Nat → Int} {k : Nat} (h : NamesOk N nm k) : ∀ {p q : Nat}, p < q → q < k → nm p < nm q
  | p, q + 1, h1, h2 => by
    by_cases e : p = q
    · subst e; exact h.inc p h2
    · have := h.mono (show p < q by omega) (show q < k by omega)
      have := h.inc q h2
      omega
theorem lenF_zero {N n : Nat} {nm : Nat → Int} : ∀ {k : Nat}, NamesOk N nm k → ∀ j : Nat, (∀ p, p < k → nm p ≠ j) → lenF n nm k j = 0
  | 0, _, _, _ => rfl
  | k + 1, h, j, hj => by
    have hk := h.lt k (by omega)
    have := hj k (by omega)
    show upd (lenF n nm k) (nm k).toNat (simpLen n k) j = 0
    unfold upd
    rw [if_neg (by omega)]
    exact lenF_zero ⟨fun p hp => h.lt p (by omega), fun p hp => h.inc p (by omega)⟩ j (fun p hp => hj p (by omega))
theorem NamesOk.pre {N : Nat} {nm : Nat → Int} {k m : Nat} (h : NamesOk N nm k) (hm : m ≤ k) : NamesOk N nm m := ⟨fun p hp => h.lt p (by omega), fun p hp => h.inc p (by omega)⟩
theorem lenF_free {N n : Nat} {nm : Nat → Int} {k : Nat} (h : NamesOk N nm (k + 1)) : lenF n nm k (nm k).toNat = 0 := by
  refine lenF_zero (h.pre (by omega)) _ fun p hp => ?_
  have := h.mono (show p < k from hp) (by omega)
  have := h.lt k (by omega)
  omega
/-- how many of the first k names have this length and lie below i -/
def nameOcc (n : Nat) (nm : Nat → Int) (l : Int) (i : Nat) : Nat → Int
  | 0 => 0
  | k + 1 => nameOcc n nm l i k + if simpLen n k = l ∧ nm k < i then 1 else 0
theorem lenF_occ {N n : Nat} {nm : Nat → Int} (l : Int) (hl : l ≠ 0) (i : Nat) : ∀ {k : Nat}, NamesOk N nm k → occ (lenF n nm k) l i = nameOcc n nm l i k
  | 0, _ => occ_nil l hl i
  | k + 1, h => by
    have hk := h.lt k (by omega)
    show occ (upd (lenF n nm k) (nm k).toNat (simpLen n k)) l i = nameOcc n nm l i k + _
    rw [occ_upd (lenF_free h) _ l hl i, lenF_occ l hl i (h.pre (by omega))]
    congr 1
    by_cases e : simpLen n k = l ∧ nm k < i
    · rw [if_pos e, if_pos ⟨e.1, by omega⟩]
    · rw [if_neg e, if_neg (fun q => e ⟨q.1, by omega⟩)]
theorem lenF_at {N n : Nat} {nm : Nat → Int} : ∀ {k : Nat}, NamesOk N nm k → ∀ p, p < k → lenF n nm k (nm p).toNat = simpLen n p
  | k + 1, h, p, hp => by
    show upd (lenF n nm k) (nm k).toNat (simpLen n k) (nm p).toNat = _
    unfold upd
    by_cases e : p = k
    · subst e; rw [if_pos rfl]
    · have := h.mono (show p < k by omega) (by omega)
      have := h.lt p (by omega)
      rw [if_neg (by omega)]
      exact lenF_at (h.pre (by omega)) p (by omega)
theorem lenF_bounds (n : Nat) (nm : Nat → Int) : ∀ (k j : Nat), 0 ≤ lenF n nm k j ∧ lenF n nm k j ≤ 12
  | 0, _ => ⟨Int.le_refl _, by show (0 : Int) ≤ 12; omega⟩
  | k + 1, j => by
    have ih := lenF_bounds n nm k j
    show 0 ≤ upd (lenF n nm k) (nm k).toNat (simpLen n k) j ∧ upd (lenF n nm k) (nm k).toNat (simpLen n k) j ≤ 12
    unfold upd simpLen
    split
    · split <;> omega
    · exact ih

theorem simp_count {N n : Nat} {nm : Nat → Int} (h2 : 2 ≤ n) (h4 : n ≤ 4) (h : NamesOk N nm n) : (countGo (lenF n nm n) N).1 = simpleCnt n := by
  funext j
  rw [count_occ]
  have key : 1 ≤ j → occ (lenF n nm n) j N = nameOcc n nm j N n := fun hj => lenF_occ (j : Int) (by omega) N h
  have l0 := h.lt
  rcases (show n = 2 ∨ n = 3 ∨ n = 4 by omega) with rfl | rfl | rfl
  · have a := l0 0 (by omega); have b := l0 1 (by omega)
    simp only [nameOcc, simpLen] at key
    unfold simpleCnt
    split
    · rename_i hj
      rw [key hj.1]
      simp
      by_cases e : j = 1
      · subst e; simp [a.2, b.2]
      · rw [if_neg e, if_neg (by omega), if_neg (by omega)]; rfl
    · simp
      omega
  · have a := l0 0 (by omega); have b := l0 1 (by omega); have c := l0 2 (by omega)
    simp only [nameOcc, simpLen] at key
    unfold simpleCnt
    split
    · rename_i hj
      rw [key hj.1]
      simp
      by_cases e : j = 1
      · subst e; simp [a.2]
      · by_cases e2 : j = 2
        · subst e2; simp [b.2, c.2]
        · rw [if_neg e, if_neg e2, if_neg (by omega), if_neg (by omega), if_neg (by omega)]; rfl
    · simp
      omega
  · have a := l0 0 (by omega); have b := l0 1 (by omega); have c := l0 2 (by omega); have d := l0 3 (by omega)
    simp only [nameOcc, simpLen] at key
    unfold simpleCnt
    split
    · rename_i hj
      rw [key hj.1]
      simp
      by_cases e2 : j = 2
      · subst e2; simp [a.2, b.2, c.2, d.2]
      · rw [if_neg e2, if_neg (by omega), if_neg (by omega), if_neg (by omega), if_neg (by omega)]; rfl
    · simp
      omega

theorem simp_sum {N n : Nat} {nm : Nat → Int} (h2 : 2 ≤ n) (h4 : n ≤ 4) (h : NamesOk N nm n) : (countGo (lenF n nm n) N).2 = 4096 := by
  have c := (count_sums (lenF n nm n) N).1
  rw [simp_count h2 h4 h] at c
  have e : firstOf (simpleCnt n) 13 = 8192 := by rcases (show n = 2 ∨ n = 3 ∨ n = 4 by omega) with rfl | rfl | rfl <;> decide
  omega

theorem simp_place {N n : Nat} {nm : Nat → Int} (h2 : 2 ≤ n) (h4 : n ≤ 4) (h : NamesOk N nm n) (p : Nat) (hp : p < n) : placeOf (simpleCnt n) (lenF n nm n) (nm p).toNat = p := by
  unfold placeOf
  rw [lenF_at h p hp, lenF_occ _ (by unfold simpLen; split <;> omega) _ h]
  have l0 := h.lt
  have hp0 := l0 p hp
  have mo : ∀ q, q < n → (nm q < ((nm p).toNat : Int) ↔ q < p) := by
    intro q hq
    constructor
    · intro hlt
      rcases Nat.lt_or_ge q p with e | e
      · exact e
      · rcases Nat.lt_or_ge p q with e2 | e2
        · have := h.mono e2 hq; omega
        · have : p = q := by omega
          subst this; omega
    · intro hlt
      have := h.mono hlt hp
      omega
  rcases (show n = 2 ∨ n = 3 ∨ n = 4 by omega) with rfl | rfl | rfl
  · have m0 := mo 0 (by omega); have m1 := mo 1 (by omega)
    simp only [nameOcc, m0, m1]
    rcases (show p = 0 ∨ p = 1 by omega) with rfl | rfl <;> decide
  · have m0 := mo 0 (by omega); have m1 := mo 1 (by omega); have m2 := mo 2 (by omega)
    simp only [nameOcc, m0, m1, m2]
    rcases (show p = 0 ∨ p = 1 ∨ p = 2 by omega) with rfl | rfl | rfl <;> decide
  · have m0 := mo 0 (by omega); have m1 := mo 1 (by omega); have m2 := mo 2 (by omega); have m3 := mo 3 (by omega)
    simp only [nameOcc, m0, m1, m2, m3]
    rcases (show p = 0 ∨ p = 1 ∨ p = 2 ∨ p = 3 by omega) with rfl | rfl | rfl | rfl <;> decide

theorem simp_words {N n : Nat} {nm : Nat → Int} {ws : List Wd} (h2 : 2 ≤ n) (h4 : n ≤ 4) (h : NamesOk N nm n) (hw : WordsAt (lenF n nm n) N 13 0 ws) : ws = codeWs (simpleCnt n) nm := by
  have c := simp_count h2 h4 h
  have ci := words_code (sym := nm) hw (fun k hk k1 _ => by
    rw [c]
    by_cases e : ∃ p, p < n ∧ nm p = k
    · obtain ⟨p, hp, e⟩ := e
      have := simp_place h2 h4 h p hp
      rw [show (nm p).toNat = k by omega] at this
      rw [this, Int.toNat_natCast, e]
    · exfalso
      have := lenF_zero (n := n) h k (fun p hp e2 => e ⟨p, hp, e2⟩)
      omega)
  rw [c] at ci
  exact ci.eq (fun i => by rw [← c]; exact count_lo _ _ i)
theorem simp_one (nm : Nat → Int) : codeWs (simpleCnt 1) nm = [⟨nm 0, 0, 0⟩] := rfl
end Wr
