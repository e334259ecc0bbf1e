import Derived.Test.YtmpfgdmdnghhgaaGreatK9
/- HOW SHORT A BLOCK IS THAT COMES AGAIN AND AGAIN. No Go. -/
namespace Wr

/- the places of a list -/
def lastP (P : List UInt8) (s : Nat) : Nat → Int
  | 0 => 0
  | x + 1 => if slotOf P x = s ∧ x + 2 < P.length then (x : Int) + 1 else lastP P s x
/-- all places before a are in their lists -/
structure FdAll (P : List UInt8) (f : Fnd) (a : Nat) : Prop where
  heads : ∀ s, f.heads s = lastP P s a
  before : ∀ p, p < a → p + 2 < P.length → f.before p = lastP P (slotOf P p) p
theorem fd0_all (P : List UInt8) : FdAll P fd0 0 := ⟨fun _ => rfl, fun p h => absurd h (by omega)⟩
theorem lastP_stop {P : List UInt8} {s x : Nat} (hx : P.length ≤ x + 2) : ∀ y, x ≤ y → lastP P s y = lastP P s x
  | 0, h => by rw [show x = 0 by omega]
  | y + 1, h => by
    by_cases e : x = y + 1
    · rw [e]
    · unfold lastP
      rw [if_neg (by omega)]
      have := lastP_stop hx (s := s) y (by omega)
      rw [this]
      cases x with
      | zero => rfl
      | succ x => rfl
theorem FdAll.stop {P : List UInt8} {f : Fnd} {a b : Nat} (h : FdAll P f a) (ha : P.length ≤ a + 2) (hab : a ≤ b) : FdAll P f b :=
  ⟨fun s => by rw [h.heads, lastP_stop ha b hab], fun p hp hl => h.before p (by omega) hl⟩
theorem learn_all {P : List UInt8} (hP : P.length ≤ 4096) : ∀ (n a : Nat) (f : Fnd), FdAll P f a → FdAll P (learnGo P n a f) (a + n)
  | 0, _, _, h => h
  | n + 1, a, f, h => by
    unfold learnGo
    split
    · rename_i hc
      have := learn_all hP n (a + 1) ⟨upd f.heads (slotOf P a) ((a : Int) + 1), upd f.before a (f.heads (slotOf P a))⟩ ⟨fun s => ?_, fun p hp hl => ?_⟩
      · rw [show a + (n + 1) = a + 1 + n by omega]
        exact this
      · show upd f.heads (slotOf P a) ((a : Int) + 1) s = lastP P s (a + 1)
        unfold upd lastP
        by_cases e : s = slotOf P a
        · rw [if_pos e, if_pos ⟨e.symm, hc.2⟩]
        · rw [if_neg e, if_neg (fun q => e q.1.symm)]
          exact h.heads s
      · show upd f.before a (f.heads (slotOf P a)) p = lastP P (slotOf P p) p
        unfold upd
        by_cases e : p = a
        · rw [if_pos e, e]
          exact h.heads _
        · rw [if_neg e]
          exact h.before p (by omega) hl
    · rename_i hc
      exact h.stop (by omega) (by omega)
theorem lastP_spec {P : List UInt8} {s : Nat} : ∀ (x t : Nat), t < x → slotOf P t = s → t + 2 < P.length → ∃ p : Nat, lastP P s x = (p : Int) + 1 ∧ t ≤ p ∧ p < x ∧ slotOf P p = s ∧ p + 2 < P.length
  | 0, t, h, _, _ => absurd h (by omega)
  | x + 1, t, h, hs, hl => by
    unfold lastP
    split
    · rename_i hc
      exact ⟨x, rfl, by omega, by omega, hc.1, hc.2⟩
    · rename_i hc
      have htx : t ≠ x := fun e => hc (by rw [← e]; exact ⟨hs, hl⟩)
      obtain ⟨p, h1, h2, h3, h4, h5⟩ := lastP_spec x t (by omega) hs hl
      exact ⟨p, h1, h2, by omega, h4, h5⟩

/- the search -/
theorem seekGo_ge {P : List UInt8} {win : Int} {f : Fnd} {a most : Nat} : ∀ (g : Nat) (p l d : Int), l ≤ (seekGo P win f a most g p l d).1
  | 0, _, _, _ => Int.le_refl _
  | g + 1, p, l, d => by
    unfold seekGo
    split
    · split
      · rename_i h
        have := seekGo_ge (P := P) (win := win) (f := f) (a := a) (most := most) g (f.before p.toNat - 1) (sameP P p.toNat a most : Nat) ((a : Int) - p)
        omega
      · exact seekGo_ge g _ _ _
    · exact Int.le_refl _
theorem seekGo_two {P : List UInt8} {win : Int} {f : Fnd} {a most : Nat} (hf : FdOk f a) : ∀ (g : Nat) (p l d : Int), p < a → (d = 0 → l = 2) → (seekGo P win f a most g p l d).2 = 0 → (seekGo P win f a most g p l d).1 = 2
  | 0, _, _, _, _, h, e => h e
  | g + 1, p, l, d, hp, h, e => by
    unfold seekGo at e ⊢
    by_cases hc : 0 ≤ p ∧ (a : Int) - p ≤ win ∧ l < most
    · rw [if_pos hc] at e ⊢
      have hb := hf.before p.toNat
      by_cases hs : l < (sameP P p.toNat a most : Nat)
      · rw [if_pos hs] at e ⊢
        exact seekGo_two hf g _ _ _ (by omega) (fun q => absurd q (by omega)) e
      · rw [if_neg hs] at e ⊢
        exact seekGo_two hf g _ _ _ (by omega) h e
    · rw [if_neg hc] at e ⊢
      exact h e

/-- what comes again behind q bytes -/
def Per (P : List UInt8) (q : Nat) : Prop := ∀ i, i + q < P.length → pB P (i + q) = pB P i
theorem same_per {P : List UInt8} {q a : Nat} (h : Per P q) (hq : q ≤ a) : ∀ (g n : Nat), a + n + g ≤ P.length → sameGo P (a - q) a g n = n + g
  | 0, _, _ => rfl
  | g + 1, n, hl => by
    have e := h (a - q + n) (by omega)
    rw [show a - q + n + q = a + n by omega] at e
    unfold sameGo
    rw [if_pos e.symm, same_per h hq g (n + 1) (by omega)]
    omega
theorem most_le {P : List UInt8} {a : Nat} (ha : a + 2 < P.length) : mostOf P a ≤ 520 ∧ a + mostOf P a ≤ P.length ∧ 3 ≤ mostOf P a := by
  unfold mostOf
  split <;> omega
theorem slot_per {P : List UInt8} {q a : Nat} (hp : Per P q) (hq : q ≤ a) (ha : a + 2 < P.length) : slotOf P (a - q) = slotOf P a := by
  have e0 := hp (a - q) (by omega)
  have e1 := hp (a - q + 1) (by omega)
  have e2 := hp (a - q + 2) (by omega)
  rw [show a - q + q = a by omega] at e0
  rw [show a - q + 1 + q = a + 1 by omega] at e1
  rw [show a - q + 2 + q = a + 2 by omega] at e2
  unfold slotOf
  rw [e0, e1, e2]
theorem seek_most {P : List UInt8} {win : Int} {f : Fnd} {a q : Nat} (hf : FdAll P f a) (hp : Per P q) (h1 : 1 ≤ q) (hq : q ≤ a) (hw : (q : Int) ≤ win) (ha : a + 2 < P.length) :
    ∀ (g x : Nat) (l d : Int), a - q < x → x ≤ a → x ≤ g + (a - q) → ((mostOf P a : Nat) : Int) ≤ (seekGo P win f a (mostOf P a) g (lastP P (slotOf P a) x - 1) l d).1
  | 0, x, l, d, h2, h3, h4 => absurd h2 (by omega)
  | g + 1, x, l, d, h2, h3, h4 => by
    obtain ⟨p, p1, p2, p3, p4, p5⟩ := lastP_spec x (a - q) h2 (slot_per hp hq ha) (by omega)
    have hm := most_le ha
    rw [p1, show (p : Int) + 1 - 1 = p by omega]
    unfold seekGo
    by_cases hl : l < (mostOf P a : Nat)
    · rw [if_pos ⟨by omega, by omega, hl⟩, Int.toNat_natCast]
      by_cases e : p = a - q
      · have hsm : sameP P p a (mostOf P a) = mostOf P a := by
          rw [e]
          unfold sameP
          have := same_per hp hq (mostOf P a) 0 (by omega)
          omega
        rw [hsm, if_pos hl]
        exact seekGo_ge g _ _ _
      · have hb : f.before p = lastP P (slotOf P a) p := by rw [hf.before p (by omega) p5, p4]
        rw [hb]
        split
        · exact seek_most hf hp h1 hq hw ha g p _ _ (by omega) (by omega) (by omega)
        · exact seek_most hf hp h1 hq hw ha g p _ _ (by omega) (by omega) (by omega)
    · rw [if_neg (fun q => hl q.2.2)]
      show _ ≤ l
      omega
theorem find_most {P : List UInt8} {win : Int} {f : Fnd} {a q : Nat} (hf : FdAll P f a) (ho : FdOk f a) (hp : Per P q) (h1 : 1 ≤ q) (h16 : q ≤ 16) (hq : q ≤ a) (hw : 16 ≤ win) (ha : a + 2 < P.length) : (findC P win f a).1 = (mostOf P a : Nat) := by
  have hm := most_le ha
  have hh := ho.heads (slotOf P a)
  have h := seek_most hf hp h1 hq (by omega : (q : Int) ≤ win) ha 32 a 2 0 (by omega) (Nat.le_refl _) (by omega)
  rw [← hf.heads] at h
  have h2 := seekGo_two (P := P) (win := win) (most := mostOf P a) ho 32 (f.heads (slotOf P a) - 1) 2 0 (by omega) (fun _ => rfl)
  have h3 := seekGo_ok (win := win) ho ha 32 (f.heads (slotOf P a) - 1) 2 0 (by omega) (Int.le_refl _) (Or.inl ⟨rfl, rfl⟩)
  unfold findC
  rw [if_pos ha, if_neg (fun e => by have := h2 e; omega)]
  rcases h3 with h3 | h3
  · have := h2 h3
    omega
  · have g1 := h3.l520
    have g2 := h3.room
    have hM : ∀ z : Int, z ≤ 520 → (a : Int) + z ≤ P.length → z ≤ (mostOf P a : Nat) := by
      intro z z1 z2
      unfold mostOf
      split <;> omega
    have := hM _ g1 g2
    omega

/- weights of commands -/
def bs (c : Cm) : Nat := if 256 ≤ c.letter then 43 else 12
def wt (c : Cm) : Nat := bs c + if c.letter = 271 then 0 else 14
def wts : List Cm → Nat
  | [] => 0
  | c :: l => wt c + wts l
def bss : List Cm → Nat
  | [] => 0
  | c :: l => bs c + bss l
def notTop (l : List Cm) : List Cm := l.filter fun c => decide (c.letter ≠ 271)
theorem wts_split : ∀ l : List Cm, wts l = bss l + 14 * (notTop l).length
  | [] => rfl
  | c :: l => by
    have ih := wts_split l
    have e : (notTop (c :: l)).length = (notTop l).length + if c.letter = 271 then 0 else 1 := by
      unfold notTop
      by_cases h : c.letter = 271
      · rw [List.filter_cons_of_neg (by simp [h]), if_pos h]; rfl
      · rw [List.filter_cons_of_pos (by simp [h]), if_neg h]; rfl
    show wt c + wts l = bs c + bss l + _
    rw [e, ih]
    unfold wt
    split <;> omega
theorem wt_let (P : List UInt8) (a : Nat) : wt (letC (pB P a)) = 26 := by
  have := pB_bounds P a
  unfold wt bs
  show (if 256 ≤ pB P a then 43 else 12) + (if pB P a = 271 then 0 else 14) = 26
  rw [if_neg (by omega), if_neg (by omega)]
theorem wt_le (c : Cm) : wt c ≤ 57 := by
  unfold wt bs
  split <;> split <;> omega
theorem wt_520 (d : Int) (far : Nat → Int) : wt (copyC 520 d far).1 = 43 := by
  have e : forLen 520 = 15 := by decide
  unfold copyC
  cases nearOf far d with
  | some i =>
    show (if 256 ≤ (256 : Int) + (forLen 520 : Nat) then 43 else 12) + (if (256 : Int) + (forLen 520 : Nat) = 271 then 0 else 14) = 43
    rw [e]
    rfl
  | none =>
    show (if 256 ≤ (256 : Int) + (forLen 520 : Nat) then 43 else 12) + (if (256 : Int) + (forLen 520 : Nat) = 271 then 0 else 14) = 43
    rw [e]
    rfl
def bnd (r : Nat) : Nat := if r < 3 then 26 * r else 57 + 43 * (r / 520)
theorem copies_behind {P : List UInt8} {win : Int} {q : Nat} (hP : P.length ≤ 4096) (hp : Per P q) (h1 : 1 ≤ q) (h16 : q ≤ 16) (hw : 16 ≤ win) : ∀ (g a : Nat) (f : Fnd) (far : Nat → Int), FdAll P f a → FdOk f a → q ≤ a → wts (copiesGo P win g a f far).1 ≤ bnd (P.length - a)
  | 0, _, _, _, _, _, _ => Nat.zero_le _
  | g + 1, a, f, far, hf, ho, hq => by
    unfold copiesGo
    by_cases ha : a < P.length
    · rw [if_pos ha]
      by_cases h2 : a + 2 < P.length
      · have hm := find_most hf ho hp h1 h16 hq hw h2
        have hml := most_le h2
        have hs : stepC P win f far a = ((copyC (mostOf P a : Nat) (findC P win f a).2 far).1, (copyC (mostOf P a : Nat) (findC P win f a).2 far).2, ((mostOf P a : Nat) : Int)) := by
          unfold stepC
          rw [if_pos (by omega), hm]
        rw [hs]
        show wt (copyC (mostOf P a : Nat) (findC P win f a).2 far).1 + wts (copiesGo P win g (a + mostOf P a) (learnGo P (mostOf P a) a f) (copyC (mostOf P a : Nat) (findC P win f a).2 far).2).1 ≤ _
        have ih := copies_behind hP hp h1 h16 hw g (a + mostOf P a) (learnGo P (mostOf P a) a f) (copyC (mostOf P a : Nat) (findC P win f a).2 far).2 (learn_all hP _ _ _ hf) (learn_ok _ _ _ ho) (by omega)
        have hr : bnd (P.length - a) = 57 + 43 * ((P.length - a) / 520) := if_neg (by omega)
        rw [hr]
        by_cases h5 : 520 < P.length - a
        · have e5 : mostOf P a = 520 := if_pos h5
          rw [e5] at ih ⊢
          have := wt_520 (findC P win f a).2 far
          have e : wt (copyC ((520 : Nat) : Int) (findC P win f a).2 far).1 = 43 := this
          rw [e]
          have hb : bnd (P.length - (a + 520)) ≤ 57 + 43 * ((P.length - (a + 520)) / 520) := by
            unfold bnd
            split <;> omega
          have : (P.length - a) / 520 = (P.length - (a + 520)) / 520 + 1 := by omega
          omega
        · have e5 : mostOf P a = P.length - a := if_neg h5
          have := wt_le (copyC (mostOf P a : Nat) (findC P win f a).2 far).1
          have hz : bnd (P.length - (a + mostOf P a)) = 0 := by rw [e5, show P.length - (a + (P.length - a)) = 0 by omega]; rfl
          omega
      · have hz : findC P win f a = (0, 0) := if_neg h2
        have hs : stepC P win f far a = (letC (pB P a), far, 1) := by
          unfold stepC
          rw [hz, if_neg (by show ¬ (0 : Int) < 0; omega)]
        rw [hs]
        show wt (letC (pB P a)) + wts (copiesGo P win g (a + (1 : Int).toNat) _ _).1 ≤ _
        have ih := copies_behind hP hp h1 h16 hw g (a + 1) (learnGo P 1 a f) far (learn_all hP _ _ _ hf) (learn_ok _ _ _ ho) (by omega)
        rw [wt_let]
        have e1 : bnd (P.length - a) = 26 * (P.length - a) := if_pos (by omega)
        have e2 : bnd (P.length - (a + 1)) = 26 * (P.length - (a + 1)) := if_pos (by omega)
        show 26 + wts (copiesGo P win g (a + 1) (learnGo P 1 a f) far).1 ≤ _
        omega
    · rw [if_neg ha]
      exact Nat.zero_le _
theorem copies_front {P : List UInt8} {win : Int} {q : Nat} (hP : P.length ≤ 4096) (hp : Per P q) (h1 : 1 ≤ q) (h16 : q ≤ 16) (hw : 16 ≤ win) : ∀ (g a : Nat) (f : Fnd) (far : Nat → Int), FdAll P f a → FdOk f a → wts (copiesGo P win g a f far).1 ≤ 26 * (q - a) + 415
  | 0, _, _, _, _, _ => Nat.zero_le _
  | g + 1, a, f, far, hf, ho => by
    have hB : ∀ r, r ≤ 4096 → bnd r ≤ 358 := by
      intro r hr
      unfold bnd
      split <;> omega
    by_cases hq : q ≤ a
    · have := copies_behind hP hp h1 h16 hw (g + 1) a f far hf ho hq
      have := hB (P.length - a) (by omega)
      omega
    unfold copiesGo
    by_cases ha : a < P.length
    · rw [if_pos ha]
      rcases findC_ok (P := P) (win := win) ho with hz | hok
      · have hs : stepC P win f far a = (letC (pB P a), far, 1) := by
          unfold stepC
          rw [hz, if_neg (by show ¬ (0 : Int) < 0; omega)]
        rw [hs]
        have ih := copies_front hP hp h1 h16 hw g (a + 1) (learnGo P 1 a f) far (learn_all hP _ _ _ hf) (learn_ok _ _ _ ho)
        show wt (letC (pB P a)) + wts (copiesGo P win g (a + 1) (learnGo P 1 a f) far).1 ≤ _
        rw [wt_let]
        omega
      · have h3 := hok.l3
        have hs : stepC P win f far a = ((copyC (findC P win f a).1 (findC P win f a).2 far).1, (copyC (findC P win f a).1 (findC P win f a).2 far).2, (findC P win f a).1) := by
          unfold stepC
          rw [if_pos (by omega)]
        rw [hs]
        have hw57 := wt_le (copyC (findC P win f a).1 (findC P win f a).2 far).1
        show wt (copyC (findC P win f a).1 (findC P win f a).2 far).1 + wts (copiesGo P win g (a + (findC P win f a).1.toNat) (learnGo P (findC P win f a).1.toNat a f) (copyC (findC P win f a).1 (findC P win f a).2 far).2).1 ≤ _
        by_cases hqa : q ≤ a + (findC P win f a).1.toNat
        · have := copies_behind hP hp h1 h16 hw g (a + (findC P win f a).1.toNat) (learnGo P (findC P win f a).1.toNat a f) (copyC (findC P win f a).1 (findC P win f a).2 far).2 (learn_all hP _ _ _ hf) (learn_ok _ _ _ ho) hqa
          have := hB (P.length - (a + (findC P win f a).1.toNat)) (by omega)
          omega
        · have ih := copies_front hP hp h1 h16 hw g (a + (findC P win f a).1.toNat) (learnGo P (findC P win f a).1.toNat a f) (copyC (findC P win f a).1 (findC P win f a).2 far).2 (learn_all hP _ _ _ hf) (learn_ok _ _ _ ho)
          omega
    · rw [if_neg ha]
      exact Nat.zero_le _
theorem copies_wts {P : List UInt8} {win : Int} {q : Nat} (far : Nat → Int) (hP : P.length ≤ 4096) (hp : Per P q) (h1 : 1 ≤ q) (h16 : q ≤ 16) (hw : 16 ≤ win) : wts (copiesC P win far).1 ≤ 831 := by
  have := copies_front hP hp h1 h16 hw (P.length + 1) 0 fd0 far (fd0_all P) fd0_ok
  show wts (copiesGo P win (P.length + 1) 0 fd0 far).1 ≤ 831
  omega

/- how many symbols come -/
theorem used_but (c : Nat → Int) (v : Nat) : ∀ n, usedTo c n ≤ usedTo (upd c v 0) n + if v < n then 1 else 0
  | 0 => by show (0 : Int) ≤ 0 + _; split <;> omega
  | n + 1 => by
    have ih := used_but c v n
    show usedTo c n + (if 0 < c n then 1 else 0) ≤ usedTo (upd c v 0) n + (if 0 < upd c v 0 n then 1 else 0) + _
    by_cases e : v = n
    · rw [if_neg (show ¬ v < n by omega)] at ih
      rw [if_pos (show v < n + 1 by omega)]
      have : (if 0 < c n then (1 : Int) else 0) ≤ 1 := by split <;> omega
      have : (0 : Int) ≤ (if 0 < upd c v 0 n then (1 : Int) else 0) := by split <;> omega
      omega
    · have h : upd c v 0 n = c n := if_neg (fun q => e q.symm)
      rw [h]
      by_cases hv : v < n
      · rw [if_pos hv] at ih
        rw [if_pos (show v < n + 1 by omega)]
        omega
      · rw [if_neg hv] at ih
        rw [if_neg (show ¬ v < n + 1 by omega)]
        omega
theorem cnt_filter (l : List Cm) (v : Nat) : cntL (l.filter fun c => decide (c.letter ≠ (v : Int))) = upd (cntL l) v 0 := by
  funext j
  unfold cntL upd
  rw [List.filter_filter]
  by_cases e : j = v
  · rw [if_pos e, e]
    have : (l.filter fun a => decide (a.letter = (v : Int)) && decide (a.letter ≠ (v : Int))) = [] := by
      rw [List.filter_eq_nil_iff]
      intro a _
      simp
    rw [this]
    rfl
  · rw [if_neg e]
    congr 2
    refine List.filter_congr fun a _ => ?_
    by_cases h : a.letter = (j : Int)
    · have : ¬ (j : Int) = (v : Int) := by omega
      simp [h, this]
    · simp [h]
theorem used_one (l : List Cm) (v N : Nat) : usedTo (cntL l) N ≤ 1 + ((l.filter fun c => decide (c.letter ≠ (v : Int))).length : Int) := by
  have h1 := used_but (cntL l) v N
  rw [← cnt_filter] at h1
  have h2 := used_sum (fun i => (cnt_le (l.filter fun c => decide (c.letter ≠ (v : Int))) i).1) N
  have h3 := cntL_sum N (l.filter fun c => decide (c.letter ≠ (v : Int)))
  have : (if v < N then (1 : Int) else 0) ≤ 1 := by split <;> omega
  omega

/- how long a code is told -/
theorem used_zero {f : Nat → Int} {a : Nat} : ∀ k, (∀ j, a ≤ j → j < a + k → f j = 0) → usedTo f (a + k) = usedTo f a
  | 0, _ => rfl
  | k + 1, h => by
    show usedTo f (a + k) + (if 0 < f (a + k) then 1 else 0) = _
    rw [used_zero k (fun j h1 h2 => h j h1 (by omega)), h (a + k) (by omega) (by omega), if_neg (by omega)]
    omega
theorem used_all {f : Nat → Int} {a : Nat} : ∀ k, (∀ j, a ≤ j → j < a + k → 0 < f j) → usedTo f (a + k) = usedTo f a + k
  | 0, _ => by show usedTo f a = usedTo f a + 0; omega
  | k + 1, h => by
    show usedTo f (a + k) + (if 0 < f (a + k) then 1 else 0) = _
    rw [used_all k (fun j h1 h2 => h j h1 (by omega)), if_pos (h (a + k) (by omega) (by omega))]
    omega
theorem same_end {f : Nat → Int} {N a : Nat} (ha : a < N) (h : a + sameN f N a < N) : f (a + sameN f N a) ≠ f a := by
  obtain ⟨h1, h2, h3, h4⟩ := endGo_spec (f := f) (v := f a) (N := N) (N - a) a (by omega)
  have e : a + sameN f N a = endGo f (f a) N (N - a) a := by unfold sameN; omega
  rw [e] at h ⊢
  exact h4 h
def zfl (f : Nat → Int) (N a : Nat) : Nat := if a < N ∧ f a = 0 then (if 3 ≤ sameN f N a then 10 else 4 * sameN f N a) else 0
theorem zfl_le (f : Nat → Int) (N a : Nat) : zfl f N a ≤ 10 := by
  unfold zfl
  split
  · split <;> omega
  · omega
theorem zfl_end {f : Nat → Int} {N a : Nat} (ha : a < N) (hz : f a = 0) : zfl f N (a + sameN f N a) = 0 := by
  unfold zfl
  rw [if_neg]
  intro h
  exact same_end ha h.1 (by rw [h.2, hz])
theorem repL_length (kind : Int) (same least width : Nat) : (repL kind same least width).1.length = 4 + width := by
  show (numBits kind 4 ++ numBits (moreN same least width : Nat) width).length = _
  rw [List.length_append, numBits_length, numBits_length]
theorem tellGo_few {f : Nat → Int} {N : Nat} (hf : ∀ i, 0 ≤ f i) : ∀ (g a : Nat), a ≤ N → ((tellGo f N g a).length : Int) ≤ 14 * (usedTo f N - usedTo f a) + 10 * (((N - a) / 74 : Nat) : Int) + (zfl f N a : Nat)
  | 0, a, ha => by
    have : ∀ b, a ≤ b → usedTo f a ≤ usedTo f b := by
      intro b
      induction b with
      | zero => intro h; rw [show a = 0 by omega]; exact Int.le_refl _
      | succ b ih =>
        intro h
        by_cases e : a = b + 1
        · rw [e]; exact Int.le_refl _
        · have := ih (by omega)
          show _ ≤ usedTo f b + (if 0 < f b then 1 else 0)
          split <;> omega
    have := this N ha
    show ((0 : Nat) : Int) ≤ _
    omega
  | g + 1, a, ha => by
    have mono : ∀ b, a ≤ b → usedTo f a ≤ usedTo f b := by
      intro b
      induction b with
      | zero => intro h; rw [show a = 0 by omega]; exact Int.le_refl _
      | succ b ih =>
        intro h
        by_cases e : a = b + 1
        · rw [e]; exact Int.le_refl _
        · have := ih (by omega)
          show _ ≤ usedTo f b + (if 0 < f b then 1 else 0)
          split <;> omega
    unfold tellGo
    by_cases hl : a < N
    · rw [if_pos hl, List.length_append]
      obtain ⟨s1, s2, s3⟩ := same_spec (f := f) hl
      by_cases hz : f a = 0
      · have hzf : zfl f N a = if 3 ≤ sameN f N a then 10 else 4 * sameN f N a := if_pos ⟨hl, hz⟩
        by_cases h11 : 11 ≤ sameN f N a
        · have e : tellOne f N a = repL 15 (sameN f N a) 11 6 := if_pos ⟨hz, h11⟩
          rw [e, repL_length]
          rw [if_pos (by omega)] at hzf
          by_cases h74 : sameN f N a ≤ 74
          · have em : (repL 15 (sameN f N a) 11 6).2 = sameN f N a := by
              show 11 + moreN (sameN f N a) 11 6 = _
              unfold moreN
              rw [if_neg (by omega)]
              omega
            rw [em]
            have ih := tellGo_few (N := N) hf g (a + sameN f N a) (by omega)
            rw [zfl_end hl hz, used_zero (f := f) (a := a) (sameN f N a) (fun j h1 h2 => by rw [s3 j h1 h2, hz])] at ih
            have : (N - (a + sameN f N a)) / 74 ≤ (N - a) / 74 := Nat.div_le_div_right (by omega)
            omega
          · have em : (repL 15 (sameN f N a) 11 6).2 = 74 := by
              show 11 + moreN (sameN f N a) 11 6 = _
              unfold moreN
              rw [if_pos (by omega)]
            rw [em]
            have ih := tellGo_few (N := N) hf g (a + 74) (by omega)
            rw [used_zero (f := f) (a := a) 74 (fun j h1 h2 => by rw [s3 j h1 (by omega), hz])] at ih
            have := zfl_le f N (a + 74)
            have : (N - a) / 74 = (N - (a + 74)) / 74 + 1 := by omega
            omega
        by_cases h3 : 3 ≤ sameN f N a
        · have e : tellOne f N a = repL 14 (sameN f N a) 3 3 := by
            unfold tellOne
            rw [if_neg (fun q => h11 q.2), if_pos ⟨hz, h3⟩]
          rw [e, repL_length]
          rw [if_pos h3] at hzf
          have em : (repL 14 (sameN f N a) 3 3).2 = sameN f N a := by
            show 3 + moreN (sameN f N a) 3 3 = _
            unfold moreN
            rw [if_neg (by omega)]
            omega
          rw [em]
          have ih := tellGo_few (N := N) hf g (a + sameN f N a) (by omega)
          rw [zfl_end hl hz, used_zero (f := f) (a := a) (sameN f N a) (fun j h1 h2 => by rw [s3 j h1 h2, hz])] at ih
          have : (N - (a + sameN f N a)) / 74 ≤ (N - a) / 74 := Nat.div_le_div_right (by omega)
          omega
        · have e : tellOne f N a = (numBits (f a) 4, 1) := by
            unfold tellOne
            rw [if_neg (fun q => h11 q.2), if_neg (fun q => h3 q.2), if_neg (fun q => h3 q.2.2)]
          rw [e]
          show (((numBits (f a) 4).length + (tellGo f N g (a + 1)).length : Nat) : Int) ≤ _
          rw [numBits_length]
          rw [if_neg h3] at hzf
          have ih := tellGo_few (N := N) hf g (a + 1) (by omega)
          rw [used_zero (f := f) (a := a) 1 (fun j h1 h2 => by rw [show j = a by omega, hz])] at ih
          have : (N - (a + 1)) / 74 ≤ (N - a) / 74 := Nat.div_le_div_right (by omega)
          by_cases h2 : sameN f N a = 1
          · have hze := zfl_end hl hz
            rw [h2] at hze
            omega
          · have h2' : sameN f N a = 2 := by omega
            have hz1 : zfl f N (a + 1) ≤ 4 := by
              have hsz := s3 (a + 1) (by omega) (by omega)
              obtain ⟨t1, t2, t3⟩ := same_spec (f := f) (show a + 1 < N by omega)
              have hone : sameN f N (a + 1) = 1 := by
                by_cases hq : sameN f N (a + 1) = 1
                · exact hq
                · exfalso
                  have h5 := t3 (a + 2) (by omega) (by omega)
                  have h6 := same_end (f := f) hl (by omega)
                  rw [h2'] at h6
                  exact h6 (by rw [h5, hsz])
              unfold zfl
              rw [hone]
              split
              · rw [if_neg (by omega)]
                omega
              · omega
            omega
      · have hp : 0 < f a := by have := hf a; omega
        have hz0 := zfl_le f N (a + (tellOne f N a).2)
        by_cases h3 : 0 < a ∧ f a = f (a - 1) ∧ 3 ≤ sameN f N a
        · have e : tellOne f N a = repL 13 (sameN f N a) 3 2 := by
            unfold tellOne
            rw [if_neg (fun q => hz q.1), if_neg (fun q => hz q.1), if_pos h3]
          have hml := moreN_le (same := sameN f N a) (least := 3) (width := 2)
          rw [e] at hz0 ⊢
          rw [repL_length]
          have em : (repL 13 (sameN f N a) 3 2).2 = 3 + moreN (sameN f N a) 3 2 := rfl
          rw [em] at hz0 ⊢
          have ih := tellGo_few (N := N) hf g (a + (3 + moreN (sameN f N a) 3 2)) (by omega)
          rw [used_all (f := f) (a := a) (3 + moreN (sameN f N a) 3 2) (fun j h1 h2 => by rw [s3 j h1 (by omega)]; exact hp)] at ih
          have : (N - (a + (3 + moreN (sameN f N a) 3 2))) / 74 ≤ (N - a) / 74 := Nat.div_le_div_right (by omega)
          omega
        · have e : tellOne f N a = (numBits (f a) 4, 1) := by
            unfold tellOne
            rw [if_neg (fun q => hz q.1), if_neg (fun q => hz q.1), if_neg h3]
          rw [e] at hz0 ⊢
          show (((numBits (f a) 4).length + (tellGo f N g (a + 1)).length : Nat) : Int) ≤ _
          rw [numBits_length]
          have ih := tellGo_few (N := N) hf g (a + 1) (by omega)
          rw [used_all (f := f) (a := a) 1 (fun j h1 h2 => by rw [show j = a by omega]; exact hp)] at ih
          have : (N - (a + 1)) / 74 ≤ (N - a) / 74 := Nat.div_le_div_right (by omega)
          have hz0' : zfl f N (a + 1) ≤ 10 := hz0
          omega
    · rw [if_neg hl]
      have := mono N ha
      show ((0 : Nat) : Int) ≤ _
      omega
theorem tellGo_four {f : Nat → Int} {N : Nat} : ∀ (g a : Nat), (tellGo f N g a).length ≤ 4 * (N - a)
  | 0, _ => Nat.zero_le _
  | g + 1, a => by
    unfold tellGo
    by_cases hl : a < N
    · rw [if_pos hl, List.length_append]
      have ih := tellGo_four (f := f) (N := N) g (a + (tellOne f N a).2)
      obtain ⟨s1, s2, _⟩ := tellOne_spec (f := f) hl
      have hb : (tellOne f N a).1.length ≤ 4 * (tellOne f N a).2 := by
        unfold tellOne
        split
        · rw [repL_length]; show 10 ≤ 4 * (11 + _); omega
        split
        · rw [repL_length]; show 7 ≤ 4 * (3 + _); omega
        split
        · rw [repL_length]; show 6 ≤ 4 * (3 + _); omega
        show (numBits (f a) 4).length ≤ 4 * 1
        rw [numBits_length]
        omega
      omega
    · rw [if_neg hl]
      exact Nat.zero_le _
theorem names_length (nm : Nat → Int) (sz : Nat) : ∀ k, (namesL nm sz k).length = k * sz
  | 0 => by rw [Nat.zero_mul]; rfl
  | k + 1 => by
    show (namesL nm sz k ++ numBits (nm k) sz).length = _
    rw [List.length_append, numBits_length, names_length nm sz k, Nat.succ_mul]
theorem tell_simp (c : Nat → Int) (N sz : Nat) : (tellL (simpSnd c N) N sz).length = 3 + smN c N * sz := by
  have h1 : 0 < smN c N := by unfold smN; split <;> omega
  unfold tellL
  rw [if_pos (show 0 < (simpSnd c N).n from h1)]
  simp only [List.length_append, numBits_length, names_length]
  show 1 + (2 + smN c N * sz) = _
  omega
theorem smN_le (c : Nat → Int) (N : Nat) : smN c N ≤ 4 := by
  have := (smGo_le c N).1
  unfold smN
  split <;> omega
theorem used_lens {c f : Nat → Int} {N : Nat} (h : Fits c f N) : ∀ n, n ≤ N → usedTo f n = usedTo c n
  | 0, _ => rfl
  | n + 1, hn => by
    show usedTo f n + (if 0 < f n then 1 else 0) = usedTo c n + (if 0 < c n then 1 else 0)
    rw [used_lens h n (by omega)]
    by_cases hc : 0 < c n
    · have := h.used n (by omega) hc
      rw [if_pos hc, if_pos (by omega)]
    · rw [if_neg hc, h.none n (fun _ => hc), if_neg (by omega)]
theorem tell_full_few {c : Nat → Int} {N sz : Nat} (h : ∀ i, 0 ≤ c i) (ht : sumTo c N ≤ 4096) (hu : 2 ≤ usedTo c N) : ((tellL (fullSnd c N) N sz).length : Int) ≤ 11 + 14 * usedTo c N + 10 * ((N / 74 : Nat) : Int) := by
  have hF := (lensFor_full h ht hu).1
  have h0 : ∀ i, 0 ≤ lensFor c N i := by
    intro i
    by_cases hc : i < N ∧ 0 < c i
    · have := hF.used i hc.1 hc.2
      omega
    · rw [hF.none i (fun hi hci => hc ⟨hi, hci⟩)]
      omega
  have := tellGo_few (N := N) h0 (N + 1) 0 (Nat.zero_le _)
  rw [used_lens hF N (Nat.le_refl _)] at this
  have hz := zfl_le (lensFor c N) N 0
  unfold tellL
  rw [if_neg (show ¬ 0 < (fullSnd c N).n by show ¬ 0 < 0; omega), List.length_append, numBits_length]
  show ((1 + (tellGo (lensFor c N) N (N + 1) 0).length : Nat) : Int) ≤ _
  have e0 : usedTo (lensFor c N) 0 = 0 := rfl
  rw [Nat.sub_zero] at this
  omega
theorem tell_full_four (c : Nat → Int) (N sz : Nat) : (tellL (fullSnd c N) N sz).length ≤ 1 + 4 * N := by
  have := tellGo_four (f := lensFor c N) (N := N) (N + 1) 0
  unfold tellL
  rw [if_neg (show ¬ 0 < (fullSnd c N).n by show ¬ 0 < 0; omega), List.length_append, numBits_length]
  show 1 + (tellGo (lensFor c N) N (N + 1) 0).length ≤ _
  omega
theorem tell_letters {c : Nat → Int} (h : ∀ i, 0 ≤ c i) (ht : sumTo c 272 ≤ 4096) : ((tellL (sndOf c 272 9) 272 9).length : Int) ≤ 41 + 14 * usedTo c 272 := by
  have hs : ((tellL (simpSnd c 272) 272 9).length : Int) ≤ 41 + 14 * usedTo c 272 := by
    have := smN_le c 272
    have := usedTo_nonneg c 272
    rw [tell_simp]
    omega
  have hf := fun hu => tell_full_few (sz := 9) h ht hu
  unfold sndOf
  split
  · exact hs
  split
  · have := hf (by omega)
    omega
  split
  · exact hs
  · have := hf (by omega)
    omega
theorem tell_far (c : Nat → Int) : (tellL (sndOf c 16 4) 16 4).length ≤ 65 := by
  have hs : (tellL (simpSnd c 16) 16 4).length ≤ 65 := by
    have := smN_le c 16
    rw [tell_simp]
    omega
  have hf := tell_full_four c 16 4
  unfold sndOf
  split
  · exact hs
  split
  · exact hf
  split
  · exact hs
  · exact hf

/- a body -/
theorem cmd_bs (A B : Snd) (fA : ∀ i, 0 ≤ A.len i ∧ A.len i ≤ 12) (fB : ∀ i, 0 ≤ B.len i ∧ B.len i ≤ 12) (c : Cm) (hc : CmOk c) : (cmdL A B c).length ≤ bs c := by
  have a := fA c.letter.toNat
  have b := fB c.far.toNat
  unfold cmdL putL bs
  by_cases h : 256 ≤ c.letter
  · rw [if_pos h, if_pos h]
    have hl : ∀ k : Nat, k ≤ 15 → lenMore k ≤ 8 := by decide
    have hd : ∀ k : Nat, k ≤ 15 → distMore k ≤ 11 := by decide
    obtain ⟨_, _, d3, d4, _⟩ := hc.copy h
    have hl1 := hc.l1
    have e1 := hl (c.letter - 256).toNat (by omega)
    have e2 := hd c.far.toNat (by omega)
    rw [show (((c.letter - 256).toNat : Nat) : Int) = c.letter - 256 by omega] at e1
    rw [show ((c.far.toNat : Nat) : Int) = c.far by omega] at e2
    split
    · simp only [List.length_append, numBits_length]
      omega
    · simp only [List.length_append, numBits_length, List.length_nil]
      omega
  · rw [if_neg h, if_neg h]
    simp only [List.length_append, numBits_length, List.length_nil]
    omega
theorem cmds_bss (A B : Snd) (fA : ∀ i, 0 ≤ A.len i ∧ A.len i ≤ 12) (fB : ∀ i, 0 ≤ B.len i ∧ B.len i ≤ 12) : ∀ l : List Cm, (∀ c ∈ l, CmOk c) → (cmdsL A B l).length ≤ bss l
  | [], _ => Nat.le_refl _
  | c :: l, h => by
    have h1 := cmd_bs A B fA fB c (h c (List.mem_cons_self ..))
    have h2 := cmds_bss A B fA fB l (fun d hd => h d (List.mem_cons_of_mem _ hd))
    show ((c :: l).flatMap (cmdL A B)).length ≤ bs c + bss l
    rw [List.flatMap_cons, List.length_append]
    have h2' : (l.flatMap (cmdL A B)).length ≤ bss l := h2
    omega
theorem body_wts {l : List Cm} (hl : l.length ≤ 4096) (hc : ∀ c ∈ l, CmOk c) (fA : ∀ i, 0 ≤ (sndL l).len i ∧ (sndL l).len i ≤ 12) (fB : ∀ i, 0 ≤ (sndF l).len i ∧ (sndF l).len i ≤ 12) : (bodyL l).length ≤ 120 + wts l := by
  have h1 := tell_letters (c := cntL l) (fun i => (cnt_le l i).1) (by have := cntL_sum 272 l; omega)
  have h2 := tell_far (cntF l)
  have h3 := cmds_bss (sndL l) (sndF l) fA fB l hc
  have h4 := used_one l 271 272
  have h5 := wts_split l
  have h6 : (notTop l).length = (l.filter fun c => decide (c.letter ≠ ((271 : Nat) : Int))).length := rfl
  unfold bodyL
  rw [List.length_append, List.length_append]
  have h1' : ((tellL (sndL l) 272 9).length : Int) ≤ 41 + 14 * usedTo (cntL l) 272 := h1
  have h2' : (tellL (sndF l) 16 4).length ≤ 65 := h2
  omega
/-- what comes again behind at most 16 bytes -/
theorem body_again {P : List UInt8} {win : Int} {q : Nat} (far : Nat → Int) (hP : P.length ≤ 4096) (hp : Per P q) (h1 : 1 ≤ q) (h16 : q ≤ 16) (hw : 16 ≤ win)
    (fA : ∀ i, 0 ≤ (sndL (copiesC P win far).1).len i ∧ (sndL (copiesC P win far).1).len i ≤ 12) (fB : ∀ i, 0 ≤ (sndF (copiesC P win far).1).len i ∧ (sndF (copiesC P win far).1).len i ≤ 12) : (bodyL (copiesC P win far).1).length ≤ 951 := by
  obtain ⟨c1, c2⟩ := copiesC_ok (P := P) (win := win) far hP
  have := body_wts c2 c1 fA fB
  have := copies_wts far hP hp h1 h16 hw
  omega
/-- one byte, over and over -/
theorem body_one {P : List UInt8} (hp : Per P 1) : (bodyL (lettersC P)).length ≤ 19 := by
  have hall : ∀ i, i < P.length → pB P i = pB P 0 := by
    intro i
    induction i with
    | zero => intro _; rfl
    | succ i ih => intro h; rw [hp i h]; exact ih (by omega)
  have b0 := pB_bounds P 0
  have hlet : ∀ c ∈ lettersC P, c.letter = pB P 0 := by
    intro c hc
    unfold lettersC at hc
    obtain ⟨b, hb, rfl⟩ := List.mem_map.1 hc
    obtain ⟨i, hi, he⟩ := List.mem_iff_getElem.1 hb
    have := hall i hi
    unfold pB at this
    rw [List.getD_eq_getElem?_getD, List.getElem?_eq_getElem hi] at this
    show ((b.toNat : Nat) : Int) = pB P 0
    rw [← he]
    exact this
  have hu : usedTo (cntL (lettersC P)) 272 ≤ 1 := by
    have := used_one (lettersC P) (pB P 0).toNat 272
    have e : ((lettersC P).filter fun c => decide (c.letter ≠ (((pB P 0).toNat : Nat) : Int))) = [] := by
      rw [List.filter_eq_nil_iff]
      intro c hc
      have := hlet c hc
      have e2 : c.letter = (((pB P 0).toNat : Nat) : Int) := by omega
      simp [e2]
    rw [e] at this
    simpa using this
  have hcF : cntF (lettersC P) = fun _ => 0 := by
    funext j
    unfold cntF
    have e : ((lettersC P).filter fun c => decide (256 ≤ c.letter ∧ c.far = (j : Int))) = [] := by
      rw [List.filter_eq_nil_iff]
      intro c hc
      have := hlet c hc
      simp
      intro h
      omega
    rw [e]
    rfl
  have huF : usedTo (cntF (lettersC P)) 16 = 0 := by
    rw [hcF]
    rfl
  have eA : sndL (lettersC P) = simpSnd (cntL (lettersC P)) 272 := by
    unfold sndL sndOf
    rw [if_pos (by omega)]
  have eB : sndF (lettersC P) = simpSnd (cntF (lettersC P)) 16 := by
    unfold sndF sndOf
    rw [if_pos (by omega)]
  have nA : smN (cntL (lettersC P)) 272 = 1 := by
    have := (smGo_all (cntL (lettersC P)) 272 (by omega)).1
    unfold smN
    split
    · rfl
    · omega
  have nB : smN (cntF (lettersC P)) 16 = 1 := by
    have := (smGo_all (cntF (lettersC P)) 16 (by omega)).1
    unfold smN
    rw [if_pos (by omega)]
  have lA : (sndL (lettersC P)).len = fun _ => 0 := by
    rw [eA]
    show slenGo (smN (cntL (lettersC P)) 272) _ (smN (cntL (lettersC P)) 272) = _
    rw [nA]
    exact slen_one _ _
  have hcm : ∀ l : List Cm, (∀ c ∈ l, c.letter = pB P 0) → (cmdsL (sndL (lettersC P)) (sndF (lettersC P)) l).length = 0 := by
    intro l
    induction l with
    | nil => intro _; rfl
    | cons c l ih =>
      intro h
      have h1 := h c (List.mem_cons_self ..)
      have h2 := ih (fun d hd => h d (List.mem_cons_of_mem _ hd))
      show ((c :: l).flatMap _).length = 0
      rw [List.flatMap_cons, List.length_append]
      have h2' : (l.flatMap (cmdL (sndL (lettersC P)) (sndF (lettersC P)))).length = 0 := h2
      have h3 : (cmdL (sndL (lettersC P)) (sndF (lettersC P)) c).length = 0 := by
        unfold cmdL putL
        rw [if_neg (by omega), lA, List.append_nil, numBits_length]
        rfl
      omega
  have h3 := hcm (lettersC P) hlet
  unfold bodyL
  rw [List.length_append, List.length_append, h3, eA, eB, tell_simp, tell_simp, nA, nB]
  omega
end Wr
