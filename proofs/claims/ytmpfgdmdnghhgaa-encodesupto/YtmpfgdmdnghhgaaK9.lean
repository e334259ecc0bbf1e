import Derived.Test.YtmpfgdmdnghhgaaC1
import Derived.Test.YtmpfgdmdnghhgaaRefP5
/- A CODE THAT IS SENT, PLAINLY: its names or lengths, its bits, what it costs. No Go. -/
namespace Wr

/-- the names of a simple code: how many, and which -/
def smGo (c : Nat → Int) : Nat → Nat × (Nat → Int)
  | 0 => (0, fun _ => 0)
  | i + 1 => if 0 < c i ∧ (smGo c i).1 < 4 then ((smGo c i).1 + 1, upd (smGo c i).2 (smGo c i).1 i) else smGo c i
def smN (c : Nat → Int) (N : Nat) : Nat := if (smGo c N).1 = 0 then 1 else (smGo c N).1
def sLen (n p : Nat) : Int := if n = 1 then 0 else simpLen n p
def slenGo (n : Nat) (nm : Nat → Int) : Nat → (Nat → Int)
  | 0 => fun _ => 0
  | k + 1 => upd (slenGo n nm k) (nm k).toNat (sLen n k)
structure Snd where
  n : Nat
  nm : Nat → Int
  len : Nat → Int
def simpSnd (c : Nat → Int) (N : Nat) : Snd := ⟨smN c N, (smGo c N).2, slenGo (smN c N) (smGo c N).2 (smN c N)⟩
def fullSnd (c : Nat → Int) (N : Nat) : Snd := ⟨0, fun _ => 0, lensFor c N⟩
/-- a symbol's number among the codes, and its bits, the first one lowest -/
def codeOf (f : Nat → Int) (N i : Nat) : Int := firstOf (countGo f N).1 (f i).toNat + occ f (f i) i
def rowOf (f : Nat → Int) (N i : Nat) : Int := if 1 ≤ f i ∧ f i ≤ 12 ∧ i < N then msb (codeOf f N i) (f i).toNat else 0
def putL (s : Snd) (N : Nat) (i : Nat) : List Int := numBits (rowOf s.len N i) (s.len i).toNat

/-- where a run of one length ends -/
def endGo (f : Nat → Int) (v : Int) (N : Nat) : Nat → Nat → Nat
  | 0, e => e
  | g + 1, e => if e < N ∧ f e = v then endGo f v N g (e + 1) else e
def sameN (f : Nat → Int) (N a : Nat) : Nat := endGo f (f a) N (N - a) a - a
def moreN (same least width : Nat) : Nat := if 2 ^ width ≤ same - least then 2 ^ width - 1 else same - least
def repL (kind : Int) (same least width : Nat) : List Int × Nat := (numBits kind 4 ++ numBits (moreN same least width : Nat) width, least + moreN same least width)
def tellOne (f : Nat → Int) (N a : Nat) : List Int × Nat :=
  if f a = 0 ∧ 11 ≤ sameN f N a then repL 15 (sameN f N a) 11 6
  else if f a = 0 ∧ 3 ≤ sameN f N a then repL 14 (sameN f N a) 3 3
  else if 0 < a ∧ f a = f (a - 1) ∧ 3 ≤ sameN f N a then repL 13 (sameN f N a) 3 2
  else (numBits (f a) 4, 1)
def tellGo (f : Nat → Int) (N : Nat) : Nat → Nat → List Int
  | 0, _ => []
  | g + 1, a => if a < N then (tellOne f N a).1 ++ tellGo f N g (a + (tellOne f N a).2) else []
def namesL (nm : Nat → Int) (sz : Nat) : Nat → List Int
  | 0 => []
  | k + 1 => namesL nm sz k ++ numBits (nm k) sz
def tellL (s : Snd) (N sz : Nat) : List Int :=
  if 0 < s.n then numBits 0 1 ++ (numBits ((s.n : Int) - 1) 2 ++ namesL s.nm sz s.n) else numBits 1 1 ++ tellGo s.len N (N + 1) 0
def dotTo (c f : Nat → Int) : Nat → Int
  | 0 => 0
  | n + 1 => dotTo c f n + c n * f n
def costOf (s : Snd) (c : Nat → Int) (N sz : Nat) : Int := ((tellL s N sz).length : Int) + dotTo c s.len N
/-- the cheaper one of the two forms -/
def sndOf (c : Nat → Int) (N sz : Nat) : Snd :=
  if usedTo c N ≤ 2 then simpSnd c N
  else if 4 < usedTo c N then fullSnd c N
  else if costOf (simpSnd c N) c N sz ≤ costOf (fullSnd c N) c N sz then simpSnd c N else fullSnd c N

/- runs -/
theorem endGo_spec {f : Nat → Int} {v : Int} {N : Nat} : ∀ (g e : Nat), e + g = N → e ≤ endGo f v N g e ∧ endGo f v N g e ≤ N ∧ (∀ j, e ≤ j → j < endGo f v N g e → f j = v) ∧ (endGo f v N g e < N → f (endGo f v N g e) ≠ v)
  | 0, e, h => ⟨Nat.le_refl _, by show e ≤ N; omega, fun j h1 h2 => absurd (show j < e from h2) (by omega), fun h2 => absurd (show e < N from h2) (by omega)⟩
  | g + 1, e, h => by
    unfold endGo
    split
    · rename_i hc
      obtain ⟨h1, h2, h3, h4⟩ := endGo_spec (f := f) (v := v) (N := N) g (e + 1) (by omega)
      refine ⟨by omega, h2, fun j j1 j2 => ?_, h4⟩
      by_cases ej : j = e
      · rw [ej]; exact hc.2
      · exact h3 j (by omega) j2
    · rename_i hc
      refine ⟨Nat.le_refl _, by omega, fun j h1 h2 => absurd h2 (by omega), fun h2 h3 => hc ⟨h2, h3⟩⟩
theorem same_spec {f : Nat → Int} {N a : Nat} (ha : a < N) : 1 ≤ sameN f N a ∧ a + sameN f N a ≤ N ∧ ∀ j, a ≤ j → j < a + sameN f N a → f j = f a := by
  obtain ⟨h1, h2, h3, h4⟩ := endGo_spec (f := f) (v := f a) (N := N) (N - a) a (by omega)
  unfold sameN
  refine ⟨?_, by omega, fun j j1 j2 => h3 j j1 (by omega)⟩
  by_cases e : endGo f (f a) N (N - a) a = a
  · have := h4 (by omega)
    rw [e] at this
    exact absurd rfl this
  · omega
theorem moreN_le {same least width : Nat} : moreN same least width ≤ same - least ∧ moreN same least width < 2 ^ width := by
  have : 0 < 2 ^ width := Nat.two_pow_pos width
  unfold moreN
  split <;> omega
theorem tellOne_spec {f : Nat → Int} {N a : Nat} (ha : a < N) : 1 ≤ (tellOne f N a).2 ∧ a + (tellOne f N a).2 ≤ N ∧ ∀ j, a ≤ j → j < a + (tellOne f N a).2 → f j = f a := by
  obtain ⟨h1, h2, h3⟩ := same_spec (f := f) ha
  have rep : ∀ (kind : Int) (least width : Nat), 1 ≤ least → least ≤ sameN f N a → 1 ≤ (repL kind (sameN f N a) least width).2 ∧ a + (repL kind (sameN f N a) least width).2 ≤ N ∧ ∀ j, a ≤ j → j < a + (repL kind (sameN f N a) least width).2 → f j = f a := by
    intro kind least width l1 l2
    have := moreN_le (same := sameN f N a) (least := least) (width := width)
    show 1 ≤ least + moreN _ _ _ ∧ a + (least + moreN _ _ _) ≤ N ∧ ∀ j, a ≤ j → j < a + (least + moreN _ _ _) → f j = f a
    exact ⟨by omega, by omega, fun j j1 j2 => h3 j j1 (by omega)⟩
  unfold tellOne
  split
  · rename_i h; exact rep _ _ _ (by omega) h.2
  split
  · rename_i h; exact rep _ _ _ (by omega) h.2
  split
  · rename_i h; exact rep _ _ _ (by omega) h.2.2
  exact ⟨Nat.le_refl _, by show a + 1 ≤ N; omega, fun j j1 j2 => by rw [show j = a by have : j < a + 1 := j2; omega]⟩

/- names -/
theorem smGo_le (c : Nat → Int) : ∀ i, (smGo c i).1 ≤ 4 ∧ (smGo c i).1 ≤ i
  | 0 => ⟨Nat.zero_le _, Nat.le_refl _⟩
  | i + 1 => by
    have := smGo_le c i
    unfold smGo
    split
    · rename_i h; exact ⟨by omega, by show (smGo c i).1 + 1 ≤ _; omega⟩
    · omega
theorem smGo_ok (c : Nat → Int) (N : Nat) : ∀ i, i ≤ N → NamesOk N (smGo c i).2 (smGo c i).1 ∧ (∀ p, p < (smGo c i).1 → (smGo c i).2 p < i ∧ 0 < c ((smGo c i).2 p).toNat)
  | 0, _ => ⟨⟨fun p hp => absurd hp (by show ¬ p < 0; omega), fun p hp => absurd hp (by show ¬ p + 1 < 0; omega)⟩, fun p hp => absurd hp (by show ¬ p < 0; omega)⟩
  | i + 1, hi => by
    obtain ⟨ih1, ih2⟩ := smGo_ok c N i (by omega)
    unfold smGo
    split
    · rename_i h
      have e0 : upd (smGo c i).2 (smGo c i).1 i (smGo c i).1 = i := if_pos rfl
      have e1 : ∀ p, p ≠ (smGo c i).1 → upd (smGo c i).2 (smGo c i).1 i p = (smGo c i).2 p := fun p hp => if_neg hp
      refine ⟨⟨fun p hp => ?_, fun p hp => ?_⟩, fun p hp => ?_⟩
      · by_cases e : p = (smGo c i).1
        · subst e
          dsimp only
          rw [e0]
          omega
        · dsimp only
          rw [e1 p e]
          exact ih1.lt p (by have : p < (smGo c i).1 + 1 := hp; omega)
      · have hp' : p + 1 < (smGo c i).1 + 1 := hp
        by_cases e : p + 1 = (smGo c i).1
        · have := (ih2 p (by omega)).1
          dsimp only
          rw [e, e0, e1 p (by omega)]
          omega
        · dsimp only
          rw [e1 _ e, e1 p (by omega)]
          exact ih1.inc p (by omega)
      · have hp' : p < (smGo c i).1 + 1 := hp
        by_cases e : p = (smGo c i).1
        · subst e
          dsimp only
          rw [e0, Int.toNat_natCast]
          omega
        · dsimp only
          rw [e1 p e]
          have := ih2 p (by omega)
          omega
    · refine ⟨ih1, fun p hp => ?_⟩
      have := ih2 p hp
      omega
/-- all that come are named, where there are few -/
theorem smGo_all (c : Nat → Int) : ∀ i, usedTo c i ≤ 4 → ((smGo c i).1 : Int) = usedTo c i ∧ ∀ j, j < i → 0 < c j → ∃ p, p < (smGo c i).1 ∧ (smGo c i).2 p = j
  | 0, _ => ⟨rfl, fun j hj => absurd hj (by omega)⟩
  | i + 1, h => by
    have hu : usedTo c (i + 1) = usedTo c i + if 0 < c i then 1 else 0 := rfl
    have h' : usedTo c i ≤ 4 := by split at hu <;> omega
    obtain ⟨ih1, ih2⟩ := smGo_all c i h'
    unfold smGo
    by_cases hc : 0 < c i
    · rw [if_pos hc] at hu
      have h4 : (smGo c i).1 < 4 := by omega
      rw [if_pos ⟨hc, h4⟩]
      refine ⟨by show (((smGo c i).1 + 1 : Nat) : Int) = _; omega, fun j hj hcj => ?_⟩
      by_cases e : j = i
      · exact ⟨(smGo c i).1, by show _ < (smGo c i).1 + 1; omega, by show upd _ _ _ _ = _; rw [upd, if_pos rfl, e]⟩
      · obtain ⟨p, p1, p2⟩ := ih2 j (by omega) hcj
        exact ⟨p, by show p < (smGo c i).1 + 1; omega, by show upd _ _ _ _ = _; rw [upd, if_neg (by omega)]; exact p2⟩
    · rw [if_neg hc] at hu
      rw [if_neg (fun q => hc q.1)]
      refine ⟨by omega, fun j hj hcj => ?_⟩
      by_cases e : j = i
      · subst e; exact absurd hcj hc
      · exact ih2 j (by omega) hcj
theorem slen_lenF {n : Nat} (nm : Nat → Int) (h : n ≠ 1) : ∀ k, slenGo n nm k = lenF n nm k
  | 0 => rfl
  | k + 1 => by
    unfold slenGo lenF
    rw [slen_lenF nm h k]
    unfold sLen
    rw [if_neg h]
theorem slen_one (nm : Nat → Int) : ∀ k, slenGo 1 nm k = fun _ => 0
  | 0 => rfl
  | k + 1 => by
    unfold slenGo
    rw [slen_one nm k]
    funext j
    unfold upd sLen
    rw [if_pos rfl]
    split <;> rfl
end Wr

/- THE COMMANDS OF A BLOCK, PLAINLY: the search for copies, symbols of lengths and distances. No Go. -/
namespace Wr

/-- the byte at a place -/
def pB (P : List UInt8) (i : Nat) : Int := ((P.getD i 0).toNat : Int)
structure Cm where
  letter : Int
  length : Int
  far : Int
  dist : Int
def letC (x : Int) : Cm := ⟨x, 0, 0, 0⟩
def lettersC (P : List UInt8) : List Cm := P.map fun b => letC (b.toNat : Int)

/- symbols -/
def flGo (len : Int) : Nat → Nat → Nat
  | 0, k => k
  | g + 1, k => if len < lenLeast k + 2 ^ (lenMore k).toNat then k else flGo len g (k + 1)
def forLen (len : Int) : Nat := flGo len 15 0
def fdGo (d : Int) : Nat → Nat → Nat
  | 0, k => k
  | g + 1, k => if d < distLeast k + 2 ^ (distMore k).toNat then k else fdGo d g (k + 1)
def forDist (d : Int) : Nat := fdGo d 11 4
/-- the first of the last distances that is d -/
def nearGo (far : Nat → Int) (d : Int) : Nat → Nat → Option Nat
  | 0, _ => none
  | g + 1, i => if far i = d then some i else nearGo far d g (i + 1)
def nearOf (far : Nat → Int) (d : Int) : Option Nat := nearGo far d 4 0
def useR (far : Nat → Int) (i : Nat) : Nat → Int := if i = 0 then far else nearAdd far (far i)
def copyC (len d : Int) (far : Nat → Int) : Cm × (Nat → Int) :=
  match nearOf far d with
  | some i => (⟨256 + forLen len, len, i, d⟩, useR far i)
  | none => (⟨256 + forLen len, len, forDist d, d⟩, nearAdd far d)

/- the finder -/
structure Fnd where
  heads : Nat → Int
  before : Nat → Int
def slotOf (P : List UInt8) (a : Nat) : Nat := ((529 * pB P a + 23 * pB P (a + 1) + pB P (a + 2)) % 1024).toNat
def learnGo (P : List UInt8) : Nat → Nat → Fnd → Fnd
  | 0, _, f => f
  | n + 1, a, f => if a < 4096 ∧ a + 2 < P.length then learnGo P n (a + 1) ⟨upd f.heads (slotOf P a) ((a : Int) + 1), upd f.before a (f.heads (slotOf P a))⟩ else f
def sameGo (P : List UInt8) (p a : Nat) : Nat → Nat → Nat
  | 0, n => n
  | g + 1, n => if pB P (p + n) = pB P (a + n) then sameGo P p a g (n + 1) else n
def sameP (P : List UInt8) (p a most : Nat) : Nat := sameGo P p a most 0
def seekGo (P : List UInt8) (win : Int) (f : Fnd) (a most : Nat) : Nat → Int → Int → Int → Int × Int
  | 0, _, l, d => (l, d)
  | g + 1, p, l, d =>
    if 0 ≤ p ∧ (a : Int) - p ≤ win ∧ l < most then
      if l < (sameP P p.toNat a most : Nat) then seekGo P win f a most g (f.before p.toNat - 1) (sameP P p.toNat a most : Nat) ((a : Int) - p)
      else seekGo P win f a most g (f.before p.toNat - 1) l d
    else (l, d)
def mostOf (P : List UInt8) (a : Nat) : Nat := if 520 < P.length - a then 520 else P.length - a
def findC (P : List UInt8) (win : Int) (f : Fnd) (a : Nat) : Int × Int :=
  if a + 2 < P.length then
    if (seekGo P win f a (mostOf P a) 32 (f.heads (slotOf P a) - 1) 2 0).2 = 0 then (0, 0) else seekGo P win f a (mostOf P a) 32 (f.heads (slotOf P a) - 1) 2 0
  else (0, 0)
/-- the commands from place a on -/
def stepC (P : List UInt8) (win : Int) (f : Fnd) (far : Nat → Int) (a : Nat) : Cm × (Nat → Int) × Int :=
  if 0 < (findC P win f a).1 then ((copyC (findC P win f a).1 (findC P win f a).2 far).1, (copyC (findC P win f a).1 (findC P win f a).2 far).2, (findC P win f a).1)
  else (letC (pB P a), far, 1)
def copiesGo (P : List UInt8) (win : Int) : Nat → Nat → Fnd → (Nat → Int) → List Cm × (Nat → Int)
  | 0, _, _, far => ([], far)
  | g + 1, a, f, far =>
    if a < P.length then
      ((stepC P win f far a).1 :: (copiesGo P win g (a + (stepC P win f far a).2.2.toNat) (learnGo P (stepC P win f far a).2.2.toNat a f) (stepC P win f far a).2.1).1,
        (copiesGo P win g (a + (stepC P win f far a).2.2.toNat) (learnGo P (stepC P win f far a).2.2.toNat a f) (stepC P win f far a).2.1).2)
    else ([], far)
def fd0 : Fnd := ⟨fun _ => 0, fun _ => 0⟩
def copiesC (P : List UInt8) (win : Int) (far : Nat → Int) : List Cm × (Nat → Int) := copiesGo P win (P.length + 1) 0 fd0 far

theorem pB_bounds (P : List UInt8) (i : Nat) : 0 ≤ pB P i ∧ pB P i < 256 := by
  have := (P.getD i 0).toNat_lt
  unfold pB
  omega
theorem slotOf_lt (P : List UInt8) (a : Nat) : slotOf P a < 1024 := by
  unfold slotOf
  omega

/- what is found -/
theorem sameGo_spec {P : List UInt8} {p a : Nat} : ∀ (g n : Nat), n ≤ sameGo P p a g n ∧ sameGo P p a g n ≤ n + g ∧ ∀ i, n ≤ i → i < sameGo P p a g n → pB P (p + i) = pB P (a + i)
  | 0, n => ⟨Nat.le_refl _, Nat.le_refl _, fun i h1 h2 => absurd (show i < n from h2) (by omega)⟩
  | g + 1, n => by
    unfold sameGo
    split
    · rename_i h
      obtain ⟨h1, h2, h3⟩ := sameGo_spec (P := P) (p := p) (a := a) g (n + 1)
      refine ⟨by omega, by omega, fun i i1 i2 => ?_⟩
      by_cases e : i = n
      · rw [e]; exact h
      · exact h3 i (by omega) i2
    · exact ⟨Nat.le_refl _, by omega, fun i h1 h2 => absurd h2 (by omega)⟩
/-- places that were learnt lie before a -/
structure FdOk (f : Fnd) (a : Nat) : Prop where
  heads : ∀ s, 0 ≤ f.heads s ∧ f.heads s ≤ a
  before : ∀ p : Nat, 0 ≤ f.before p ∧ f.before p ≤ p
theorem fd0_ok : FdOk fd0 0 := ⟨fun _ => ⟨Int.le_refl _, Int.le_refl _⟩, fun p => ⟨Int.le_refl _, by show (0 : Int) ≤ p; omega⟩⟩
theorem FdOk.more {f : Fnd} {a b : Nat} (h : FdOk f a) (hab : a ≤ b) : FdOk f b := ⟨fun s => by have := h.heads s; omega, h.before⟩
theorem learn_ok {P : List UInt8} : ∀ (n a : Nat) (f : Fnd), FdOk f a → FdOk (learnGo P n a f) (a + n)
  | 0, _, _, h => h
  | n + 1, a, f, h => by
    unfold learnGo
    split
    · have := learn_ok (P := P) n (a + 1) ⟨upd f.heads (slotOf P a) ((a : Int) + 1), upd f.before a (f.heads (slotOf P a))⟩ ⟨fun s => ?_, fun p => ?_⟩
      · rw [show a + (n + 1) = a + 1 + n by omega]
        exact this
      · show 0 ≤ upd _ _ _ _ ∧ upd _ _ _ _ ≤ _
        unfold upd
        have := h.heads s
        split <;> omega
      · show 0 ≤ upd _ _ _ _ ∧ upd _ _ _ _ ≤ _
        unfold upd
        have h1 := h.before p
        have h2 := h.heads (slotOf P a)
        split
        · rename_i e
          subst e
          exact h2
        · exact h1
    · exact h.more (by omega)
/-- a copy -/
structure CopyOk (P : List UInt8) (win : Int) (a : Nat) (l d : Int) : Prop where
  l3 : 3 ≤ l
  l520 : l ≤ 520
  room : a + l ≤ P.length
  d1 : 1 ≤ d
  da : d ≤ a
  dw : d ≤ win
  same : ∀ i : Nat, (i : Int) < l → pB P (a - d.toNat + i) = pB P (a + i)
theorem seekGo_ok {P : List UInt8} {win : Int} {f : Fnd} {a : Nat} (hf : FdOk f a) (ha : a + 2 < P.length) : ∀ (g : Nat) (p l d : Int), p < a → 2 ≤ l → ((d = 0 ∧ l = 2) ∨ CopyOk P win a l d) →
    ((seekGo P win f a (mostOf P a) g p l d).2 = 0) ∨ CopyOk P win a (seekGo P win f a (mostOf P a) g p l d).1 (seekGo P win f a (mostOf P a) g p l d).2
  | 0, p, l, d, hp, hl, h => by
    rcases h with h | h
    · exact Or.inl h.1
    · exact Or.inr h
  | g + 1, p, l, d, hp, hl, h => by
    unfold seekGo
    split
    · rename_i hc
      obtain ⟨c1, c2, c3⟩ := hc
      obtain ⟨n, rfl⟩ := Int.eq_ofNat_of_zero_le c1
      rw [Int.toNat_natCast]
      have hb := hf.before n
      split
      · rename_i hs
        obtain ⟨s1, s2, s3⟩ := sameGo_spec (P := P) (p := n) (a := a) (mostOf P a) 0
        have hm : mostOf P a ≤ 520 ∧ a + mostOf P a ≤ P.length := by unfold mostOf; split <;> omega
        have hs' : l < (sameGo P n a (mostOf P a) 0 : Nat) := hs
        refine seekGo_ok hf ha g _ _ _ (by omega) (by show 2 ≤ ((sameGo P n a (mostOf P a) 0 : Nat) : Int); omega) (Or.inr ⟨?_, ?_, ?_, by omega, by omega, c2, fun i hi => ?_⟩)
        · show 3 ≤ ((sameGo P n a (mostOf P a) 0 : Nat) : Int); omega
        · show ((sameGo P n a (mostOf P a) 0 : Nat) : Int) ≤ 520; omega
        · show (a : Int) + ((sameGo P n a (mostOf P a) 0 : Nat) : Int) ≤ P.length; omega
        · have hi' : (i : Int) < ((sameGo P n a (mostOf P a) 0 : Nat) : Int) := hi
          rw [show a - ((a : Int) - (n : Int)).toNat = n by omega]
          exact s3 i (by omega) (by omega)
      · exact seekGo_ok hf ha g _ _ _ (by omega) hl h
    · rcases h with h | h
      · exact Or.inl h.1
      · exact Or.inr h
theorem findC_ok {P : List UInt8} {win : Int} {f : Fnd} {a : Nat} (hf : FdOk f a) : findC P win f a = (0, 0) ∨ CopyOk P win a (findC P win f a).1 (findC P win f a).2 := by
  unfold findC
  split
  · rename_i ha
    have hh := hf.heads (slotOf P a)
    have := seekGo_ok (win := win) hf ha 32 (f.heads (slotOf P a) - 1) 2 0 (by omega) (Int.le_refl _) (Or.inl ⟨rfl, rfl⟩)
    split
    · exact Or.inl rfl
    · rename_i h0
      rcases this with h | h
      · exact absurd h h0
      · exact Or.inr h
  · exact Or.inl rfl

/- symbols of lengths and distances -/
theorem forLen_ok {l : Int} (h3 : 3 ≤ l) (h520 : l ≤ 520) : forLen l ≤ 15 ∧ lenLeast (forLen l) ≤ l ∧ l < lenLeast (forLen l) + 2 ^ (lenMore (forLen l)).toNat := by
  have key : ∀ (g k : Nat), k + g = 15 → lenLeast k ≤ l → flGo l g k ≤ 15 ∧ lenLeast (flGo l g k) ≤ l ∧ l < lenLeast (flGo l g k) + 2 ^ (lenMore (flGo l g k)).toNat := by
    intro g
    induction g with
    | zero =>
      intro k hk hl
      have : k = 15 := by omega
      subst this
      refine ⟨Nat.le_refl _, hl, ?_⟩
      show l < lenLeast 15 + 2 ^ (lenMore 15).toNat
      have e : lenLeast 15 + 2 ^ (lenMore 15).toNat = 521 := by decide
      omega
    | succ g ih =>
      intro k hk hl
      unfold flGo
      split
      · rename_i hlt
        exact ⟨by omega, hl, hlt⟩
      · rename_i hge
        refine ih (k + 1) (by omega) ?_
        have e : lenLeast ((k + 1 : Nat) : Int) = lenLeast k + 2 ^ (lenMore k).toNat := by
          have hk14 : k ≤ 14 := by omega
          have : ∀ k : Nat, k ≤ 14 → lenLeast ((k + 1 : Nat) : Int) = lenLeast k + 2 ^ (lenMore k).toNat := by decide
          exact this k hk14
        omega
  exact key 15 0 rfl (by show lenLeast 0 ≤ l; have : lenLeast 0 = 3 := by decide
                         omega)
theorem forDist_ok {d : Int} (h1 : 1 ≤ d) (h4 : d ≤ 4095) : 4 ≤ forDist d ∧ forDist d ≤ 15 ∧ distLeast (forDist d) ≤ d ∧ d < distLeast (forDist d) + 2 ^ (distMore (forDist d)).toNat := by
  have key : ∀ (g k : Nat), k + g = 15 → 4 ≤ k → distLeast k ≤ d → 4 ≤ fdGo d g k ∧ fdGo d g k ≤ 15 ∧ distLeast (fdGo d g k) ≤ d ∧ d < distLeast (fdGo d g k) + 2 ^ (distMore (fdGo d g k)).toNat := by
    intro g
    induction g with
    | zero =>
      intro k hk hk4 hl
      have : k = 15 := by omega
      subst this
      refine ⟨hk4, Nat.le_refl _, hl, ?_⟩
      show d < distLeast 15 + 2 ^ (distMore 15).toNat
      have e : distLeast 15 + 2 ^ (distMore 15).toNat = 4096 := by decide
      omega
    | succ g ih =>
      intro k hk hk4 hl
      unfold fdGo
      split
      · rename_i hlt
        exact ⟨hk4, by omega, hl, hlt⟩
      · rename_i hge
        refine ih (k + 1) (by omega) (by omega) ?_
        have e : distLeast ((k + 1 : Nat) : Int) = distLeast k + 2 ^ (distMore k).toNat := by
          have hk14 : k ≤ 14 := by omega
          have : ∀ k : Nat, k ≤ 14 → 4 ≤ k → distLeast ((k + 1 : Nat) : Int) = distLeast k + 2 ^ (distMore k).toNat := by decide
          exact this k hk14 hk4
        omega
  exact key 11 4 rfl (Nat.le_refl _) (by show distLeast 4 ≤ d; have : distLeast 4 = 1 := by decide
                                         omega)
theorem nearOf_ok {far : Nat → Int} {d : Int} {i : Nat} (h : nearOf far d = some i) : i < 4 ∧ far i = d := by
  have key : ∀ (g k : Nat), k + g = 4 → nearGo far d g k = some i → i < 4 ∧ far i = d := by
    intro g
    induction g with
    | zero => intro k _ h; cases h
    | succ g ih =>
      intro k hk h
      unfold nearGo at h
      split at h
      · rename_i e
        injection h with h
        subst h
        exact ⟨by omega, e⟩
      · exact ih (k + 1) (by omega) h
  exact key 4 0 rfl h
end Wr

/- A CODED BLOCK's BODY, PLAINLY. No Go. -/
namespace Wr

def isC (c : Cm) : Bool := decide (256 ≤ c.letter)
def cntL (l : List Cm) (j : Nat) : Int := ((l.filter fun c => decide (c.letter = (j : Int))).length : Int)
def cntF (l : List Cm) (j : Nat) : Int := ((l.filter fun c => decide (256 ≤ c.letter ∧ c.far = (j : Int))).length : Int)
def cmdL (A B : Snd) (c : Cm) : List Int :=
  putL A 272 c.letter.toNat ++ (if 256 ≤ c.letter then numBits (c.length - lenLeast (c.letter - 256)) (lenMore (c.letter - 256)).toNat ++ (putL B 16 c.far.toNat ++ (if 4 ≤ c.far then numBits (c.dist - distLeast c.far) (distMore c.far).toNat else [])) else [])
def cmdsL (A B : Snd) (l : List Cm) : List Int := l.flatMap (cmdL A B)
def sndL (l : List Cm) : Snd := sndOf (cntL l) 272 9
def sndF (l : List Cm) : Snd := sndOf (cntF l) 16 4
def bodyL (l : List Cm) : List Int := tellL (sndL l) 272 9 ++ (tellL (sndF l) 16 4 ++ cmdsL (sndL l) (sndF l) l)

/-- a command that can be written -/
structure CmOk (c : Cm) : Prop where
  l0 : 0 ≤ c.letter
  l1 : c.letter < 272
  copy : 256 ≤ c.letter → lenLeast (c.letter - 256) ≤ c.length ∧ c.length < lenLeast (c.letter - 256) + 2 ^ (lenMore (c.letter - 256)).toNat ∧ 0 ≤ c.far ∧ c.far < 16 ∧ (4 ≤ c.far → distLeast c.far ≤ c.dist ∧ c.dist < distLeast c.far + 2 ^ (distMore c.far).toNat)

theorem cntL_more (l : List Cm) (c : Cm) (j : Nat) : cntL (l ++ [c]) j = cntL l j + if c.letter = (j : Int) then 1 else 0 := by
  unfold cntL
  rw [List.filter_append, List.length_append, Int.natCast_add]
  congr 1
  by_cases h : c.letter = (j : Int) <;> simp [h]
theorem cntF_more (l : List Cm) (c : Cm) (j : Nat) : cntF (l ++ [c]) j = cntF l j + if 256 ≤ c.letter ∧ c.far = (j : Int) then 1 else 0 := by
  unfold cntF
  rw [List.filter_append, List.length_append, Int.natCast_add]
  congr 1
  by_cases h : 256 ≤ c.letter ∧ c.far = (j : Int) <;> simp [h]
theorem cntL_upd {l : List Cm} {c : Cm} (h0 : 0 ≤ c.letter) : cntL (l ++ [c]) = upd (cntL l) c.letter.toNat (cntL l c.letter.toNat + 1) := by
  funext j
  rw [cntL_more]
  unfold upd
  by_cases e : j = c.letter.toNat
  · rw [if_pos e, if_pos (by omega), e]
  · rw [if_neg e, if_neg (by omega)]
    omega
theorem cntF_upd {l : List Cm} {c : Cm} (hc : 256 ≤ c.letter) (h0 : 0 ≤ c.far) : cntF (l ++ [c]) = upd (cntF l) c.far.toNat (cntF l c.far.toNat + 1) := by
  funext j
  rw [cntF_more]
  unfold upd
  by_cases e : j = c.far.toNat
  · rw [if_pos e, if_pos ⟨hc, by omega⟩, e]
  · rw [if_neg e, if_neg (fun q => e (by omega))]
    omega
theorem cntF_same {l : List Cm} {c : Cm} (hc : ¬ 256 ≤ c.letter) : cntF (l ++ [c]) = cntF l := by
  funext j
  rw [cntF_more, if_neg (fun q => hc q.1)]
  omega
theorem sum_one (f : Nat → Int) (P : Nat → Prop) [DecidablePred P] (hP : ∀ i j, P i → P j → i = j) : ∀ N, sumTo (fun j => f j + if P j then 1 else 0) N ≤ sumTo f N + 1 ∧ ((∀ j, j < N → ¬ P j) → sumTo (fun j => f j + if P j then 1 else 0) N = sumTo f N)
  | 0 => ⟨by show (0 : Int) ≤ 0 + 1; omega, fun _ => rfl⟩
  | N + 1 => by
    obtain ⟨h1, h2⟩ := sum_one f P hP N
    constructor
    · show sumTo (fun j => f j + if P j then 1 else 0) N + (f N + if P N then 1 else 0) ≤ sumTo f N + f N + 1
      by_cases hN : P N
      · rw [if_pos hN, h2 (fun j hj hj2 => by have := hP j N hj2 hN; omega)]
        omega
      · rw [if_neg hN]
        omega
    · intro h
      show sumTo (fun j => f j + if P j then 1 else 0) N + (f N + if P N then 1 else 0) = sumTo f N + f N
      rw [h2 (fun j hj => h j (by omega)), if_neg (h N (by omega))]
      omega
theorem sum_zero : ∀ N, sumTo (fun _ => 0) N = 0
  | 0 => rfl
  | N + 1 => by
    show sumTo (fun _ => 0) N + 0 = 0
    rw [sum_zero N]
    rfl
theorem snoc_ind {p : List Cm → Prop} (h0 : p []) (h1 : ∀ l c, p l → p (l ++ [c])) : ∀ l, p l := by
  intro l
  have : ∀ n, p (l.take n) := by
    intro n
    induction n with
    | zero => rw [List.take_zero]; exact h0
    | succ n ih =>
      rw [List.take_add_one]
      cases h : l[n]? with
      | none => show p (l.take n ++ []); rw [List.append_nil]; exact ih
      | some c => exact h1 _ c ih
  have h := this l.length
  rw [List.take_length] at h
  exact h
theorem cntL_sum (N : Nat) : ∀ l : List Cm, sumTo (cntL l) N ≤ l.length := by
  refine snoc_ind ?_ ?_
  · have : cntL [] = fun _ => 0 := rfl
    rw [this, sum_zero]
    exact Int.le_refl _
  · intro l c ih
    have e : cntL (l ++ [c]) = fun j => cntL l j + if c.letter = (j : Int) then 1 else 0 := by funext j; exact cntL_more l c j
    have := (sum_one (cntL l) (fun j => c.letter = (j : Int)) (fun i j hi hj => by omega) N).1
    rw [e, List.length_append, List.length_singleton]
    omega
theorem cntF_sum (N : Nat) : ∀ l : List Cm, sumTo (cntF l) N ≤ l.length := by
  refine snoc_ind ?_ ?_
  · have : cntF [] = fun _ => 0 := rfl
    rw [this, sum_zero]
    exact Int.le_refl _
  · intro l c ih
    have e : cntF (l ++ [c]) = fun j => cntF l j + if 256 ≤ c.letter ∧ c.far = (j : Int) then 1 else 0 := by funext j; exact cntF_more l c j
    have := (sum_one (cntF l) (fun j => 256 ≤ c.letter ∧ c.far = (j : Int)) (fun i j hi hj => by omega) N).1
    rw [e, List.length_append, List.length_singleton]
    omega
theorem cnt_le (l : List Cm) (j : Nat) : 0 ≤ cntL l j ∧ cntL l j ≤ l.length ∧ 0 ≤ cntF l j ∧ cntF l j ≤ l.length := by
  have h1 := List.length_filter_le (fun c : Cm => decide (c.letter = (j : Int))) l
  have h2 := List.length_filter_le (fun c : Cm => decide (256 ≤ c.letter ∧ c.far = (j : Int))) l
  unfold cntL cntF
  omega
theorem cntL_pos {l : List Cm} {c : Cm} (h : c ∈ l) (h0 : 0 ≤ c.letter) : 0 < cntL l c.letter.toNat := by
  unfold cntL
  have : c ∈ l.filter fun d => decide (d.letter = ((c.letter.toNat : Nat) : Int)) := List.mem_filter.2 ⟨h, by rw [decide_eq_true_eq]; omega⟩
  have := List.length_pos_of_mem this
  omega
theorem cntF_pos {l : List Cm} {c : Cm} (h : c ∈ l) (hc : 256 ≤ c.letter) (h0 : 0 ≤ c.far) : 0 < cntF l c.far.toNat := by
  unfold cntF
  have : c ∈ l.filter fun d => decide (256 ≤ d.letter ∧ d.far = ((c.far.toNat : Nat) : Int)) := List.mem_filter.2 ⟨h, by rw [decide_eq_true_eq]; exact ⟨hc, by omega⟩⟩
  have := List.length_pos_of_mem this
  omega

theorem let_ok (x : Int) (h0 : 0 ≤ x) (h1 : x < 256) : CmOk (letC x) := ⟨h0, by show x < 272; omega, fun h => absurd (show 256 ≤ x from h) (by omega)⟩
theorem lettersC_ok (P : List UInt8) : ∀ c ∈ lettersC P, CmOk c := by
  intro c hc
  unfold lettersC at hc
  obtain ⟨b, _, rfl⟩ := List.mem_map.1 hc
  have := b.toNat_lt
  exact let_ok _ (by omega) (by omega)
theorem copyC_ok {l d : Int} {far : Nat → Int} (h3 : 3 ≤ l) (h520 : l ≤ 520) (d1 : 1 ≤ d) (d4 : d ≤ 4095) : CmOk (copyC l d far).1 := by
  obtain ⟨f1, f2, f3⟩ := forLen_ok h3 h520
  have e : (256 : Int) + (forLen l : Nat) - 256 = (forLen l : Nat) := by omega
  unfold copyC
  cases hn : nearOf far d with
  | some i =>
    obtain ⟨i4, _⟩ := nearOf_ok hn
    refine ⟨by show 0 ≤ (256 : Int) + (forLen l : Nat); omega, by show (256 : Int) + (forLen l : Nat) < 272; omega, fun _ => ?_⟩
    show lenLeast ((256 : Int) + (forLen l : Nat) - 256) ≤ l ∧ l < lenLeast ((256 : Int) + (forLen l : Nat) - 256) + 2 ^ (lenMore ((256 : Int) + (forLen l : Nat) - 256)).toNat ∧ 0 ≤ (i : Int) ∧ (i : Int) < 16 ∧ (4 ≤ (i : Int) → _)
    rw [e]
    exact ⟨f2, f3, by omega, by omega, fun h => absurd h (by omega)⟩
  | none =>
    obtain ⟨g0, g1, g2, g3⟩ := forDist_ok d1 d4
    refine ⟨by show 0 ≤ (256 : Int) + (forLen l : Nat); omega, by show (256 : Int) + (forLen l : Nat) < 272; omega, fun _ => ?_⟩
    show lenLeast ((256 : Int) + (forLen l : Nat) - 256) ≤ l ∧ l < lenLeast ((256 : Int) + (forLen l : Nat) - 256) + 2 ^ (lenMore ((256 : Int) + (forLen l : Nat) - 256)).toNat ∧ 0 ≤ ((forDist d : Nat) : Int) ∧ ((forDist d : Nat) : Int) < 16 ∧ (4 ≤ ((forDist d : Nat) : Int) → _)
    rw [e]
    exact ⟨f2, f3, by omega, by omega, fun _ => ⟨g2, g3⟩⟩
theorem copiesGo_ok {P : List UInt8} {win : Int} (hP : P.length ≤ 4096) : ∀ (g a : Nat) (f : Fnd) (far : Nat → Int), FdOk f a → (∀ c ∈ (copiesGo P win g a f far).1, CmOk c) ∧ (copiesGo P win g a f far).1.length ≤ P.length - a
  | 0, _, _, _, _ => ⟨(fun c hc => by cases hc), Nat.zero_le _⟩
  | g + 1, a, f, far, hf => by
    unfold copiesGo
    by_cases ha : a < P.length
    · rw [if_pos ha]
      have key : CmOk (stepC P win f far a).1 ∧ 1 ≤ (stepC P win f far a).2.2 := by
        unfold stepC
        rcases findC_ok (P := P) (win := win) hf with hz | hok
        · rw [hz, if_neg (by show ¬ (0 : Int) < 0; omega)]
          have := pB_bounds P a
          exact ⟨let_ok _ this.1 this.2, Int.le_refl _⟩
        · have h3 := hok.l3
          rw [if_pos (by omega)]
          have hda := hok.da
          exact ⟨copyC_ok h3 hok.l520 hok.d1 (by omega), by show 1 ≤ (findC P win f a).1; omega⟩
      have ih := copiesGo_ok (win := win) hP g (a + (stepC P win f far a).2.2.toNat) (learnGo P (stepC P win f far a).2.2.toNat a f) (stepC P win f far a).2.1 (learn_ok _ _ _ hf)
      refine ⟨fun c hc => ?_, ?_⟩
      · rcases List.mem_cons.1 hc with rfl | hc
        · exact key.1
        · exact ih.1 c hc
      · show (_ :: _ : List Cm).length ≤ _
        rw [List.length_cons]
        have := ih.2
        have := key.2
        omega
    · rw [if_neg ha]
      exact ⟨(fun c hc => by cases hc), Nat.zero_le _⟩
theorem copiesC_ok {P : List UInt8} {win : Int} (far : Nat → Int) (hP : P.length ≤ 4096) : (∀ c ∈ (copiesC P win far).1, CmOk c) ∧ (copiesC P win far).1.length ≤ 4096 := by
  have := copiesGo_ok (win := win) hP (P.length + 1) 0 fd0 far fd0_ok
  exact ⟨this.1, by have := this.2; show (copiesGo P win (P.length + 1) 0 fd0 far).1.length ≤ 4096; omega⟩
end Wr
