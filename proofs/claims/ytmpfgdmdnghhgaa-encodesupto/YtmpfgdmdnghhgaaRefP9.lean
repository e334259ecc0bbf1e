import Derived.Test.YtmpfgdmdnghhgaaRefP5
import Derived.Test.YtmpfgdmdnghhgaaRing
/- THE DOCUMENT READS A CODE. No Go. -/
namespace Wr

theorem needS_zero {x : Sr} {ok : Bool} : (needS x ok).state = 0 ↔ x.state = 0 ∧ ok = true := by
  unfold needS
  by_cases h : x.state = 0
  · cases ok
    · rw [if_pos ⟨h, rfl⟩]
      simp
    · rw [if_neg (by simp)]
      simp [h]
  · rw [if_neg (fun q => h q.1)]
    simp [h]
theorem needS_true (x : Sr) : needS x true = x := by
  unfold needS
  rw [if_neg (by simp)]
theorem needS_stop {x : Sr} (h : x.state ≠ 0) (ok : Bool) : needS x ok = x := by
  unfold needS
  rw [if_neg (fun q => h q.1)]

/-- the name before, or -1 -/
def befN (nm : Nat → Int) (i : Nat) : Int := if i = 0 then -1 else nm (i - 1)
def nameGo (S : ByteArray) (N sz : Nat) : Nat → Nat → (Nat → Int) → Sr → (Nat → Int) × Sr
  | 0, _, nm, x => (nm, x)
  | k + 1, i, nm, x =>
    if (needS (numS S x sz) (decide (befN nm i < numV S x sz ∧ numV S x sz < N))).state ≠ 0 then
      (nm, needS (numS S x sz) (decide (befN nm i < numV S x sz ∧ numV S x sz < N)))
    else nameGo S N sz k (i + 1) (upd nm i (numV S x sz)) (needS (numS S x sz) (decide (befN nm i < numV S x sz ∧ numV S x sz < N)))
def simpR (S : ByteArray) (N sz : Nat) (x : Sr) : (Nat → Int) × Sr := nameGo S N sz (numV S x 2 + 1).toNat 0 (fun _ => 0) (numS S x 2)
def simpC (S : ByteArray) (N sz : Nat) (x : Sr) : (Nat → Int) × (Nat → Int) := (simpleCnt (numV S x 2 + 1), (simpR S N sz x).1)

theorem NamesOk.push {N : Nat} {nm : Nat → Int} {i : Nat} {v : Int} (h : NamesOk N nm i) (h1 : befN nm i < v) (h2 : v < N) : NamesOk N (upd nm i v) (i + 1) := by
  unfold befN at h1
  have e : ∀ p, p ≠ i → upd nm i v p = nm p := fun p hp => if_neg hp
  have e0 : upd nm i v i = v := if_pos rfl
  refine ⟨fun p hp => ?_, fun p hp => ?_⟩
  · by_cases hpi : p = i
    · subst hpi
      rw [e0]
      refine ⟨?_, h2⟩
      by_cases h0 : p = 0
      · rw [if_pos h0] at h1; omega
      · rw [if_neg h0] at h1
        have := h.lt (p - 1) (by omega)
        omega
    · rw [e p hpi]
      exact h.lt p (by omega)
  · by_cases hpi : p + 1 = i
    · subst hpi
      rw [e0, e p (by omega)]
      rw [if_neg (by omega)] at h1
      exact h1
    · rw [e p (by omega), e (p + 1) hpi]
      exact h.inc p (by omega)
theorem lenF_upd {n : Nat} {nm : Nat → Int} {i : Nat} (v : Int) : ∀ k, k ≤ i → lenF n (upd nm i v) k = lenF n nm k
  | 0, _ => rfl
  | k + 1, h => by
    have e : upd nm i v k = nm k := if_neg (by omega)
    show upd (lenF n (upd nm i v) k) (upd nm i v k).toNat _ = upd (lenF n nm k) (nm k).toNat _
    rw [lenF_upd v k (by omega), e]
theorem lenF_push (n : Nat) (nm : Nat → Int) (i : Nat) (v : Int) : lenF n (upd nm i v) (i + 1) = upd (lenF n nm i) v.toNat (simpLen n i) := by
  have e : upd nm i v i = v := if_pos rfl
  show upd (lenF n (upd nm i v) i) (upd nm i v i).toNat _ = _
  rw [lenF_upd v i (by omega), e]

theorem nameGo_ok {S : ByteArray} {N sz : Nat} : ∀ (k i : Nat) (nm : Nat → Int) (x : Sr), NamesOk N nm i → (nameGo S N sz k i nm x).2.state = 0 → NamesOk N (nameGo S N sz k i nm x).1 (i + k)
  | 0, _, _, _, h, _ => h
  | k + 1, i, nm, x, h, hs => by
    unfold nameGo at hs ⊢
    split
    · rename_i hne
      rw [if_pos hne] at hs
      exact absurd hs hne
    · rename_i hne
      rw [if_neg hne] at hs
      have hz := (needS_zero.1 (Decidable.not_not.1 hne)).2
      have hz := of_decide_eq_true hz
      have := nameGo_ok k (i + 1) _ _ (h.push hz.1 hz.2) hs
      rw [show i + (k + 1) = i + 1 + k by omega]
      exact this
theorem simpR_ok {S : ByteArray} {N sz : Nat} {x : Sr} (h : (simpR S N sz x).2.state = 0) : NamesOk N (simpR S N sz x).1 (numV S x 2 + 1).toNat := by
  have := nameGo_ok _ 0 _ _ ⟨fun p hp => absurd hp (by omega), fun p hp => absurd hp (by omega)⟩ h
  rw [Nat.zero_add] at this
  exact this
theorem simp_cod {S : ByteArray} {N sz : Nat} {x : Sr} (h : (simpR S N sz x).2.state = 0) : Cod (simpC S N sz x).1 (simpC S N sz x).2 N := by
  have b := numV_bounds S x 2
  have e : (2 : Int) ^ 2 = 4 := rfl
  have o := simpR_ok h
  exact simple_cod _ (by omega) (by omega) _ _ (fun p hp => o.lt p (by omega))

/- full codes -/
def fullOne (S : ByteArray) (f : Nat → Int) (n : Nat) (x : Sr) : Int × Int × Sr :=
  if numV S x 4 = 13 then (if 0 < n then f (n - 1) else 13, 3 + numV S (needS (numS S x 4) (decide (0 < n))) 2, numS S (needS (numS S x 4) (decide (0 < n))) 2)
  else if numV S x 4 = 14 then (0, 3 + numV S (numS S x 4) 3, numS S (numS S x 4) 3)
  else if numV S x 4 = 15 then (0, 11 + numV S (numS S x 4) 6, numS S (numS S x 4) 6)
  else (numV S x 4, 1, numS S x 4)
def fullGo (S : ByteArray) (N : Nat) : Nat → (Nat → Int) → Nat → Sr → (Nat → Int) × Nat × Sr
  | 0, f, n, x => (f, n, x)
  | k + 1, f, n, x =>
    if n < N ∧ x.state = 0 then
      if (needS (fullOne S f n x).2.2 (decide (n + (fullOne S f n x).2.1 ≤ N))).state = 0 then
        fullGo S N k (fillLen f n (fullOne S f n x).1 (fullOne S f n x).2.1.toNat) (n + (fullOne S f n x).2.1.toNat) (needS (fullOne S f n x).2.2 (decide (n + (fullOne S f n x).2.1 ≤ N)))
      else (f, n, needS (fullOne S f n x).2.2 (decide (n + (fullOne S f n x).2.1 ≤ N)))
    else (f, n, x)
def fullR (S : ByteArray) (N : Nat) (x : Sr) : (Nat → Int) × Nat × Sr := fullGo S N (N + 1) (fun _ => 0) 0 x
def fullS (S : ByteArray) (N : Nat) (x : Sr) : Sr := needS (fullR S N x).2.2 (decide ((countGo (fullR S N x).1 (fullR S N x).2.1).2 = 4096))
def fullC (S : ByteArray) (N : Nat) (x : Sr) : (Nat → Int) × (Nat → Int) :=
  ((countGo (fullR S N x).1 (fullR S N x).2.1).1, (orderGo (countGo (fullR S N x).1 (fullR S N x).2.1).1 (fun _ => 0) (fullR S N x).1 (fullR S N x).2.1).1)

theorem fullOne_times (S : ByteArray) (f : Nat → Int) (n : Nat) (x : Sr) : 1 ≤ (fullOne S f n x).2.1 ∧ (fullOne S f n x).2.1 ≤ 74 := by
  unfold fullOne
  split
  · have := numV_bounds S (needS (numS S x 4) (decide (0 < n))) 2
    have e : (2 : Int) ^ 2 = 4 := rfl
    dsimp only
    omega
  · split
    · have := numV_bounds S (numS S x 4) 3
      have e : (2 : Int) ^ 3 = 8 := rfl
      dsimp only
      omega
    · split
      · have := numV_bounds S (numS S x 4) 6
        have e : (2 : Int) ^ 6 = 64 := rfl
        dsimp only
        omega
      · exact ⟨Int.le_refl _, by show (1 : Int) ≤ 74; omega⟩
theorem numS_state {S : ByteArray} {x : Sr} {n : Nat} (h : (numS S x n).state = 0) : x.state = 0 := by
  unfold numS at h
  split at h
  · exact h
  · omega
theorem fullOne_val {S : ByteArray} {f : Nat → Int} {n : Nat} {x : Sr} (hf : ∀ j, j < n → 0 ≤ f j ∧ f j ≤ 12) (h : (fullOne S f n x).2.2.state = 0) : 0 ≤ (fullOne S f n x).1 ∧ (fullOne S f n x).1 ≤ 12 := by
  unfold fullOne at *
  have b := numV_bounds S x 4
  have e : (2 : Int) ^ 4 = 16 := rfl
  split
  · rename_i h13
    rw [if_pos h13] at h
    have hz := (needS_zero.1 (numS_state h)).2
    have hz := of_decide_eq_true hz
    dsimp only
    rw [if_pos hz]
    exact hf _ (by omega)
  · split
    · exact ⟨Int.le_refl _, by show (0 : Int) ≤ 12; omega⟩
    · split
      · exact ⟨Int.le_refl _, by show (0 : Int) ≤ 12; omega⟩
      · dsimp only
        omega
theorem fillLen_bounds {f : Nat → Int} {n t : Nat} {v : Int} (hf : ∀ j, j < n → 0 ≤ f j ∧ f j ≤ 12) (h : 0 ≤ v ∧ v ≤ 12) : ∀ j, j < n + t → 0 ≤ fillLen f n v t j ∧ fillLen f n v t j ≤ 12 := by
  intro j hj
  unfold fillLen
  split
  · exact h
  · exact hf j (by omega)
theorem fullGo_ok {S : ByteArray} {N : Nat} : ∀ (k : Nat) (f : Nat → Int) (n : Nat) (x : Sr), N < n + k → n ≤ N → (∀ j, j < n → 0 ≤ f j ∧ f j ≤ 12) →
    (∀ j, j < (fullGo S N k f n x).2.1 → 0 ≤ (fullGo S N k f n x).1 j ∧ (fullGo S N k f n x).1 j ≤ 12) ∧ (fullGo S N k f n x).2.1 ≤ N ∧ ((fullGo S N k f n x).2.2.state = 0 → (fullGo S N k f n x).2.1 = N)
  | 0, _, _, _, h1, h2, _ => absurd h1 (by omega)
  | k + 1, f, n, x, h1, h2, hf => by
    unfold fullGo
    split
    · split
      · rename_i hz
        have hz := needS_zero.1 hz
        have ht := fullOne_times S f n x
        have hv := fullOne_val hf hz.1
        have hle := of_decide_eq_true hz.2
        exact fullGo_ok k _ _ _ (by omega) (by omega) (fillLen_bounds hf hv)
      · rename_i hz
        exact ⟨hf, h2, fun q => absurd q hz⟩
    · rename_i hz
      refine ⟨hf, h2, fun q => ?_⟩
      have q2 : x.state = 0 := q
      show n = N
      omega
theorem fullR_ok (S : ByteArray) (N : Nat) (x : Sr) : (∀ j, j < (fullR S N x).2.1 → 0 ≤ (fullR S N x).1 j ∧ (fullR S N x).1 j ≤ 12) ∧ (fullR S N x).2.1 ≤ N ∧ ((fullR S N x).2.2.state = 0 → (fullR S N x).2.1 = N) :=
  fullGo_ok (N + 1) _ 0 x (by omega) (by omega) (fun _ h => absurd h (by omega))
theorem full_cod {S : ByteArray} {N : Nat} {x : Sr} (hN : N ≤ 272) (h : (fullS S N x).state = 0) : Cod (fullC S N x).1 (fullC S N x).2 N := by
  have hz := needS_zero.1 h
  have o := (fullR_ok S N x).2.2 hz.1
  have hs := of_decide_eq_true hz.2
  unfold fullC
  rw [o] at hs ⊢
  exact order_cod _ _ N hN hs

/- a code -/
def codeS (S : ByteArray) (N sz : Nat) (x : Sr) : Sr := if bitV S x = 0 then (simpR S N sz (bitS S x)).2 else fullS S N (bitS S x)
def codeC (S : ByteArray) (N sz : Nat) (x : Sr) : (Nat → Int) × (Nat → Int) := if bitV S x = 0 then simpC S N sz (bitS S x) else fullC S N (bitS S x)
theorem code_cod {S : ByteArray} {N sz : Nat} {x : Sr} (hN : N ≤ 272) (h : (codeS S N sz x).state = 0) : Cod (codeC S N sz x).1 (codeC S N sz x).2 N := by
  unfold codeS at h
  unfold codeC
  split
  · rename_i e
    rw [if_pos e] at h
    exact simp_cod h
  · rename_i e
    rw [if_neg e] at h
    exact full_cod hN h
theorem nameGo_at {S : ByteArray} {N sz : Nat} : ∀ (k i : Nat) (nm : Nat → Int) (x : Sr), okAt S x → okAt S (nameGo S N sz k i nm x).2
  | 0, _, _, _, h => h
  | k + 1, i, nm, x, h => by
    unfold nameGo
    split
    · exact needS_ok (numS_ok h _) _
    · exact nameGo_at k _ _ _ (needS_ok (numS_ok h _) _)
theorem fullOne_at {S : ByteArray} {f : Nat → Int} {n : Nat} {x : Sr} (h : okAt S x) : okAt S (fullOne S f n x).2.2 := by
  unfold fullOne
  split
  · exact numS_ok (needS_ok (numS_ok h _) _) _
  · split
    · exact numS_ok (numS_ok h _) _
    · split
      · exact numS_ok (numS_ok h _) _
      · exact numS_ok h _
theorem fullGo_at {S : ByteArray} {N : Nat} : ∀ (k : Nat) (f : Nat → Int) (n : Nat) (x : Sr), okAt S x → okAt S (fullGo S N k f n x).2.2
  | 0, _, _, _, h => h
  | k + 1, f, n, x, h => by
    unfold fullGo
    split
    · split
      · exact fullGo_at k _ _ _ (needS_ok (fullOne_at h) _)
      · exact needS_ok (fullOne_at h) _
    · exact h
theorem code_at {S : ByteArray} {N sz : Nat} {x : Sr} (h : okAt S x) : okAt S (codeS S N sz x) := by
  unfold codeS
  split
  · exact nameGo_at _ _ _ _ (numS_ok (bitS_ok h) _)
  · exact needS_ok (fullGo_at _ _ _ _ (bitS_ok h)) _
/-- the words that are answered -/
def wsIf (x : Sr) (c : (Nat → Int) × (Nat → Int)) : List Wd := if x.state = 0 then codeWs c.1 c.2 else []
theorem wsIf_ok {x : Sr} {c : (Nat → Int) × (Nat → Int)} {S : Int} (h : x.state = 0 → Cod c.1 c.2 S) : wdOk (wsIf x c) ∧ (wsIf x c).length ≤ 272 := by
  unfold wsIf
  split
  · rename_i e
    exact codeWs_ok (h e)
  · exact ⟨fun _ hx => absurd hx (by simp), by simp⟩
end Wr

/- THE DOCUMENT READS A STREAM. No Go. -/
namespace Wr

structure Dr where
  x : Sr
  out : List Int
  notes : List ByteArray
  far : Nat → Int

/-- the distance of symbol dd, and what is left to read -/
def awayV (S : ByteArray) (far : Nat → Int) (dd : Int) (x : Sr) : Int := if dd < 4 then far dd.toNat else 2 ^ (dd - 4).toNat + numV S x (dd - 4).toNat
def awayS (S : ByteArray) (dd : Int) (x : Sr) : Sr := if dd < 4 then x else numS S x (dd - 4).toNat
def copyOk (w : Int) (out : Nat) (away n left : Int) : Bool := decide (away ≤ 16 * 2 ^ w.toNat ∧ away ≤ out ∧ n ≤ left)

def copyN (S : ByteArray) (k : Nat) (x : Sr) : Int := lenLeast k + numV S x (k - 7)
def copyX (S : ByteArray) (k : Nat) (x : Sr) : Sr := numS S x (k - 7)
def copyDd (S : ByteArray) (dw : List Wd) (k : Nat) (x : Sr) : Int := symV S dw (copyX S k x)
def copyAway (S : ByteArray) (dw : List Wd) (k : Nat) (d : Dr) : Int := awayV S d.far (copyDd S dw k d.x) (symS S dw (copyX S k d.x))
def copyS (S : ByteArray) (dw : List Wd) (k : Nat) (left : Int) (d : Dr) : Sr :=
  needS (awayS S (copyDd S dw k d.x) (symS S dw (copyX S k d.x))) (copyOk d.x.w d.out.length (copyAway S dw k d) (copyN S k d.x) left)
def copyD (S : ByteArray) (dw : List Wd) (k : Nat) (left : Int) (d : Dr) : Int × Dr :=
  if (copyS S dw k left d).state ≠ 0 then (0, { d with x := copyS S dw k left d })
  else (copyN S k d.x, { d with x := copyS S dw k left d, far := if copyDd S dw k d.x = 0 then d.far else nearAdd d.far (copyAway S dw k d), out := copyList (copyAway S dw k d).toNat (copyN S k d.x).toNat d.out })

def codedGo (S : ByteArray) (lw dw : List Wd) : Nat → Int → Dr → Dr
  | 0, _, d => d
  | g + 1, left, d =>
    if 0 < left ∧ d.x.state = 0 then
      if (symS S lw d.x).state ≠ 0 then { d with x := symS S lw d.x }
      else if symV S lw d.x < 256 then codedGo S lw dw g (left - 1) { d with x := symS S lw d.x, out := d.out ++ [symV S lw d.x] }
      else codedGo S lw dw g (left - (copyD S dw (symV S lw d.x - 256).toNat left { d with x := symS S lw d.x }).1) (copyD S dw (symV S lw d.x - 256).toNat left { d with x := symS S lw d.x }).2
    else d
def codedX (S : ByteArray) (x : Sr) : Sr := codeS S 16 4 (codeS S 272 9 (numS S x 12))
def codedD (S : ByteArray) (d : Dr) : Dr :=
  codedGo S (wsIf (codeS S 272 9 (numS S d.x 12)) (codeC S 272 9 (numS S d.x 12))) (wsIf (codedX S d.x) (codeC S 16 4 (codeS S 272 9 (numS S d.x 12)))) 4098 (numV S d.x 12 + 1) { d with x := codedX S d.x }

def bytesGo (S : ByteArray) : Nat → Sr → List Int × Sr
  | 0, x => ([], x)
  | n + 1, x => if x.state ≠ 0 then ([], x) else if (numS S x 8).state ≠ 0 then ([], numS S x 8) else (numV S x 8 :: (bytesGo S n (numS S x 8)).1, (bytesGo S n (numS S x 8)).2)

def blockX (S : ByteArray) (x : Sr) : Sr := numS S (bitS S x) 2
def storedR (S : ByteArray) (x : Sr) : List Int × Sr := bytesGo S (numV S (blockX S x) 12 + 1).toNat (fillS S (numS S (blockX S x) 12))
def noteR (S : ByteArray) (x : Sr) : List Int × Sr := bytesGo S (numV S (blockX S x) 8).toNat (fillS S (numS S (blockX S x) 8))
def blockD (S : ByteArray) (d : Dr) : Bool × Dr :=
  if (blockX S d.x).state ≠ 0 then (false, { d with x := blockX S d.x })
  else if numV S (bitS S d.x) 2 = 0 then (bitV S d.x == 1, { d with x := if bitV S d.x = 0 then fillS S (blockX S d.x) else blockX S d.x })
  else if numV S (bitS S d.x) 2 = 1 then
    (bitV S d.x == 1, { d with x := (storedR S d.x).2, out := d.out ++ (storedR S d.x).1 })
  else if numV S (bitS S d.x) 2 = 2 then (bitV S d.x == 1, codedD S { d with x := blockX S d.x })
  else (bitV S d.x == 1, { d with x := (noteR S d.x).2, notes := if (noteR S d.x).2.state = 0 then d.notes ++ [outStr (noteR S d.x).1] else d.notes })

/-- the blocks: is the end of the text where the last block that was begun begins; was it the last one -/
def readGo (S : ByteArray) : Nat → Bool → Bool → Dr → Bool × Dr
  | 0, edge, _, d => (edge, d)
  | g + 1, edge, last, d =>
    if d.x.state = 0 ∧ last = false then readGo S g (d.x.at_ == 8 * S.size) (blockD S d).1 (blockD S d).2 else (edge, d)
def x0 : Sr := { at_ := 0, state := 0, w := -1 }
def x1 (S : ByteArray) : Sr := needS (numS S x0 4) (decide (numV S x0 4 ≤ 8))
def startX (S : ByteArray) : Sr := if (x1 S).state = 0 then { x1 S with w := numV S x0 4 } else x1 S
def startD (S : ByteArray) : Dr := { x := startX S, out := [], notes := [], far := fun j => if j < 4 then (j : Int) + 1 else 0 }
def readR (S : ByteArray) : Bool × Dr := readGo S (8 * S.size + 2) false false (startD S)
def readD (S : ByteArray) : Dr := { (readR S).2 with x := fillS S (readR S).2.x }
def readV (S : ByteArray) : Int := if (readD S).x.state = 0 ∧ (readD S).x.at_ < 8 * S.size then 3 else (readD S).x.state
end Wr

/- READING BITS AS THE DOCUMENT DOES. No Go. -/
namespace Wr

/-- the document's reader at bit n -/
def atX (n : Nat) (w : Int) : Sr := ⟨n, 0, w⟩
/-- the text of these bits -/
structure TextOf (S : ByteArray) (M : List Int) : Prop where
  val : valB S.data.toList = Wr.valOf M
  len : 8 * S.size = M.length
theorem val_tail {L : List Int} (hb : isBits L) (X : List Int) : Wr.valOf (L ++ X) / 2 ^ L.length = Wr.valOf X := by
  have vb := valOf_bounds _ hb
  have hp := pow_pos2 L.length
  rw [valOf_append, Int.add_mul_ediv_left _ _ (by omega), Int.ediv_eq_zero_of_lt vb.1 vb.2]
  omega

section
variable {S : ByteArray} {L Y : List Int} {w : Int}
theorem rd_num {v : Int} {n : Nat} (h0 : 0 ≤ v) (h1 : v < 2 ^ n) (hL : isBits L) (h : TextOf S (L ++ (numBits v n ++ Y))) :
    numV S (atX L.length w) n = v ∧ numS S (atX L.length w) n = atX (L ++ numBits v n).length w ∧ TextOf S ((L ++ numBits v n) ++ Y) := by
  have hp := pow_pos2 n
  refine ⟨?_, ?_, ?_⟩
  · unfold numV atX
    rw [if_neg (fun q => q rfl)]
    dsimp only
    rw [h.val, val_tail hL, val_num_head _ h0 h1, Int.add_mul_emod_self_left, Int.emod_eq_of_lt h0 h1]
  · unfold numS atX
    have hl := h.len
    rw [List.length_append, List.length_append, numBits_length] at hl
    rw [if_neg (fun q => q rfl)]
    dsimp only
    rw [if_pos (by omega), List.length_append, numBits_length]
  · rw [List.append_assoc]; exact h
theorem rd_bit {v : Int} (h0 : 0 ≤ v) (h1 : v < 2) (hL : isBits L) (h : TextOf S (L ++ (numBits v 1 ++ Y))) :
    bitV S (atX L.length w) = v ∧ bitS S (atX L.length w) = atX (L ++ numBits v 1).length w ∧ TextOf S ((L ++ numBits v 1) ++ Y) := by
  obtain ⟨a, b, c⟩ := rd_num (n := 1) (w := w) h0 h1 hL h
  have hl := h.len
  rw [List.length_append, List.length_append, numBits_length] at hl
  refine ⟨?_, ?_, c⟩
  · rw [← a]
    unfold bitV numV atX
    dsimp only
    rw [if_neg (fun q => q rfl), if_neg (by omega), if_neg (fun q => q rfl)]
    rfl
  · unfold bitS atX
    rw [if_neg (fun q => q rfl)]
    dsimp only
    rw [if_neg (by omega), List.length_append, numBits_length]
theorem nums_zero (k : Nat) : numBits 0 (k + 1) = numBits 0 1 ++ numBits 0 k := by
  have e : ∀ n, numBits 0 n = List.replicate n 0 := fun n => by
    unfold numBits
    have : (fun i : Nat => (0 : Int) / 2 ^ i % 2) = fun _ => 0 := by funext i; rw [Int.zero_ediv]; rfl
    rw [this, List.map_const', List.length_range]
  rw [e, e, e]
  rfl
theorem rd_fill : ∀ (k : Nat) {L Y : List Int}, isBits L → TextOf S (L ++ (numBits 0 k ++ Y)) → fillK S k (atX L.length w) = atX (L ++ numBits 0 k).length w
  | 0, L, Y, _, _ => by
    show atX L.length w = atX (L ++ []).length w
    rw [List.append_nil]
  | k + 1, L, Y, hL, h => by
    rw [nums_zero, List.append_assoc] at h
    obtain ⟨a, b, c⟩ := rd_bit (w := w) (Int.le_refl 0) (by omega) hL h
    unfold fillK
    rw [if_neg (fun q => q rfl), a, b]
    have hn : needS (atX (L ++ numBits 0 1).length w) ((0 : Int) == 0) = atX (L ++ numBits 0 1).length w := by
      unfold needS
      rw [if_neg (fun q => by cases q.2)]
    rw [hn, rd_fill k (isBits_cat hL (numBits_isBits _ _)) c, nums_zero k, List.append_assoc]
end

/- msb -/
theorem msb_first (H : Int) : ∀ l, msb H (l + 1) = H % 2 * 2 ^ l + msb (H / 2) l
  | 0 => by
    show 2 * 0 + H / 2 ^ 0 % 2 = H % 2 * 2 ^ 0 + 0
    have e : (2 : Int) ^ 0 = 1 := rfl
    rw [e, Int.ediv_one]
    omega
  | l + 1 => by
    have ih := msb_first H l
    show 2 * msb H (l + 1) + H / 2 ^ (l + 1) % 2 = H % 2 * 2 ^ (l + 1) + (2 * msb (H / 2) l + H / 2 / 2 ^ l % 2)
    have e : H / 2 / 2 ^ l = H / 2 ^ (l + 1) := by
      rw [Int.ediv_ediv_of_nonneg (by decide), Int.pow_succ, Int.mul_comm]
    rw [ih, e, Int.pow_succ, ← Int.mul_assoc]
    omega
theorem msb_twice (c : Int) : ∀ l, msb (msb c l) l = c % 2 ^ l
  | 0 => by
    show (0 : Int) = c % 1
    omega
  | l + 1 => by
    have ih := msb_twice c l
    have mb := msb_bounds c l
    have h2 : 0 ≤ c / 2 ^ l % 2 ∧ c / 2 ^ l % 2 < 2 := by omega
    have e : msb c (l + 1) = 2 * msb c l + c / 2 ^ l % 2 := rfl
    rw [msb_first, e, show (2 * msb c l + c / 2 ^ l % 2) % 2 = c / 2 ^ l % 2 by omega, show (2 * msb c l + c / 2 ^ l % 2) / 2 = msb c l by omega, ih, mod_step, Int.mul_comm]
    omega
theorem msb_mod (a b : Int) (l : Nat) : ∀ k, k ≤ l → msb (a + 2 ^ l * b) k = msb a k
  | 0, _ => rfl
  | k + 1, h => by
    have ih := msb_mod a b l k (by omega)
    show 2 * msb _ k + (a + 2 ^ l * b) / 2 ^ k % 2 = 2 * msb a k + a / 2 ^ k % 2
    have hp := pow_pos2 k
    have e : (2 : Int) ^ l * b = (2 ^ (l - k - 1) * b * 2) * 2 ^ k := by
      have e1 : (2 : Int) ^ l = 2 ^ (l - k - 1) * 2 * 2 ^ k := by
        rw [← Int.pow_succ, ← Int.pow_add, show l - k - 1 + 1 + k = l by omega]
      rw [e1]
      simp only [Int.mul_comm, Int.mul_left_comm]
    rw [ih, e, Int.add_mul_ediv_right _ _ (by omega), Int.add_mul_emod_self_right]
theorem msb_pre (H : Int) (k : Nat) : ∀ d, msb H k = msb H (k + d) / 2 ^ d
  | 0 => by
    show _ = msb H k / 1
    rw [Int.ediv_one]
  | d + 1 => by
    have ih := msb_pre H k d
    have e : msb H (k + (d + 1)) = 2 * msb H (k + d) + H / 2 ^ (k + d) % 2 := rfl
    rw [ih, e, Int.pow_succ, Int.mul_comm (2 ^ d) 2, ← Int.ediv_ediv_of_nonneg (by decide), show (2 * msb H (k + d) + H / 2 ^ (k + d) % 2) / 2 = msb H (k + d) by omega]
end Wr

/- WHAT READING A BLOCK KEEPS. No walk. -/
namespace Wr
theorem bitS_w (S : ByteArray) (x : Sr) : (bitS S x).w = x.w := by
  unfold bitS
  split
  · rfl
  · split <;> rfl
theorem numS_w (S : ByteArray) (x : Sr) (n : Nat) : (numS S x n).w = x.w := by
  unfold numS
  split
  · rfl
  · split <;> rfl
theorem needS_w (x : Sr) (ok : Bool) : (needS x ok).w = x.w := by
  unfold needS
  split <;> rfl
theorem symGo_w (S : ByteArray) (ws : List Wd) : ∀ (g k : Nat) (m : Int) (x : Sr), (symGo S ws g k m x).2.w = x.w
  | 0, _, _, _ => rfl
  | g + 1, k, m, x => by
    unfold symGo
    split
    · rfl
    · split
      · rfl
      · rw [symGo_w S ws g, needS_w, bitS_w]
theorem symS_w (S : ByteArray) (ws : List Wd) (x : Sr) : (symS S ws x).w = x.w := symGo_w S ws _ _ _ x
theorem symGo_at (S : ByteArray) (ws : List Wd) : ∀ (g k : Nat) (m : Int) (x : Sr), okAt S x → okAt S (symGo S ws g k m x).2
  | 0, _, _, _, h => h
  | g + 1, k, m, x, h => by
    unfold symGo
    split
    · exact h
    · split
      · exact h
      · exact symGo_at S ws g _ _ _ (needS_ok (bitS_ok h) _)
theorem symS_at {S : ByteArray} {ws : List Wd} {x : Sr} (h : okAt S x) : okAt S (symS S ws x) := symGo_at S ws _ _ _ x h
theorem look_mem {k : Nat} {m v : Int} : ∀ {ws : List Wd}, lookGo k m ws = some v → ∃ x ∈ ws, x.sym = v
  | x :: l, h => by
    unfold lookGo at h
    split at h
    · exact ⟨x, List.mem_cons_self .., Option.some.inj h⟩
    · obtain ⟨y, hy, e⟩ := look_mem h
      exact ⟨y, List.mem_cons_of_mem _ hy, e⟩
theorem symGo_bounds {S : ByteArray} {ws : List Wd} {N : Int} (hN : 0 < N) (hw : ∀ x ∈ ws, 0 ≤ x.sym ∧ x.sym < N) : ∀ (g k : Nat) (m : Int) (x : Sr), 0 ≤ (symGo S ws g k m x).1 ∧ (symGo S ws g k m x).1 < N
  | 0, _, _, _ => ⟨Int.le_refl _, hN⟩
  | g + 1, k, m, x => by
    unfold symGo
    split
    · exact ⟨Int.le_refl _, hN⟩
    · split
      · rename_i v hv
        obtain ⟨y, hy, e⟩ := look_mem hv
        rw [← e]
        exact hw y hy
      · exact symGo_bounds hN hw g _ _ _
theorem symV_bounds {S : ByteArray} {ws : List Wd} {N : Int} (hN : 0 < N) (hw : ∀ x ∈ ws, 0 ≤ x.sym ∧ x.sym < N) (x : Sr) : 0 ≤ symV S ws x ∧ symV S ws x < N := symGo_bounds hN hw _ _ _ x
theorem copyN_bounds (S : ByteArray) {k : Nat} (hk : k ≤ 15) (x : Sr) : 3 ≤ copyN S k x ∧ copyN S k x ≤ 520 := by
  have hv := numV_bounds S x (k - 7)
  unfold copyN lenLeast
  by_cases h8 : (k : Int) < 8
  · rw [show k - 7 = 0 by omega] at hv ⊢
    have e : (2 : Int) ^ 0 = 1 := rfl
    rw [if_pos h8]
    omega
  · have hp : (2 : Int) ^ (k - 7) ≤ 256 := pow_mono2 (show k - 7 ≤ 8 by omega)
    have hp1 := pow_pos2 (k - 7)
    rw [if_neg h8, show ((k : Int) - 7).toNat = k - 7 by omega]
    have hp2 : (2 : Int) ^ 1 ≤ 2 ^ (k - 7) := pow_mono2 (by omega)
    have e : (2 : Int) ^ 1 = 2 := rfl
    omega
theorem awayS_w (S : ByteArray) (dd : Int) (x : Sr) : (awayS S dd x).w = x.w := by
  unfold awayS
  split
  · rfl
  · exact numS_w _ _ _
theorem awayS_at {S : ByteArray} {dd : Int} {x : Sr} (h : okAt S x) : okAt S (awayS S dd x) := by
  unfold awayS
  split
  · exact h
  · exact numS_ok h _
theorem copyS_w (S : ByteArray) (dw : List Wd) (k : Nat) (left : Int) (d : Dr) : (copyS S dw k left d).w = d.x.w := by
  unfold copyS
  rw [needS_w, awayS_w, symS_w]
  exact numS_w _ _ _
theorem copyS_at {S : ByteArray} {dw : List Wd} {k : Nat} {left : Int} {d : Dr} (h : okAt S d.x) : okAt S (copyS S dw k left d) := needS_ok (awayS_at (symS_at (numS_ok h _))) _
theorem away_bounds {S : ByteArray} {dw : List Wd} {k : Nat} {d : Dr} (hsym : ∀ x ∈ dw, 0 ≤ x.sym ∧ x.sym < 16) (hfar : ∀ i, i < 4 → 1 ≤ d.far i ∧ d.far i ≤ 4095) : 1 ≤ copyAway S dw k d ∧ copyAway S dw k d ≤ 4095 := by
  have hb : 0 ≤ copyDd S dw k d.x ∧ copyDd S dw k d.x < 16 := symV_bounds (N := 16) (by omega) hsym _
  unfold copyAway awayV
  split
  · exact hfar _ (by omega)
  · have hv := numV_bounds S (symS S dw (copyX S k d.x)) (copyDd S dw k d.x - 4).toNat
    have hp : (2 : Int) ^ (copyDd S dw k d.x - 4).toNat ≤ 2 ^ 11 := pow_mono2 (by omega)
    have e : (2 : Int) ^ 11 = 2048 := rfl
    have hp0 := pow_pos2 (copyDd S dw k d.x - 4).toNat
    omega

/-- what a copy keeps -/
structure Keeps (S : ByteArray) (d : Dr) (left : Int) (n : Int) (e : Dr) : Prop where
  at_ : okAt S e.x
  far : ∀ i, i < 4 → 1 ≤ e.far i ∧ e.far i ≤ 4095
  w : e.x.w = d.x.w
  n0 : 0 ≤ n
  n1 : n ≤ left
  out : (e.out.length : Int) = d.out.length + n
  st : e.x.state = 0 → 1 ≤ n
theorem copyD_keeps {S : ByteArray} {dw : List Wd} {k : Nat} {left : Int} {d : Dr} (hk : k ≤ 15) (hat : okAt S d.x) (hsym : ∀ x ∈ dw, 0 ≤ x.sym ∧ x.sym < 16) (hfar : ∀ i, i < 4 → 1 ≤ d.far i ∧ d.far i ≤ 4095) (hl : 0 ≤ left) : Keeps S d left (copyD S dw k left d).1 (copyD S dw k left d).2 := by
  have nb := copyN_bounds S hk d.x
  have ab := away_bounds (S := S) (k := k) hsym hfar
  unfold copyD
  split
  · rename_i hne
    exact ⟨copyS_at hat, hfar, copyS_w _ _ _ _ _, Int.le_refl _, hl, by show (d.out.length : Int) = d.out.length + 0; omega, fun q => absurd q hne⟩
  · rename_i hne
    have hz := Decidable.not_not.1 hne
    have hc := (needS_zero.1 (show (needS _ _).state = 0 from hz)).2
    unfold copyOk at hc
    have hc := of_decide_eq_true hc
    refine ⟨copyS_at hat, fun i hi => ?_, copyS_w _ _ _ _ _, by dsimp only; omega, hc.2.2, ?_, fun _ => by dsimp only; omega⟩
    · dsimp only
      split
      · exact hfar i hi
      · unfold nearAdd
        split
        · exact ab
        · exact hfar (i - 1) (by omega)
    · dsimp only
      rw [copyList_len]
      omega
theorem codeWs_sym {cnt sym : Nat → Int} {S : Int} (h : Cod cnt sym S) : ∀ x ∈ codeWs cnt sym, 0 ≤ x.sym ∧ x.sym < S := by
  intro x hx
  unfold codeWs at hx
  obtain ⟨p, hp, rfl⟩ := List.mem_map.1 hx
  rw [List.mem_range] at hp
  exact h.sym p (by omega)
theorem wsIf_sym {x : Sr} {c : (Nat → Int) × (Nat → Int)} {S : Int} (h : x.state = 0 → Cod c.1 c.2 S) : ∀ y ∈ wsIf x c, 0 ≤ y.sym ∧ y.sym < S := by
  unfold wsIf
  split
  · rename_i e
    exact codeWs_sym (h e)
  · intro y hy
    simp at hy
theorem codeS_w (S : ByteArray) (N sz : Nat) (x : Sr) : (codeS S N sz x).w = x.w := by
  have nm : ∀ (k i : Nat) (f : Nat → Int) (x : Sr), (nameGo S N sz k i f x).2.w = x.w := by
    intro k
    induction k with
    | zero => intro i f x; rfl
    | succ k ih =>
      intro i f x
      unfold nameGo
      split
      · rw [needS_w, numS_w]
      · rw [ih, needS_w, numS_w]
  have f1 : ∀ (f : Nat → Int) (n : Nat) (x : Sr), (fullOne S f n x).2.2.w = x.w := by
    intro f n x
    unfold fullOne
    split
    · dsimp only; rw [numS_w, needS_w, numS_w]
    · split
      · dsimp only; rw [numS_w, numS_w]
      · split
        · dsimp only; rw [numS_w, numS_w]
        · dsimp only; rw [numS_w]
  have fg : ∀ (k : Nat) (f : Nat → Int) (n : Nat) (x : Sr), (fullGo S N k f n x).2.2.w = x.w := by
    intro k
    induction k with
    | zero => intro f n x; rfl
    | succ k ih =>
      intro f n x
      unfold fullGo
      split
      · split
        · rw [ih, needS_w, f1]
        · rw [needS_w, f1]
      · rfl
  unfold codeS
  split
  · unfold simpR
    rw [nm, numS_w, bitS_w]
  · unfold fullS fullR
    rw [needS_w, fg, bitS_w]
theorem codedGo_stop {S : ByteArray} {lw dw : List Wd} (g : Nat) {left : Int} {d : Dr} (h : ¬ (0 < left ∧ d.x.state = 0)) : codedGo S lw dw g left d = d := by
  cases g with
  | zero => rfl
  | succ g => unfold codedGo; rw [if_neg h]


theorem bitS_ge (S : ByteArray) (x : Sr) : x.at_ ≤ (bitS S x).at_ := by
  unfold bitS
  split
  · exact Nat.le_refl _
  · split
    · exact Nat.le_refl _
    · exact Nat.le_succ _
theorem numS_ge {S : ByteArray} {x : Sr} (h : okAt S x) (n : Nat) : x.at_ ≤ (numS S x n).at_ := by
  unfold okAt at h
  unfold numS
  split
  · exact Nat.le_refl _
  · split
    · exact Nat.le_add_right _ _
    · exact h
theorem needS_at_ (x : Sr) (ok : Bool) : (needS x ok).at_ = x.at_ := by
  unfold needS
  split <;> rfl
theorem fillK_ge (S : ByteArray) : ∀ (k : Nat) (x : Sr), x.at_ ≤ (fillK S k x).at_ ∧ (fillK S k x).w = x.w
  | 0, _ => ⟨Nat.le_refl _, rfl⟩
  | k + 1, x => by
    unfold fillK
    split
    · exact ⟨Nat.le_refl _, rfl⟩
    · have ih := fillK_ge S k (needS (bitS S x) (bitV S x == 0))
      rw [needS_at_, needS_w, bitS_w] at ih
      exact ⟨Nat.le_trans (bitS_ge S x) ih.1, ih.2⟩
theorem nameGo_ge {S : ByteArray} {N sz : Nat} : ∀ (k i : Nat) (f : Nat → Int) (x : Sr), okAt S x → x.at_ ≤ (nameGo S N sz k i f x).2.at_
  | 0, _, _, _, _ => Nat.le_refl _
  | k + 1, i, f, x, h => by
    unfold nameGo
    split
    · rw [needS_at_]; exact numS_ge h _
    · refine Nat.le_trans ?_ (nameGo_ge k _ _ _ (needS_ok (numS_ok h _) _))
      rw [needS_at_]; exact numS_ge h _
theorem fullOne_ge {S : ByteArray} {f : Nat → Int} {n : Nat} {x : Sr} (h : okAt S x) : x.at_ ≤ (fullOne S f n x).2.2.at_ := by
  have h1 := numS_ge h 4
  unfold fullOne
  split
  · refine Nat.le_trans h1 ?_
    have := numS_ge (needS_ok (numS_ok h 4) (decide (0 < n))) 2
    rw [needS_at_] at this
    exact this
  · split
    · exact Nat.le_trans h1 (numS_ge (numS_ok h 4) 3)
    · split
      · exact Nat.le_trans h1 (numS_ge (numS_ok h 4) 6)
      · exact h1
theorem fullGo_ge {S : ByteArray} {N : Nat} : ∀ (k : Nat) (f : Nat → Int) (n : Nat) (x : Sr), okAt S x → x.at_ ≤ (fullGo S N k f n x).2.2.at_
  | 0, _, _, _, _ => Nat.le_refl _
  | k + 1, f, n, x, h => by
    unfold fullGo
    split
    · split
      · refine Nat.le_trans ?_ (fullGo_ge k _ _ _ (needS_ok (fullOne_at h) _))
        rw [needS_at_]; exact fullOne_ge h
      · rw [needS_at_]; exact fullOne_ge h
    · exact Nat.le_refl _
theorem codeS_ge {S : ByteArray} {N sz : Nat} {x : Sr} (h : okAt S x) : x.at_ ≤ (codeS S N sz x).at_ := by
  unfold codeS
  split
  · exact Nat.le_trans (Nat.le_trans (bitS_ge S x) (numS_ge (bitS_ok h) 2)) (nameGo_ge _ _ _ _ (numS_ok (bitS_ok h) 2))
  · unfold fullS
    rw [needS_at_]
    exact Nat.le_trans (bitS_ge S x) (fullGo_ge _ _ _ _ (bitS_ok h))
theorem symGo_ge (S : ByteArray) (ws : List Wd) : ∀ (g k : Nat) (m : Int) (x : Sr), x.at_ ≤ (symGo S ws g k m x).2.at_
  | 0, _, _, _ => Nat.le_refl _
  | g + 1, k, m, x => by
    unfold symGo
    split
    · exact Nat.le_refl _
    · split
      · exact Nat.le_refl _
      · refine Nat.le_trans ?_ (symGo_ge S ws g _ _ _)
        rw [needS_at_]; exact bitS_ge S x
theorem symS_ge (S : ByteArray) (ws : List Wd) (x : Sr) : x.at_ ≤ (symS S ws x).at_ := symGo_ge S ws _ _ _ x
theorem awayS_ge {S : ByteArray} {dd : Int} {x : Sr} (h : okAt S x) : x.at_ ≤ (awayS S dd x).at_ := by
  unfold awayS
  split
  · exact Nat.le_refl _
  · exact numS_ge h _
theorem copyS_ge {S : ByteArray} {dw : List Wd} {k : Nat} {left : Int} {d : Dr} (h : okAt S d.x) : d.x.at_ ≤ (copyS S dw k left d).at_ := by
  unfold copyS
  rw [needS_at_]
  exact Nat.le_trans (Nat.le_trans (numS_ge h _) (symS_ge S dw _)) (awayS_ge (symS_at (numS_ok h _)))
theorem copyD_ge {S : ByteArray} {dw : List Wd} {k : Nat} {left : Int} {d : Dr} (h : okAt S d.x) : d.x.at_ ≤ (copyD S dw k left d).2.x.at_ ∧ (copyD S dw k left d).2.notes = d.notes := by
  unfold copyD
  split
  · exact ⟨copyS_ge h, rfl⟩
  · exact ⟨copyS_ge h, rfl⟩

/-- what goes on -/
structure Goon (S : ByteArray) (d e : Dr) (n : Int) : Prop where
  at_ : okAt S e.x
  ge : d.x.at_ ≤ e.x.at_
  w : e.x.w = d.x.w
  far : ∀ i, i < 4 → 1 ≤ e.far i ∧ e.far i ≤ 4095
  out : (e.out.length : Int) ≤ d.out.length + n
theorem codedGo_goon {S : ByteArray} {lw dw : List Wd} (hl : ∀ x ∈ lw, 0 ≤ x.sym ∧ x.sym < 272) (hd : ∀ x ∈ dw, 0 ≤ x.sym ∧ x.sym < 16) : ∀ (g : Nat) (left : Int) (d : Dr), 0 ≤ left → okAt S d.x → (∀ i, i < 4 → 1 ≤ d.far i ∧ d.far i ≤ 4095) →
    Goon S d (codedGo S lw dw g left d) left ∧ (codedGo S lw dw g left d).notes = d.notes
  | 0, left, d, h0, ha, hf => ⟨⟨ha, Nat.le_refl _, rfl, hf, by show (d.out.length : Int) ≤ _; omega⟩, rfl⟩
  | g + 1, left, d, h0, ha, hf => by
    have hb := symV_bounds (N := 272) (S := S) (by omega) hl d.x
    have hs := symS_at (ws := lw) ha
    have hw := symS_w S lw d.x
    have hg := symS_ge S lw d.x
    unfold codedGo
    split
    · rename_i hc
      split
      · exact ⟨⟨hs, hg, hw, hf, by show (d.out.length : Int) ≤ _; omega⟩, rfl⟩
      · split
        · obtain ⟨i1, i2⟩ := codedGo_goon hl hd g (left - 1) { d with x := symS S lw d.x, out := d.out ++ [symV S lw d.x] } (by omega) hs hf
          refine ⟨⟨i1.at_, Nat.le_trans hg i1.ge, i1.w.trans hw, i1.far, ?_⟩, i2⟩
          have := i1.out
          simp only [List.length_append, List.length_singleton] at this
          omega
        · have kp := copyD_keeps (S := S) (dw := dw) (k := (symV S lw d.x - 256).toNat) (left := left) (d := { d with x := symS S lw d.x }) (by omega) hs hd hf h0
          have cg := copyD_ge (S := S) (dw := dw) (k := (symV S lw d.x - 256).toNat) (left := left) (d := { d with x := symS S lw d.x }) hs
          have n1 := kp.n1
          obtain ⟨i1, i2⟩ := codedGo_goon hl hd g (left - (copyD S dw (symV S lw d.x - 256).toNat left { d with x := symS S lw d.x }).1) (copyD S dw (symV S lw d.x - 256).toNat left { d with x := symS S lw d.x }).2 (by omega) kp.at_ kp.far
          have ko : _ = (d.out.length : Int) + _ := kp.out
          have := i1.out
          have kw : _ = (symS S lw d.x).w := kp.w
          have cg1 : (symS S lw d.x).at_ ≤ _ := cg.1
          exact ⟨⟨i1.at_, Nat.le_trans hg (Nat.le_trans cg1 i1.ge), (i1.w.trans kw).trans hw, i1.far, by omega⟩, i2.trans cg.2⟩
    · exact ⟨⟨ha, Nat.le_refl _, rfl, hf, by show (d.out.length : Int) ≤ _; omega⟩, rfl⟩
theorem codedD_goon {S : ByteArray} {d : Dr} (ha : okAt S d.x) (hf : ∀ i, i < 4 → 1 ≤ d.far i ∧ d.far i ≤ 4095) : Goon S d (codedD S d) 4096 ∧ (codedD S d).notes = d.notes := by
  have h1 := numS_ok ha 12
  have h2 : okAt S (codeS S 272 9 (numS S d.x 12)) := code_at h1
  have h3 : okAt S (codedX S d.x) := code_at h2
  have nb := numV_bounds S d.x 12
  rw [show (2 : Int) ^ 12 = 4096 from rfl] at nb
  obtain ⟨i1, i2⟩ := codedGo_goon (S := S) (lw := wsIf (codeS S 272 9 (numS S d.x 12)) (codeC S 272 9 (numS S d.x 12))) (dw := wsIf (codedX S d.x) (codeC S 16 4 (codeS S 272 9 (numS S d.x 12))))
    (wsIf_sym fun q => code_cod (by omega) q) (wsIf_sym fun q => code_cod (by omega) q) 4098 (numV S d.x 12 + 1) { d with x := codedX S d.x } (by omega) h3 hf
  have g : d.x.at_ ≤ (codedX S d.x).at_ := Nat.le_trans (Nat.le_trans (numS_ge ha 12) (codeS_ge h1)) (codeS_ge h2)
  have w3 : (codedX S d.x).w = d.x.w := by unfold codedX; rw [codeS_w, codeS_w, numS_w]
  exact ⟨⟨i1.at_, Nat.le_trans g i1.ge, i1.w.trans w3, i1.far, Int.le_trans i1.out (by show (d.out.length : Int) + (numV S d.x 12 + 1) ≤ (d.out.length : Int) + 4096; omega)⟩, i2⟩
theorem bytesGo_ge {S : ByteArray} : ∀ (n : Nat) (x : Sr), okAt S x → x.at_ ≤ (bytesGo S n x).2.at_ ∧ (bytesGo S n x).2.w = x.w ∧ okAt S (bytesGo S n x).2 ∧ (bytesGo S n x).1.length ≤ n
  | 0, _, h => ⟨Nat.le_refl _, rfl, h, Nat.le_refl _⟩
  | n + 1, x, h => by
    unfold bytesGo
    split
    · exact ⟨Nat.le_refl _, rfl, h, Nat.zero_le _⟩
    · split
      · exact ⟨numS_ge h 8, numS_w _ _ _, numS_ok h 8, Nat.zero_le _⟩
      · have ih := bytesGo_ge (S := S) n (numS S x 8) (numS_ok h 8)
        exact ⟨Nat.le_trans (numS_ge h 8) ih.1, ih.2.1.trans (numS_w _ _ _), ih.2.2.1, by simp only [List.length_cons]; omega⟩

/-- where a block begins -/
structure RIn (S : ByteArray) (d : Dr) : Prop where
  at_ : okAt S d.x
  far : ∀ i, i < 4 → 1 ≤ d.far i ∧ d.far i ≤ 4095
  w : d.x.state = 0 → 0 ≤ d.x.w ∧ d.x.w ≤ 8
  out : (d.out.length : Int) ≤ 4096 * d.x.at_
  notes : d.notes.length ≤ d.x.at_
theorem block_in {S : ByteArray} {d : Dr} (hi : RIn S d) (h0 : d.x.state = 0) : RIn S (blockD S d).2 ∧ ((blockD S d).2.x.state = 0 → d.x.at_ + 3 ≤ (blockD S d).2.x.at_) := by
  have hb := bitS_ok hi.at_
  have hx : okAt S (blockX S d.x) := numS_ok hb 2
  have hw : (blockX S d.x).w = d.x.w := (numS_w _ _ _).trans (bitS_w _ _)
  have hg : d.x.at_ ≤ (blockX S d.x).at_ := Nat.le_trans (bitS_ge S d.x) (numS_ge hb 2)
  have w0 := hi.w h0
  have o := hi.out
  have nt := hi.notes
  have h3 : (blockX S d.x).state = 0 → (blockX S d.x).at_ = d.x.at_ + 3 := by
    intro q
    have q1 : (bitS S d.x).state = 0 := numS_state q
    unfold blockX at q ⊢
    unfold numS at q ⊢
    rw [if_neg (fun r => r q1)] at q ⊢
    split
    · unfold bitS at q1 ⊢
      rw [if_neg (fun r => r h0)] at q1 ⊢
      split
      · rename_i r
        rw [if_pos r] at q1
        cases q1
      · rfl
    · rename_i r
      rw [if_neg r] at q
      cases q
  unfold blockD
  split
  · rename_i q
    exact ⟨⟨hx, hi.far, fun r => absurd r q, by show (d.out.length : Int) ≤ 4096 * ((blockX S d.x).at_ : Int); omega, by show d.notes.length ≤ (blockX S d.x).at_; omega⟩, fun r => absurd r q⟩
  · rename_i q
    have q := h3 (Decidable.not_not.1 q)
    split
    · have hf := fillK_ge S ((8 - (blockX S d.x).at_ % 8) % 8) (blockX S d.x)
      have hfo := fillS_ok hx
      have hf1 : (blockX S d.x).at_ ≤ (fillS S (blockX S d.x)).at_ := hf.1
      have hf2 : (fillS S (blockX S d.x)).w = (blockX S d.x).w := hf.2
      dsimp only
      split
      · exact ⟨⟨hfo, hi.far, fun _ => by show 0 ≤ (fillS S (blockX S d.x)).w ∧ (fillS S (blockX S d.x)).w ≤ 8; rw [hf2, hw]; exact w0, by first | omega | (dsimp only; omega), by first | omega | (dsimp only; omega)⟩, fun _ => by first | omega | (dsimp only; omega)⟩
      · exact ⟨⟨hx, hi.far, fun _ => by show 0 ≤ (blockX S d.x).w ∧ (blockX S d.x).w ≤ 8; rw [hw]; exact w0, by first | omega | (dsimp only; omega), by first | omega | (dsimp only; omega)⟩, fun _ => by first | omega | (dsimp only; omega)⟩
    · split
      · have h12 := numS_ok hx 12
        have nb := numV_bounds S (blockX S d.x) 12
        rw [show (2 : Int) ^ 12 = 4096 from rfl] at nb
        have hf := fillK_ge S ((8 - (numS S (blockX S d.x) 12).at_ % 8) % 8) (numS S (blockX S d.x) 12)
        have hf1 : (numS S (blockX S d.x) 12).at_ ≤ (fillS S (numS S (blockX S d.x) 12)).at_ := hf.1
        have hf2 : (fillS S (numS S (blockX S d.x) 12)).w = (numS S (blockX S d.x) 12).w := hf.2
        have by_ := bytesGo_ge (S := S) (numV S (blockX S d.x) 12 + 1).toNat _ (fillS_ok h12)
        have hge := numS_ge hx 12
        have e : storedR S d.x = bytesGo S (numV S (blockX S d.x) 12 + 1).toNat (fillS S (numS S (blockX S d.x) 12)) := rfl
        rw [← e] at by_
        obtain ⟨b1, b2, b3, b4⟩ := by_
        refine ⟨⟨b3, hi.far, fun _ => by show 0 ≤ (storedR S d.x).2.w ∧ (storedR S d.x).2.w ≤ 8; rw [b2, hf2, numS_w, hw]; exact w0, ?_, by dsimp only; omega⟩, fun _ => by dsimp only; omega⟩
        dsimp only
        rw [List.length_append]
        omega
      · split
        · have cg := codedD_goon (S := S) (d := { d with x := blockX S d.x }) hx hi.far
          have c1 := cg.1.out
          have c2 : (blockX S d.x).at_ ≤ _ := cg.1.ge
          have c3 : _ = (blockX S d.x).w := cg.1.w
          have c4 : _ = d.notes := cg.2
          dsimp only at c1
          exact ⟨⟨cg.1.at_, cg.1.far, fun _ => by rw [c3, hw]; exact w0, by dsimp only; omega, by dsimp only; rw [c4]; omega⟩, fun _ => by dsimp only; omega⟩
        · have h8 := numS_ok hx 8
          have hf := fillK_ge S ((8 - (numS S (blockX S d.x) 8).at_ % 8) % 8) (numS S (blockX S d.x) 8)
          have hf1 : (numS S (blockX S d.x) 8).at_ ≤ (fillS S (numS S (blockX S d.x) 8)).at_ := hf.1
          have hf2 : (fillS S (numS S (blockX S d.x) 8)).w = (numS S (blockX S d.x) 8).w := hf.2
          have by_ := bytesGo_ge (S := S) (numV S (blockX S d.x) 8).toNat _ (fillS_ok h8)
          have hge := numS_ge hx 8
          have e : noteR S d.x = bytesGo S (numV S (blockX S d.x) 8).toNat (fillS S (numS S (blockX S d.x) 8)) := rfl
          rw [← e] at by_
          obtain ⟨b1, b2, b3, _⟩ := by_
          refine ⟨⟨b3, hi.far, fun _ => by show 0 ≤ (noteR S d.x).2.w ∧ (noteR S d.x).2.w ≤ 8; rw [b2, hf2, numS_w, hw]; exact w0, by dsimp only; omega, ?_⟩, fun _ => by dsimp only; omega⟩
          dsimp only
          split
          · simp only [List.length_append, List.length_singleton]
            omega
          · omega
end Wr
