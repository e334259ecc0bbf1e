/- THE DOCUMENT READS A CODE. No Go. -/
import Derived.Test.YtmpfgdmdnghhgaaRefP5
namespace Wr

theorem needS_zero {x : Sr} {ok : Bool} : (needS x ok).state = 0 ↔ x.state = 0 ∧ ok = true := by
  unfold needS
  by_cases h : x.state = 0
  · cases ok
    · rw [if_pos ⟨h, rfl⟩]
      simp
    · rw [if_neg (by simp)]
      simp [h]
  · rw [if_neg (fun q => h q.1)]
    simp [h]
theorem needS_true (x : Sr) : needS x true = x := by
  unfold needS
  rw [if_neg (by simp)]
theorem needS_stop {x : Sr} (h : x.state ≠ 0) (ok : Bool) : needS x ok = x := by
  unfold needS
  rw [if_neg (fun q => h q.1)]

/-- the name before, or -1 -/
def befN (nm : Nat → Int) (i : Nat) : Int := if i = 0 then -1 else nm (i - 1)
def nameGo (S : ByteArray) (N sz : Nat) : Nat → Nat → (Nat → Int) → Sr → (Nat → Int) × Sr
  | 0, _, nm, x => (nm, x)
  | k + 1, i, nm, x =>
    if (needS (numS S x sz) (decide (befN nm i < numV S x sz ∧ numV S x sz < N))).state ≠ 0 then
      (nm, needS (numS S x sz) (decide (befN nm i < numV S x sz ∧ numV S x sz < N)))
    else nameGo S N sz k (i + 1) (upd nm i (numV S x sz)) (needS (numS S x sz) (decide (befN nm i < numV S x sz ∧ numV S x sz < N)))
def simpR (S : ByteArray) (N sz : Nat) (x : Sr) : (Nat → Int) × Sr := nameGo S N sz (numV S x 2 + 1).toNat 0 (fun _ => 0) (numS S x 2)
def simpC (S : ByteArray) (N sz : Nat) (x : Sr) : (Nat → Int) × (Nat → Int) := (simpleCnt (numV S x 2 + 1), (simpR S N sz x).1)

theorem NamesOk.push {N : Nat} {nm : Nat → Int} {i : Nat} {v : Int} (h : NamesOk N nm i) (h1 : befN nm i < v) (h2 : v < N) : NamesOk N (upd nm i v) (i + 1) := by
  unfold befN at h1
  have e : ∀ p, p ≠ i → upd nm i v p = nm p := fun p hp => if_neg hp
  have e0 : upd nm i v i = v := if_pos rfl
  refine ⟨fun p hp => ?_, fun p hp => ?_⟩
  · by_cases hpi : p = i
    · subst hpi
      rw [e0]
      refine ⟨?_, h2⟩
      by_cases h0 : p = 0
      · rw [if_pos h0] at h1; omega
      · rw [if_neg h0] at h1
        have := h.lt (p - 1) (by omega)
        omega
    · rw [e p hpi]
      exact h.lt p (by omega)
  · by_cases hpi : p + 1 = i
    · subst hpi
      rw [e0, e p (by omega)]
      rw [if_neg (by omega)] at h1
      exact h1
    · rw [e p (by omega), e (p + 1) hpi]
      exact h.inc p (by omega)
theorem lenF_upd {n : Nat} {nm : Nat → Int} {i : Nat} (v : Int) : ∀ k, k ≤ i → lenF n (upd nm i v) k = lenF n nm k
  | 0, _ => rfl
  | k + 1, h => by
    have e : upd nm i v k = nm k := if_neg (by omega)
    show upd (lenF n (upd nm i v) k) (upd nm i v k).toNat _ = upd (lenF n nm k) (nm k).toNat _
    rw [lenF_upd v k (by omega), e]
theorem lenF_push (n : Nat) (nm : Nat → Int) (i : Nat) (v : Int) : lenF n (upd nm i v) (i + 1) = upd (lenF n nm i) v.toNat (simpLen n i) := by
  have e : upd nm i v i = v := if_pos rfl
  show upd (lenF n (upd nm i v) i) (upd nm i v i).toNat _ = _
  rw [lenF_upd v i (by omega), e]

theorem nameGo_ok {S : ByteArray} {N sz : Nat} : ∀ (k i : Nat) (nm : Nat → Int) (x : Sr), NamesOk N nm i → (nameGo S N sz k i nm x).2.state = 0 → NamesOk N (nameGo S N sz k i nm x).1 (i + k)
  | 0, _, _, _, h, _ => h
  | k + 1, i, nm, x, h, hs => by
    unfold nameGo at hs ⊢
    split
    · rename_i hne
      rw [if_pos hne] at hs
      exact absurd hs hne
    · rename_i hne
      rw [if_neg hne] at hs
      have hz := (needS_zero.1 (Decidable.not_not.1 hne)).2
      have hz := of_decide_eq_true hz
      have := nameGo_ok k (i + 1) _ _ (h.push hz.1 hz.2) hs
      rw [show i + (k + 1) = i + 1 + k by omega]
      exact this
theorem simpR_ok {S : ByteArray} {N sz : Nat} {x : Sr} (h : (simpR S N sz x).2.state = 0) : NamesOk N (simpR S N sz x).1 (numV S x 2 + 1).toNat := by
  have := nameGo_ok _ 0 _ _ ⟨fun p hp => absurd hp (by omega), fun p hp => absurd hp (by omega)⟩ h
  rw [Nat.zero_add] at this
  exact this
theorem simp_cod {S : ByteArray} {N sz : Nat} {x : Sr} (h : (simpR S N sz x).2.state = 0) : Cod (simpC S N sz x).1 (simpC S N sz x).2 N := by
  have b := numV_bounds S x 2
  have e : (2 : Int) ^ 2 = 4 := rfl
  have o := simpR_ok h
  exact simple_cod _ (by omega) (by omega) _ _ (fun p hp => o.lt p (by omega))

/- full codes -/
def fullOne (S : ByteArray) (f : Nat → Int) (n : Nat) (x : Sr) : Int × Int × Sr :=
  if numV S x 4 = 13 then (if 0 < n then f (n - 1) else 13, 3 + numV S (needS (numS S x 4) (decide (0 < n))) 2, numS S (needS (numS S x 4) (decide (0 < n))) 2)
  else if numV S x 4 = 14 then (0, 3 + numV S (numS S x 4) 3, numS S (numS S x 4) 3)
  else if numV S x 4 = 15 then (0, 11 + numV S (numS S x 4) 6, numS S (numS S x 4) 6)
  else (numV S x 4, 1, numS S x 4)
def fullGo (S : ByteArray) (N : Nat) : Nat → (Nat → Int) → Nat → Sr → (Nat → Int) × Nat × Sr
  | 0, f, n, x => (f, n, x)
  | k + 1, f, n, x =>
    if n < N ∧ x.state = 0 then
      if (needS (fullOne S f n x).2.2 (decide (n + (fullOne S f n x).2.1 ≤ N))).state = 0 then
        fullGo S N k (fillLen f n (fullOne S f n x).1 (fullOne S f n x).2.1.toNat) (n + (fullOne S f n x).2.1.toNat) (needS (fullOne S f n x).2.2 (decide (n + (fullOne S f n x).2.1 ≤ N)))
      else (f, n, needS (fullOne S f n x).2.2 (decide (n + (fullOne S f n x).2.1 ≤ N)))
    else (f, n, x)
def fullR (S : ByteArray) (N : Nat) (x : Sr) : (Nat → Int) × Nat × Sr := fullGo S N (N + 1) (fun _ => 0) 0 x
def fullS (S : ByteArray) (N : Nat) (x : Sr) : Sr := needS (fullR S N x).2.2 (decide ((countGo (fullR S N x).1 (fullR S N x).2.1).2 = 4096))
def fullC (S : ByteArray) (N : Nat) (x : Sr) : (Nat → Int) × (Nat → Int) :=
  ((countGo (fullR S N x).1 (fullR S N x).2.1).1, (orderGo (countGo (fullR S N x).1 (fullR S N x).2.1).1 (fun _ => 0) (fullR S N x).1 (fullR S N x).2.1).1)

theorem fullOne_times (S : ByteArray) (f : Nat → Int) (n : Nat) (x : Sr) : 1 ≤ (fullOne S f n x).2.1 ∧ (fullOne S f n x).2.1 ≤ 74 := by
  unfold fullOne
  split
  · have := numV_bounds S (needS (numS S x 4) (decide (0 < n))) 2
    have e : (2 : Int) ^ 2 = 4 := rfl
    dsimp only
    omega
  · split
    · have := numV_bounds S (numS S x 4) 3
      have e : (2 : Int) ^ 3 = 8 := rfl
      dsimp only
      omega
    · split
      · have := numV_bounds S (numS S x 4) 6
        have e : (2 : Int) ^ 6 = 64 := rfl
        dsimp only
        omega
      · exact ⟨Int.le_refl _, by show (1 : Int) ≤ 74; omega⟩
theorem numS_state {S : ByteArray} {x : Sr} {n : Nat} (h : (numS S x n).state = 0) : x.state = 0 := by
  unfold numS at h
  split at h
  · exact h
  · omega
theorem fullOne_val {S : ByteArray} {f : Nat → Int} {n : Nat} {x : Sr} (hf : ∀ j, j < n → 0 ≤ f j ∧ f j ≤ 12) (h : (fullOne S f n x).2.2.state = 0) : 0 ≤ (fullOne S f n x).1 ∧ (fullOne S f n x).1 ≤ 12 := by
  unfold fullOne at *
  have b := numV_bounds S x 4
  have e : (2 : Int) ^ 4 = 16 := rfl
  split
  · rename_i h13
    rw [if_pos h13] at h
    have hz := (needS_zero.1 (numS_state h)).2
    have hz := of_decide_eq_true hz
    dsimp only
    rw [if_pos hz]
    exact hf _ (by omega)
  · split
    · exact ⟨Int.le_refl _, by show (0 : Int) ≤ 12; omega⟩
    · split
      · exact ⟨Int.le_refl _, by show (0 : Int) ≤ 12; omega⟩
      · dsimp only
        omega
theorem fillLen_bounds {f : Nat → Int} {n t : Nat} {v : Int} (hf : ∀ j, j < n → 0 ≤ f j ∧ f j ≤ 12) (h : 0 ≤ v ∧ v ≤ 12) : ∀ j, j < n + t → 0 ≤ fillLen f n v t j ∧ fillLen f n v t j ≤ 12 := by
  intro j hj
  unfold fillLen
  split
  · exact h
  · exact hf j (by omega)
theorem fullGo_ok {S : ByteArray} {N : Nat} : ∀ (k : Nat) (f : Nat → Int) (n : Nat) (x : Sr), N < n + k → n ≤ N → (∀ j, j < n → 0 ≤ f j ∧ f j ≤ 12) →
    (∀ j, j < (fullGo S N k f n x).2.1 → 0 ≤ (fullGo S N k f n x).1 j ∧ (fullGo S N k f n x).1 j ≤ 12) ∧ (fullGo S N k f n x).2.1 ≤ N ∧ ((fullGo S N k f n x).2.2.state = 0 → (fullGo S N k f n x).2.1 = N)
  | 0, _, _, _, h1, h2, _ => absurd h1 (by omega)
  | k + 1, f, n, x, h1, h2, hf => by
    unfold fullGo
    split
    · split
      · rename_i hz
        have hz := needS_zero.1 hz
        have ht := fullOne_times S f n x
        have hv := fullOne_val hf hz.1
        have hle := of_decide_eq_true hz.2
        exact fullGo_ok k _ _ _ (by omega) (by omega) (fillLen_bounds hf hv)
      · rename_i hz
        exact ⟨hf, h2, fun q => absurd q hz⟩
    · rename_i hz
      refine ⟨hf, h2, fun q => ?_⟩
      have q2 : x.state = 0 := q
      show n = N
      omega
theorem fullR_ok (S : ByteArray) (N : Nat) (x : Sr) : (∀ j, j < (fullR S N x).2.1 → 0 ≤ (fullR S N x).1 j ∧ (fullR S N x).1 j ≤ 12) ∧ (fullR S N x).2.1 ≤ N ∧ ((fullR S N x).2.2.state = 0 → (fullR S N x).2.1 = N) :=
  fullGo_ok (N + 1) _ 0 x (by omega) (by omega) (fun _ h => absurd h (by omega))
theorem full_cod {S : ByteArray} {N : Nat} {x : Sr} (hN : N ≤ 272) (h : (fullS S N x).state = 0) : Cod (fullC S N x).1 (fullC S N x).2 N := by
  have hz := needS_zero.1 h
  have o := (fullR_ok S N x).2.2 hz.1
  have hs := of_decide_eq_true hz.2
  unfold fullC
  rw [o] at hs ⊢
  exact order_cod _ _ N hN hs

/- a code -/
def codeS (S : ByteArray) (N sz : Nat) (x : Sr) : Sr := if bitV S x = 0 then (simpR S N sz (bitS S x)).2 else fullS S N (bitS S x)
def codeC (S : ByteArray) (N sz : Nat) (x : Sr) : (Nat → Int) × (Nat → Int) := if bitV S x = 0 then simpC S N sz (bitS S x) else fullC S N (bitS S x)
theorem code_cod {S : ByteArray} {N sz : Nat} {x : Sr} (hN : N ≤ 272) (h : (codeS S N sz x).state = 0) : Cod (codeC S N sz x).1 (codeC S N sz x).2 N := by
  unfold codeS at h
  unfold codeC
  split
  · rename_i e
    rw [if_pos e] at h
    exact simp_cod h
  · rename_i e
    rw [if_neg e] at h
    exact full_cod hN h
theorem nameGo_at {S : ByteArray} {N sz : Nat} : ∀ (k i : Nat) (nm : Nat → Int) (x : Sr), okAt S x → okAt S (nameGo S N sz k i nm x).2
  | 0, _, _, _, h => h
  | k + 1, i, nm, x, h => by
    unfold nameGo
    split
    · exact needS_ok (numS_ok h _) _
    · exact nameGo_at k _ _ _ (needS_ok (numS_ok h _) _)
theorem fullOne_at {S : ByteArray} {f : Nat → Int} {n : Nat} {x : Sr} (h : okAt S x) : okAt S (fullOne S f n x).2.2 := by
  unfold fullOne
  split
  · exact numS_ok (needS_ok (numS_ok h _) _) _
  · split
    · exact numS_ok (numS_ok h _) _
    · split
      · exact numS_ok (numS_ok h _) _
      · exact numS_ok h _
theorem fullGo_at {S : ByteArray} {N : Nat} : ∀ (k : Nat) (f : Nat → Int) (n : Nat) (x : Sr), okAt S x → okAt S (fullGo S N k f n x).2.2
  | 0, _, _, _, h => h
  | k + 1, f, n, x, h => by
    unfold fullGo
    split
    · split
      · exact fullGo_at k _ _ _ (needS_ok (fullOne_at h) _)
      · exact needS_ok (fullOne_at h) _
    · exact h
theorem code_at {S : ByteArray} {N sz : Nat} {x : Sr} (h : okAt S x) : okAt S (codeS S N sz x) := by
  unfold codeS
  split
  · exact nameGo_at _ _ _ _ (numS_ok (bitS_ok h) _)
  · exact needS_ok (fullGo_at _ _ _ _ (bitS_ok h)) _
/-- the words that are answered -/
def wsIf (x : Sr) (c : (Nat → Int) × (Nat → Int)) : List Wd := if x.state = 0 then codeWs c.1 c.2 else []
theorem wsIf_ok {x : Sr} {c : (Nat → Int) × (Nat → Int)} {S : Int} (h : x.state = 0 → Cod c.1 c.2 S) : wdOk (wsIf x c) ∧ (wsIf x c).length ≤ 272 := by
  unfold wsIf
  split
  · rename_i e
    exact codeWs_ok (h e)
  · exact ⟨fun _ hx => absurd hx (by simp), by simp⟩
end Wr
