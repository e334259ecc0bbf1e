/- THE DOCUMENT's READING AND THE READER's STEPS: numbers, fill, symbols. No Go. -/
import Derived.Test.YtkdhhchikglgjaaRefP7
import Derived.Test.YtkdhhchikglgjaaBig2
namespace Wr

def holdAt (S : ByteArray) (x : Sr) : Int := valB S.data.toList / 2 ^ x.at_
def haveAt (S : ByteArray) (x : Sr) : Int := 8 * S.size - x.at_
/-- the reader s, at the document's place x -/
def setAt (S : ByteArray) (x : Sr) (s : Rd) : Rd := { s with hold := holdAt S x, have_ := haveAt S x }

theorem half2 (v : Int) (k : Nat) : v / 2 ^ k / 2 = v / 2 ^ (k + 1) := by
  rw [Int.ediv_ediv_of_nonneg (by have := pow_pos2 k; omega), Int.pow_succ]
theorem mod2 (v : Int) (k : Nat) : v % 2 ^ (k + 1) = v % 2 + 2 * (v / 2 % 2 ^ k) := by
  have p := pow_pos2 k
  have h1 := Int.emod_add_mul_ediv (v / 2) (2 ^ k)
  have b0 : 0 ≤ v / 2 % 2 ^ k := Int.emod_nonneg _ (by omega)
  have b1 : v / 2 % 2 ^ k < 2 ^ k := Int.emod_lt_of_pos _ (by omega)
  have e : v = (v % 2 + 2 * (v / 2 % 2 ^ k)) + 2 ^ (k + 1) * (v / 2 / 2 ^ k) := by
    rw [Int.pow_succ, Int.mul_comm (2 ^ k) 2, Int.mul_assoc]
    omega
  conv => lhs; rw [e]
  rw [Int.add_mul_emod_self_left, Int.emod_eq_of_lt (by omega) (by rw [Int.pow_succ]; omega)]
theorem holdAt_next (S : ByteArray) (x : Sr) : holdAt S { x with at_ := x.at_ + 1 } = holdAt S x / 2 := by
  unfold holdAt
  rw [half2]
theorem holdAt_add (S : ByteArray) (x : Sr) (n : Nat) : valB S.data.toList / 2 ^ (x.at_ + n) = holdAt S x / 2 ^ n := by
  unfold holdAt
  rw [Int.ediv_ediv_of_nonneg (by have := pow_pos2 x.at_; omega), pow_add2]

/- fill -/
theorem fillK_sim {S : ByteArray} : ∀ (k : Nat) (x : Sr), x.state = 0 → x.at_ + k ≤ 8 * S.size →
    (holdAt S x % 2 ^ k = 0 → fillK S k x = { x with at_ := x.at_ + k }) ∧ (holdAt S x % 2 ^ k ≠ 0 → (fillK S k x).state = 2)
  | 0, x, _, _ => ⟨fun _ => rfl, fun h => absurd (show holdAt S x % 1 = 0 by omega) h⟩
  | k + 1, x, h0, hk => by
    have eb : bitS S x = { x with at_ := x.at_ + 1 } := by unfold bitS; rw [if_neg (fun q => q h0), if_neg (by omega)]
    have ev : bitV S x = holdAt S x % 2 := by unfold bitV holdAt; rw [if_neg (fun q => q h0), if_neg (by omega)]
    have em := mod2 (holdAt S x) k
    have b0 : 0 ≤ holdAt S x / 2 % 2 ^ k := Int.emod_nonneg _ (by have := pow_pos2 k; omega)
    unfold fillK
    rw [if_neg (fun q => q h0), eb, ev]
    by_cases hb : holdAt S x % 2 = 0
    · rw [hb]
      have en : needS { x with at_ := x.at_ + 1 } ((0 : Int) == 0) = { x with at_ := x.at_ + 1 } := needS_true _
      rw [en]
      have ih := fillK_sim (S := S) k { x with at_ := x.at_ + 1 } h0 (by show x.at_ + 1 + k ≤ 8 * S.size; omega)
      rw [holdAt_next] at ih
      have key : holdAt S x % 2 ^ (k + 1) = 2 * (holdAt S x / 2 % 2 ^ k) := by rw [em, hb]; exact Int.zero_add _
      rw [key]
      refine ⟨fun h => ?_, fun h => ih.2 (fun q => h (by rw [q]; rfl))⟩
      rw [ih.1 (by generalize holdAt S x / 2 % 2 ^ k = B at *; omega)]
      show { x with at_ := x.at_ + 1 + k } = { x with at_ := x.at_ + (k + 1) }
      rw [show x.at_ + 1 + k = x.at_ + (k + 1) by omega]
    · have h1 : holdAt S x % 2 = 1 := by omega
      have en : (needS { x with at_ := x.at_ + 1 } (holdAt S x % 2 == 0)).state = 2 := by
        rw [h1]
        unfold needS
        rw [if_pos ⟨h0, rfl⟩]
      refine ⟨fun h => ?_, fun _ => ?_⟩
      · exfalso
        rw [em, h1] at h
        generalize holdAt S x / 2 % 2 ^ k = B at *
        omega
      rw [fillK_stop S k (by rw [en]; omega), en]
theorem fill_sim {S : ByteArray} {x : Sr} (s : Rd) (h0 : x.state = 0) (hok : okAt S x) :
    (fillOk (setAt S x s) = true → (fillS S x).state = 0 ∧ fillTo (setAt S x s) = setAt S (fillS S x) s ∧ (fillS S x).at_ % 8 = 0 ∧ okAt S (fillS S x)) ∧
    (fillOk (setAt S x s) = false → (fillS S x).state = 2 ∧ fillTo (setAt S x s) = fault (setAt S x s)) := by
  unfold okAt at hok
  have ek : (haveAt S x % 8).toNat = (8 - x.at_ % 8) % 8 := by unfold haveAt; omega
  have hk : x.at_ + (8 - x.at_ % 8) % 8 ≤ 8 * S.size := by omega
  have sim := fillK_sim (S := S) ((8 - x.at_ % 8) % 8) x h0 hk
  have eo : fillOk (setAt S x s) = (holdAt S x % 2 ^ ((8 - x.at_ % 8) % 8) == 0) := by
    show (holdAt S x % 2 ^ (haveAt S x % 8).toNat == 0) = _
    rw [ek]
  constructor
  · intro h
    have hz : holdAt S x % 2 ^ ((8 - x.at_ % 8) % 8) = 0 := by rw [eo] at h; exact eq_of_beq h
    have ef : fillS S x = { x with at_ := x.at_ + (8 - x.at_ % 8) % 8 } := sim.1 hz
    rw [ef]
    refine ⟨h0, ?_, by show (x.at_ + (8 - x.at_ % 8) % 8) % 8 = 0; omega, hk⟩
    unfold fillTo
    rw [if_pos h]
    show { s with hold := holdAt S x / 2 ^ (haveAt S x % 8).toNat, have_ := haveAt S x - haveAt S x % 8 } = _
    rw [ek, ← holdAt_add]
    have e2 : haveAt S x - haveAt S x % 8 = haveAt S { x with at_ := x.at_ + (8 - x.at_ % 8) % 8 } := by
      unfold haveAt
      show (8 * (S.size : Int) - x.at_) - (8 * (S.size : Int) - x.at_) % 8 = 8 * (S.size : Int) - ((x.at_ + (8 - x.at_ % 8) % 8 : Nat) : Int)
      omega
    rw [e2]
    rfl
  · intro h
    have hz : holdAt S x % 2 ^ ((8 - x.at_ % 8) % 8) ≠ 0 := by
      rw [eo] at h
      intro q
      rw [q] at h
      cases h
    refine ⟨sim.2 hz, ?_⟩
    unfold fillTo
    rw [h]
    rfl

/- numbers -/
theorem num_go {S : ByteArray} {x : Sr} {s : Rd} {n : Nat} (hI : Inv (setAt S x s)) (h0 : x.state = 0) (h6 : s.part ≠ 6) (h8 : s.part ≠ 8) (hp : s.part ≤ 9) (hw : width s = n) (hn : (numS S x n).state = 0) :
    drive (setAt S x s) = drive (use (setAt S (numS S x n) s) (numV S x n)) ∧ Inv (use (setAt S (numS S x n) s) (numV S x n)) := by
  have hle : x.at_ + n ≤ 8 * S.size := by
    unfold numS at hn
    rw [if_neg (fun q => q h0)] at hn
    split at hn
    · assumption
    · cases hn
  have en : numS S x n = { x with at_ := x.at_ + n } := by unfold numS; rw [if_neg (fun q => q h0), if_pos hle]
  have ev : numV S x n = holdAt S x % 2 ^ n := by unfold numV holdAt; rw [if_neg (fun q => q h0)]
  have p := pow_pos2 n
  have r := drive_num (s := setAt S x s) hI (holdAt S x % 2 ^ n) (holdAt S x / 2 ^ n) n (haveAt S x - n) h6 h8 hp hw
    (by rw [Int.toNat_natCast]; exact (Int.emod_add_mul_ediv _ _).symm) (Int.emod_nonneg _ (by omega)) (by rw [Int.toNat_natCast]; exact Int.emod_lt_of_pos _ (by omega)) (by show haveAt S x = _; omega) (by unfold haveAt; omega)
  have e : ({ setAt S x s with hold := holdAt S x / 2 ^ n, have_ := haveAt S x - n } : Rd) = setAt S (numS S x n) s := by
    rw [en, ← holdAt_add]
    have e2 : haveAt S x - n = haveAt S { x with at_ := x.at_ + n } := by
      unfold haveAt
      show 8 * (S.size : Int) - x.at_ - n = 8 * (S.size : Int) - ((x.at_ + n : Nat) : Int)
      omega
    rw [e2]
    rfl
  rw [e, ← ev] at r
  exact r
theorem num_stuck {S : ByteArray} {x : Sr} {s : Rd} {n : Nat} (h0 : x.state = 0) (h6 : s.part ≠ 6) (h8 : s.part ≠ 8) (hp : s.part ≤ 9) (hw : width s = n) (hn : (numS S x n).state ≠ 0) :
    drive (setAt S x s) = setAt S x s ∧ (numS S x n).state = 1 := by
  have hle : ¬ x.at_ + n ≤ 8 * S.size := by
    intro q
    apply hn
    unfold numS
    rw [if_neg (fun q => q h0), if_pos q]
    exact h0
  have en : (numS S x n).state = 1 := by unfold numS; rw [if_neg (fun q => q h0), if_neg hle]
  refine ⟨drive_none ?_, en⟩
  have ep : peek (setAt S x s) = (holdAt S x % 2 ^ n, (n : Int)) := by
    rw [peek_number (s := setAt S x s) h6 h8]
    have ew : width (setAt S x s) = n := hw
    rw [ew, Int.toNat_natCast]
    rfl
  unfold step
  rw [if_neg (by show ¬ (s.part = 10 ∨ s.part = 11); omega), ep, if_pos]
  show haveAt S x < n
  unfold haveAt
  omega

/- symbols -/
theorem look_some {k : Nat} {m v : Int} : ∀ {ws : List Wd}, lookGo k m ws = some v → ∃ (p : Nat) (x : Wd), ws[p]? = some x ∧ x.len = k ∧ x.code = m ∧ x.sym = v
  | x :: l, h => by
    unfold lookGo at h
    split at h
    · rename_i q
      exact ⟨0, x, rfl, q.1, q.2, Option.some.inj h⟩
    · obtain ⟨p, y, h1, h2⟩ := look_some h
      exact ⟨p + 1, y, h1, h2⟩
theorem look_none {k : Nat} {m : Int} : ∀ {ws : List Wd}, lookGo k m ws = none → ∀ (p : Nat) (x : Wd), ws[p]? = some x → ¬ (x.len = k ∧ x.code = m)
  | y :: l, h, p, x, hx => by
    unfold lookGo at h
    split at h
    · cases h
    · rename_i q
      cases p with
      | zero =>
        have : y = x := Option.some.inj hx
        subst this
        exact q
      | succ p => exact look_none h p x hx
theorem look_code {cnt sym : Nat → Int} (lo : ∀ i, 0 ≤ cnt i) {k : Nat} {m : Int} (hk : k ≤ 12) (h1 : firstOf cnt k ≤ m) (h2 : m - firstOf cnt k < cnt k) :
    lookGo k m (codeWs cnt sym) = some (sym (aheadOf cnt k + m - firstOf cnt k).toNat) := by
  have a0 := ahead_nonneg lo k
  have a1 : aheadOf cnt (k + 1) = aheadOf cnt k + cnt k := rfl
  have hw := codeWs_at (sym := sym) lo (l := k) (p := (aheadOf cnt k + m - firstOf cnt k).toNat) hk (by omega) (by omega)
  cases h : lookGo k m (codeWs cnt sym) with
  | none =>
    exfalso
    exact look_none h _ _ hw ⟨rfl, by show firstOf cnt k + (((aheadOf cnt k + m - firstOf cnt k).toNat : Nat) - aheadOf cnt k) = m; omega⟩
  | some v =>
    obtain ⟨p, x, e1, e2, e3, e4⟩ := look_some h
    have hp : (p : Int) < aheadOf cnt 13 := by
      have := codeWs_length (sym := sym) lo
      have := (List.getElem?_eq_some_iff.1 e1).1
      omega
    obtain ⟨l, l1, l2, l3⟩ := ahead_find cnt p (by omega) 13 hp
    have e5 := codeWs_at (sym := sym) lo (show l ≤ 12 by omega) l2 l3
    rw [e1] at e5
    have e5 := Option.some.inj e5
    subst e5
    have e2 : l = k := e2
    subst e2
    have e3 : firstOf cnt l + ((p : Int) - aheadOf cnt l) = m := e3
    have e4 : sym p = v := e4
    rw [← e4]
    congr 2
    omega
theorem look_miss {cnt sym : Nat → Int} (lo : ∀ i, 0 ≤ cnt i) {k : Nat} {m : Int} (h : cnt k ≤ m - firstOf cnt k) : lookGo k m (codeWs cnt sym) = none := by
  cases hl : lookGo k m (codeWs cnt sym) with
  | none => rfl
  | some v =>
    exfalso
    obtain ⟨p, x, e1, e2, e3, _⟩ := look_some hl
    have hp : (p : Int) < aheadOf cnt 13 := by
      have := codeWs_length (sym := sym) lo
      have := (List.getElem?_eq_some_iff.1 e1).1
      omega
    obtain ⟨l, l1, l2, l3⟩ := ahead_find cnt p (by omega) 13 hp
    have e5 := codeWs_at (sym := sym) lo (show l ≤ 12 by omega) l2 l3
    rw [e1] at e5
    have e5 := Option.some.inj e5
    subst e5
    have e2 : l = k := e2
    subst e2
    have e3 : firstOf cnt l + ((p : Int) - aheadOf cnt l) = m := e3
    have a1 : aheadOf cnt (l + 1) = aheadOf cnt l + cnt l := rfl
    omega

theorem symGo_step {S : ByteArray} {ws : List Wd} {g k : Nat} {m : Int} {x : Sr} (h0 : x.state = 0) (hl : lookGo k m ws = none) (hk : x.at_ < 8 * S.size) (h12 : k + 1 ≤ 12) :
    symGo S ws (g + 1) k m x = symGo S ws g (k + 1) (2 * m + holdAt S x % 2) { x with at_ := x.at_ + 1 } := by
  have eb : bitS S x = { x with at_ := x.at_ + 1 } := by unfold bitS; rw [if_neg (fun q => q h0), if_neg (by omega)]
  have ev : bitV S x = holdAt S x % 2 := by unfold bitV holdAt; rw [if_neg (fun q => q h0), if_neg (by omega)]
  conv => lhs; unfold symGo
  rw [if_neg (fun q => q h0), hl]
  dsimp only
  rw [eb, ev, decide_eq_true h12, needS_true]
theorem symGo_reach {S : ByteArray} {ws : List Wd} {x : Sr} (h0 : x.state = 0) (H : Int) (hH : H = holdAt S x) : ∀ (k : Nat), k ≤ 12 → x.at_ + k ≤ 8 * S.size → (∀ j, j < k → lookGo j (msb H j) ws = none) → ∀ g, symGo S ws (g + k) 0 0 x = symGo S ws g k (msb H k) { x with at_ := x.at_ + k }
  | 0, _, _, _, _ => rfl
  | k + 1, h12, hle, hn, g => by
    have ih := symGo_reach (S := S) (ws := ws) h0 H hH k (by omega) (by omega) (fun j hj => hn j (by omega)) (g + 1)
    rw [show g + (k + 1) = g + 1 + k by omega, ih, symGo_step (x := { x with at_ := x.at_ + k }) h0 (hn k (by omega)) (by show x.at_ + k < _; omega) (by omega)]
    have e : holdAt S { x with at_ := x.at_ + k } = H / 2 ^ k := by
      rw [hH, ← holdAt_add]
      rfl
    rw [e]
    rfl
theorem sym_hit {S : ByteArray} {x : Sr} {cnt sym : Nat → Int} {N : Int} {l : Nat} (hc : Cod cnt sym N) (h0 : x.state = 0) (h : Hit cnt sym (holdAt S x) (haveAt S x) l) :
    symV S (codeWs cnt sym) x = (find cnt sym (holdAt S x) (haveAt S x)).1 ∧ symS S (codeWs cnt sym) x = { x with at_ := x.at_ + l } := by
  have l12 := h.l12
  have lh := h.lh
  unfold haveAt at lh
  have r := symGo_reach (S := S) (ws := codeWs cnt sym) h0 _ rfl l l12 (by omega) (fun j hj => look_miss hc.lo (h.before j hj)) (14 - l)
  rw [show 14 - l + l = 14 by omega] at r
  have e : symGo S (codeWs cnt sym) (14 - l) l (msb (holdAt S x) l) { x with at_ := x.at_ + l } = (sym (aheadOf cnt l + msb (holdAt S x) l - firstOf cnt l).toNat, { x with at_ := x.at_ + l }) := by
    rw [show 14 - l = 13 - l + 1 by omega]
    unfold symGo
    rw [if_neg (fun q => q h0), look_code hc.lo l12 h.ge h.lt]
  rw [e] at r
  unfold symV symS
  rw [r, h.eq]
  exact ⟨rfl, rfl⟩
theorem sym_miss {S : ByteArray} {x : Sr} {cnt sym : Nat → Int} {N : Int} (hc : Cod cnt sym N) (h0 : x.state = 0) (hok : okAt S x) (h : Miss cnt sym (holdAt S x) (haveAt S x)) :
    (symS S (codeWs cnt sym) x).state = 1 := by
  unfold okAt at hok
  have h11 := h.h11
  have hn := h.none
  unfold haveAt at h11 hn
  have r := symGo_reach (S := S) (ws := codeWs cnt sym) h0 _ rfl (8 * S.size - x.at_) (by omega) (by omega) (fun j hj => look_miss hc.lo (hn j (by omega))) (14 - (8 * S.size - x.at_))
  rw [show 14 - (8 * S.size - x.at_) + (8 * S.size - x.at_) = 14 by omega] at r
  unfold symS
  rw [r, show 14 - (8 * S.size - x.at_) = 12 - (8 * S.size - x.at_) + 1 + 1 by omega]
  unfold symGo
  rw [if_neg (fun q => q h0), look_miss hc.lo (hn _ (by omega))]
  dsimp only
  have eb : bitS S { x with at_ := x.at_ + (8 * S.size - x.at_) } = { x with at_ := x.at_ + (8 * S.size - x.at_), state := 1 } := by
    unfold bitS
    rw [if_neg (fun q => q h0), if_pos (by show 8 * S.size ≤ x.at_ + (8 * S.size - x.at_); omega)]
  rw [eb, needS_stop (by show (1 : Int) ≠ 0; omega)]
  unfold symGo
  rw [if_pos (by show (1 : Int) ≠ 0; omega)]
end Wr
