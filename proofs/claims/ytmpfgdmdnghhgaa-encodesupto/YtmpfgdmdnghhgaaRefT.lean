import Derived.Test.YtmpfgdmdnghhgaaRefP9
import Derived.Test.YtmpfgdmdnghhgaaRing
/- THE DOCUMENT's READING AND THE READER's STEPS: numbers, fill, symbols. No Go. -/
namespace Wr

def holdAt (S : ByteArray) (x : Sr) : Int := valB S.data.toList / 2 ^ x.at_
def haveAt (S : ByteArray) (x : Sr) : Int := 8 * S.size - x.at_
/-- the reader s, at the document's place x -/
def setAt (S : ByteArray) (x : Sr) (s : Rd) : Rd := { s with hold := holdAt S x, have_ := haveAt S x }

theorem half2 (v : Int) (k : Nat) : v / 2 ^ k / 2 = v / 2 ^ (k + 1) := by
  rw [Int.ediv_ediv_of_nonneg (by have := pow_pos2 k; omega), Int.pow_succ]
theorem mod2 (v : Int) (k : Nat) : v % 2 ^ (k + 1) = v % 2 + 2 * (v / 2 % 2 ^ k) := by
  have p := pow_pos2 k
  have h1 := Int.emod_add_mul_ediv (v / 2) (2 ^ k)
  have b0 : 0 ≤ v / 2 % 2 ^ k := Int.emod_nonneg _ (by omega)
  have b1 : v / 2 % 2 ^ k < 2 ^ k := Int.emod_lt_of_pos _ (by omega)
  have e : v = (v % 2 + 2 * (v / 2 % 2 ^ k)) + 2 ^ (k + 1) * (v / 2 / 2 ^ k) := by
    rw [Int.pow_succ, Int.mul_comm (2 ^ k) 2, Int.mul_assoc]
    omega
  conv => lhs; rw [e]
  rw [Int.add_mul_emod_self_left, Int.emod_eq_of_lt (by omega) (by rw [Int.pow_succ]; omega)]
theorem holdAt_next (S : ByteArray) (x : Sr) : holdAt S { x with at_ := x.at_ + 1 } = holdAt S x / 2 := by
  unfold holdAt
  rw [half2]
theorem holdAt_add (S : ByteArray) (x : Sr) (n : Nat) : valB S.data.toList / 2 ^ (x.at_ + n) = holdAt S x / 2 ^ n := by
  unfold holdAt
  rw [Int.ediv_ediv_of_nonneg (by have := pow_pos2 x.at_; omega), pow_add2]

/- fill -/
theorem fillK_sim {S : ByteArray} : ∀ (k : Nat) (x : Sr), x.state = 0 → x.at_ + k ≤ 8 * S.size →
    (holdAt S x % 2 ^ k = 0 → fillK S k x = { x with at_ := x.at_ + k }) ∧ (holdAt S x % 2 ^ k ≠ 0 → (fillK S k x).state = 2)
  | 0, x, _, _ => ⟨fun _ => rfl, fun h => absurd (show holdAt S x % 1 = 0 by omega) h⟩
  | k + 1, x, h0, hk => by
    have eb : bitS S x = { x with at_ := x.at_ + 1 } := by unfold bitS; rw [if_neg (fun q => q h0), if_neg (by omega)]
    have ev : bitV S x = holdAt S x % 2 := by unfold bitV holdAt; rw [if_neg (fun q => q h0), if_neg (by omega)]
    have em := mod2 (holdAt S x) k
    have b0 : 0 ≤ holdAt S x / 2 % 2 ^ k := Int.emod_nonneg _ (by have := pow_pos2 k; omega)
    unfold fillK
    rw [if_neg (fun q => q h0), eb, ev]
    by_cases hb : holdAt S x % 2 = 0
    · rw [hb]
      have en : needS { x with at_ := x.at_ + 1 } ((0 : Int) == 0) = { x with at_ := x.at_ + 1 } := needS_true _
      rw [en]
      have ih := fillK_sim (S := S) k { x with at_ := x.at_ + 1 } h0 (by show x.at_ + 1 + k ≤ 8 * S.size; omega)
      rw [holdAt_next] at ih
      have key : holdAt S x % 2 ^ (k + 1) = 2 * (holdAt S x / 2 % 2 ^ k) := by rw [em, hb]; exact Int.zero_add _
      rw [key]
      refine ⟨fun h => ?_, fun h => ih.2 (fun q => h (by rw [q]; rfl))⟩
      rw [ih.1 (by generalize holdAt S x / 2 % 2 ^ k = B at *; omega)]
      show { x with at_ := x.at_ + 1 + k } = { x with at_ := x.at_ + (k + 1) }
      rw [show x.at_ + 1 + k = x.at_ + (k + 1) by omega]
    · have h1 : holdAt S x % 2 = 1 := by omega
      have en : (needS { x with at_ := x.at_ + 1 } (holdAt S x % 2 == 0)).state = 2 := by
        rw [h1]
        unfold needS
        rw [if_pos ⟨h0, rfl⟩]
      refine ⟨fun h => ?_, fun _ => ?_⟩
      · exfalso
        rw [em, h1] at h
        generalize holdAt S x / 2 % 2 ^ k = B at *
        omega
      rw [fillK_stop S k (by rw [en]; omega), en]
theorem fill_sim {S : ByteArray} {x : Sr} (s : Rd) (h0 : x.state = 0) (hok : okAt S x) :
    (fillOk (setAt S x s) = true → (fillS S x).state = 0 ∧ fillTo (setAt S x s) = setAt S (fillS S x) s ∧ (fillS S x).at_ % 8 = 0 ∧ okAt S (fillS S x)) ∧
    (fillOk (setAt S x s) = false → (fillS S x).state = 2 ∧ fillTo (setAt S x s) = fault (setAt S x s)) := by
  unfold okAt at hok
  have ek : (haveAt S x % 8).toNat = (8 - x.at_ % 8) % 8 := by unfold haveAt; omega
  have hk : x.at_ + (8 - x.at_ % 8) % 8 ≤ 8 * S.size := by omega
  have sim := fillK_sim (S := S) ((8 - x.at_ % 8) % 8) x h0 hk
  have eo : fillOk (setAt S x s) = (holdAt S x % 2 ^ ((8 - x.at_ % 8) % 8) == 0) := by
    show (holdAt S x % 2 ^ (haveAt S x % 8).toNat == 0) = _
    rw [ek]
  constructor
  · intro h
    have hz : holdAt S x % 2 ^ ((8 - x.at_ % 8) % 8) = 0 := by rw [eo] at h; exact eq_of_beq h
    have ef : fillS S x = { x with at_ := x.at_ + (8 - x.at_ % 8) % 8 } := sim.1 hz
    rw [ef]
    refine ⟨h0, ?_, by show (x.at_ + (8 - x.at_ % 8) % 8) % 8 = 0; omega, hk⟩
    unfold fillTo
    rw [if_pos h]
    show { s with hold := holdAt S x / 2 ^ (haveAt S x % 8).toNat, have_ := haveAt S x - haveAt S x % 8 } = _
    rw [ek, ← holdAt_add]
    have e2 : haveAt S x - haveAt S x % 8 = haveAt S { x with at_ := x.at_ + (8 - x.at_ % 8) % 8 } := by
      unfold haveAt
      show (8 * (S.size : Int) - x.at_) - (8 * (S.size : Int) - x.at_) % 8 = 8 * (S.size : Int) - ((x.at_ + (8 - x.at_ % 8) % 8 : Nat) : Int)
      omega
    rw [e2]
    rfl
  · intro h
    have hz : holdAt S x % 2 ^ ((8 - x.at_ % 8) % 8) ≠ 0 := by
      rw [eo] at h
      intro q
      rw [q] at h
      cases h
    refine ⟨sim.2 hz, ?_⟩
    unfold fillTo
    rw [h]
    rfl

/- numbers -/
theorem num_go {S : ByteArray} {x : Sr} {s : Rd} {n : Nat} (hI : Inv (setAt S x s)) (h0 : x.state = 0) (h6 : s.part ≠ 6) (h8 : s.part ≠ 8) (hp : s.part ≤ 9) (hw : width s = n) (hn : (numS S x n).state = 0) :
    drive (setAt S x s) = drive (use (setAt S (numS S x n) s) (numV S x n)) ∧ Inv (use (setAt S (numS S x n) s) (numV S x n)) := by
  have hle : x.at_ + n ≤ 8 * S.size := by
    unfold numS at hn
    rw [if_neg (fun q => q h0)] at hn
    split at hn
    · assumption
    · cases hn
  have en : numS S x n = { x with at_ := x.at_ + n } := by unfold numS; rw [if_neg (fun q => q h0), if_pos hle]
  have ev : numV S x n = holdAt S x % 2 ^ n := by unfold numV holdAt; rw [if_neg (fun q => q h0)]
  have p := pow_pos2 n
  have r := drive_num (s := setAt S x s) hI (holdAt S x % 2 ^ n) (holdAt S x / 2 ^ n) n (haveAt S x - n) h6 h8 hp hw
    (by rw [Int.toNat_natCast]; exact (Int.emod_add_mul_ediv _ _).symm) (Int.emod_nonneg _ (by omega)) (by rw [Int.toNat_natCast]; exact Int.emod_lt_of_pos _ (by omega)) (by show haveAt S x = _; omega) (by unfold haveAt; omega)
  have e : ({ setAt S x s with hold := holdAt S x / 2 ^ n, have_ := haveAt S x - n } : Rd) = setAt S (numS S x n) s := by
    rw [en, ← holdAt_add]
    have e2 : haveAt S x - n = haveAt S { x with at_ := x.at_ + n } := by
      unfold haveAt
      show 8 * (S.size : Int) - x.at_ - n = 8 * (S.size : Int) - ((x.at_ + n : Nat) : Int)
      omega
    rw [e2]
    rfl
  rw [e, ← ev] at r
  exact r
theorem num_stuck {S : ByteArray} {x : Sr} {s : Rd} {n : Nat} (h0 : x.state = 0) (h6 : s.part ≠ 6) (h8 : s.part ≠ 8) (hp : s.part ≤ 9) (hw : width s = n) (hn : (numS S x n).state ≠ 0) :
    drive (setAt S x s) = setAt S x s ∧ (numS S x n).state = 1 := by
  have hle : ¬ x.at_ + n ≤ 8 * S.size := by
    intro q
    apply hn
    unfold numS
    rw [if_neg (fun q => q h0), if_pos q]
    exact h0
  have en : (numS S x n).state = 1 := by unfold numS; rw [if_neg (fun q => q h0), if_neg hle]
  refine ⟨drive_none ?_, en⟩
  have ep : peek (setAt S x s) = (holdAt S x % 2 ^ n, (n : Int)) := by
    rw [peek_number (s := setAt S x s) h6 h8]
    have ew : width (setAt S x s) = n := hw
    rw [ew, Int.toNat_natCast]
    rfl
  unfold step
  rw [if_neg (by show ¬ (s.part = 10 ∨ s.part = 11); omega), ep, if_pos]
  show haveAt S x < n
  unfold haveAt
  omega

/- symbols -/
theorem look_some {k : Nat} {m v : Int} : ∀ {ws : List Wd}, lookGo k m ws = some v → ∃ (p : Nat) (x : Wd), ws[p]? = some x ∧ x.len = k ∧ x.code = m ∧ x.sym = v
  | x :: l, h => by
    unfold lookGo at h
    split at h
    · rename_i q
      exact ⟨0, x, rfl, q.1, q.2, Option.some.inj h⟩
    · obtain ⟨p, y, h1, h2⟩ := look_some h
      exact ⟨p + 1, y, h1, h2⟩
theorem look_none {k : Nat} {m : Int} : ∀ {ws : List Wd}, lookGo k m ws = none → ∀ (p : Nat) (x : Wd), ws[p]? = some x → ¬ (x.len = k ∧ x.code = m)
  | y :: l, h, p, x, hx => by
    unfold lookGo at h
    split at h
    · cases h
    · rename_i q
      cases p with
      | zero =>
        have : y = x := Option.some.inj hx
        subst this
        exact q
      | succ p => exact look_none h p x hx
theorem look_code {cnt sym : Nat → Int} (lo : ∀ i, 0 ≤ cnt i) {k : Nat} {m : Int} (hk : k ≤ 12) (h1 : firstOf cnt k ≤ m) (h2 : m - firstOf cnt k < cnt k) :
    lookGo k m (codeWs cnt sym) = some (sym (aheadOf cnt k + m - firstOf cnt k).toNat) := by
  have a0 := ahead_nonneg lo k
  have a1 : aheadOf cnt (k + 1) = aheadOf cnt k + cnt k := rfl
  have hw := codeWs_at (sym := sym) lo (l := k) (p := (aheadOf cnt k + m - firstOf cnt k).toNat) hk (by omega) (by omega)
  cases h : lookGo k m (codeWs cnt sym) with
  | none =>
    exfalso
    exact look_none h _ _ hw ⟨rfl, by show firstOf cnt k + (((aheadOf cnt k + m - firstOf cnt k).toNat : Nat) - aheadOf cnt k) = m; omega⟩
  | some v =>
    obtain ⟨p, x, e1, e2, e3, e4⟩ := look_some h
    have hp : (p : Int) < aheadOf cnt 13 := by
      have := codeWs_length (sym := sym) lo
      have := (List.getElem?_eq_some_iff.1 e1).1
      omega
    obtain ⟨l, l1, l2, l3⟩ := ahead_find cnt p (by omega) 13 hp
    have e5 := codeWs_at (sym := sym) lo (show l ≤ 12 by omega) l2 l3
    rw [e1] at e5
    have e5 := Option.some.inj e5
    subst e5
    have e2 : l = k := e2
    subst e2
    have e3 : firstOf cnt l + ((p : Int) - aheadOf cnt l) = m := e3
    have e4 : sym p = v := e4
    rw [← e4]
    congr 2
    omega
theorem look_miss {cnt sym : Nat → Int} (lo : ∀ i, 0 ≤ cnt i) {k : Nat} {m : Int} (h : cnt k ≤ m - firstOf cnt k) : lookGo k m (codeWs cnt sym) = none := by
  cases hl : lookGo k m (codeWs cnt sym) with
  | none => rfl
  | some v =>
    exfalso
    obtain ⟨p, x, e1, e2, e3, _⟩ := look_some hl
    have hp : (p : Int) < aheadOf cnt 13 := by
      have := codeWs_length (sym := sym) lo
      have := (List.getElem?_eq_some_iff.1 e1).1
      omega
    obtain ⟨l, l1, l2, l3⟩ := ahead_find cnt p (by omega) 13 hp
    have e5 := codeWs_at (sym := sym) lo (show l ≤ 12 by omega) l2 l3
    rw [e1] at e5
    have e5 := Option.some.inj e5
    subst e5
    have e2 : l = k := e2
    subst e2
    have e3 : firstOf cnt l + ((p : Int) - aheadOf cnt l) = m := e3
    have a1 : aheadOf cnt (l + 1) = aheadOf cnt l + cnt l := rfl
    omega

theorem symGo_step {S : ByteArray} {ws : List Wd} {g k : Nat} {m : Int} {x : Sr} (h0 : x.state = 0) (hl : lookGo k m ws = none) (hk : x.at_ < 8 * S.size) (h12 : k + 1 ≤ 12) :
    symGo S ws (g + 1) k m x = symGo S ws g (k + 1) (2 * m + holdAt S x % 2) { x with at_ := x.at_ + 1 } := by
  have eb : bitS S x = { x with at_ := x.at_ + 1 } := by unfold bitS; rw [if_neg (fun q => q h0), if_neg (by omega)]
  have ev : bitV S x = holdAt S x % 2 := by unfold bitV holdAt; rw [if_neg (fun q => q h0), if_neg (by omega)]
  conv => lhs; unfold symGo
  rw [if_neg (fun q => q h0), hl]
  dsimp only
  rw [eb, ev, decide_eq_true h12, needS_true]
theorem symGo_reach {S : ByteArray} {ws : List Wd} {x : Sr} (h0 : x.state = 0) (H : Int) (hH : H = holdAt S x) : ∀ (k : Nat), k ≤ 12 → x.at_ + k ≤ 8 * S.size → (∀ j, j < k → lookGo j (msb H j) ws = none) → ∀ g, symGo S ws (g + k) 0 0 x = symGo S ws g k (msb H k) { x with at_ := x.at_ + k }
  | 0, _, _, _, _ => rfl
  | k + 1, h12, hle, hn, g => by
    have ih := symGo_reach (S := S) (ws := ws) h0 H hH k (by omega) (by omega) (fun j hj => hn j (by omega)) (g + 1)
    rw [show g + (k + 1) = g + 1 + k by omega, ih, symGo_step (x := { x with at_ := x.at_ + k }) h0 (hn k (by omega)) (by show x.at_ + k < _; omega) (by omega)]
    have e : holdAt S { x with at_ := x.at_ + k } = H / 2 ^ k := by
      rw [hH, ← holdAt_add]
      rfl
    rw [e]
    rfl
theorem sym_hit {S : ByteArray} {x : Sr} {cnt sym : Nat → Int} {N : Int} {l : Nat} (hc : Cod cnt sym N) (h0 : x.state = 0) (h : Hit cnt sym (holdAt S x) (haveAt S x) l) :
    symV S (codeWs cnt sym) x = (find cnt sym (holdAt S x) (haveAt S x)).1 ∧ symS S (codeWs cnt sym) x = { x with at_ := x.at_ + l } := by
  have l12 := h.l12
  have lh := h.lh
  unfold haveAt at lh
  have r := symGo_reach (S := S) (ws := codeWs cnt sym) h0 _ rfl l l12 (by omega) (fun j hj => look_miss hc.lo (h.before j hj)) (14 - l)
  rw [show 14 - l + l = 14 by omega] at r
  have e : symGo S (codeWs cnt sym) (14 - l) l (msb (holdAt S x) l) { x with at_ := x.at_ + l } = (sym (aheadOf cnt l + msb (holdAt S x) l - firstOf cnt l).toNat, { x with at_ := x.at_ + l }) := by
    rw [show 14 - l = 13 - l + 1 by omega]
    unfold symGo
    rw [if_neg (fun q => q h0), look_code hc.lo l12 h.ge h.lt]
  rw [e] at r
  unfold symV symS
  rw [r, h.eq]
  exact ⟨rfl, rfl⟩
theorem sym_miss {S : ByteArray} {x : Sr} {cnt sym : Nat → Int} {N : Int} (hc : Cod cnt sym N) (h0 : x.state = 0) (hok : okAt S x) (h : Miss cnt sym (holdAt S x) (haveAt S x)) :
    (symS S (codeWs cnt sym) x).state = 1 := by
  unfold okAt at hok
  have h11 := h.h11
  have hn := h.none
  unfold haveAt at h11 hn
  have r := symGo_reach (S := S) (ws := codeWs cnt sym) h0 _ rfl (8 * S.size - x.at_) (by omega) (by omega) (fun j hj => look_miss hc.lo (hn j (by omega))) (14 - (8 * S.size - x.at_))
  rw [show 14 - (8 * S.size - x.at_) + (8 * S.size - x.at_) = 14 by omega] at r
  unfold symS
  rw [r, show 14 - (8 * S.size - x.at_) = 12 - (8 * S.size - x.at_) + 1 + 1 by omega]
  unfold symGo
  rw [if_neg (fun q => q h0), look_miss hc.lo (hn _ (by omega))]
  dsimp only
  have eb : bitS S { x with at_ := x.at_ + (8 * S.size - x.at_) } = { x with at_ := x.at_ + (8 * S.size - x.at_), state := 1 } := by
    unfold bitS
    rw [if_neg (fun q => q h0), if_pos (by show 8 * S.size ≤ x.at_ + (8 * S.size - x.at_); omega)]
  rw [eb, needS_stop (by show (1 : Int) ≠ 0; omega)]
  unfold symGo
  rw [if_pos (by show (1 : Int) ≠ 0; omega)]
end Wr
/- A CODE IS READ: the document's and the reader's. No Go. -/
namespace Wr

theorem lay_set (S : ByteArray) (y : Sr) (s : Rd) (x n : Int) : lay (setAt S y s) x n = (setAt S y (lay s x n).1, (lay s x n).2) := by
  unfold lay
  have e1 : (setAt S y s).msize = s.msize := rfl
  have e2 : (setAt S y s).mat = s.mat := rfl
  have e3 : (setAt S y s).mlen = s.mlen := rfl
  have e4 : (setAt S y s).msym = s.msym := rfl
  rw [e1, e2, e3, e4]
  split
  · rfl
  · dsimp only
    split
    · rfl
    · split <;> rfl
theorem give_set (S : ByteArray) (y : Sr) (s : Rd) (x : Int) : give (setAt S y s) x = (setAt S y (give s x).1, (give s x).2) := by
  unfold give
  have e1 : (setAt S y s).mstep = s.mstep := rfl
  rw [e1]
  split
  · rfl
  split
  · rfl
  split
  · unfold nameP
    have e2 : (setAt S y s).msize = s.msize := rfl
    have e3 : (setAt S y s).mat = s.mat := rfl
    have e4 : (setAt S y s).msym = s.msym := rfl
    rw [e2, e3, e4]
    split
    · rfl
    split
    · rfl
    · dsimp only
      have e5 : (setAt S y s).mwanted = s.mwanted := rfl
      rw [e5]
      split <;> rfl
  split
  · unfold lengthP
    have e3 : (setAt S y s).mat = s.mat := rfl
    rw [e3]
    split
    · exact lay_set S y s x 1
    split <;> rfl
  · unfold times
    dsimp only
    have e3 : (setAt S y s).mrepeat = s.mrepeat := rfl
    rw [e3]
    split
    · exact lay_set S y { s with mstep := 3 } (before { s with mstep := 3 }) (3 + x)
    split
    · exact lay_set S y { s with mstep := 3 } 0 (3 + x)
    · exact lay_set S y { s with mstep := 3 } 0 (11 + x)
theorem useCode_set (S : ByteArray) (y : Sr) (s : Rd) (x : Int) : useCode (setAt S y s) x = setAt S y (useCode s x) := by
  unfold useCode
  rw [give_set]
  dsimp only
  have e1 : (setAt S y (give s x).1).part = (give s x).1.part := rfl
  rw [e1]
  split
  · rfl
  split
  · rfl
  split <;> rfl
theorem use_code (S : ByteArray) (y : Sr) (s : Rd) (x : Int) (hp : s.part = 4 ∨ s.part = 5) : use (setAt S y s) x = setAt S y (useCode s x) := by
  rw [← useCode_set]
  have ep : (setAt S y s).part = s.part := rfl
  unfold use
  rw [ep, if_neg (by omega), if_neg (by omega), if_neg (by omega), if_neg (by omega), if_pos hp]

/-- what making a code leaves alone -/
structure Alone (s t : Rd) : Prop where
  part : t.part = s.part
  last : t.last = s.last
  kind : t.kind = s.kind
  left : t.left = s.left
  lcnt : t.lcnt = s.lcnt
  lsym : t.lsym = s.lsym
  near : t.near = s.near
  ring : t.ring = s.ring
  at_ : t.at_ = s.at_
  window : t.window = s.window
  reach : t.reach = s.reach
  out : t.out = s.out
  msize : t.msize = s.msize
  mwidth : t.mwidth = s.mwidth
theorem Alone.refl (s : Rd) : Alone s s := ⟨rfl, rfl, rfl, rfl, rfl, rfl, rfl, rfl, rfl, rfl, rfl, rfl, rfl, rfl⟩
theorem Alone.trans {s t u : Rd} (h : Alone s t) (k : Alone t u) : Alone s u :=
  ⟨k.part.trans h.part, k.last.trans h.last, k.kind.trans h.kind, k.left.trans h.left, k.lcnt.trans h.lcnt, k.lsym.trans h.lsym, k.near.trans h.near, k.ring.trans h.ring, k.at_.trans h.at_, k.window.trans h.window, k.reach.trans h.reach, k.out.trans h.out, k.msize.trans h.msize, k.mwidth.trans h.mwidth⟩

/-- the code is made -/
def madeCode (t : Rd) : Rd := if t.part = 4 then { begin { t with lcnt := t.mcnt, lsym := t.msym } 16 4 with part := 5 } else { t with dcnt := t.mcnt, dsym := t.msym, part := 6 }
/-- what becomes of a code: stuck, wrong, or read -/
inductive CodeEnd (S : ByteArray) (s : Rd) (x : Sr) (y : Sr) (cnt sym : Nat → Int) : Prop
  | stuck (h : y.state = 1) (p : (drive (setAt S x s)).part ≤ 9) (o : (drive (setAt S x s)).out = s.out)
  | wrong (h : y.state = 2) (p : (drive (setAt S x s)).part = 11) (o : (drive (setAt S x s)).out = s.out)
  | read (h : y.state = 0) (t : Rd) (a : Alone s t) (c : t.mcnt = cnt) (m : ∀ p : Nat, (p : Int) < aheadOf cnt 13 → t.msym p = sym p)
      (d : drive (setAt S x s) = drive (setAt S y (madeCode t))) (i : Inv (setAt S y (madeCode t)))

theorem code_num {S : ByteArray} {x : Sr} {s : Rd} {n : Nat} (hI : Inv (setAt S x s)) (h0 : x.state = 0) (hp : s.part = 4 ∨ s.part = 5) (hw : mWidth s = n) :
    ((numS S x n).state = 0 ∧ drive (setAt S x s) = drive (setAt S (numS S x n) (useCode s (numV S x n))) ∧ Inv (setAt S (numS S x n) (useCode s (numV S x n)))) ∨
    ((numS S x n).state = 1 ∧ drive (setAt S x s) = setAt S x s) := by
  have ew : width s = n := by
    unfold width
    rw [if_neg (by omega), if_neg (by omega), if_neg (by omega), if_pos hp]
    exact hw
  by_cases hn : (numS S x n).state = 0
  · left
    have r := num_go hI h0 (by omega) (by omega) (by omega) ew hn
    rw [use_code S _ s _ hp] at r
    exact ⟨hn, r.1, r.2⟩
  · right
    have r := num_stuck (S := S) h0 (by omega) (by omega) (by omega) ew hn
    exact ⟨r.2, r.1⟩
theorem fault_end {S : ByteArray} {x : Sr} {s : Rd} : (drive (setAt S x (fault s))).part = 11 ∧ (drive (setAt S x (fault s))).out = s.out := by
  rw [drive_stop (s := setAt S x (fault s)) (Or.inr rfl)]
  exact ⟨rfl, rfl⟩
theorem useCode_wrong {s t : Rd} {v : Int} (h : give s v = (t, 2)) : useCode s v = fault t := by
  unfold useCode
  rw [h]
  rfl
theorem useCode_more2 {s t : Rd} {v : Int} (h : give s v = (t, 0)) : useCode s v = t := by
  unfold useCode
  rw [h]
  rfl
theorem useCode_made {s t : Rd} {v : Int} (h : give s v = (t, 1)) : useCode s v = madeCode t := by
  unfold useCode madeCode
  rw [h]
  rfl

/- names -/
structure NameAt (s : Rd) (N : Nat) (sz : Nat) (i k : Nat) (nm : Nat → Int) : Prop where
  part : s.part = 4 ∨ s.part = 5
  step : s.mstep = 2
  size : s.msize = N
  width : s.mwidth = sz
  at_ : s.mat = i
  wanted : s.mwanted = (i + k : Nat)
  sym : ∀ p, p < i → s.msym p = nm p
theorem ahead_simple {n : Nat} (h1 : 1 ≤ n) (h4 : n ≤ 4) : aheadOf (simpleCnt n) 13 = n := by
  rcases (show n = 1 ∨ n = 2 ∨ n = 3 ∨ n = 4 by omega) with rfl | rfl | rfl | rfl <;> decide
theorem names_sim {S : ByteArray} {N sz : Nat} (hN : N ≤ 272) : ∀ (k i : Nat) (nm : Nat → Int) (x : Sr) (s : Rd), Inv (setAt S x s) → x.state = 0 → NameAt s N sz i (k + 1) nm → i + (k + 1) ≤ 4 →
    CodeEnd S s x (nameGo S N sz (k + 1) i nm x).2 (simpleCnt (i + (k + 1) : Nat)) (nameGo S N sz (k + 1) i nm x).1
  | k, i, nm, x, s, hI, h0, hs, h4 => by
    have hw : mWidth s = sz := by
      unfold mWidth
      rw [hs.step]
      exact hs.width
    have ha := hs.at_
    have hz := hs.size
    have hwt := hs.wanted
    unfold nameGo
    rcases code_num hI h0 hs.part hw with ⟨hn, hd, hi⟩ | ⟨hn, hd⟩
    · have hv := numV_bounds S x sz
      have eg : give s (numV S x sz) = nameP s (numV S x sz) := by
        unfold give
        rw [hs.step]
        rfl
      by_cases hok : befN nm i < numV S x sz ∧ numV S x sz < N
      · rw [decide_eq_true hok, needS_true, if_neg (fun q => q hn)]
        have hb := hok.1
        unfold befN at hb
        have c1 : ¬ (s.msize ≤ numV S x sz ∨ 272 ≤ s.mat) := by rw [hz, ha]; omega
        have c2 : ¬ (0 < s.mat ∧ numV S x sz ≤ s.msym (s.mat - 1).toNat) := by
          rw [ha]
          rintro ⟨q1, q2⟩
          have hi0 : i ≠ 0 := by omega
          rw [show ((i : Int) - 1).toNat = i - 1 by omega, hs.sym (i - 1) (by omega)] at q2
          rw [if_neg hi0] at hb
          omega
        have eu : ∀ p, p < i + 1 → upd s.msym s.mat.toNat (numV S x sz) p = upd nm i (numV S x sz) p := by
          intro p hp
          rw [ha, Int.toNat_natCast]
          unfold upd
          split
          · rfl
          · exact hs.sym p (by omega)
        cases k with
        | zero =>
          have e : give s (numV S x sz) = ({ s with msym := upd s.msym s.mat.toNat (numV S x sz), mat := s.mat + 1, mcnt := simpleCnt s.mwanted }, 1) := by
            rw [eg]
            unfold nameP
            rw [if_neg c1, if_neg c2]
            dsimp only
            rw [if_neg (by omega)]
          rw [useCode_made e] at hd hi
          refine CodeEnd.read hn { s with msym := upd s.msym s.mat.toNat (numV S x sz), mat := s.mat + 1, mcnt := simpleCnt s.mwanted } ⟨rfl, rfl, rfl, rfl, rfl, rfl, rfl, rfl, rfl, rfl, rfl, rfl, rfl, rfl⟩ ?_ ?_ hd hi
          · show simpleCnt s.mwanted = _
            rw [hwt]
          · intro p hp
            rw [ahead_simple (by omega) h4] at hp
            show upd s.msym s.mat.toNat (numV S x sz) p = upd nm i (numV S x sz) p
            exact eu p (by omega)
        | succ k =>
          have e : give s (numV S x sz) = ({ s with msym := upd s.msym s.mat.toNat (numV S x sz), mat := s.mat + 1 }, 0) := by
            rw [eg]
            unfold nameP
            rw [if_neg c1, if_neg c2]
            dsimp only
            rw [if_pos (by omega)]
          rw [useCode_more2 e] at hd hi
          have ih := names_sim hN k (i + 1) (upd nm i (numV S x sz)) (numS S x sz) _ hi hn ⟨hs.part, hs.step, hs.size, hs.width, by show s.mat + 1 = ((i + 1 : Nat) : Int); omega, by show s.mwanted = ((i + 1 + (k + 1) : Nat) : Int); omega, eu⟩ (by omega)
          rw [show i + 1 + (k + 1) = i + (k + 1 + 1) by omega] at ih
          cases ih with
          | stuck h p o => exact .stuck h (by rw [hd]; exact p) (by rw [hd]; exact o)
          | wrong h p o => exact .wrong h (by rw [hd]; exact p) (by rw [hd]; exact o)
          | read h t a c m d i2 => exact .read h t ⟨a.part, a.last, a.kind, a.left, a.lcnt, a.lsym, a.near, a.ring, a.at_, a.window, a.reach, a.out, a.msize, a.mwidth⟩ c m (hd.trans d) i2
      · have hst : (needS (numS S x sz) false).state = 2 := by
          unfold needS
          rw [if_pos ⟨hn, rfl⟩]
        rw [decide_eq_false hok, if_pos (by rw [hst]; omega)]
        have e : give s (numV S x sz) = (s, 2) := by
          rw [eg]
          unfold nameP
          by_cases c1 : s.msize ≤ numV S x sz ∨ 272 ≤ s.mat
          · rw [if_pos c1]
          · rw [if_neg c1, if_pos]
            rw [hz, ha] at c1
            have hnb : ¬ befN nm i < numV S x sz := fun q => hok ⟨q, by omega⟩
            unfold befN at hnb
            by_cases hi0 : i = 0
            · rw [if_pos hi0] at hnb; omega
            · rw [if_neg hi0] at hnb
              rw [ha, show ((i : Int) - 1).toNat = i - 1 by omega, hs.sym (i - 1) (by omega)]
              omega
        rw [useCode_wrong e] at hd
        have f := fault_end (S := S) (x := numS S x sz) (s := s)
        exact .wrong hst (by rw [hd]; exact f.1) (by rw [hd]; exact f.2)
    · rw [needS_stop (by rw [hn]; omega), if_pos (by rw [hn]; omega)]
      exact .stuck hn (by rw [hd]; show s.part ≤ 9; have := hs.part; omega) (by rw [hd]; rfl)
end Wr
/- FULL CODES: the document's and the reader's. No Go. -/
namespace Wr

theorem count_congr {f g : Nat → Int} : ∀ {n : Nat}, (∀ j, j < n → f j = g j) → countGo f n = countGo g n
  | 0, _ => rfl
  | n + 1, h => by
    have ih := count_congr (f := f) (g := g) (n := n) (fun j hj => h j (by omega))
    unfold countGo
    rw [ih, h n (by omega)]
theorem order_congr {cnt sym f g : Nat → Int} : ∀ {n : Nat}, (∀ j, j < n → f j = g j) → orderGo cnt sym f n = orderGo cnt sym g n
  | 0, _ => rfl
  | n + 1, h => by
    have ih := order_congr (cnt := cnt) (sym := sym) (f := f) (g := g) (n := n) (fun j hj => h j (by omega))
    unfold orderGo
    rw [ih, h n (by omega)]
theorem order_any (f sym sym' : Nat → Int) (n : Nat) (hn : n ≤ 272) (p : Nat) (hp : (p : Int) < aheadOf (countGo f n).1 13) :
    (orderGo (countGo f n).1 sym f n).1 p = (orderGo (countGo f n).1 sym' f n).1 p := by
  obtain ⟨l, h1, h2, h3⟩ := ahead_find _ (p : Int) (by omega) 13 hp
  have e : aheadOf (countGo f n).1 (l + 1) = aheadOf (countGo f n).1 l + (countGo f n).1 l := rfl
  have c := count_occ f n l
  have hl : 1 ≤ l ∧ l ≤ 12 := by
    by_cases hl0 : 1 ≤ l ∧ l ≤ 12
    · exact hl0
    · rw [if_neg hl0] at c; omega
  rw [if_pos hl] at c
  obtain ⟨i, i1, i2, i3⟩ := occ_find f l ((p : Int) - aheadOf (countGo f n).1 l) (by omega) n (by omega)
  have s1 := (order_spec f sym n hn n (Nat.le_refl n)).2 i i1 (by omega) (by omega)
  have s2 := (order_spec f sym' n hn n (Nat.le_refl n)).2 i i1 (by omega) (by omega)
  have ep : placeOf (countGo f n).1 f i = p := by
    unfold placeOf
    rw [i2, i3, show ((l : Int)).toNat = l by omega]
    omega
  rw [ep, Int.toNat_natCast] at s1 s2
  rw [s1, s2]

/-- what a step of the maker comes to -/
def codeRd (r : Rd × Int) : Rd := if r.2 = 2 then fault r.1 else if r.2 = 0 then r.1 else madeCode r.1
theorem useCode_of (s : Rd) (v : Int) : useCode s v = codeRd (give s v) := rfl

structure FullAt (s : Rd) (N n : Nat) (f : Nat → Int) : Prop where
  part : s.part = 4 ∨ s.part = 5
  step : s.mstep = 3
  size : s.msize = N
  at_ : s.mat = n
  len : ∀ p, p < n → s.mlen p = f p
def fullEndS (S : ByteArray) (N g : Nat) (f : Nat → Int) (n : Nat) (x : Sr) : Sr := needS (fullGo S N g f n x).2.2 (decide ((countGo (fullGo S N g f n x).1 (fullGo S N g f n x).2.1).2 = 4096))
def fullEndC (S : ByteArray) (N g : Nat) (f : Nat → Int) (n : Nat) (x : Sr) : Nat → Int := (countGo (fullGo S N g f n x).1 (fullGo S N g f n x).2.1).1
def fullEndM (S : ByteArray) (N g : Nat) (f : Nat → Int) (n : Nat) (x : Sr) : Nat → Int := (orderGo (fullEndC S N g f n x) (fun _ => 0) (fullGo S N g f n x).1 (fullGo S N g f n x).2.1).1

theorem end_stop {S : ByteArray} {N g : Nat} {f : Nat → Int} {n : Nat} {x : Sr} {r : (Nat → Int) × Nat × Sr} (h : fullGo S N g f n x = r) (hs : r.2.2.state ≠ 0) : fullEndS S N g f n x = r.2.2 := by
  unfold fullEndS
  rw [h, needS_stop hs]
theorem full_stop {S : ByteArray} {N : Nat} (g : Nat) (f : Nat → Int) (n : Nat) {y : Sr} (h : ¬ (n < N ∧ y.state = 0)) : fullGo S N g f n y = (f, n, y) := by
  cases g with
  | zero => rfl
  | succ g => unfold fullGo; rw [if_neg h]
theorem full_step {S : ByteArray} {N g : Nat} {f : Nat → Int} {n : Nat} {y : Sr} {V : Int} {T : Nat} {y2 : Sr} (hn : n < N) (h0 : y.state = 0) (hR : fullOne S f n y = (V, (T : Int), y2)) :
    fullGo S N (g + 1) f n y = if (needS y2 (decide ((n : Int) + T ≤ N))).state = 0 then fullGo S N g (fillLen f n V T) (n + T) (needS y2 (decide ((n : Int) + T ≤ N))) else (f, n, needS y2 (decide ((n : Int) + T ≤ N))) := by
  conv => lhs; unfold fullGo
  rw [if_pos ⟨hn, h0⟩, hR]
  rfl

/-- a step of lengths, once it is read -/
theorem lay_sim {S : ByteArray} {N g : Nat} (hN : N ≤ 272) {f : Nat → Int} {n : Nat} {x x2 : Sr} {s s2 : Rd} {V : Int} {T : Nat} (hn : n < N) (h0 : x.state = 0) (h2 : x2.state = 0) (hR : fullOne S f n x = (V, (T : Int), x2))
    (hal : Alone s s2) (hF : FullAt s2 N n f) (hd : drive (setAt S x s) = drive (setAt S x2 (codeRd (lay s2 V T)))) (hi : Inv (setAt S x2 (codeRd (lay s2 V T)))) (hT : 1 ≤ T)
    (ih : ∀ t, Inv (setAt S x2 t) → FullAt t N (n + T) (fillLen f n V T) → n + T < N → CodeEnd S t x2 (fullEndS S N g (fillLen f n V T) (n + T) x2) (fullEndC S N g (fillLen f n V T) (n + T) x2) (fullEndM S N g (fillLen f n V T) (n + T) x2)) :
    CodeEnd S s x (fullEndS S N (g + 1) f n x) (fullEndC S N (g + 1) f n x) (fullEndM S N (g + 1) f n x) := by
  have hz := hF.size
  have ha := hF.at_
  have step := full_step (g := g) hn h0 hR
  by_cases hle : (n : Int) + T ≤ N
  · have hle2 : n + T ≤ N := by omega
    rw [decide_eq_true hle, needS_true, if_pos h2] at step
    have eS : fullEndS S N (g + 1) f n x = fullEndS S N g (fillLen f n V T) (n + T) x2 := by unfold fullEndS; rw [step]
    have eC : fullEndC S N (g + 1) f n x = fullEndC S N g (fillLen f n V T) (n + T) x2 := by unfold fullEndC; rw [step]
    have eM : fullEndM S N (g + 1) f n x = fullEndM S N g (fillLen f n V T) (n + T) x2 := by unfold fullEndM; rw [eC, step]
    rw [eS, eC, eM]
    have hlen : ∀ p, p < n + T → fillLen s2.mlen s2.mat.toNat V ((T : Int)).toNat p = fillLen f n V T p := by
      intro p hp
      rw [ha, Int.toNat_natCast, Int.toNat_natCast]
      unfold fillLen
      split
      · rfl
      · exact hF.len p (by omega)
    have nle : ¬ (s2.msize < s2.mat + (T : Int) ∨ 272 < s2.mat + (T : Int)) := by rw [hz, ha]; omega
    by_cases hlt : n + T < N
    · have el : lay s2 V T = ({ s2 with mlen := fillLen s2.mlen s2.mat.toNat V ((T : Int)).toNat, mat := s2.mat + T }, 0) := by
        unfold lay
        rw [if_neg nle]
        dsimp only
        rw [if_pos (by rw [hz, ha]; omega)]
      rw [el] at hd hi
      have r := ih { s2 with mlen := fillLen s2.mlen s2.mat.toNat V ((T : Int)).toNat, mat := s2.mat + T } hi ⟨hF.part, hF.step, hz, by show s2.mat + T = _; omega, hlen⟩ hlt
      have hd2 : drive (setAt S x s) = drive (setAt S x2 { s2 with mlen := fillLen s2.mlen s2.mat.toNat V ((T : Int)).toNat, mat := s2.mat + T }) := hd
      cases r with
      | stuck h p o => exact .stuck h (by rw [hd2]; exact p) (by rw [hd2]; exact o.trans hal.out)
      | wrong h p o => exact .wrong h (by rw [hd2]; exact p) (by rw [hd2]; exact o.trans hal.out)
      | read h t a c m d i => exact .read h t (hal.trans ⟨a.part, a.last, a.kind, a.left, a.lcnt, a.lsym, a.near, a.ring, a.at_, a.window, a.reach, a.out, a.msize, a.mwidth⟩) c m (hd2.trans d) i
    · have heq : n + T = N := by omega
      have st := full_stop (S := S) (N := N) g (fillLen f n V T) (n + T) (y := x2) (fun q => hlt q.1)
      have cc := count_congr hlen
      have hm : (s2.mat + (T : Int)).toNat = n + T := by omega
      by_cases hq : (countGo (fillLen f n V T) (n + T)).2 = 4096
      · have el : lay s2 V T = ({ s2 with mlen := fillLen s2.mlen s2.mat.toNat V ((T : Int)).toNat, mat := s2.mat + T, mcnt := (countGo (fillLen f n V T) (n + T)).1, msym := (orderGo (countGo (fillLen f n V T) (n + T)).1 s2.msym (fillLen s2.mlen s2.mat.toNat V ((T : Int)).toNat) (n + T)).1 }, 1) := by
          unfold lay
          rw [if_neg nle]
          dsimp only
          rw [if_neg (by rw [hz, ha]; omega), hm, cc, if_pos hq]
        rw [el] at hd hi
        have es : fullEndS S N g (fillLen f n V T) (n + T) x2 = x2 := by
          unfold fullEndS
          rw [st]
          dsimp only
          rw [decide_eq_true hq, needS_true]
        rw [es]
        have ec : fullEndC S N g (fillLen f n V T) (n + T) x2 = (countGo (fillLen f n V T) (n + T)).1 := by unfold fullEndC; rw [st]
        have em : fullEndM S N g (fillLen f n V T) (n + T) x2 = (orderGo (countGo (fillLen f n V T) (n + T)).1 (fun _ => 0) (fillLen f n V T) (n + T)).1 := by unfold fullEndM; rw [ec, st]
        rw [ec, em]
        refine .read h2 { s2 with mlen := fillLen s2.mlen s2.mat.toNat V ((T : Int)).toNat, mat := s2.mat + T, mcnt := (countGo (fillLen f n V T) (n + T)).1, msym := (orderGo (countGo (fillLen f n V T) (n + T)).1 s2.msym (fillLen s2.mlen s2.mat.toNat V ((T : Int)).toNat) (n + T)).1 } ⟨hal.part, hal.last, hal.kind, hal.left, hal.lcnt, hal.lsym, hal.near, hal.ring, hal.at_, hal.window, hal.reach, hal.out, hal.msize, hal.mwidth⟩ rfl (fun p hp => ?_) hd hi
        show (orderGo (countGo (fillLen f n V T) (n + T)).1 s2.msym (fillLen s2.mlen s2.mat.toNat V ((T : Int)).toNat) (n + T)).1 p = _
        rw [order_congr hlen]
        exact order_any _ _ _ (n + T) (by omega) p hp
      · have el : lay s2 V T = ({ s2 with mlen := fillLen s2.mlen s2.mat.toNat V ((T : Int)).toNat, mat := s2.mat + T, mcnt := (countGo (fillLen f n V T) (n + T)).1 }, 2) := by
          unfold lay
          rw [if_neg nle]
          dsimp only
          rw [if_neg (by rw [hz, ha]; omega), hm, cc, if_neg hq]
        rw [el] at hd
        have es : (fullEndS S N g (fillLen f n V T) (n + T) x2).state = 2 := by
          unfold fullEndS
          rw [st]
          dsimp only
          rw [decide_eq_false hq]
          unfold needS
          rw [if_pos ⟨h2, rfl⟩]
        have fe := fault_end (S := S) (x := x2) (s := { s2 with mlen := fillLen s2.mlen s2.mat.toNat V ((T : Int)).toNat, mat := s2.mat + T, mcnt := (countGo (fillLen f n V T) (n + T)).1 })
        have hd2 : drive (setAt S x s) = drive (setAt S x2 (fault { s2 with mlen := fillLen s2.mlen s2.mat.toNat V ((T : Int)).toNat, mat := s2.mat + T, mcnt := (countGo (fillLen f n V T) (n + T)).1 })) := hd
        exact .wrong es (by rw [hd2]; exact fe.1) (by rw [hd2]; exact fe.2.trans hal.out)
  · have hst : (needS x2 false).state = 2 := by
      unfold needS
      rw [if_pos ⟨h2, rfl⟩]
    rw [decide_eq_false hle, if_neg (by rw [hst]; omega)] at step
    have el : lay s2 V T = (s2, 2) := by
      unfold lay
      rw [if_pos (by rw [hz, ha]; omega)]
    rw [el] at hd
    have hd2 : drive (setAt S x s) = drive (setAt S x2 (fault s2)) := hd
    have fe := fault_end (S := S) (x := x2) (s := s2)
    have es := end_stop step (by show (needS x2 false).state ≠ 0; rw [hst]; omega)
    exact .wrong (by rw [es]; exact hst) (by rw [hd2]; exact fe.1) (by rw [hd2]; exact fe.2.trans hal.out)
end Wr
/- A CODE, WHOLE: the document's and the reader's. No Go. -/
namespace Wr

theorem numS_off {S : ByteArray} {x : Sr} (h : x.state ≠ 0) (n : Nat) : numS S x n = x := by unfold numS; rw [if_pos h]
theorem fullOne_halt {S : ByteArray} {f : Nat → Int} {n : Nat} {x : Sr} (h : (numS S x 4).state ≠ 0) : (fullOne S f n x).2.2 = numS S x 4 := by
  unfold fullOne
  split
  · dsimp only
    rw [needS_stop h, numS_off h]
  · split
    · dsimp only
      rw [numS_off h]
    · split
      · dsimp only
        rw [numS_off h]
      · rfl
theorem full_end {S : ByteArray} {N g : Nat} {f : Nat → Int} {n : Nat} {x y : Sr} (hn : n < N) (h0 : x.state = 0) (he : (fullOne S f n x).2.2 = y) (hy : y.state ≠ 0) : fullEndS S N (g + 1) f n x = y := by
  have st : fullGo S N (g + 1) f n x = (f, n, y) := by
    conv => lhs; unfold fullGo
    rw [if_pos ⟨hn, h0⟩, he, needS_stop hy, if_neg hy]
  exact end_stop st hy

theorem full_sim {S : ByteArray} {N : Nat} (hN : N ≤ 272) : ∀ (g : Nat) (f : Nat → Int) (n : Nat) (x : Sr) (s : Rd), N < n + g → n < N → Inv (setAt S x s) → x.state = 0 → FullAt s N n f →
    CodeEnd S s x (fullEndS S N g f n x) (fullEndC S N g f n x) (fullEndM S N g f n x)
  | 0, _, n, _, _, h, hn, _, _, _ => absurd h (by omega)
  | g + 1, f, n, x, s, hg, hn, hI, h0, hs => by
    have hp := hs.part
    have w4 : mWidth s = ((4 : Nat) : Int) := by
      unfold mWidth
      rw [hs.step]
      rfl
    rcases code_num hI h0 hp w4 with ⟨hn4, hd, hi⟩ | ⟨hn4, hd⟩
    · have cb := numV_bounds S x 4
      rw [show (2 : Int) ^ 4 = 16 from rfl] at cb
      have eg : give s (numV S x 4) = lengthP s (numV S x 4) := by
        unfold give
        rw [hs.step]
        rfl
      by_cases c12 : numV S x 4 ≤ 12
      · have hR : fullOne S f n x = (numV S x 4, ((1 : Nat) : Int), numS S x 4) := by
          unfold fullOne
          rw [if_neg (by omega), if_neg (by omega), if_neg (by omega)]
          rfl
        have e : give s (numV S x 4) = lay s (numV S x 4) ((1 : Nat) : Int) := by
          rw [eg]
          unfold lengthP
          rw [if_pos c12]
          rfl
        rw [useCode_of, e] at hd hi
        exact lay_sim hN hn h0 hn4 hR (Alone.refl s) hs hd hi (by omega) (fun t ht hF hlt => full_sim hN g _ _ _ t (by omega) hlt ht hn4 hF)
      · by_cases c13 : numV S x 4 = 13 ∧ n = 0
        · have hst : (needS (numS S x 4) false).state = 2 := by
            unfold needS
            rw [if_pos ⟨hn4, rfl⟩]
          have e : give s (numV S x 4) = (s, 2) := by
            rw [eg]
            unfold lengthP
            rw [if_neg c12, if_pos ⟨c13.1, by rw [hs.at_, c13.2]; rfl⟩]
          have he : (fullOne S f n x).2.2 = needS (numS S x 4) false := by
            unfold fullOne
            rw [if_pos c13.1, decide_eq_false (by omega)]
            dsimp only
            exact numS_off (by rw [hst]; omega) 2
          rw [useCode_wrong e] at hd
          have fe := fault_end (S := S) (x := numS S x 4) (s := s)
          have es := full_end (g := g) hn h0 he (by rw [hst]; omega)
          exact .wrong (by rw [es]; exact hst) (by rw [hd]; exact fe.1) (by rw [hd]; exact fe.2)
        · have e : give s (numV S x 4) = ({ s with mrepeat := numV S x 4, mstep := 4 }, 0) := by
            rw [eg]
            unfold lengthP
            rw [if_neg c12, if_neg (fun q => c13 ⟨q.1, by have := q.2; rw [hs.at_] at this; omega⟩)]
          rw [useCode_more2 e] at hd hi
          have key : ∀ (k : Nat) (V base : Int), 1 ≤ base → mWidth { s with mrepeat := numV S x 4, mstep := 4 } = k → (∀ v : Int, times { s with mrepeat := numV S x 4, mstep := 4 } v = lay { s with mrepeat := numV S x 4, mstep := 3 } V (base + v)) →
              fullOne S f n x = (V, base + numV S (numS S x 4) k, numS S (numS S x 4) k) → CodeEnd S s x (fullEndS S N (g + 1) f n x) (fullEndC S N (g + 1) f n x) (fullEndM S N (g + 1) f n x) := by
            intro k V base hb hw ht hR
            have vb := numV_bounds S (numS S x 4) k
            rcases code_num (s := { s with mrepeat := numV S x 4, mstep := 4 }) hi hn4 hp hw with ⟨hk, hd2, hi2⟩ | ⟨hk, hd2⟩
            · have e2 : give { s with mrepeat := numV S x 4, mstep := 4 } (numV S (numS S x 4) k) = lay { s with mrepeat := numV S x 4, mstep := 3 } V (base + numV S (numS S x 4) k) := ht _
              rw [useCode_of, e2] at hd2 hi2
              obtain ⟨T, hT⟩ : ∃ T : Nat, base + numV S (numS S x 4) k = (T : Int) := ⟨(base + numV S (numS S x 4) k).toNat, by omega⟩
              rw [hT] at hd2 hi2 hR
              exact lay_sim hN hn h0 hk hR (s2 := { s with mrepeat := numV S x 4, mstep := 3 }) ⟨rfl, rfl, rfl, rfl, rfl, rfl, rfl, rfl, rfl, rfl, rfl, rfl, rfl, rfl⟩ ⟨hs.part, rfl, hs.size, hs.at_, hs.len⟩ (hd.trans hd2) hi2 (by omega) (fun t ht hF hlt => full_sim hN g _ _ _ t (by omega) hlt ht hk hF)
            · have es := full_end (g := g) hn h0 (by rw [hR]) (show (numS S (numS S x 4) k).state ≠ 0 by rw [hk]; omega)
              exact .stuck (by rw [es]; exact hk) (by rw [hd, hd2]; show s.part ≤ 9; omega) (by rw [hd, hd2]; rfl)
          by_cases d13 : numV S x 4 = 13
          · have hn0 : 0 < n := by
              rcases Nat.eq_zero_or_pos n with q | q
              · exact absurd ⟨d13, q⟩ c13
              · exact q
            refine key 2 (f (n - 1)) 3 (by omega) ?_ ?_ ?_
            · unfold mWidth
              show (if (4 : Int) = 0 then (1 : Int) else if (4 : Int) = 1 then 2 else if (4 : Int) = 2 then s.mwidth else if (4 : Int) = 3 then 4 else if numV S x 4 = 13 then 2 else if numV S x 4 = 14 then 3 else 6) = _
              rw [if_neg (by omega), if_neg (by omega), if_neg (by omega), if_neg (by omega), if_pos d13]
              rfl
            · intro v
              unfold times
              dsimp only
              rw [if_pos d13]
              have hbf : before { s with mrepeat := numV S x 4, mstep := 3 } = f (n - 1) := by
                unfold before
                show (if s.mat < 1 ∨ 272 < s.mat then 0 else s.mlen (s.mat - 1).toNat) = _
                rw [if_neg (by rw [hs.at_]; omega), hs.at_, show ((n : Int) - 1).toNat = n - 1 by omega, hs.len (n - 1) (by omega)]
              rw [hbf]
            · unfold fullOne
              rw [if_pos d13, decide_eq_true hn0, needS_true, if_pos hn0]
          · by_cases d14 : numV S x 4 = 14
            · refine key 3 0 3 (by omega) ?_ ?_ ?_
              · unfold mWidth
                show (if (4 : Int) = 0 then (1 : Int) else if (4 : Int) = 1 then 2 else if (4 : Int) = 2 then s.mwidth else if (4 : Int) = 3 then 4 else if numV S x 4 = 13 then 2 else if numV S x 4 = 14 then 3 else 6) = _
                rw [if_neg (by omega), if_neg (by omega), if_neg (by omega), if_neg (by omega), if_neg d13, if_pos d14]
                rfl
              · intro v
                unfold times
                dsimp only
                rw [if_neg d13, if_pos d14]
              · unfold fullOne
                rw [if_neg d13, if_pos d14]
            · refine key 6 0 11 (by omega) ?_ ?_ ?_
              · unfold mWidth
                show (if (4 : Int) = 0 then (1 : Int) else if (4 : Int) = 1 then 2 else if (4 : Int) = 2 then s.mwidth else if (4 : Int) = 3 then 4 else if numV S x 4 = 13 then 2 else if numV S x 4 = 14 then 3 else 6) = _
                rw [if_neg (by omega), if_neg (by omega), if_neg (by omega), if_neg (by omega), if_neg d13, if_neg d14]
                rfl
              · intro v
                unfold times
                dsimp only
                rw [if_neg d13, if_neg d14]
              · unfold fullOne
                rw [if_neg d13, if_neg d14, if_pos (by omega)]
    · have es := full_end (g := g) (f := f) hn h0 (fullOne_halt (by rw [hn4]; omega)) (by rw [hn4]; omega)
      exact .stuck (by rw [es]; exact hn4) (by rw [hd]; show s.part ≤ 9; omega) (by rw [hd]; rfl)

theorem bit_num {S : ByteArray} {x : Sr} (hok : okAt S x) : bitS S x = numS S x 1 ∧ bitV S x = numV S x 1 := by
  have h1 := numS_succ hok 0
  have h2 := numV_succ hok 0
  rw [numS_zero hok] at h1 h2
  rw [numV_zero] at h2
  refine ⟨h1.symm, ?_⟩
  rw [h2, Int.pow_zero]
  omega
/-- a maker that begins -/
structure BeginAt (s : Rd) (N sz : Nat) : Prop where
  part : s.part = 4 ∨ s.part = 5
  step : s.mstep = 0
  size : s.msize = N
  width : s.mwidth = sz
  at_ : s.mat = 0
theorem CodeEnd.from {S : ByteArray} {s t : Rd} {x y z : Sr} {cnt sym : Nat → Int} (h : CodeEnd S t y z cnt sym) (hd : drive (setAt S x s) = drive (setAt S y t)) (ha : Alone s t) : CodeEnd S s x z cnt sym := by
  cases h with
  | stuck h p o => exact .stuck h (by rw [hd]; exact p) (by rw [hd]; exact o.trans ha.out)
  | wrong h p o => exact .wrong h (by rw [hd]; exact p) (by rw [hd]; exact o.trans ha.out)
  | read h u a c m d i => exact .read h u (ha.trans a) c m (hd.trans d) i
theorem code_sim {S : ByteArray} {N sz : Nat} (hN : N ≤ 272) (hN1 : 1 ≤ N) {x : Sr} {s : Rd} (hI : Inv (setAt S x s)) (h0 : x.state = 0) (hok : okAt S x) (hs : BeginAt s N sz) :
    CodeEnd S s x (codeS S N sz x) (codeC S N sz x).1 (codeC S N sz x).2 := by
  obtain ⟨eb, ev⟩ := bit_num hok
  have vb := numV_bounds S x 1
  rw [show (2 : Int) ^ 1 = 2 from rfl] at vb
  have hp := hs.part
  have w1 : mWidth s = ((1 : Nat) : Int) := by
    unfold mWidth
    rw [hs.step]
    rfl
  have eg : give s (numV S x 1) = ({ s with mstep := if numV S x 1 = 1 then 3 else 1 }, 0) := by
    unfold give
    rw [hs.step]
    rfl
  rcases code_num hI h0 hp w1 with ⟨hn, hd, hi⟩ | ⟨hn, hd⟩
  · rw [useCode_more2 eg] at hd hi
    unfold codeS codeC
    rw [eb, ev]
    by_cases hb : numV S x 1 = 0
    · rw [if_pos hb, if_pos hb]
      rw [hb] at hd hi
      have hd1 : drive (setAt S x s) = drive (setAt S (numS S x 1) { s with mstep := 1 }) := hd
      have hi1 : Inv (setAt S (numS S x 1) { s with mstep := 1 }) := hi
      have nb := numV_bounds S (numS S x 1) 2
      rw [show (2 : Int) ^ 2 = 4 from rfl] at nb
      have w2 : mWidth { s with mstep := 1 } = ((2 : Nat) : Int) := rfl
      have eg2 : give { s with mstep := 1 } (numV S (numS S x 1) 2) = ({ s with mwanted := numV S (numS S x 1) 2 + 1, mstep := 2 }, 0) := rfl
      rcases code_num (s := { s with mstep := 1 }) hi1 hn hp w2 with ⟨hn2, hd2, hi2⟩ | ⟨hn2, hd2⟩
      · rw [useCode_more2 eg2] at hd2 hi2
        obtain ⟨k, hk⟩ : ∃ k : Nat, numV S (numS S x 1) 2 + 1 = ((0 + (k + 1) : Nat) : Int) := ⟨(numV S (numS S x 1) 2).toNat, by omega⟩
        have r := names_sim hN k 0 (fun _ => 0) (numS S (numS S x 1) 2) { s with mwanted := numV S (numS S x 1) 2 + 1, mstep := 2 } hi2 hn2 ⟨hs.part, rfl, hs.size, hs.width, hs.at_, hk, fun p hp => absurd hp (by omega)⟩ (by omega)
        have e1 : simpR S N sz (numS S x 1) = nameGo S N sz (k + 1) 0 (fun _ => 0) (numS S (numS S x 1) 2) := by
          unfold simpR
          rw [hk, Int.toNat_natCast, Nat.zero_add]
        have e2 : simpC S N sz (numS S x 1) = (simpleCnt ((0 + (k + 1) : Nat) : Int), (nameGo S N sz (k + 1) 0 (fun _ => 0) (numS S (numS S x 1) 2)).1) := by
          unfold simpC
          rw [e1, hk]
        rw [e1, e2]
        exact r.from (hd1.trans hd2) ⟨rfl, rfl, rfl, rfl, rfl, rfl, rfl, rfl, rfl, rfl, rfl, rfl, rfl, rfl⟩
      · have es : (simpR S N sz (numS S x 1)).2 = numS S (numS S x 1) 2 := by
          unfold simpR
          obtain ⟨k, hk⟩ : ∃ k : Nat, (numV S (numS S x 1) 2 + 1).toNat = k + 1 := ⟨(numV S (numS S x 1) 2).toNat, by omega⟩
          rw [hk]
          unfold nameGo
          have hne : (numS S (numS S x 1) 2).state ≠ 0 := by rw [hn2]; omega
          rw [numS_off hne, needS_stop hne, if_pos hne]
        rw [es]
        exact .stuck hn2 (by rw [hd1, hd2]; show s.part ≤ 9; omega) (by rw [hd1, hd2]; rfl)
    · have h1 : numV S x 1 = 1 := by omega
      rw [if_neg hb, if_neg hb]
      rw [h1] at hd hi
      have r := full_sim hN (N + 1) (fun _ => 0) 0 (numS S x 1) { s with mstep := 3 } (by omega) (by omega) hi hn ⟨hs.part, rfl, hs.size, hs.at_, fun p hp => absurd hp (by omega)⟩
      exact r.from hd ⟨rfl, rfl, rfl, rfl, rfl, rfl, rfl, rfl, rfl, rfl, rfl, rfl, rfl, rfl⟩
  · have hne : (numS S x 1).state ≠ 0 := by rw [hn]; omega
    have v0 : bitV S (numS S x 1) = 0 := by unfold bitV; rw [if_pos hne]
    have es : (codeS S N sz x).state = 1 := by
      unfold codeS
      rw [eb]
      split
      · unfold simpR
        rw [numS_off hne]
        obtain ⟨k, hk⟩ : ∃ k : Nat, (numV S (numS S x 1) 2 + 1).toNat = k + 1 := ⟨(numV S (numS S x 1) 2).toNat, by have := numV_bounds S (numS S x 1) 2; omega⟩
        rw [hk]
        unfold nameGo
        rw [numS_off hne, needS_stop hne, if_pos hne]
        exact hn
      · unfold fullS fullR
        rw [full_stop (N + 1) (fun _ => 0) 0 (fun q => hne q.2)]
        dsimp only
        rw [needS_stop hne]
        exact hn
    exact .stuck es (by rw [hd]; show s.part ≤ 9; omega) (by rw [hd]; rfl)
end Wr
/- COMMANDS: the document's and the reader's. No Go. -/
namespace Wr

/-- what has come out, and the distances -/
structure Mat (d : Dr) (s : Rd) : Prop where
  out : s.out = d.out
  ring : RingOk s d.out
  near : ∀ i, i < 4 → s.near i = d.far i
  window : s.window = 16 * 2 ^ d.x.w.toNat
  w1 : s.window ≤ 4096

theorem setAt_put (S : ByteArray) (x : Sr) (s : Rd) (c : Int) : put (setAt S x s) c = setAt S x (put s c) := rfl
theorem setAt_copy (S : ByteArray) (x : Sr) (d : Int) : ∀ (n : Nat) (s : Rd), copyGo n (setAt S x s) d = setAt S x (copyGo n s d)
  | 0, _ => rfl
  | n + 1, s => by
    show copyGo n (put (setAt S x s) (agoP (setAt S x s) d)) d = _
    have e : agoP (setAt S x s) d = agoP s d := rfl
    rw [e, setAt_put, setAt_copy S x d n]
    rfl
theorem Mat.put {d : Dr} {s : Rd} (h : Mat d s) (c : Int) (y : Sr) (hw : y.w = d.x.w) : Mat { d with x := y, out := d.out ++ [c] } (put s c) := by
  have w0 : 0 ≤ s.window := by rw [h.window]; have := pow_pos2 d.x.w.toNat; omega
  refine ⟨?_, put_ring h.ring c h.w1 w0, h.near, ?_, h.w1⟩
  · show s.out ++ [c] = d.out ++ [c]
    rw [h.out]
  · show s.window = 16 * 2 ^ y.w.toNat
    rw [hw]
    exact h.window
theorem copy_fields (d : Int) : ∀ (n : Nat) (s : Rd), (copyGo n s d).near = s.near ∧ (copyGo n s d).window = s.window ∧ (copyGo n s d).last = s.last ∧ (copyGo n s d).kind = s.kind ∧ (copyGo n s d).part = s.part
  | 0, _ => ⟨rfl, rfl, rfl, rfl, rfl⟩
  | n + 1, s => by
    have ih := copy_fields d n (Wr.put s (agoP s d))
    exact ih
theorem copy_left (d : Int) : ∀ (n : Nat) (s : Rd), (copyGo n s d).left = s.left - n ∧ (copyGo n s d).lcnt = s.lcnt ∧ (copyGo n s d).lsym = s.lsym ∧ (copyGo n s d).dcnt = s.dcnt ∧ (copyGo n s d).dsym = s.dsym
  | 0, s => ⟨by show s.left = s.left - 0; omega, rfl, rfl, rfl, rfl⟩
  | n + 1, s => by
    have ih := copy_left d n (Wr.put s (agoP s d))
    refine ⟨?_, ih.2⟩
    show (copyGo n (Wr.put s (agoP s d)) d).left = _
    rw [ih.1]
    show s.left - 1 - n = _
    omega
theorem Mat.copy {d : Dr} {s : Rd} (h : Mat d s) (a n : Nat) (y : Sr) (F : Nat → Int) (hw : y.w = d.x.w) (h1 : 1 ≤ a) (h2 : (a : Int) ≤ s.reach) (hF : ∀ i, i < 4 → s.near i = F i) :
    Mat { d with x := y, out := copyList a n d.out, far := F } (copyGo n s a) := by
  have w0 : 0 ≤ s.window := by rw [h.window]; have := pow_pos2 d.x.w.toNat; omega
  have cr := copy_ring a h1 n s d.out h.ring h2 h.w1 w0
  have cf := copy_fields a n s
  refine ⟨?_, cr.1, fun i hi => ?_, ?_, by rw [cf.2.1]; exact h.w1⟩
  · have := cr.2 [] (by rw [h.out]; rfl)
    show (copyGo n s a).out = copyList a n d.out
    rw [this]
    rfl
  · rw [cf.1]
    exact hF i hi
  · show (copyGo n s a).window = 16 * 2 ^ y.w.toNat
    rw [cf.2.1, hw]
    exact h.window

/-- what becomes of commands -/
inductive CmdEnd (S : ByteArray) (s : Rd) (x : Sr) (e : Dr) : Prop
  | stuck (h : e.x.state = 1) (p : (drive (setAt S x s)).part ≤ 9) (o : (drive (setAt S x s)).out = e.out)
  | wrong (h : e.x.state = 2) (p : (drive (setAt S x s)).part = 11) (o : (drive (setAt S x s)).out = e.out)
  | read (h : e.x.state = 0) (t : Rd) (hl : t.last = s.last) (m : Mat e t) (d : drive (setAt S x s) = drive (endBlock (setAt S e.x t))) (i : Inv (endBlock (setAt S e.x t)))
theorem CmdEnd.from {S : ByteArray} {s t : Rd} {x y : Sr} {e : Dr} (h : CmdEnd S t y e) (hd : drive (setAt S x s) = drive (setAt S y t)) (hl : t.last = s.last) : CmdEnd S s x e := by
  cases h with
  | stuck h p o => exact .stuck h (by rw [hd]; exact p) (by rw [hd]; exact o)
  | wrong h p o => exact .wrong h (by rw [hd]; exact p) (by rw [hd]; exact o)
  | read h u l m d i => exact .read h u (l.trans hl) m (hd.trans d) i

/-- the reader at a command -/
structure CmdAt (s : Rd) (d : Dr) (left : Int) (lw dw : List Wd) : Prop where
  left : s.left = left
  mat : Mat d s
  lw : codeWs s.lcnt s.lsym = lw
  dw : codeWs s.dcnt s.dsym = dw
  cl : Cod s.lcnt s.lsym 272
  cd : Cod s.dcnt s.dsym 16

theorem sym_step {S : ByteArray} {x : Sr} {s : Rd} {cnt sym : Nat → Int} {N : Int} (hc : Cod cnt sym N) (hpk : peek (setAt S x s) = find cnt sym (holdAt S x) (haveAt S x)) (hp : s.part ≤ 9) (hI : Inv (setAt S x s)) (h0 : x.state = 0) (hok : okAt S x) :
    ((symS S (codeWs cnt sym) x).state = 0 ∧ drive (setAt S x s) = drive (use (setAt S (symS S (codeWs cnt sym) x) s) (symV S (codeWs cnt sym) x)) ∧ Inv (use (setAt S (symS S (codeWs cnt sym) x) s) (symV S (codeWs cnt sym) x))) ∨
    ((symS S (codeWs cnt sym) x).state = 1 ∧ drive (setAt S x s) = setAt S x s) := by
  have hh : 0 ≤ haveAt S x := by unfold haveAt; unfold okAt at hok; omega
  rcases find_cases hc (holdAt S x) (haveAt S x) hh with ⟨l, hit⟩ | miss
  · left
    obtain ⟨e1, e2⟩ := sym_hit hc h0 hit
    have lh := hit.lh
    have ef : find cnt sym (holdAt S x) (haveAt S x) = ((find cnt sym (holdAt S x) (haveAt S x)).1, (l : Int)) := by rw [hit.eq]
    rw [ef] at hpk
    have r := drive_sym hI (find cnt sym (holdAt S x) (haveAt S x)).1 l (holdAt S x / 2 ^ l) (haveAt S x - l) hpk hp rfl (by show haveAt S x = _; omega) (by omega)
    have e : ({ setAt S x s with hold := holdAt S x / 2 ^ l, have_ := haveAt S x - l } : Rd) = setAt S { x with at_ := x.at_ + l } s := by
      rw [← holdAt_add]
      have e2 : haveAt S x - l = haveAt S { x with at_ := x.at_ + l } := by
        unfold haveAt
        show 8 * (S.size : Int) - x.at_ - l = 8 * (S.size : Int) - ((x.at_ + l : Nat) : Int)
        omega
      rw [e2]
      rfl
    rw [e, ← e1] at r
    rw [e2]
    exact ⟨h0, r.1, r.2⟩
  · right
    refine ⟨sym_miss hc h0 hok miss, drive_none ?_⟩
    unfold step
    rw [if_neg (by show ¬ (s.part = 10 ∨ s.part = 11); omega), hpk, miss.eq, if_pos]
    show haveAt S x < haveAt S x + 1
    omega
end Wr
/- A COPY, AND A CODED BLOCK's COMMANDS: the document's and the reader's. No Go. -/
namespace Wr

/-- what becomes of a copy -/
inductive CopyEnd (S : ByteArray) (s7 s : Rd) (x : Sr) (n left : Int) (e : Dr) : Prop
  | stuck (h : e.x.state = 1) (p : (drive (setAt S x s7)).part ≤ 9) (o : (drive (setAt S x s7)).out = e.out)
  | wrong (h : e.x.state = 2) (p : (drive (setAt S x s7)).part = 11) (o : (drive (setAt S x s7)).out = e.out)
  | read (h : e.x.state = 0) (t : Rd) (hl : t.last = s.last) (hle : t.left = left - n) (m : Mat e t) (c1 : t.lcnt = s.lcnt) (c2 : t.lsym = s.lsym) (c3 : t.dcnt = s.dcnt) (c4 : t.dsym = s.dsym)
      (d : drive (setAt S x s7) = drive (endCommand (setAt S e.x t))) (i : Inv (endCommand (setAt S e.x t)))

theorem symS_off {S : ByteArray} {ws : List Wd} {x : Sr} (h : x.state ≠ 0) : symS S ws x = x ∧ symV S ws x = 0 := by
  have e : symGo S ws 14 0 0 x = (0, x) := by
    unfold symGo
    rw [if_pos h]
  unfold symS symV
  rw [e]
  exact ⟨rfl, rfl⟩
theorem copy_off1 {S : ByteArray} {dw : List Wd} {k : Nat} {left : Int} {d : Dr} (h : (copyX S k d.x).state ≠ 0) : (copyS S dw k left d).state = (copyX S k d.x).state := by
  obtain ⟨e1, e2⟩ := symS_off (S := S) (ws := dw) h
  unfold copyS copyDd
  rw [e1, e2]
  unfold awayS
  rw [if_pos (by omega), needS_stop h]
theorem copy_off2 {S : ByteArray} {dw : List Wd} {k : Nat} {left : Int} {d : Dr} (h : (symS S dw (copyX S k d.x)).state ≠ 0) : (copyS S dw k left d).state = (symS S dw (copyX S k d.x)).state := by
  have e : awayS S (copyDd S dw k d.x) (symS S dw (copyX S k d.x)) = symS S dw (copyX S k d.x) := by
    unfold awayS
    split
    · rfl
    · exact numS_off h _
  unfold copyS
  rw [e, needS_stop h]
theorem copyD_off {S : ByteArray} {dw : List Wd} {k : Nat} {left : Int} {d : Dr} (h : (copyS S dw k left d).state ≠ 0) : copyD S dw k left d = (0, { d with x := copyS S dw k left d }) := by
  unfold copyD
  rw [if_pos h]

/-- the end of a copy -/
theorem useCopy_sim {S : ByteArray} {dw : List Wd} {k : Nat} {left : Int} {d : Dr} {s u : Rd} {x : Sr} {s7 : Rd}
    (hm : Mat d s) (hu : Mat d { u with near := s.near }) (hun : ∀ i, i < 4 → u.near i = (if copyDd S dw k d.x = 0 then d.far else nearAdd d.far (copyAway S dw k d)) i) (ho : u.out = s.out) (hle : u.left = left) (hlen : u.length = copyN S k d.x)
    (hlast : u.last = s.last) (c1 : u.lcnt = s.lcnt) (c2 : u.lsym = s.lsym) (c3 : u.dcnt = s.dcnt) (c4 : u.dsym = s.dsym) (hn : 3 ≤ copyN S k d.x) (ha : 1 ≤ copyAway S dw k d)
    (h3 : (awayS S (copyDd S dw k d.x) (symS S dw (copyX S k d.x))).state = 0) (hw : (awayS S (copyDd S dw k d.x) (symS S dw (copyX S k d.x))).w = d.x.w)
    (hd : drive (setAt S x s7) = drive (useCopy (setAt S (awayS S (copyDd S dw k d.x) (symS S dw (copyX S k d.x))) u) (copyAway S dw k d)))
    (hi : Inv (useCopy (setAt S (awayS S (copyDd S dw k d.x) (symS S dw (copyX S k d.x))) u) (copyAway S dw k d))) :
    CopyEnd S s7 s x (copyD S dw k left d).1 left (copyD S dw k left d).2 := by
  have hr := hu.ring.reach
  have hwin := hu.window
  have hr : u.reach = if (d.out.length : Int) ≤ u.window then (d.out.length : Int) else u.window := hr
  have hwin : u.window = 16 * 2 ^ d.x.w.toNat := hwin
  by_cases hok : copyOk d.x.w d.out.length (copyAway S dw k d) (copyN S k d.x) left = true
  · have hc := of_decide_eq_true hok
    have hc1 : copyAway S dw k d ≤ u.reach := by rw [hr, hwin]; split <;> omega
    have es : copyS S dw k left d = awayS S (copyDd S dw k d.x) (symS S dw (copyX S k d.x)) := by
      unfold copyS
      rw [hok, needS_true]
    have eD : copyD S dw k left d = (copyN S k d.x, { d with x := copyS S dw k left d, far := if copyDd S dw k d.x = 0 then d.far else nearAdd d.far (copyAway S dw k d), out := copyList (copyAway S dw k d).toNat (copyN S k d.x).toNat d.out }) := by
      unfold copyD
      rw [if_neg (by rw [es, h3]; omega)]
    rw [eD]
    have eu : useCopy (setAt S (awayS S (copyDd S dw k d.x) (symS S dw (copyX S k d.x))) u) (copyAway S dw k d) = endCommand (setAt S (copyS S dw k left d) (copyGo (copyN S k d.x).toNat u (copyAway S dw k d))) := by
      unfold useCopy
      have e1 : (setAt S (awayS S (copyDd S dw k d.x) (symS S dw (copyX S k d.x))) u).reach = u.reach := rfl
      have e2 : (setAt S (awayS S (copyDd S dw k d.x) (symS S dw (copyX S k d.x))) u).left = u.left := rfl
      have e3 : (setAt S (awayS S (copyDd S dw k d.x) (symS S dw (copyX S k d.x))) u).length = u.length := rfl
      rw [e1, e2, e3, hle, hlen, if_neg (by omega), setAt_copy, es]
    rw [eu] at hd hi
    have cl := copy_left (copyAway S dw k d) (copyN S k d.x).toNat u
    have cf := copy_fields (copyAway S dw k d) (copyN S k d.x).toNat u
    have hA : ((copyAway S dw k d).toNat : Int) = copyAway S dw k d := by omega
    have w0 : 0 ≤ u.window := by rw [hwin]; have := pow_pos2 d.x.w.toNat; omega
    have hring : RingOk u d.out := ⟨hu.ring.at_, hu.ring.ring, hu.ring.reach⟩
    have cr := copy_ring (copyAway S dw k d).toNat (by omega) (copyN S k d.x).toNat u d.out hring (by omega) hu.w1 w0
    rw [hA] at cr
    refine .read (by show (copyS S dw k left d).state = 0; rw [es]; exact h3) (copyGo (copyN S k d.x).toNat u (copyAway S dw k d)) (cf.2.2.1.trans hlast) ?_ ⟨?_, cr.1, fun i hi => ?_, ?_, ?_⟩ (cl.2.1.trans c1) (cl.2.2.1.trans c2) (cl.2.2.2.1.trans c3) (cl.2.2.2.2.trans c4) hd hi
    · rw [cl.1, hle]
      show left - ((copyN S k d.x).toNat : Int) = left - copyN S k d.x
      omega
    · have := cr.2 [] (by rw [ho, hm.out]; rfl)
      show _ = copyList (copyAway S dw k d).toNat (copyN S k d.x).toNat d.out
      rw [this]
      rfl
    · rw [cf.1]
      exact hun i hi
    · show _ = 16 * 2 ^ (copyS S dw k left d).w.toNat
      rw [cf.2.1, es, hw]
      exact hwin
    · rw [cf.2.1]
      exact hu.w1
  · have hok2 : copyOk d.x.w d.out.length (copyAway S dw k d) (copyN S k d.x) left = false := by
      cases h : copyOk d.x.w d.out.length (copyAway S dw k d) (copyN S k d.x) left
      · rfl
      · exact absurd h hok
    have hc := of_decide_eq_false hok2
    have es : (copyS S dw k left d).state = 2 := by
      unfold copyS
      rw [hok2]
      unfold needS
      rw [if_pos ⟨h3, rfl⟩]
    rw [copyD_off (by rw [es]; omega)]
    have eu : useCopy (setAt S (awayS S (copyDd S dw k d.x) (symS S dw (copyX S k d.x))) u) (copyAway S dw k d) = setAt S (awayS S (copyDd S dw k d.x) (symS S dw (copyX S k d.x))) (fault u) := by
      unfold useCopy
      have e1 : (setAt S (awayS S (copyDd S dw k d.x) (symS S dw (copyX S k d.x))) u).reach = u.reach := rfl
      have e2 : (setAt S (awayS S (copyDd S dw k d.x) (symS S dw (copyX S k d.x))) u).left = u.left := rfl
      have e3 : (setAt S (awayS S (copyDd S dw k d.x) (symS S dw (copyX S k d.x))) u).length = u.length := rfl
      rw [e1, e2, e3, hle, hlen, if_pos]
      · rfl
      · rw [hr, hwin]
        split <;> omega
    rw [eu] at hd
    have fe := fault_end (S := S) (x := awayS S (copyDd S dw k d.x) (symS S dw (copyX S k d.x))) (s := u)
    exact .wrong es (by rw [hd]; exact fe.1) (by rw [hd]; show _ = d.out; rw [fe.2, ho, hm.out])
end Wr
namespace Wr

theorem use7 (S : ByteArray) (y : Sr) (s : Rd) (v : Int) (hp : s.part = 7) : use (setAt S y s) v = setAt S y { s with length := s.least + v, part := 8 } := by
  have ep : (setAt S y s).part = 7 := hp
  unfold use
  rw [ep]
  rfl
theorem use8 (S : ByteArray) (y : Sr) (s : Rd) (v : Int) (hp : s.part = 8) : use (setAt S y s) v = useDistance (setAt S y s) v := by
  have ep : (setAt S y s).part = 8 := hp
  unfold use
  rw [ep]
  rfl
theorem use9 (S : ByteArray) (y : Sr) (s : Rd) (v : Int) (hp : s.part = 9) : use (setAt S y s) v = useCopy (setAt S y { s with near := nearAdd s.near (s.least + v) }) (s.least + v) := by
  unfold use
  have ep : (setAt S y s).part = s.part := rfl
  rw [ep, if_neg (by omega), if_neg (by omega), if_neg (by omega), if_neg (by omega), if_neg (by omega), if_neg (by omega), if_neg (by omega), if_neg (by omega), if_pos hp]
  rfl
theorem near_same {f g : Nat → Int} (h : ∀ i, i < 4 → f i = g i) (a : Int) : ∀ i, i < 4 → nearAdd f a i = nearAdd g a i := by
  intro i hi
  unfold nearAdd
  split
  · rfl
  · first
      | exact h (i - 1) (by omega)
      | (rw [if_pos hi, if_pos hi]; exact h (i - 1) (by omega))

/-- a copy, from behind its letter on -/
theorem copy_sim {S : ByteArray} {dw : List Wd} {k : Nat} {left : Int} {d : Dr} {s s7 : Rd} (hk : k ≤ 15) (h0 : d.x.state = 0) (hok : okAt S d.x)
    (hm : Mat d s) (hle : s.left = left) (hdw : codeWs s.dcnt s.dsym = dw) (hcd : Cod s.dcnt s.dsym 16) (hfar : ∀ i, i < 4 → 1 ≤ d.far i ∧ d.far i ≤ 4095)
    (e7 : s7 = { s with least := lenLeast k, more := lenMore k, part := 7 }) (hI : Inv (setAt S d.x s7)) :
    CopyEnd S s7 s d.x (copyD S dw k left d).1 left (copyD S dw k left d).2 := by
  subst hdw
  have nb := copyN_bounds S hk d.x
  have hsym := codeWs_sym hcd
  have ab := away_bounds (S := S) (k := k) hsym hfar
  have hdb : 0 ≤ copyDd S (codeWs s.dcnt s.dsym) k d.x ∧ copyDd S (codeWs s.dcnt s.dsym) k d.x < 16 := symV_bounds (N := 16) (by omega) hsym _
  have wd : width s7 = ((k - 7 : Nat) : Int) := by
    subst e7
    show lenMore k = _
    unfold lenMore
    split <;> omega
  have hp7 : s7.part = 7 := by subst e7; rfl
  have ho7 : s7.out = s.out := by subst e7; rfl
  by_cases h1 : (numS S d.x (k - 7)).state = 0
  · obtain ⟨d1, i1⟩ := num_go hI h0 (by omega) (by omega) (by omega) wd h1
    rw [use7 S _ s7 _ hp7] at d1 i1
    have hX : numS S d.x (k - 7) = copyX S k d.x := rfl
    have hok1 : okAt S (copyX S k d.x) := numS_ok hok _
    rw [hX] at d1 i1 h1
    have e8 : ({ s7 with length := s7.least + numV S d.x (k - 7), part := 8 } : Rd) = { s with least := lenLeast k, more := lenMore k, length := copyN S k d.x, part := 8 } := by
      subst e7
      rfl
    rw [e8] at d1 i1
    have hpk : peek (setAt S (copyX S k d.x) { s with least := lenLeast k, more := lenMore k, length := copyN S k d.x, part := 8 }) = find s.dcnt s.dsym (holdAt S (copyX S k d.x)) (haveAt S (copyX S k d.x)) := rfl
    rcases sym_step hcd hpk (by show (8 : Int) ≤ 9; omega) i1 h1 hok1 with ⟨h2, d2, i2⟩ | ⟨h2, d2⟩
    · rw [use8 S _ _ _ rfl] at d2 i2
      have hD : symV S (codeWs s.dcnt s.dsym) (copyX S k d.x) = copyDd S (codeWs s.dcnt s.dsym) k d.x := rfl
      rw [hD] at d2 i2
      have hw2 : (symS S (codeWs s.dcnt s.dsym) (copyX S k d.x)).w = d.x.w := (symS_w _ _ _).trans (numS_w _ _ _)
      have hwA : (awayS S (copyDd S (codeWs s.dcnt s.dsym) k d.x) (symS S (codeWs s.dcnt s.dsym) (copyX S k d.x))).w = d.x.w := (awayS_w _ _ _).trans hw2
      by_cases h4 : copyDd S (codeWs s.dcnt s.dsym) k d.x < 4
      · have eA : awayS S (copyDd S (codeWs s.dcnt s.dsym) k d.x) (symS S (codeWs s.dcnt s.dsym) (copyX S k d.x)) = symS S (codeWs s.dcnt s.dsym) (copyX S k d.x) := by
          unfold awayS
          rw [if_pos h4]
        have eV : copyAway S (codeWs s.dcnt s.dsym) k d = s.near (copyDd S (codeWs s.dcnt s.dsym) k d.x).toNat := by
          unfold copyAway awayV
          rw [if_pos h4, hm.near _ (by omega)]
        refine useCopy_sim (u := { s with least := lenLeast k, more := lenMore k, length := copyN S k d.x, part := 8, near := if 0 < copyDd S (codeWs s.dcnt s.dsym) k d.x then nearAdd s.near (copyAway S (codeWs s.dcnt s.dsym) k d) else s.near }) hm ⟨hm.out, ⟨hm.ring.at_, hm.ring.ring, hm.ring.reach⟩, hm.near, hm.window, hm.w1⟩ ?_ rfl hle rfl rfl rfl rfl rfl rfl nb.1 ab.1 (by rw [eA]; exact h2) hwA ?_ ?_
        · intro i hi
          dsimp only
          by_cases hz : copyDd S (codeWs s.dcnt s.dsym) k d.x = 0
          · rw [if_neg (by omega), if_pos hz]
            exact hm.near i hi
          · rw [if_pos (by omega), if_neg hz]
            exact near_same hm.near _ i hi
        · rw [d1, d2, eA, eV]
          unfold useDistance
          rw [if_pos h4]
          by_cases hz : 0 < copyDd S (codeWs s.dcnt s.dsym) k d.x
          · rw [if_pos hz, if_pos hz]
            rfl
          · rw [if_neg hz, if_neg hz]
            rfl
        · rw [eA, eV]
          unfold useDistance at i2
          rw [if_pos h4] at i2
          by_cases hz : 0 < copyDd S (codeWs s.dcnt s.dsym) k d.x
          · rw [if_pos hz] at i2
            rw [if_pos hz]
            exact i2
          · rw [if_neg hz] at i2
            rw [if_neg hz]
            exact i2
      · have e9 : useDistance (setAt S (symS S (codeWs s.dcnt s.dsym) (copyX S k d.x)) { s with least := lenLeast k, more := lenMore k, length := copyN S k d.x, part := 8 }) (copyDd S (codeWs s.dcnt s.dsym) k d.x) = setAt S (symS S (codeWs s.dcnt s.dsym) (copyX S k d.x)) { s with least := distLeast (copyDd S (codeWs s.dcnt s.dsym) k d.x), more := distMore (copyDd S (codeWs s.dcnt s.dsym) k d.x), length := copyN S k d.x, part := 9 } := by
          unfold useDistance
          rw [if_neg h4]
          rfl
        rw [e9] at d2 i2
        have w9 : width { s with least := distLeast (copyDd S (codeWs s.dcnt s.dsym) k d.x), more := distMore (copyDd S (codeWs s.dcnt s.dsym) k d.x), length := copyN S k d.x, part := 9 } = (((copyDd S (codeWs s.dcnt s.dsym) k d.x - 4).toNat : Nat) : Int) := by
          show distMore _ = _
          unfold distMore
          rw [if_neg h4]
          omega
        have eA : awayS S (copyDd S (codeWs s.dcnt s.dsym) k d.x) (symS S (codeWs s.dcnt s.dsym) (copyX S k d.x)) = numS S (symS S (codeWs s.dcnt s.dsym) (copyX S k d.x)) (copyDd S (codeWs s.dcnt s.dsym) k d.x - 4).toNat := by
          unfold awayS
          rw [if_neg h4]
        by_cases h3 : (numS S (symS S (codeWs s.dcnt s.dsym) (copyX S k d.x)) (copyDd S (codeWs s.dcnt s.dsym) k d.x - 4).toNat).state = 0
        · obtain ⟨d3, i3⟩ := num_go i2 h2 (by show (9 : Int) ≠ 6; omega) (by show (9 : Int) ≠ 8; omega) (by show (9 : Int) ≤ 9; omega) w9 h3
          rw [use9 S _ _ _ rfl] at d3 i3
          have eV : copyAway S (codeWs s.dcnt s.dsym) k d = distLeast (copyDd S (codeWs s.dcnt s.dsym) k d.x) + numV S (symS S (codeWs s.dcnt s.dsym) (copyX S k d.x)) (copyDd S (codeWs s.dcnt s.dsym) k d.x - 4).toNat := by
            unfold copyAway awayV distLeast
            rw [if_neg h4, if_neg h4]
          refine useCopy_sim (u := { s with least := distLeast (copyDd S (codeWs s.dcnt s.dsym) k d.x), more := distMore (copyDd S (codeWs s.dcnt s.dsym) k d.x), length := copyN S k d.x, part := 9, near := nearAdd s.near (copyAway S (codeWs s.dcnt s.dsym) k d) }) hm ⟨hm.out, ⟨hm.ring.at_, hm.ring.ring, hm.ring.reach⟩, hm.near, hm.window, hm.w1⟩ ?_ rfl hle rfl rfl rfl rfl rfl rfl nb.1 ab.1 (by rw [eA]; exact h3) hwA ?_ ?_
          · intro i hi
            dsimp only
            rw [if_neg (by omega)]
            exact near_same hm.near _ i hi
          · rw [d1, d2, d3, eA, eV]
          · rw [eA, eV]
            exact i3
        · obtain ⟨d3, h3'⟩ := num_stuck (S := S) h2 (by show (9 : Int) ≠ 6; omega) (by show (9 : Int) ≠ 8; omega) (by show (9 : Int) ≤ 9; omega) w9 h3
          have es : (copyS S (codeWs s.dcnt s.dsym) k left d).state = 1 := by
            unfold copyS
            rw [eA, needS_stop h3]
            exact h3'
          rw [copyD_off (by rw [es]; omega)]
          exact .stuck es (by rw [d1, d2, d3]; show (9 : Int) ≤ 9; omega) (by rw [d1, d2, d3]; exact hm.out)
    · have es : (copyS S (codeWs s.dcnt s.dsym) k left d).state = 1 := (copy_off2 (by rw [h2]; omega)).trans h2
      rw [copyD_off (by rw [es]; omega)]
      exact .stuck es (by rw [d1, d2]; show (8 : Int) ≤ 9; omega) (by rw [d1, d2]; exact hm.out)
  · obtain ⟨d1, h1'⟩ := num_stuck (S := S) h0 (by omega) (by omega) (by omega) wd h1
    have es : (copyS S (codeWs s.dcnt s.dsym) k left d).state = 1 := (copy_off1 h1).trans h1'
    rw [copyD_off (by rw [es]; omega)]
    exact .stuck es (by rw [d1]; show s7.part ≤ 9; omega) (by rw [d1]; show s7.out = d.out; rw [ho7, hm.out])
end Wr
/- A CODED BLOCK: the document's and the reader's. No Go. -/
namespace Wr

theorem endCommand_set (S : ByteArray) (x : Sr) (t : Rd) : endCommand (setAt S x t) = if t.left = 0 then endBlock (setAt S x { t with part := 6 }) else setAt S x { t with part := 6 } := rfl
theorem Mat.part {d : Dr} {s : Rd} (h : Mat d s) (p : Int) : Mat d { s with part := p } := ⟨h.out, ⟨h.ring.at_, h.ring.ring, h.ring.reach⟩, h.near, h.window, h.w1⟩

theorem coded_stop {S : ByteArray} {lw dw : List Wd} (g : Nat) {left : Int} {d : Dr} (h : ¬ (0 < left ∧ d.x.state = 0)) : codedGo S lw dw g left d = d := by
  cases g with
  | zero => rfl
  | succ g => unfold codedGo; rw [if_neg h]

/-- behind a command -/
theorem behind {S : ByteArray} {lw dw : List Wd} {g : Nat} {left : Int} {d : Dr} {s t : Rd} {x : Sr} (h0 : d.x.state = 0) (hl : t.last = s.last) (ht : CmdAt t d left lw dw) (hl0 : 0 ≤ left)
    (hd : drive (setAt S x s) = drive (endCommand (setAt S d.x t))) (hi : Inv (endCommand (setAt S d.x t)))
    (ih : 0 < left → Inv (setAt S d.x { t with part := 6 }) → CmdEnd S { t with part := 6 } d.x (codedGo S lw dw g left d)) : CmdEnd S s x (codedGo S lw dw g left d) := by
  rw [endCommand_set] at hd hi
  by_cases hz : left = 0
  · rw [if_pos (ht.left.trans hz)] at hd hi
    rw [coded_stop g (fun q => by omega)]
    exact .read h0 { t with part := 6 } hl (ht.mat.part 6) hd hi
  · rw [if_neg (by rw [ht.left]; exact hz)] at hd hi
    exact (ih (by omega) hi).from hd hl

theorem coded_sim {S : ByteArray} {lw dw : List Wd} : ∀ (g : Nat) (left : Int) (d : Dr) (s : Rd), 0 < left → left < g → Inv (setAt S d.x s) → s.part = 6 → d.x.state = 0 → okAt S d.x → CmdAt s d left lw dw → (∀ i, i < 4 → 1 ≤ d.far i ∧ d.far i ≤ 4095) →
    CmdEnd S s d.x (codedGo S lw dw g left d)
  | 0, _, _, _, h1, h2, _, _, _, _, _, _ => absurd h2 (by omega)
  | g + 1, left, d, s, h1, h2, hI, hp, h0, hok, hs, hf => by
    have hpk : peek (setAt S d.x s) = find s.lcnt s.lsym (holdAt S d.x) (haveAt S d.x) := by
      unfold peek
      rw [if_pos (show (setAt S d.x s).part = 6 from hp)]
      rfl
    have hsb := symV_bounds (N := 272) (S := S) (by omega) (codeWs_sym hs.cl) d.x
    have hoks : okAt S (symS S lw d.x) := symS_at hok
    have hsw := symS_w S lw d.x
    have st := sym_step hs.cl hpk (by omega) hI h0 hok
    rw [hs.lw] at st hsb
    unfold codedGo
    rw [if_pos ⟨h1, h0⟩]
    rcases st with ⟨hn, hd, hi⟩ | ⟨hn, hd⟩
    · rw [if_neg (fun q => q hn)]
      have eu : use (setAt S (symS S lw d.x) s) (symV S lw d.x) = useLetter (setAt S (symS S lw d.x) s) (symV S lw d.x) := by
        unfold use
        have ep : (setAt S (symS S lw d.x) s).part = s.part := rfl
        rw [ep, if_neg (by omega), if_neg (by omega), if_neg (by omega), if_neg (by omega), if_neg (by omega), if_pos hp]
      rw [eu] at hd hi
      by_cases hlt : symV S lw d.x < 256
      · rw [if_pos hlt]
        have el : useLetter (setAt S (symS S lw d.x) s) (symV S lw d.x) = endCommand (setAt S (symS S lw d.x) (put s (symV S lw d.x))) := by
          unfold useLetter
          rw [if_pos hlt]
          rfl
        rw [el] at hd hi
        refine behind (d := { d with x := symS S lw d.x, out := d.out ++ [symV S lw d.x] }) (t := put s (symV S lw d.x)) hn rfl ⟨?_, hs.mat.put _ _ hsw, hs.lw, hs.dw, hs.cl, hs.cd⟩ (by omega) hd hi (fun q hq => ?_)
        · show s.left - 1 = left - 1
          rw [hs.left]
        · exact coded_sim g (left - 1) _ _ q (by omega) hq rfl hn hoks ⟨by show s.left - 1 = left - 1; rw [hs.left], (hs.mat.put _ _ hsw).part 6, hs.lw, hs.dw, hs.cl, hs.cd⟩ hf
      · rw [if_neg hlt]
        have el : useLetter (setAt S (symS S lw d.x) s) (symV S lw d.x) = setAt S (symS S lw d.x) { s with least := lenLeast (symV S lw d.x - 256), more := lenMore (symV S lw d.x - 256), part := 7 } := by
          unfold useLetter
          rw [if_neg hlt]
          rfl
        rw [el] at hd hi
        have ek : symV S lw d.x - 256 = (((symV S lw d.x - 256).toNat : Nat) : Int) := by omega
        rw [ek] at hd hi
        have hm2 : Mat { d with x := symS S lw d.x } s := ⟨hs.mat.out, hs.mat.ring, hs.mat.near, by show s.window = 16 * 2 ^ (symS S lw d.x).w.toNat; rw [hsw]; exact hs.mat.window, hs.mat.w1⟩
        have cp := copy_sim (S := S) (dw := dw) (k := (symV S lw d.x - 256).toNat) (left := left) (d := { d with x := symS S lw d.x }) (s := s) (by omega) hn hoks hm2 hs.left hs.dw hs.cd hf rfl hi
        have kp := copyD_keeps (S := S) (dw := dw) (k := (symV S lw d.x - 256).toNat) (left := left) (d := { d with x := symS S lw d.x }) (by omega) hoks (by rw [← hs.dw]; exact codeWs_sym hs.cd) hf (by omega)
        cases cp with
        | stuck h p o =>
          rw [coded_stop g (fun q => by rw [h] at q; omega)]
          exact .stuck h (by rw [hd]; exact p) (by rw [hd]; exact o)
        | wrong h p o =>
          rw [coded_stop g (fun q => by rw [h] at q; omega)]
          exact .wrong h (by rw [hd]; exact p) (by rw [hd]; exact o)
        | read h t hl hle m c1 c2 c3 c4 d2 i2 =>
          have k1 := kp.st h
          have k2 := kp.n1
          have ht : CmdAt t (copyD S dw (symV S lw d.x - 256).toNat left { d with x := symS S lw d.x }).2 (left - (copyD S dw (symV S lw d.x - 256).toNat left { d with x := symS S lw d.x }).1) lw dw :=
            ⟨hle, m, by rw [c1, c2]; exact hs.lw, by rw [c3, c4]; exact hs.dw, by rw [c1, c2]; exact hs.cl, by rw [c3, c4]; exact hs.cd⟩
          refine behind h hl ht (by omega) (hd.trans d2) i2 (fun q hq => ?_)
          exact coded_sim g _ _ _ q (by omega) hq rfl h kp.at_ ⟨ht.left, ht.mat.part 6, ht.lw, ht.dw, ht.cl, ht.cd⟩ kp.far
    · rw [if_pos (by rw [hn]; omega)]
      exact .stuck hn (by rw [hd]; show s.part ≤ 9; omega) (by rw [hd]; exact hs.mat.out)

/-- a coded block, from behind its head on -/
theorem codedD_sim {S : ByteArray} {d : Dr} {s : Rd} (hI : Inv (setAt S d.x s)) (h0 : d.x.state = 0) (hok : okAt S d.x) (hp : s.part = 2) (hk : s.kind = 2) (hm : Mat d s) (hf : ∀ i, i < 4 → 1 ≤ d.far i ∧ d.far i ≤ 4095) :
    CmdEnd S s d.x (codedD S d) := by
  have nb := numV_bounds S d.x 12
  rw [show (2 : Int) ^ 12 = 4096 from rfl] at nb
  have w12 : width s = ((12 : Nat) : Int) := by
    unfold width
    rw [hp, hk]
    rfl
  have off : ∀ y : Sr, y.state ≠ 0 → codeS S 16 4 y = y ∨ (codeS S 16 4 y).state = y.state := fun y hy => by
    right
    have v0 : bitV S y = 0 := by unfold bitV; rw [if_pos hy]
    have b0 : bitS S y = y := by unfold bitS; rw [if_pos hy]
    unfold codeS
    rw [if_pos v0, b0]
    unfold simpR
    rw [numS_off hy]
    obtain ⟨k, hk⟩ : ∃ k : Nat, (numV S y 2 + 1).toNat = k + 1 := ⟨(numV S y 2).toNat, by have := numV_bounds S y 2; omega⟩
    rw [hk]
    unfold nameGo
    rw [numS_off hy, needS_stop hy, if_pos hy]
  have off9 : ∀ y : Sr, y.state ≠ 0 → (codeS S 272 9 y).state = y.state := fun y hy => by
    have v0 : bitV S y = 0 := by unfold bitV; rw [if_pos hy]
    have b0 : bitS S y = y := by unfold bitS; rw [if_pos hy]
    unfold codeS
    rw [if_pos v0, b0]
    unfold simpR
    rw [numS_off hy]
    obtain ⟨k, hk⟩ : ∃ k : Nat, (numV S y 2 + 1).toNat = k + 1 := ⟨(numV S y 2).toNat, by have := numV_bounds S y 2; omega⟩
    rw [hk]
    unfold nameGo
    rw [numS_off hy, needS_stop hy, if_pos hy]
  have off4 : ∀ y : Sr, y.state ≠ 0 → (codeS S 16 4 y).state = y.state := fun y hy => by
    rcases off y hy with q | q
    · rw [q]
    · exact q
  have bad : (codedX S d.x).state ≠ 0 → codedD S d = { d with x := codedX S d.x } := fun q => by
    unfold codedD
    exact coded_stop _ (fun r => q r.2)
  by_cases h1 : (numS S d.x 12).state = 0
  · obtain ⟨d1, i1⟩ := num_go hI h0 (by omega) (by omega) (by omega) w12 h1
    have eu : use (setAt S (numS S d.x 12) s) (numV S d.x 12) = setAt S (numS S d.x 12) { begin { s with left := numV S d.x 12 + 1 } 272 9 with part := 4 } := by
      unfold use
      have ep : (setAt S (numS S d.x 12) s).part = s.part := rfl
      rw [ep, if_neg (by omega), if_neg (by omega), if_pos hp]
      unfold useSize
      rw [if_pos (show (setAt S (numS S d.x 12) s).kind = 2 from hk)]
      rfl
    rw [eu] at d1 i1
    have hok1 := numS_ok hok 12
    have r1 := code_sim (S := S) (N := 272) (sz := 9) (by omega) (by omega) i1 h1 hok1 ⟨Or.inl rfl, rfl, rfl, rfl, rfl⟩
    cases r1 with
    | stuck h p o =>
      have e := off4 _ (by rw [h]; omega)
      have e2 : (codedX S d.x).state = 1 := e.trans h
      rw [bad (by rw [e2]; omega)]
      exact .stuck e2 (by rw [d1]; exact p) (by rw [d1]; exact o.trans hm.out)
    | wrong h p o =>
      have e := off4 _ (by rw [h]; omega)
      have e2 : (codedX S d.x).state = 2 := e.trans h
      rw [bad (by rw [e2]; omega)]
      exact .wrong e2 (by rw [d1]; exact p) (by rw [d1]; exact o.trans hm.out)
    | read h t a c m dd i =>
      have hok2 : okAt S (codeS S 272 9 (numS S d.x 12)) := code_at hok1
      have hp4 : t.part = 4 := a.part
      have em : madeCode t = { begin { t with lcnt := t.mcnt, lsym := t.msym } 16 4 with part := 5 } := by
        unfold madeCode
        rw [if_pos hp4]
      rw [em] at dd i
      have r2 := code_sim (S := S) (N := 16) (sz := 4) (by omega) (by omega) i h hok2 ⟨Or.inr rfl, rfl, rfl, rfl, rfl⟩
      cases r2 with
      | stuck h2 p o =>
        rw [bad (by show (codeS S 16 4 _).state ≠ 0; rw [h2]; omega)]
        exact .stuck h2 (by rw [d1, dd]; exact p) (by rw [d1, dd]; exact (o.trans a.out).trans hm.out)
      | wrong h2 p o =>
        rw [bad (by show (codeS S 16 4 _).state ≠ 0; rw [h2]; omega)]
        exact .wrong h2 (by rw [d1, dd]; exact p) (by rw [d1, dd]; exact (o.trans a.out).trans hm.out)
      | read h2 t2 a2 c2 m2 dd2 i2 =>
        have hok3 : okAt S (codedX S d.x) := code_at hok2
        have hp5 : t2.part = 5 := a2.part
        have em2 : madeCode t2 = { t2 with dcnt := t2.mcnt, dsym := t2.msym, part := 6 } := by
          unfold madeCode
          rw [if_neg (by omega)]
        rw [em2] at dd2 i2
        have cl := code_cod (S := S) (N := 272) (sz := 9) (x := numS S d.x 12) (by omega) h
        have cd := code_cod (S := S) (N := 16) (sz := 4) (x := codeS S 272 9 (numS S d.x 12)) (by omega) h2
        have lc : t2.lcnt = (codeC S 272 9 (numS S d.x 12)).1 := a2.lcnt.trans c
        have lm : ∀ p : Nat, (p : Int) < aheadOf (codeC S 272 9 (numS S d.x 12)).1 13 → t2.lsym p = (codeC S 272 9 (numS S d.x 12)).2 p := fun p hp => by
          have e : t2.lsym = t.msym := a2.lsym
          rw [e]
          exact m p hp
        have h3 : (codedX S d.x).state = 0 := h2
        have ew1 : codeWs t2.lcnt t2.lsym = wsIf (codeS S 272 9 (numS S d.x 12)) (codeC S 272 9 (numS S d.x 12)) := by
          unfold wsIf
          rw [if_pos h, lc]
          exact codeWs_congr lm
        have ew2 : codeWs t2.mcnt t2.msym = wsIf (codedX S d.x) (codeC S 16 4 (codeS S 272 9 (numS S d.x 12))) := by
          unfold wsIf
          rw [if_pos h3, c2]
          exact codeWs_congr m2
        have cl2 : Cod t2.lcnt t2.lsym 272 := by
          rw [lc]
          exact ⟨cl.lo, cl.hi, cl.full, cl.few, fun p hp => by rw [lm p hp]; exact cl.sym p hp⟩
        have cd2 : Cod t2.mcnt t2.msym 16 := by
          rw [c2]
          exact ⟨cd.lo, cd.hi, cd.full, cd.few, fun p hp => by rw [m2 p hp]; exact cd.sym p hp⟩
        have w3 : (codedX S d.x).w = d.x.w := by unfold codedX; rw [codeS_w, codeS_w, numS_w]
        have hm3 : Mat { d with x := codedX S d.x } { t2 with dcnt := t2.mcnt, dsym := t2.msym, part := 6 } := by
          refine ⟨?_, ⟨?_, ?_, ?_⟩, fun i hi => ?_, ?_, ?_⟩
          · show t2.out = d.out
            rw [a2.out]
            exact a.out.trans hm.out
          · show t2.at_ = _
            rw [a2.at_]
            exact a.at_.trans hm.ring.at_
          · intro i h1 h2
            show t2.ring _ = _
            rw [a2.ring]
            show t.ring _ = _
            rw [a.ring]
            exact hm.ring.ring i h1 h2
          · show t2.reach = if _ ≤ t2.window then _ else t2.window
            rw [a2.reach, a2.window]
            show t.reach = if _ ≤ t.window then _ else t.window
            rw [a.reach, a.window]
            exact hm.ring.reach
          · show t2.near i = _
            rw [a2.near]
            show t.near i = _
            rw [a.near]
            exact hm.near i hi
          · show t2.window = 16 * 2 ^ (codedX S d.x).w.toNat
            rw [a2.window, w3]
            exact a.window.trans hm.window
          · show t2.window ≤ 4096
            rw [a2.window]
            show t.window ≤ 4096
            rw [a.window]
            exact hm.w1
        have hleft : t2.left = numV S d.x 12 + 1 := a2.left.trans a.left
        have r := coded_sim (S := S) (lw := wsIf (codeS S 272 9 (numS S d.x 12)) (codeC S 272 9 (numS S d.x 12))) (dw := wsIf (codedX S d.x) (codeC S 16 4 (codeS S 272 9 (numS S d.x 12)))) 4098 (numV S d.x 12 + 1) { d with x := codedX S d.x } { t2 with dcnt := t2.mcnt, dsym := t2.msym, part := 6 } (by omega) (by omega) i2 rfl h3 hok3 ⟨hleft, hm3, ew1, ew2, cl2, cd2⟩ hf
        exact r.from ((d1.trans dd).trans dd2) (a2.last.trans a.last)
  · obtain ⟨d1, h1'⟩ := num_stuck (S := S) h0 (by omega) (by omega) (by omega) w12 h1
    have e1 := off9 _ h1
    have e2 : (codedX S d.x).state = 1 := ((off4 _ (by rw [e1]; exact h1)).trans e1).trans h1'
    rw [bad (by rw [e2]; omega)]
    exact .stuck e2 (by rw [d1]; show s.part ≤ 9; omega) (by rw [d1]; exact hm.out)
end Wr
/- BLOCKS: the document's and the reader's. No Go. -/
namespace Wr

inductive BlkEnd (S : ByteArray) (s : Rd) (x : Sr) (last : Bool) (e : Dr) : Prop
  | stuck (h : e.x.state = 1) (p : (drive (setAt S x s)).part ≤ 9) (o : (drive (setAt S x s)).out = e.out)
  | wrong (h : e.x.state = 2) (p : (drive (setAt S x s)).part = 11) (o : (drive (setAt S x s)).out = e.out)
  | read (h : e.x.state = 0) (t : Rd) (hl : t.last = last) (m : Mat e t) (d : drive (setAt S x s) = drive (endBlock (setAt S e.x t))) (i : Inv (endBlock (setAt S e.x t)))
theorem CmdEnd.blk {S : ByteArray} {s t : Rd} {x y : Sr} {last : Bool} {e : Dr} (h : CmdEnd S t y e) (hd : drive (setAt S x s) = drive (setAt S y t)) (hl : t.last = last) : BlkEnd S s x last e := by
  cases h with
  | stuck h p o => exact .stuck h (by rw [hd]; exact p) (by rw [hd]; exact o)
  | wrong h p o => exact .wrong h (by rw [hd]; exact p) (by rw [hd]; exact o)
  | read h u l m d i => exact .read h u (l.trans hl) m (hd.trans d) i

theorem use3 (S : ByteArray) (y : Sr) (s : Rd) (v : Int) (hp : s.part = 3) : use (setAt S y s) v = useByte (setAt S y s) v := by
  unfold use
  have ep : (setAt S y s).part = s.part := rfl
  rw [ep, if_neg (by omega), if_neg (by omega), if_neg (by omega), if_pos hp]
theorem width3 {s : Rd} (hp : s.part = 3) : width s = ((8 : Nat) : Int) := by
  unfold width
  rw [hp]
  rfl
theorem put_part (s : Rd) (c : Int) : (put s c).part = s.part ∧ (put s c).kind = s.kind ∧ (put s c).left = s.left - 1 ∧ (put s c).last = s.last := ⟨rfl, rfl, rfl, rfl⟩

theorem stored_sim {S : ByteArray} : ∀ (m : Nat) (d : Dr) (s : Rd), Inv (setAt S d.x s) → d.x.state = 0 → s.part = 3 → s.kind = 1 → s.left = (m + 1 : Nat) → Mat d s →
    CmdEnd S s d.x { d with x := (bytesGo S (m + 1) d.x).2, out := d.out ++ (bytesGo S (m + 1) d.x).1 }
  | m, d, s, hI, h0, hp, hk, hl, hm => by
    unfold bytesGo
    rw [if_neg (fun q => q h0)]
    by_cases h1 : (numS S d.x 8).state = 0
    · obtain ⟨d1, i1⟩ := num_go hI h0 (by omega) (by omega) (by omega) (width3 hp) h1
      rw [use3 S _ s _ hp] at d1 i1
      rw [if_neg (fun q => q h1)]
      have eu : useByte (setAt S (numS S d.x 8) s) (numV S d.x 8) = if (put s (numV S d.x 8)).left = 0 then endBlock (setAt S (numS S d.x 8) (put s (numV S d.x 8))) else setAt S (numS S d.x 8) (put s (numV S d.x 8)) := by
        unfold useByte
        rw [if_pos (show (setAt S (numS S d.x 8) s).kind = 1 from hk)]
        rfl
      rw [eu] at d1 i1
      have hmp := hm.put (numV S d.x 8) (numS S d.x 8) (numS_w _ _ _)
      obtain ⟨p1, p2, p3, p4⟩ := put_part s (numV S d.x 8)
      cases m with
      | zero =>
        rw [if_pos (by rw [p3, hl]; rfl)] at d1 i1
        exact .read h1 (put s (numV S d.x 8)) rfl hmp d1 i1
      | succ m =>
        rw [if_neg (by rw [p3, hl]; omega)] at d1 i1
        have r := stored_sim m { d with x := numS S d.x 8, out := d.out ++ [numV S d.x 8] } (put s (numV S d.x 8)) i1 h1 (p1.trans hp) (p2.trans hk) (by rw [p3, hl]; omega) hmp
        have e : d.out ++ [numV S d.x 8] ++ (bytesGo S (m + 1) (numS S d.x 8)).1 = d.out ++ (numV S d.x 8 :: (bytesGo S (m + 1) (numS S d.x 8)).1) := by rw [List.append_assoc]; rfl
        dsimp only at r
        rw [e] at r
        exact r.from d1 rfl
    · obtain ⟨d1, h1'⟩ := num_stuck (S := S) h0 (by omega) (by omega) (by omega) (width3 hp) h1
      rw [if_pos h1, List.append_nil]
      exact .stuck h1' (by rw [d1]; show s.part ≤ 9; omega) (by rw [d1]; exact hm.out)
theorem note_sim {S : ByteArray} : ∀ (m : Nat) (d : Dr) (s : Rd), Inv (setAt S d.x s) → d.x.state = 0 → s.part = 3 → s.kind = 3 → s.left = (m + 1 : Nat) → Mat d s →
    CmdEnd S s d.x { d with x := (bytesGo S (m + 1) d.x).2 }
  | m, d, s, hI, h0, hp, hk, hl, hm => by
    unfold bytesGo
    rw [if_neg (fun q => q h0)]
    by_cases h1 : (numS S d.x 8).state = 0
    · obtain ⟨d1, i1⟩ := num_go hI h0 (by omega) (by omega) (by omega) (width3 hp) h1
      rw [use3 S _ s _ hp] at d1 i1
      rw [if_neg (fun q => q h1)]
      have eu : useByte (setAt S (numS S d.x 8) s) (numV S d.x 8) = if s.left - 1 = 0 then endBlock (setAt S (numS S d.x 8) { s with left := s.left - 1 }) else setAt S (numS S d.x 8) { s with left := s.left - 1 } := by
        unfold useByte
        rw [if_neg (show ¬ (setAt S (numS S d.x 8) s).kind = 1 by show ¬ s.kind = 1; omega)]
        rfl
      rw [eu] at d1 i1
      have hmp : Mat { d with x := numS S d.x 8 } { s with left := s.left - 1 } := ⟨hm.out, ⟨hm.ring.at_, hm.ring.ring, hm.ring.reach⟩, hm.near, by show s.window = 16 * 2 ^ (numS S d.x 8).w.toNat; rw [numS_w]; exact hm.window, hm.w1⟩
      cases m with
      | zero =>
        rw [if_pos (by rw [hl]; rfl)] at d1 i1
        exact .read h1 { s with left := s.left - 1 } rfl hmp d1 i1
      | succ m =>
        rw [if_neg (by rw [hl]; omega)] at d1 i1
        have r := note_sim m { d with x := numS S d.x 8 } { s with left := s.left - 1 } i1 h1 hp hk (by show s.left - 1 = _; rw [hl]; omega) hmp
        exact r.from d1 rfl
    · obtain ⟨d1, h1'⟩ := num_stuck (S := S) h0 (by omega) (by omega) (by omega) (width3 hp) h1
      rw [if_pos h1]
      exact .stuck h1' (by rw [d1]; show s.part ≤ 9; omega) (by rw [d1]; exact hm.out)

theorem fill_twice (S : ByteArray) (x : Sr) (t : Rd) (h0 : x.state = 0) (hok : okAt S x) (hl : t.last = true) :
    (if fillOk (setAt S x t) then endBlock (fillTo (setAt S x t)) else fillTo (setAt S x t)) = endBlock (setAt S x t) := by
  have fs := fill_sim (S := S) (x := x) t h0 hok
  have el : (setAt S x t).last = true := hl
  conv => rhs; unfold endBlock; rw [el]
  cases hf : fillOk (setAt S x t)
  · rfl
  · obtain ⟨f1, f2, f3, f4⟩ := fs.1 hf
    rw [f2]
    have fo : fillOk (setAt S (fillS S x) t) = true := by
      show (holdAt S (fillS S x) % 2 ^ (haveAt S (fillS S x) % 8).toNat == 0) = true
      have e : (haveAt S (fillS S x) % 8).toNat = 0 := by unfold haveAt; omega
      rw [e, Int.pow_zero, Int.emod_one]
      rfl
    have fs2 := (fill_sim (S := S) (x := fillS S x) t f1 f4).1 fo
    have ek : fillS S (fillS S x) = fillS S x := by
      show fillK S ((8 - (fillS S x).at_ % 8) % 8) (fillS S x) = _
      rw [f3]
      rfl
    rw [ek] at fs2
    have el2 : (setAt S (fillS S x) t).last = true := hl
    unfold endBlock
    rw [el2, fo, fs2.2.1]
    rfl

theorem head3 {S : ByteArray} {x : Sr} (hok : okAt S x) : numS S (bitS S x) 2 = numS S x 3 ∧ numV S x 3 = bitV S x + 2 * numV S (bitS S x) 2 := by
  have hb := bitS_ok hok
  have a1 : numS S x 1 = bitS S (numS S x 0) := numS_succ hok 0
  have a2 : numS S x 2 = bitS S (numS S x 1) := numS_succ hok 1
  have a3 : numS S x 3 = bitS S (numS S x 2) := numS_succ hok 2
  have b1 : numS S (bitS S x) 1 = bitS S (numS S (bitS S x) 0) := numS_succ hb 0
  have b2 : numS S (bitS S x) 2 = bitS S (numS S (bitS S x) 1) := numS_succ hb 1
  rw [numS_zero hok] at a1
  rw [numS_zero hb] at b1
  rw [a1] at a2
  rw [a2] at a3
  rw [b1] at b2
  have v1 : numV S x 1 = numV S x 0 + 2 ^ 0 * bitV S (numS S x 0) := numV_succ hok 0
  have v2 : numV S x 2 = numV S x 1 + 2 ^ 1 * bitV S (numS S x 1) := numV_succ hok 1
  have v3 : numV S x 3 = numV S x 2 + 2 ^ 2 * bitV S (numS S x 2) := numV_succ hok 2
  have u1 : numV S (bitS S x) 1 = numV S (bitS S x) 0 + 2 ^ 0 * bitV S (numS S (bitS S x) 0) := numV_succ hb 0
  have u2 : numV S (bitS S x) 2 = numV S (bitS S x) 1 + 2 ^ 1 * bitV S (numS S (bitS S x) 1) := numV_succ hb 1
  rw [numV_zero, numS_zero hok] at v1
  rw [numV_zero, numS_zero hb] at u1
  rw [a1] at v2
  rw [a2] at v3
  rw [b1] at u2
  rw [show (2 : Int) ^ 0 = 1 from rfl] at v1 u1
  rw [show (2 : Int) ^ 1 = 2 from rfl] at v2 u2
  rw [show (2 : Int) ^ 2 = 4 from rfl] at v3
  exact ⟨by rw [b2, a3], by omega⟩
end Wr
/- A BLOCK, AND ALL OF THEM: the document's and the reader's. No Go. -/
namespace Wr

theorem Mat.at {d : Dr} {s t : Rd} (h : Mat d s) (y : Sr) (hw : y.w = d.x.w) (e1 : t.out = s.out) (e2 : t.at_ = s.at_) (e3 : t.ring = s.ring) (e4 : t.reach = s.reach) (e5 : t.window = s.window) (e6 : t.near = s.near) : Mat { d with x := y } t :=
  ⟨by rw [e1]; exact h.out, ⟨by rw [e2]; exact h.ring.at_, by rw [e3]; exact h.ring.ring, by rw [e4, e5]; exact h.ring.reach⟩, by rw [e6]; exact h.near, by show t.window = 16 * 2 ^ y.w.toNat; rw [e5, hw]; exact h.window, by rw [e5]; exact h.w1⟩
theorem fillS_w (S : ByteArray) (x : Sr) : (fillS S x).w = x.w := (fillK_ge S _ x).2
theorem fillS_off {S : ByteArray} {x : Sr} (h : x.state ≠ 0) : fillS S x = x := fillK_stop S _ h

/-- the bytes of a stored block or of a note, from the size on -/
theorem size_sim {S : ByteArray} {d : Dr} {s : Rd} {n : Nat} {e : Nat → Sr → Dr} (hI : Inv (setAt S d.x s)) (h0 : d.x.state = 0) (hok : okAt S d.x) (hp : s.part = 2) (hk : s.kind = 1 ∨ s.kind = 3) (hn : width s = n) (hm : Mat d s)
    (left : Int) (hl : left = if s.kind = 1 then numV S d.x n + 1 else numV S d.x n)
    (est : ∀ m y, y.state ≠ 0 → (e m y).x = y ∧ (e m y).out = d.out)
    (ez : left = 0 → ∀ y, e 0 y = { d with x := y } ∨ (y.state = 0 → (e 0 y).x = y ∧ (e 0 y).out = d.out ∧ (e 0 y).far = d.far))
    (go : ∀ (m : Nat) (t : Rd) (y : Sr), left = (m + 1 : Nat) → Inv (setAt S y t) → y.state = 0 → t.part = 3 → t.kind = s.kind → t.left = (m + 1 : Nat) → Mat { d with x := y } t → CmdEnd S t y (e (m + 1) y)) :
    CmdEnd S s d.x (e left.toNat (fillS S (numS S d.x n))) := by
  have nb := numV_bounds S d.x n
  by_cases h1 : (numS S d.x n).state = 0
  · obtain ⟨d1, i1⟩ := num_go hI h0 (by omega) (by omega) (by omega) hn h1
    have hok1 := numS_ok hok n
    have eu : use (setAt S (numS S d.x n) s) (numV S d.x n) = (if fillOk (setAt S (numS S d.x n) { s with left := left }) then (if left = 0 then endBlock { fillTo (setAt S (numS S d.x n) { s with left := left }) with part := 3 } else { fillTo (setAt S (numS S d.x n) { s with left := left }) with part := 3 }) else fillTo (setAt S (numS S d.x n) { s with left := left })) := by
      unfold use
      have ep : (setAt S (numS S d.x n) s).part = s.part := rfl
      rw [ep, if_neg (by omega), if_neg (by omega), if_pos hp]
      unfold useSize
      rw [if_neg (show ¬ (setAt S (numS S d.x n) s).kind = 2 by show ¬ s.kind = 2; omega)]
      have e1 : ({ setAt S (numS S d.x n) s with left := if (setAt S (numS S d.x n) s).kind = 1 then numV S d.x n + 1 else numV S d.x n } : Rd) = setAt S (numS S d.x n) { s with left := left } := by
        rw [hl]
        rfl
      dsimp only
      rw [e1]
      split
      · rename_i hf
        have e2 : ({ fillTo (setAt S (numS S d.x n) { s with left := left }) with part := 3 } : Rd).left = left := by
          have := (fill_sim (S := S) { s with left := left } h1 hok1).1 hf
          rw [this.2.1]
          rfl
        rw [e2]
      · rfl
    rw [eu] at d1 i1
    have fs := fill_sim (S := S) { s with left := left } h1 hok1
    cases hf : fillOk (setAt S (numS S d.x n) { s with left := left })
    · obtain ⟨f1, f2⟩ := fs.2 hf
      rw [hf, if_neg (by decide), f2] at d1
      obtain ⟨q1, q2⟩ := est left.toNat (fillS S (numS S d.x n)) (by rw [f1]; omega)
      have fe := fault_end (S := S) (x := numS S d.x n) (s := { s with left := left })
      have d2 : drive (setAt S d.x s) = drive (setAt S (numS S d.x n) (fault { s with left := left })) := d1
      exact .wrong (by rw [q1]; exact f1) (by rw [d2]; exact fe.1) (by rw [d2, q2]; exact fe.2.trans hm.out)
    · obtain ⟨f1, f2, f3, f4⟩ := fs.1 hf
      rw [hf, if_pos rfl, f2] at d1 i1
      have hmt : Mat { d with x := fillS S (numS S d.x n) } { s with left := left, part := 3 } := hm.at _ ((fillS_w _ _).trans (numS_w _ _ _)) rfl rfl rfl rfl rfl rfl
      by_cases hz : left = 0
      · rw [if_pos hz] at d1 i1
        have e0 : left.toNat = 0 := by omega
        rw [e0]
        rcases ez hz (fillS S (numS S d.x n)) with q | q
        · rw [q]
          exact .read f1 { s with left := left, part := 3 } rfl hmt d1 i1
        · obtain ⟨q1, q2, q3⟩ := q f1
          refine .read (by rw [q1]; exact f1) { s with left := left, part := 3 } rfl ⟨hmt.out.trans q2.symm, by rw [q2]; exact hmt.ring, fun i hi => by rw [q3]; exact hmt.near i hi, by rw [q1]; exact hmt.window, hmt.w1⟩ (by rw [q1]; exact d1) (by rw [q1]; exact i1)
      · rw [if_neg hz] at d1 i1
        obtain ⟨m, hmm⟩ : ∃ m : Nat, left = (m + 1 : Nat) := ⟨(left - 1).toNat, by split at hl <;> omega⟩
        have e0 : left.toNat = m + 1 := by omega
        rw [e0]
        exact (go m { s with left := left, part := 3 } _ hmm i1 f1 rfl rfl hmm hmt).from d1 rfl
  · obtain ⟨d1, h1'⟩ := num_stuck (S := S) h0 (by omega) (by omega) (by omega) hn h1
    have ef : fillS S (numS S d.x n) = numS S d.x n := fillS_off h1
    rw [ef]
    obtain ⟨q1, q2⟩ := est left.toNat (numS S d.x n) h1
    exact .stuck (by rw [q1]; exact h1') (by rw [d1]; show s.part ≤ 9; omega) (by rw [d1, q2]; exact hm.out)
theorem bytes_off {S : ByteArray} {x : Sr} (n : Nat) (h : x.state ≠ 0) : bytesGo S n x = ([], x) := by
  cases n with
  | zero => rfl
  | succ n => unfold bytesGo; rw [if_pos h]

theorem block_sim {S : ByteArray} {d : Dr} {s : Rd} (hI : Inv (setAt S d.x s)) (h0 : d.x.state = 0) (hok : okAt S d.x) (hp : s.part = 1) (hm : Mat d s) (hf : ∀ i, i < 4 → 1 ≤ d.far i ∧ d.far i ≤ 4095) :
    BlkEnd S s d.x (blockD S d).1 (blockD S d).2 := by
  obtain ⟨eh, ev⟩ := head3 hok
  have bb := bitV_bounds S d.x
  have kb := numV_bounds S (bitS S d.x) 2
  rw [show (2 : Int) ^ 2 = 4 from rfl] at kb
  have hX : blockX S d.x = numS S d.x 3 := eh
  have w3 : width s = ((3 : Nat) : Int) := by
    unfold width
    rw [hp]
    rfl
  have hokX : okAt S (blockX S d.x) := by rw [hX]; exact numS_ok hok 3
  have hwX : (blockX S d.x).w = d.x.w := by rw [hX]; exact numS_w _ _ _
  by_cases h1 : (numS S d.x 3).state = 0
  · obtain ⟨d1, i1⟩ := num_go hI h0 (by omega) (by omega) (by omega) w3 h1
    have hX0 : (blockX S d.x).state = 0 := by rw [hX]; exact h1
    rw [← hX] at d1 i1
    have el : (numV S d.x 3 % 2 == 1) = (bitV S d.x == 1) := by
      rw [ev]
      congr 1
      omega
    have ek : numV S d.x 3 / 2 = numV S (bitS S d.x) 2 := by rw [ev]; omega
    have eu : use (setAt S (blockX S d.x) s) (numV S d.x 3) = (if numV S (bitS S d.x) 2 = 0 then (if fillOk (setAt S (blockX S d.x) { s with last := bitV S d.x == 1, kind := numV S (bitS S d.x) 2 }) then endBlock (fillTo (setAt S (blockX S d.x) { s with last := bitV S d.x == 1, kind := numV S (bitS S d.x) 2 })) else fillTo (setAt S (blockX S d.x) { s with last := bitV S d.x == 1, kind := numV S (bitS S d.x) 2 })) else setAt S (blockX S d.x) { s with last := bitV S d.x == 1, kind := numV S (bitS S d.x) 2, part := 2 }) := by
      unfold use
      have ep : (setAt S (blockX S d.x) s).part = s.part := rfl
      rw [ep, if_neg (by omega), if_pos hp]
      unfold useBlock
      dsimp only
      rw [el, ek]
      rfl
    rw [eu] at d1 i1
    have hmX : ∀ k p, Mat { d with x := blockX S d.x } { s with last := bitV S d.x == 1, kind := k, part := p } := fun k p => hm.at _ hwX rfl rfl rfl rfl rfl rfl
    unfold blockD
    rw [if_neg (fun q => q hX0)]
    by_cases k0 : numV S (bitS S d.x) 2 = 0
    · rw [if_pos k0] at d1 i1
      rw [if_pos k0]
      dsimp only
      have hmY := hmX (numV S (bitS S d.x) 2) s.part
      by_cases hb : bitV S d.x = 0
      · rw [if_pos hb]
        have fs := fill_sim (S := S) { s with last := bitV S d.x == 1, kind := numV S (bitS S d.x) 2 } hX0 hokX
        cases hfo : fillOk (setAt S (blockX S d.x) { s with last := bitV S d.x == 1, kind := numV S (bitS S d.x) 2 })
        · obtain ⟨f1, f2⟩ := fs.2 hfo
          rw [hfo, if_neg (by decide), f2] at d1
          have fe := fault_end (S := S) (x := blockX S d.x) (s := { s with last := bitV S d.x == 1, kind := numV S (bitS S d.x) 2 })
          have d2 : drive (setAt S d.x s) = drive (setAt S (blockX S d.x) (fault { s with last := bitV S d.x == 1, kind := numV S (bitS S d.x) 2 })) := d1
          exact .wrong f1 (by rw [d2]; exact fe.1) (by rw [d2]; exact fe.2.trans hm.out)
        · obtain ⟨f1, f2, f3, f4⟩ := fs.1 hfo
          rw [hfo, if_pos rfl, f2] at d1 i1
          exact .read f1 { s with last := bitV S d.x == 1, kind := numV S (bitS S d.x) 2 } rfl (hmY.at _ (fillS_w _ _) rfl rfl rfl rfl rfl rfl) d1 i1
      · have hb1 : bitV S d.x = 1 := by omega
        rw [if_neg hb]
        have ft := fill_twice S (blockX S d.x) { s with last := bitV S d.x == 1, kind := numV S (bitS S d.x) 2 } hX0 hokX (by show (bitV S d.x == 1) = true; rw [hb1]; rfl)
        rw [ft] at d1 i1
        exact .read hX0 { s with last := bitV S d.x == 1, kind := numV S (bitS S d.x) 2 } rfl hmY d1 i1
    · rw [if_neg k0] at d1 i1
      rw [if_neg k0]
      by_cases k1 : numV S (bitS S d.x) 2 = 1
      · rw [if_pos k1]
        dsimp only
        have nb := numV_bounds S (blockX S d.x) 12
        have r := size_sim (S := S) (d := { d with x := blockX S d.x }) (s := { s with last := bitV S d.x == 1, kind := numV S (bitS S d.x) 2, part := 2 }) (n := 12) (e := fun m y => { d with x := (bytesGo S m y).2, out := d.out ++ (bytesGo S m y).1 }) i1 hX0 hokX rfl (Or.inl k1) (by unfold width; show (if (2 : Int) = 0 then (4 : Int) else if (2 : Int) = 1 then 3 else if (2 : Int) = 2 then (if numV S (bitS S d.x) 2 = 3 then 8 else 12) else _) = _; rw [if_neg (by omega), if_neg (by omega), if_pos rfl, if_neg (by omega)]; rfl) (hmX _ _) (numV S (blockX S d.x) 12 + 1) (by rw [if_pos k1])
          (fun m y hy => by rw [bytes_off m hy]; exact ⟨rfl, List.append_nil _⟩) (fun hz => absurd hz (by omega))
          (fun m t y _ hi hy hp3 hk3 hl3 hm3 => stored_sim m { d with x := y } t hi hy hp3 (hk3.trans k1) hl3 hm3)
        exact r.blk d1 rfl
      · rw [if_neg k1]
        by_cases k2 : numV S (bitS S d.x) 2 = 2
        · rw [if_pos k2]
          have r := codedD_sim (S := S) (d := { d with x := blockX S d.x }) (s := { s with last := bitV S d.x == 1, kind := numV S (bitS S d.x) 2, part := 2 }) i1 hX0 hokX rfl k2 (hmX _ _) hf
          exact r.blk d1 rfl
        · rw [if_neg k2]
          have k3 : numV S (bitS S d.x) 2 = 3 := by omega
          have nb := numV_bounds S (blockX S d.x) 8
          have r := size_sim (S := S) (d := { d with x := blockX S d.x }) (s := { s with last := bitV S d.x == 1, kind := numV S (bitS S d.x) 2, part := 2 }) (n := 8) (e := fun m y => { d with x := (bytesGo S m y).2 }) i1 hX0 hokX rfl (Or.inr k3) (by unfold width; show (if (2 : Int) = 0 then (4 : Int) else if (2 : Int) = 1 then 3 else if (2 : Int) = 2 then (if numV S (bitS S d.x) 2 = 3 then 8 else 12) else _) = _; rw [if_neg (by omega), if_neg (by omega), if_pos rfl, if_pos k3]; rfl) (hmX _ _) (numV S (blockX S d.x) 8) (by rw [if_neg k1])
            (fun m y hy => by rw [bytes_off m hy]; exact ⟨rfl, rfl⟩) (fun _ y => Or.inr (fun _ => ⟨rfl, rfl, rfl⟩))
            (fun m t y _ hi hy hp3 hk3 hl3 hm3 => note_sim m { d with x := y } t hi hy hp3 (hk3.trans k3) hl3 hm3)
          have r2 := r.blk d1 rfl
          dsimp only at r2 ⊢
          have en : bytesGo S (numV S (blockX S d.x) 8).toNat (fillS S (numS S (blockX S d.x) 8)) = noteR S d.x := rfl
          rw [en] at r2
          cases r2 with
          | stuck h p o => exact .stuck h p o
          | wrong h p o => exact .wrong h p o
          | read h t hl m d i => exact .read h t hl ⟨m.out, m.ring, m.near, m.window, m.w1⟩ d i
  · obtain ⟨d1, h1'⟩ := num_stuck (S := S) h0 (by omega) (by omega) (by omega) w3 h1
    unfold blockD
    rw [if_pos (by rw [hX]; exact h1)]
    exact .stuck (by show (blockX S d.x).state = 1; rw [hX]; exact h1') (by rw [d1]; show s.part ≤ 9; omega) (by rw [d1]; exact hm.out)
end Wr
/- WHAT THE DOCUMENT READS IS WHAT THE READER READS. No Go. -/
namespace Wr

inductive Fin (S : ByteArray) (t : Rd) (e : Dr) : Prop
  | stuck (h : (fillS S e.x).state = 1) (p : t.part ≤ 9) (o : t.out = e.out)
  | wrong (h : (fillS S e.x).state = 2) (p : t.part = 11) (o : t.out = e.out)
  | read (h : (fillS S e.x).state = 0) (p : t.part = 10) (n : t.have_ = haveAt S (fillS S e.x)) (o : t.out = e.out)

theorem readGo_stop {S : ByteArray} (g : Nat) {edge last : Bool} {d : Dr} (h : ¬ (d.x.state = 0 ∧ last = false)) : readGo S g edge last d = (edge, d) := by
  cases g with
  | zero => rfl
  | succ g => unfold readGo; rw [if_neg h]
theorem read_sim {S : ByteArray} : ∀ (g : Nat) (edge : Bool) (d : Dr) (s : Rd), 8 * S.size < d.x.at_ + g → Inv (setAt S d.x s) → d.x.state = 0 → s.part = 1 → Mat d s → RIn S d →
    Fin S (drive (setAt S d.x s)) (readGo S g edge false d).2
  | 0, _, d, _, hg, _, _, _, _, hr => absurd hg (by have := hr.at_; unfold okAt at this; omega)
  | g + 1, edge, d, s, hg, hI, h0, hp, hm, hr => by
    have b := block_sim hI h0 hr.at_ hp hm hr.far
    obtain ⟨hr2, hat⟩ := block_in hr h0
    have e : readGo S (g + 1) edge false d = readGo S g (d.x.at_ == 8 * S.size) (blockD S d).1 (blockD S d).2 := by
      conv => lhs; unfold readGo
      rw [if_pos ⟨h0, rfl⟩]
    rw [e]
    cases b with
    | stuck h p o =>
      have hne : (blockD S d).2.x.state ≠ 0 := by rw [h]; omega
      rw [readGo_stop g (fun q => hne q.1)]
      exact .stuck (by show (fillS S (blockD S d).2.x).state = 1; rw [fillS_off hne]; exact h) p o
    | wrong h p o =>
      have hne : (blockD S d).2.x.state ≠ 0 := by rw [h]; omega
      rw [readGo_stop g (fun q => hne q.1)]
      exact .wrong (by show (fillS S (blockD S d).2.x).state = 2; rw [fillS_off hne]; exact h) p o
    | read h t hl m dd i =>
      rw [dd]
      cases hb : (blockD S d).1
      · have ee : endBlock (setAt S (blockD S d).2.x t) = setAt S (blockD S d).2.x { t with part := 1 } := by
          have hlf : (setAt S (blockD S d).2.x t).last = false := hl.trans hb
          unfold endBlock
          rw [if_neg (by rw [hlf]; decide)]
          rfl
        rw [ee] at i ⊢
        have := hat h
        exact read_sim g _ _ _ (by omega) i h rfl (m.part 1) hr2
      · rw [readGo_stop g (fun q => by cases q.2)]
        have hlt : (setAt S (blockD S d).2.x t).last = true := hl.trans hb
        have fs := fill_sim (S := S) t h hr2.at_
        cases hf : fillOk (setAt S (blockD S d).2.x t)
        · obtain ⟨f1, f2⟩ := fs.2 hf
          have ee : endBlock (setAt S (blockD S d).2.x t) = fault (setAt S (blockD S d).2.x t) := by
            unfold endBlock
            rw [hlt, hf, f2]
            rfl
          rw [ee, drive_stop (Or.inr rfl)]
          exact .wrong f1 rfl m.out
        · obtain ⟨f1, f2, _, _⟩ := fs.1 hf
          have ee : endBlock (setAt S (blockD S d).2.x t) = { setAt S (fillS S (blockD S d).2.x) t with part := 10 } := by
            unfold endBlock
            rw [hlt, hf, f2]
            rfl
          rw [ee, drive_stop (Or.inl rfl)]
          exact .read f1 rfl rfl m.out

theorem full_at (S : ByteArray) : full S.data.toList = drive (setAt S x0 initRd) := by
  unfold full
  rw [moreAll_eq _ _ (by decide)]
  congr 1
  have e1 : initRd.hold + 2 ^ initRd.have_.toNat * valB S.data.toList = holdAt S x0 := by
    show (0 : Int) + 1 * valB S.data.toList = valB S.data.toList / 2 ^ 0
    rw [Int.pow_zero, Int.ediv_one]
    omega
  have e2 : initRd.have_ + 8 * (S.data.toList.length : Int) = haveAt S x0 := by
    show (0 : Int) + 8 * (S.data.toList.length : Int) = 8 * (S.size : Int) - ((0 : Nat) : Int)
    have : S.data.toList.length = S.size := by simp
    omega
  rw [e1, e2]
  rfl
theorem init_inv (S : ByteArray) : Inv (setAt S x0 initRd) := by
  have h := moreAll_inv S.data.toList initRd init_rest.1
  rw [moreAll_eq _ _ (by decide)] at h
  have e1 : initRd.hold + 2 ^ initRd.have_.toNat * valB S.data.toList = holdAt S x0 := by
    show (0 : Int) + 1 * valB S.data.toList = valB S.data.toList / 2 ^ 0
    rw [Int.pow_zero, Int.ediv_one]
    omega
  have e2 : initRd.have_ + 8 * (S.data.toList.length : Int) = haveAt S x0 := by
    show (0 : Int) + 8 * (S.data.toList.length : Int) = 8 * (S.size : Int) - ((0 : Nat) : Int)
    have : S.data.toList.length = S.size := by simp
    omega
  rw [e1, e2] at h
  exact h

theorem read_fin (S : ByteArray) : Fin S (drive (setAt S x0 initRd)) (readR S).2 := by
  have hI := init_inv S
  have hoc : okAt S x0 := Nat.zero_le _
  have nb := numV_bounds S x0 4
  rw [show (2 : Int) ^ 4 = 16 from rfl] at nb
  have stop : (startX S).state ≠ 0 → (readR S).2 = startD S := fun q => by
    unfold readR
    rw [readGo_stop _ (fun r => q r.1)]
  by_cases h1 : (numS S x0 4).state = 0
  · obtain ⟨d1, i1⟩ := num_go (s := initRd) hI rfl (by decide) (by decide) (by decide) (show width initRd = ((4 : Nat) : Int) from rfl) h1
    have eu : use (setAt S (numS S x0 4) initRd) (numV S x0 4) = useWindow (setAt S (numS S x0 4) initRd) (numV S x0 4) := rfl
    rw [eu] at d1 i1
    by_cases h8 : numV S x0 4 ≤ 8
    · have ex : x1 S = numS S x0 4 := by unfold x1; rw [decide_eq_true h8, needS_true]
      have es : startX S = { numS S x0 4 with w := numV S x0 4 } := by unfold startX; rw [ex, if_pos h1]
      have ew : useWindow (setAt S (numS S x0 4) initRd) (numV S x0 4) = setAt S (startX S) { initRd with window := 16 * 2 ^ (numV S x0 4).toNat, part := 1 } := by
        unfold useWindow
        rw [if_neg (by omega), es]
        rfl
      rw [ew] at d1 i1
      have hp : (2 : Int) ^ (numV S x0 4).toNat ≤ 2 ^ 8 := pow_mono2 (by omega)
      have hp0 := pow_pos2 (numV S x0 4).toNat
      have e256 : (2 : Int) ^ 8 = 256 := rfl
      have hs0 : (startX S).state = 0 := by rw [es]; exact h1
      have hsa : (startX S).at_ = (numS S x0 4).at_ := by rw [es]
      have hsw : (startX S).w = numV S x0 4 := by rw [es]
      have hm : Mat (startD S) { initRd with window := 16 * 2 ^ (numV S x0 4).toNat, part := 1 } := by
        refine ⟨rfl, ⟨rfl, fun i hi => absurd hi (by show ¬ i < 0; omega), ?_⟩, fun i hi => rfl, ?_, ?_⟩
        · show (0 : Int) = if ((0 : Nat) : Int) ≤ 16 * 2 ^ (numV S x0 4).toNat then ((0 : Nat) : Int) else 16 * 2 ^ (numV S x0 4).toNat
          rw [if_pos (by omega)]
          rfl
        · show 16 * 2 ^ (numV S x0 4).toNat = 16 * 2 ^ (startX S).w.toNat
          rw [hsw]
        · show 16 * 2 ^ (numV S x0 4).toNat ≤ 4096
          omega
      have hr : RIn S (startD S) := by
        refine ⟨by show (startX S).at_ ≤ _; rw [hsa]; exact numS_ok hoc 4, fun i hi => ?_, fun _ => ?_, ?_, Nat.zero_le _⟩
        · show 1 ≤ (if i < 4 then (i : Int) + 1 else 0) ∧ (if i < 4 then (i : Int) + 1 else 0) ≤ 4095
          rw [if_pos hi]
          omega
        · show 0 ≤ (startX S).w ∧ (startX S).w ≤ 8
          rw [hsw]
          exact ⟨nb.1, h8⟩
        · show (0 : Int) ≤ _
          omega
      rw [d1]
      exact read_sim (8 * S.size + 2) false (startD S) _ (by omega) i1 hs0 rfl hm hr
    · have hst : (x1 S).state = 2 := by
        unfold x1
        rw [decide_eq_false h8]
        unfold needS
        rw [if_pos ⟨h1, rfl⟩]
      have hne : (x1 S).state ≠ 0 := by rw [hst]; omega
      have es : startX S = x1 S := by unfold startX; rw [if_neg hne]
      rw [stop (by rw [es]; exact hne)]
      have ew : useWindow (setAt S (numS S x0 4) initRd) (numV S x0 4) = fault (setAt S (numS S x0 4) initRd) := by
        unfold useWindow
        rw [if_pos (by omega)]
      rw [ew, drive_stop (s := fault (setAt S (numS S x0 4) initRd)) (Or.inr rfl)] at d1
      rw [d1]
      exact .wrong (by show (fillS S (startX S)).state = 2; rw [es, fillS_off hne]; exact hst) rfl rfl
  · obtain ⟨d1, h1'⟩ := num_stuck (S := S) (x := x0) (s := initRd) rfl (by decide) (by decide) (by decide) (show width initRd = ((4 : Nat) : Int) from rfl) h1
    have ex : x1 S = numS S x0 4 := by unfold x1; rw [needS_stop h1]
    have es : startX S = numS S x0 4 := by unfold startX; rw [ex, if_neg h1]
    rw [stop (by rw [es]; exact h1), d1]
    exact .stuck (by show (fillS S (startX S)).state = 1; rw [es, fillS_off h1]; exact h1') (by show (0 : Int) ≤ 9; omega) rfl

/-- what the document reads is what the reader reads -/
theorem doc_eq (S : ByteArray) : (full S.data.toList).out = (readD S).out ∧ errnoBig (full S.data.toList) = readV S := by
  rw [full_at]
  have h := read_fin S
  have eo : (readD S).out = (readR S).2.out := rfl
  have ex : (readD S).x = fillS S (readR S).2.x := rfl
  rw [eo]
  unfold readV errnoBig
  rw [ex]
  cases h with
  | stuck h p o => exact ⟨o, by rw [if_neg (by omega), if_pos (by omega), if_neg (by omega), h]⟩
  | wrong h p o => exact ⟨o, by rw [if_pos p, if_neg (by omega), h]⟩
  | read h p n o =>
    refine ⟨o, ?_⟩
    rw [if_neg (by omega), if_neg (by omega), n, h]
    unfold haveAt
    by_cases hq : (fillS S (readR S).2.x).at_ < 8 * S.size
    · rw [if_pos (by omega), if_pos ⟨rfl, hq⟩]
    · rw [if_neg (by omega), if_neg (fun q => hq q.2)]
end Wr
