/- A CODE IS READ: the document's and the reader's. No Go. -/
import Derived.Test.YtkdhhchikglgjaaRefP9
namespace Wr

theorem lay_set (S : ByteArray) (y : Sr) (s : Rd) (x n : Int) : lay (setAt S y s) x n = (setAt S y (lay s x n).1, (lay s x n).2) := by
  unfold lay
  have e1 : (setAt S y s).msize = s.msize := rfl
  have e2 : (setAt S y s).mat = s.mat := rfl
  have e3 : (setAt S y s).mlen = s.mlen := rfl
  have e4 : (setAt S y s).msym = s.msym := rfl
  rw [e1, e2, e3, e4]
  split
  · rfl
  · dsimp only
    split
    · rfl
    · split <;> rfl
theorem give_set (S : ByteArray) (y : Sr) (s : Rd) (x : Int) : give (setAt S y s) x = (setAt S y (give s x).1, (give s x).2) := by
  unfold give
  have e1 : (setAt S y s).mstep = s.mstep := rfl
  rw [e1]
  split
  · rfl
  split
  · rfl
  split
  · unfold nameP
    have e2 : (setAt S y s).msize = s.msize := rfl
    have e3 : (setAt S y s).mat = s.mat := rfl
    have e4 : (setAt S y s).msym = s.msym := rfl
    rw [e2, e3, e4]
    split
    · rfl
    split
    · rfl
    · dsimp only
      have e5 : (setAt S y s).mwanted = s.mwanted := rfl
      rw [e5]
      split <;> rfl
  split
  · unfold lengthP
    have e3 : (setAt S y s).mat = s.mat := rfl
    rw [e3]
    split
    · exact lay_set S y s x 1
    split <;> rfl
  · unfold times
    dsimp only
    have e3 : (setAt S y s).mrepeat = s.mrepeat := rfl
    rw [e3]
    split
    · exact lay_set S y { s with mstep := 3 } (before { s with mstep := 3 }) (3 + x)
    split
    · exact lay_set S y { s with mstep := 3 } 0 (3 + x)
    · exact lay_set S y { s with mstep := 3 } 0 (11 + x)
theorem useCode_set (S : ByteArray) (y : Sr) (s : Rd) (x : Int) : useCode (setAt S y s) x = setAt S y (useCode s x) := by
  unfold useCode
  rw [give_set]
  dsimp only
  have e1 : (setAt S y (give s x).1).part = (give s x).1.part := rfl
  rw [e1]
  split
  · rfl
  split
  · rfl
  split <;> rfl
theorem use_code (S : ByteArray) (y : Sr) (s : Rd) (x : Int) (hp : s.part = 4 ∨ s.part = 5) : use (setAt S y s) x = setAt S y (useCode s x) := by
  rw [← useCode_set]
  have ep : (setAt S y s).part = s.part := rfl
  unfold use
  rw [ep, if_neg (by omega), if_neg (by omega), if_neg (by omega), if_neg (by omega), if_pos hp]

/-- what making a code leaves alone -/
structure Alone (s t : Rd) : Prop where
  part : t.part = s.part
  last : t.last = s.last
  kind : t.kind = s.kind
  left : t.left = s.left
  lcnt : t.lcnt = s.lcnt
  lsym : t.lsym = s.lsym
  near : t.near = s.near
  ring : t.ring = s.ring
  at_ : t.at_ = s.at_
  window : t.window = s.window
  reach : t.reach = s.reach
  out : t.out = s.out
  msize : t.msize = s.msize
  mwidth : t.mwidth = s.mwidth
theorem Alone.refl (s : Rd) : Alone s s := ⟨rfl, rfl, rfl, rfl, rfl, rfl, rfl, rfl, rfl, rfl, rfl, rfl, rfl, rfl⟩
theorem Alone.trans {s t u : Rd} (h : Alone s t) (k : Alone t u) : Alone s u :=
  ⟨k.part.trans h.part, k.last.trans h.last, k.kind.trans h.kind, k.left.trans h.left, k.lcnt.trans h.lcnt, k.lsym.trans h.lsym, k.near.trans h.near, k.ring.trans h.ring, k.at_.trans h.at_, k.window.trans h.window, k.reach.trans h.reach, k.out.trans h.out, k.msize.trans h.msize, k.mwidth.trans h.mwidth⟩

/-- the code is made -/
def madeCode (t : Rd) : Rd := if t.part = 4 then { begin { t with lcnt := t.mcnt, lsym := t.msym } 16 4 with part := 5 } else { t with dcnt := t.mcnt, dsym := t.msym, part := 6 }
/-- what becomes of a code: stuck, wrong, or read -/
inductive CodeEnd (S : ByteArray) (s : Rd) (x : Sr) (y : Sr) (cnt sym : Nat → Int) : Prop
  | stuck (h : y.state = 1) (p : (drive (setAt S x s)).part ≤ 9) (o : (drive (setAt S x s)).out = s.out)
  | wrong (h : y.state = 2) (p : (drive (setAt S x s)).part = 11) (o : (drive (setAt S x s)).out = s.out)
  | read (h : y.state = 0) (t : Rd) (a : Alone s t) (c : t.mcnt = cnt) (m : ∀ p : Nat, (p : Int) < aheadOf cnt 13 → t.msym p = sym p)
      (d : drive (setAt S x s) = drive (setAt S y (madeCode t))) (i : Inv (setAt S y (madeCode t)))

theorem code_num {S : ByteArray} {x : Sr} {s : Rd} {n : Nat} (hI : Inv (setAt S x s)) (h0 : x.state = 0) (hp : s.part = 4 ∨ s.part = 5) (hw : mWidth s = n) :
    ((numS S x n).state = 0 ∧ drive (setAt S x s) = drive (setAt S (numS S x n) (useCode s (numV S x n))) ∧ Inv (setAt S (numS S x n) (useCode s (numV S x n)))) ∨
    ((numS S x n).state = 1 ∧ drive (setAt S x s) = setAt S x s) := by
  have ew : width s = n := by
    unfold width
    rw [if_neg (by omega), if_neg (by omega), if_neg (by omega), if_pos hp]
    exact hw
  by_cases hn : (numS S x n).state = 0
  · left
    have r := num_go hI h0 (by omega) (by omega) (by omega) ew hn
    rw [use_code S _ s _ hp] at r
    exact ⟨hn, r.1, r.2⟩
  · right
    have r := num_stuck (S := S) h0 (by omega) (by omega) (by omega) ew hn
    exact ⟨r.2, r.1⟩
theorem fault_end {S : ByteArray} {x : Sr} {s : Rd} : (drive (setAt S x (fault s))).part = 11 ∧ (drive (setAt S x (fault s))).out = s.out := by
  rw [drive_stop (s := setAt S x (fault s)) (Or.inr rfl)]
  exact ⟨rfl, rfl⟩
theorem useCode_wrong {s t : Rd} {v : Int} (h : give s v = (t, 2)) : useCode s v = fault t := by
  unfold useCode
  rw [h]
  rfl
theorem useCode_more2 {s t : Rd} {v : Int} (h : give s v = (t, 0)) : useCode s v = t := by
  unfold useCode
  rw [h]
  rfl
theorem useCode_made {s t : Rd} {v : Int} (h : give s v = (t, 1)) : useCode s v = madeCode t := by
  unfold useCode madeCode
  rw [h]
  rfl

/- names -/
structure NameAt (s : Rd) (N : Nat) (sz : Nat) (i k : Nat) (nm : Nat → Int) : Prop where
  part : s.part = 4 ∨ s.part = 5
  step : s.mstep = 2
  size : s.msize = N
  width : s.mwidth = sz
  at_ : s.mat = i
  wanted : s.mwanted = (i + k : Nat)
  sym : ∀ p, p < i → s.msym p = nm p
theorem ahead_simple {n : Nat} (h1 : 1 ≤ n) (h4 : n ≤ 4) : aheadOf (simpleCnt n) 13 = n := by
  rcases (show n = 1 ∨ n = 2 ∨ n = 3 ∨ n = 4 by omega) with rfl | rfl | rfl | rfl <;> decide
theorem names_sim {S : ByteArray} {N sz : Nat} (hN : N ≤ 272) : ∀ (k i : Nat) (nm : Nat → Int) (x : Sr) (s : Rd), Inv (setAt S x s) → x.state = 0 → NameAt s N sz i (k + 1) nm → i + (k + 1) ≤ 4 →
    CodeEnd S s x (nameGo S N sz (k + 1) i nm x).2 (simpleCnt (i + (k + 1) : Nat)) (nameGo S N sz (k + 1) i nm x).1
  | k, i, nm, x, s, hI, h0, hs, h4 => by
    have hw : mWidth s = sz := by
      unfold mWidth
      rw [hs.step]
      exact hs.width
    have ha := hs.at_
    have hz := hs.size
    have hwt := hs.wanted
    unfold nameGo
    rcases code_num hI h0 hs.part hw with ⟨hn, hd, hi⟩ | ⟨hn, hd⟩
    · have hv := numV_bounds S x sz
      have eg : give s (numV S x sz) = nameP s (numV S x sz) := by
        unfold give
        rw [hs.step]
        rfl
      by_cases hok : befN nm i < numV S x sz ∧ numV S x sz < N
      · rw [decide_eq_true hok, needS_true, if_neg (fun q => q hn)]
        have hb := hok.1
        unfold befN at hb
        have c1 : ¬ (s.msize ≤ numV S x sz ∨ 272 ≤ s.mat) := by rw [hz, ha]; omega
        have c2 : ¬ (0 < s.mat ∧ numV S x sz ≤ s.msym (s.mat - 1).toNat) := by
          rw [ha]
          rintro ⟨q1, q2⟩
          have hi0 : i ≠ 0 := by omega
          rw [show ((i : Int) - 1).toNat = i - 1 by omega, hs.sym (i - 1) (by omega)] at q2
          rw [if_neg hi0] at hb
          omega
        have eu : ∀ p, p < i + 1 → upd s.msym s.mat.toNat (numV S x sz) p = upd nm i (numV S x sz) p := by
          intro p hp
          rw [ha, Int.toNat_natCast]
          unfold upd
          split
          · rfl
          · exact hs.sym p (by omega)
        cases k with
        | zero =>
          have e : give s (numV S x sz) = ({ s with msym := upd s.msym s.mat.toNat (numV S x sz), mat := s.mat + 1, mcnt := simpleCnt s.mwanted }, 1) := by
            rw [eg]
            unfold nameP
            rw [if_neg c1, if_neg c2]
            dsimp only
            rw [if_neg (by omega)]
          rw [useCode_made e] at hd hi
          refine CodeEnd.read hn { s with msym := upd s.msym s.mat.toNat (numV S x sz), mat := s.mat + 1, mcnt := simpleCnt s.mwanted } ⟨rfl, rfl, rfl, rfl, rfl, rfl, rfl, rfl, rfl, rfl, rfl, rfl, rfl, rfl⟩ ?_ ?_ hd hi
          · show simpleCnt s.mwanted = _
            rw [hwt]
          · intro p hp
            rw [ahead_simple (by omega) h4] at hp
            show upd s.msym s.mat.toNat (numV S x sz) p = upd nm i (numV S x sz) p
            exact eu p (by omega)
        | succ k =>
          have e : give s (numV S x sz) = ({ s with msym := upd s.msym s.mat.toNat (numV S x sz), mat := s.mat + 1 }, 0) := by
            rw [eg]
            unfold nameP
            rw [if_neg c1, if_neg c2]
            dsimp only
            rw [if_pos (by omega)]
          rw [useCode_more2 e] at hd hi
          have ih := names_sim hN k (i + 1) (upd nm i (numV S x sz)) (numS S x sz) _ hi hn ⟨hs.part, hs.step, hs.size, hs.width, by show s.mat + 1 = ((i + 1 : Nat) : Int); omega, by show s.mwanted = ((i + 1 + (k + 1) : Nat) : Int); omega, eu⟩ (by omega)
          rw [show i + 1 + (k + 1) = i + (k + 1 + 1) by omega] at ih
          cases ih with
          | stuck h p o => exact .stuck h (by rw [hd]; exact p) (by rw [hd]; exact o)
          | wrong h p o => exact .wrong h (by rw [hd]; exact p) (by rw [hd]; exact o)
          | read h t a c m d i2 => exact .read h t ⟨a.part, a.last, a.kind, a.left, a.lcnt, a.lsym, a.near, a.ring, a.at_, a.window, a.reach, a.out, a.msize, a.mwidth⟩ c m (hd.trans d) i2
      · have hst : (needS (numS S x sz) false).state = 2 := by
          unfold needS
          rw [if_pos ⟨hn, rfl⟩]
        rw [decide_eq_false hok, if_pos (by rw [hst]; omega)]
        have e : give s (numV S x sz) = (s, 2) := by
          rw [eg]
          unfold nameP
          by_cases c1 : s.msize ≤ numV S x sz ∨ 272 ≤ s.mat
          · rw [if_pos c1]
          · rw [if_neg c1, if_pos]
            rw [hz, ha] at c1
            have hnb : ¬ befN nm i < numV S x sz := fun q => hok ⟨q, by omega⟩
            unfold befN at hnb
            by_cases hi0 : i = 0
            · rw [if_pos hi0] at hnb; omega
            · rw [if_neg hi0] at hnb
              rw [ha, show ((i : Int) - 1).toNat = i - 1 by omega, hs.sym (i - 1) (by omega)]
              omega
        rw [useCode_wrong e] at hd
        have f := fault_end (S := S) (x := numS S x sz) (s := s)
        exact .wrong hst (by rw [hd]; exact f.1) (by rw [hd]; exact f.2)
    · rw [needS_stop (by rw [hn]; omega), if_pos (by rw [hn]; omega)]
      exact .stuck hn (by rw [hd]; show s.part ≤ 9; have := hs.part; omega) (by rw [hd]; rfl)
end Wr
