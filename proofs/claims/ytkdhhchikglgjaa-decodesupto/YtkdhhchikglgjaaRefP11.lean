/- FULL CODES: the document's and the reader's. No Go. -/
import Derived.Test.YtkdhhchikglgjaaRefP10
namespace Wr

theorem count_congr {f g : Nat → Int} : ∀ {n : Nat}, (∀ j, j < n → f j = g j) → countGo f n = countGo g n
  | 0, _ => rfl
  | n + 1, h => by
    have ih := count_congr (f := f) (g := g) (n := n) (fun j hj => h j (by omega))
    unfold countGo
    rw [ih, h n (by omega)]
theorem order_congr {cnt sym f g : Nat → Int} : ∀ {n : Nat}, (∀ j, j < n → f j = g j) → orderGo cnt sym f n = orderGo cnt sym g n
  | 0, _ => rfl
  | n + 1, h => by
    have ih := order_congr (cnt := cnt) (sym := sym) (f := f) (g := g) (n := n) (fun j hj => h j (by omega))
    unfold orderGo
    rw [ih, h n (by omega)]
theorem order_any (f sym sym' : Nat → Int) (n : Nat) (hn : n ≤ 272) (p : Nat) (hp : (p : Int) < aheadOf (countGo f n).1 13) :
    (orderGo (countGo f n).1 sym f n).1 p = (orderGo (countGo f n).1 sym' f n).1 p := by
  obtain ⟨l, h1, h2, h3⟩ := ahead_find _ (p : Int) (by omega) 13 hp
  have e : aheadOf (countGo f n).1 (l + 1) = aheadOf (countGo f n).1 l + (countGo f n).1 l := rfl
  have c := count_occ f n l
  have hl : 1 ≤ l ∧ l ≤ 12 := by
    by_cases hl0 : 1 ≤ l ∧ l ≤ 12
    · exact hl0
    · rw [if_neg hl0] at c; omega
  rw [if_pos hl] at c
  obtain ⟨i, i1, i2, i3⟩ := occ_find f l ((p : Int) - aheadOf (countGo f n).1 l) (by omega) n (by omega)
  have s1 := (order_spec f sym n hn n (Nat.le_refl n)).2 i i1 (by omega) (by omega)
  have s2 := (order_spec f sym' n hn n (Nat.le_refl n)).2 i i1 (by omega) (by omega)
  have ep : placeOf (countGo f n).1 f i = p := by
    unfold placeOf
    rw [i2, i3, show ((l : Int)).toNat = l by omega]
    omega
  rw [ep, Int.toNat_natCast] at s1 s2
  rw [s1, s2]

/-- what a step of the maker comes to -/
def codeOf (r : Rd × Int) : Rd := if r.2 = 2 then fault r.1 else if r.2 = 0 then r.1 else madeCode r.1
theorem useCode_of (s : Rd) (v : Int) : useCode s v = codeOf (give s v) := rfl

structure FullAt (s : Rd) (N n : Nat) (f : Nat → Int) : Prop where
  part : s.part = 4 ∨ s.part = 5
  step : s.mstep = 3
  size : s.msize = N
  at_ : s.mat = n
  len : ∀ p, p < n → s.mlen p = f p
def fullEndS (S : ByteArray) (N g : Nat) (f : Nat → Int) (n : Nat) (x : Sr) : Sr := needS (fullGo S N g f n x).2.2 (decide ((countGo (fullGo S N g f n x).1 (fullGo S N g f n x).2.1).2 = 4096))
def fullEndC (S : ByteArray) (N g : Nat) (f : Nat → Int) (n : Nat) (x : Sr) : Nat → Int := (countGo (fullGo S N g f n x).1 (fullGo S N g f n x).2.1).1
def fullEndM (S : ByteArray) (N g : Nat) (f : Nat → Int) (n : Nat) (x : Sr) : Nat → Int := (orderGo (fullEndC S N g f n x) (fun _ => 0) (fullGo S N g f n x).1 (fullGo S N g f n x).2.1).1

theorem end_stop {S : ByteArray} {N g : Nat} {f : Nat → Int} {n : Nat} {x : Sr} {r : (Nat → Int) × Nat × Sr} (h : fullGo S N g f n x = r) (hs : r.2.2.state ≠ 0) : fullEndS S N g f n x = r.2.2 := by
  unfold fullEndS
  rw [h, needS_stop hs]
theorem full_stop {S : ByteArray} {N : Nat} (g : Nat) (f : Nat → Int) (n : Nat) {y : Sr} (h : ¬ (n < N ∧ y.state = 0)) : fullGo S N g f n y = (f, n, y) := by
  cases g with
  | zero => rfl
  | succ g => unfold fullGo; rw [if_neg h]
theorem full_step {S : ByteArray} {N g : Nat} {f : Nat → Int} {n : Nat} {y : Sr} {V : Int} {T : Nat} {y2 : Sr} (hn : n < N) (h0 : y.state = 0) (hR : fullOne S f n y = (V, (T : Int), y2)) :
    fullGo S N (g + 1) f n y = if (needS y2 (decide ((n : Int) + T ≤ N))).state = 0 then fullGo S N g (fillLen f n V T) (n + T) (needS y2 (decide ((n : Int) + T ≤ N))) else (f, n, needS y2 (decide ((n : Int) + T ≤ N))) := by
  conv => lhs; unfold fullGo
  rw [if_pos ⟨hn, h0⟩, hR]
  rfl

/-- a step of lengths, once it is read -/
theorem lay_sim {S : ByteArray} {N g : Nat} (hN : N ≤ 272) {f : Nat → Int} {n : Nat} {x x2 : Sr} {s s2 : Rd} {V : Int} {T : Nat} (hn : n < N) (h0 : x.state = 0) (h2 : x2.state = 0) (hR : fullOne S f n x = (V, (T : Int), x2))
    (hal : Alone s s2) (hF : FullAt s2 N n f) (hd : drive (setAt S x s) = drive (setAt S x2 (codeOf (lay s2 V T)))) (hi : Inv (setAt S x2 (codeOf (lay s2 V T)))) (hT : 1 ≤ T)
    (ih : ∀ t, Inv (setAt S x2 t) → FullAt t N (n + T) (fillLen f n V T) → n + T < N → CodeEnd S t x2 (fullEndS S N g (fillLen f n V T) (n + T) x2) (fullEndC S N g (fillLen f n V T) (n + T) x2) (fullEndM S N g (fillLen f n V T) (n + T) x2)) :
    CodeEnd S s x (fullEndS S N (g + 1) f n x) (fullEndC S N (g + 1) f n x) (fullEndM S N (g + 1) f n x) := by
  have hz := hF.size
  have ha := hF.at_
  have step := full_step (g := g) hn h0 hR
  by_cases hle : (n : Int) + T ≤ N
  · have hle2 : n + T ≤ N := by omega
    rw [decide_eq_true hle, needS_true, if_pos h2] at step
    have eS : fullEndS S N (g + 1) f n x = fullEndS S N g (fillLen f n V T) (n + T) x2 := by unfold fullEndS; rw [step]
    have eC : fullEndC S N (g + 1) f n x = fullEndC S N g (fillLen f n V T) (n + T) x2 := by unfold fullEndC; rw [step]
    have eM : fullEndM S N (g + 1) f n x = fullEndM S N g (fillLen f n V T) (n + T) x2 := by unfold fullEndM; rw [eC, step]
    rw [eS, eC, eM]
    have hlen : ∀ p, p < n + T → fillLen s2.mlen s2.mat.toNat V ((T : Int)).toNat p = fillLen f n V T p := by
      intro p hp
      rw [ha, Int.toNat_natCast, Int.toNat_natCast]
      unfold fillLen
      split
      · rfl
      · exact hF.len p (by omega)
    have nle : ¬ (s2.msize < s2.mat + (T : Int) ∨ 272 < s2.mat + (T : Int)) := by rw [hz, ha]; omega
    by_cases hlt : n + T < N
    · have el : lay s2 V T = ({ s2 with mlen := fillLen s2.mlen s2.mat.toNat V ((T : Int)).toNat, mat := s2.mat + T }, 0) := by
        unfold lay
        rw [if_neg nle]
        dsimp only
        rw [if_pos (by rw [hz, ha]; omega)]
      rw [el] at hd hi
      have r := ih { s2 with mlen := fillLen s2.mlen s2.mat.toNat V ((T : Int)).toNat, mat := s2.mat + T } hi ⟨hF.part, hF.step, hz, by show s2.mat + T = _; omega, hlen⟩ hlt
      have hd2 : drive (setAt S x s) = drive (setAt S x2 { s2 with mlen := fillLen s2.mlen s2.mat.toNat V ((T : Int)).toNat, mat := s2.mat + T }) := hd
      cases r with
      | stuck h p o => exact .stuck h (by rw [hd2]; exact p) (by rw [hd2]; exact o.trans hal.out)
      | wrong h p o => exact .wrong h (by rw [hd2]; exact p) (by rw [hd2]; exact o.trans hal.out)
      | read h t a c m d i => exact .read h t (hal.trans ⟨a.part, a.last, a.kind, a.left, a.lcnt, a.lsym, a.near, a.ring, a.at_, a.window, a.reach, a.out, a.msize, a.mwidth⟩) c m (hd2.trans d) i
    · have heq : n + T = N := by omega
      have st := full_stop (S := S) (N := N) g (fillLen f n V T) (n + T) (y := x2) (fun q => hlt q.1)
      have cc := count_congr hlen
      have hm : (s2.mat + (T : Int)).toNat = n + T := by omega
      by_cases hq : (countGo (fillLen f n V T) (n + T)).2 = 4096
      · have el : lay s2 V T = ({ s2 with mlen := fillLen s2.mlen s2.mat.toNat V ((T : Int)).toNat, mat := s2.mat + T, mcnt := (countGo (fillLen f n V T) (n + T)).1, msym := (orderGo (countGo (fillLen f n V T) (n + T)).1 s2.msym (fillLen s2.mlen s2.mat.toNat V ((T : Int)).toNat) (n + T)).1 }, 1) := by
          unfold lay
          rw [if_neg nle]
          dsimp only
          rw [if_neg (by rw [hz, ha]; omega), hm, cc, if_pos hq]
        rw [el] at hd hi
        have es : fullEndS S N g (fillLen f n V T) (n + T) x2 = x2 := by
          unfold fullEndS
          rw [st]
          dsimp only
          rw [decide_eq_true hq, needS_true]
        rw [es]
        have ec : fullEndC S N g (fillLen f n V T) (n + T) x2 = (countGo (fillLen f n V T) (n + T)).1 := by unfold fullEndC; rw [st]
        have em : fullEndM S N g (fillLen f n V T) (n + T) x2 = (orderGo (countGo (fillLen f n V T) (n + T)).1 (fun _ => 0) (fillLen f n V T) (n + T)).1 := by unfold fullEndM; rw [ec, st]
        rw [ec, em]
        refine .read h2 { s2 with mlen := fillLen s2.mlen s2.mat.toNat V ((T : Int)).toNat, mat := s2.mat + T, mcnt := (countGo (fillLen f n V T) (n + T)).1, msym := (orderGo (countGo (fillLen f n V T) (n + T)).1 s2.msym (fillLen s2.mlen s2.mat.toNat V ((T : Int)).toNat) (n + T)).1 } ⟨hal.part, hal.last, hal.kind, hal.left, hal.lcnt, hal.lsym, hal.near, hal.ring, hal.at_, hal.window, hal.reach, hal.out, hal.msize, hal.mwidth⟩ rfl (fun p hp => ?_) hd hi
        show (orderGo (countGo (fillLen f n V T) (n + T)).1 s2.msym (fillLen s2.mlen s2.mat.toNat V ((T : Int)).toNat) (n + T)).1 p = _
        rw [order_congr hlen]
        exact order_any _ _ _ (n + T) (by omega) p hp
      · have el : lay s2 V T = ({ s2 with mlen := fillLen s2.mlen s2.mat.toNat V ((T : Int)).toNat, mat := s2.mat + T, mcnt := (countGo (fillLen f n V T) (n + T)).1 }, 2) := by
          unfold lay
          rw [if_neg nle]
          dsimp only
          rw [if_neg (by rw [hz, ha]; omega), hm, cc, if_neg hq]
        rw [el] at hd
        have es : (fullEndS S N g (fillLen f n V T) (n + T) x2).state = 2 := by
          unfold fullEndS
          rw [st]
          dsimp only
          rw [decide_eq_false hq]
          unfold needS
          rw [if_pos ⟨h2, rfl⟩]
        have fe := fault_end (S := S) (x := x2) (s := { s2 with mlen := fillLen s2.mlen s2.mat.toNat V ((T : Int)).toNat, mat := s2.mat + T, mcnt := (countGo (fillLen f n V T) (n + T)).1 })
        have hd2 : drive (setAt S x s) = drive (setAt S x2 (fault { s2 with mlen := fillLen s2.mlen s2.mat.toNat V ((T : Int)).toNat, mat := s2.mat + T, mcnt := (countGo (fillLen f n V T) (n + T)).1 })) := hd
        exact .wrong es (by rw [hd2]; exact fe.1) (by rw [hd2]; exact fe.2.trans hal.out)
  · have hst : (needS x2 false).state = 2 := by
      unfold needS
      rw [if_pos ⟨h2, rfl⟩]
    rw [decide_eq_false hle, if_neg (by rw [hst]; omega)] at step
    have el : lay s2 V T = (s2, 2) := by
      unfold lay
      rw [if_pos (by rw [hz, ha]; omega)]
    rw [el] at hd
    have hd2 : drive (setAt S x s) = drive (setAt S x2 (fault s2)) := hd
    have fe := fault_end (S := S) (x := x2) (s := s2)
    have es := end_stop step (by show (needS x2 false).state ≠ 0; rw [hst]; omega)
    exact .wrong (by rw [es]; exact hst) (by rw [hd2]; exact fe.1) (by rw [hd2]; exact fe.2.trans hal.out)
end Wr
