/- A CODED BLOCK: the document's and the reader's. No Go. -/
import Derived.Test.YtkdhhchikglgjaaRefP15
namespace Wr
open Go.Proofs.Ytkdhhchikglgjaa

theorem endCommand_set (S : ByteArray) (x : Sr) (t : Rd) : endCommand (setAt S x t) = if t.left = 0 then endBlock (setAt S x { t with part := 6 }) else setAt S x { t with part := 6 } := rfl
theorem Mat.part {d : Dr} {s : Rd} (h : Mat d s) (p : Int) : Mat d { s with part := p } := ⟨h.out, ⟨h.ring.at_, h.ring.ring, h.ring.reach⟩, h.near, h.window, h.w1⟩

theorem coded_stop {S : ByteArray} {lw dw : List Wd} (g : Nat) {left : Int} {d : Dr} (h : ¬ (0 < left ∧ d.x.state = 0)) : codedGo S lw dw g left d = d := by
  cases g with
  | zero => rfl
  | succ g => unfold codedGo; rw [if_neg h]

/-- behind a command -/
theorem behind {S : ByteArray} {lw dw : List Wd} {g : Nat} {left : Int} {d : Dr} {s t : Rd} {x : Sr} (h0 : d.x.state = 0) (hl : t.last = s.last) (ht : CmdAt t d left lw dw) (hl0 : 0 ≤ left)
    (hd : drive (setAt S x s) = drive (endCommand (setAt S d.x t))) (hi : Inv (endCommand (setAt S d.x t)))
    (ih : 0 < left → Inv (setAt S d.x { t with part := 6 }) → CmdEnd S { t with part := 6 } d.x (codedGo S lw dw g left d)) : CmdEnd S s x (codedGo S lw dw g left d) := by
  rw [endCommand_set] at hd hi
  by_cases hz : left = 0
  · rw [if_pos (ht.left.trans hz)] at hd hi
    rw [coded_stop g (fun q => by omega)]
    exact .read h0 { t with part := 6 } hl (ht.mat.part 6) hd hi
  · rw [if_neg (by rw [ht.left]; exact hz)] at hd hi
    exact (ih (by omega) hi).from hd hl

theorem coded_sim {S : ByteArray} {lw dw : List Wd} : ∀ (g : Nat) (left : Int) (d : Dr) (s : Rd), 0 < left → left < g → Inv (setAt S d.x s) → s.part = 6 → d.x.state = 0 → okAt S d.x → CmdAt s d left lw dw → (∀ i, i < 4 → 1 ≤ d.far i ∧ d.far i ≤ 4095) →
    CmdEnd S s d.x (codedGo S lw dw g left d)
  | 0, _, _, _, h1, h2, _, _, _, _, _, _ => absurd h2 (by omega)
  | g + 1, left, d, s, h1, h2, hI, hp, h0, hok, hs, hf => by
    have hpk : peek (setAt S d.x s) = find s.lcnt s.lsym (holdAt S d.x) (haveAt S d.x) := by
      unfold peek
      rw [if_pos (show (setAt S d.x s).part = 6 from hp)]
      rfl
    have hsb := symV_bounds (N := 272) (S := S) (by omega) (codeWs_sym hs.cl) d.x
    have hoks : okAt S (symS S lw d.x) := symS_at hok
    have hsw := symS_w S lw d.x
    have st := sym_step hs.cl hpk (by omega) hI h0 hok
    rw [hs.lw] at st hsb
    unfold codedGo
    rw [if_pos ⟨h1, h0⟩]
    rcases st with ⟨hn, hd, hi⟩ | ⟨hn, hd⟩
    · rw [if_neg (fun q => q hn)]
      have eu : use (setAt S (symS S lw d.x) s) (symV S lw d.x) = useLetter (setAt S (symS S lw d.x) s) (symV S lw d.x) := by
        unfold use
        have ep : (setAt S (symS S lw d.x) s).part = s.part := rfl
        rw [ep, if_neg (by omega), if_neg (by omega), if_neg (by omega), if_neg (by omega), if_neg (by omega), if_pos hp]
      rw [eu] at hd hi
      by_cases hlt : symV S lw d.x < 256
      · rw [if_pos hlt]
        have el : useLetter (setAt S (symS S lw d.x) s) (symV S lw d.x) = endCommand (setAt S (symS S lw d.x) (put s (symV S lw d.x))) := by
          unfold useLetter
          rw [if_pos hlt]
          rfl
        rw [el] at hd hi
        refine behind (d := { d with x := symS S lw d.x, out := d.out ++ [symV S lw d.x] }) (t := put s (symV S lw d.x)) hn rfl ⟨?_, hs.mat.put _ _ hsw, hs.lw, hs.dw, hs.cl, hs.cd⟩ (by omega) hd hi (fun q hq => ?_)
        · show s.left - 1 = left - 1
          rw [hs.left]
        · exact coded_sim g (left - 1) _ _ q (by omega) hq rfl hn hoks ⟨by show s.left - 1 = left - 1; rw [hs.left], (hs.mat.put _ _ hsw).part 6, hs.lw, hs.dw, hs.cl, hs.cd⟩ hf
      · rw [if_neg hlt]
        have el : useLetter (setAt S (symS S lw d.x) s) (symV S lw d.x) = setAt S (symS S lw d.x) { s with least := lenLeast (symV S lw d.x - 256), more := lenMore (symV S lw d.x - 256), part := 7 } := by
          unfold useLetter
          rw [if_neg hlt]
          rfl
        rw [el] at hd hi
        have ek : symV S lw d.x - 256 = (((symV S lw d.x - 256).toNat : Nat) : Int) := by omega
        rw [ek] at hd hi
        have hm2 : Mat { d with x := symS S lw d.x } s := ⟨hs.mat.out, hs.mat.ring, hs.mat.near, by show s.window = 16 * 2 ^ (symS S lw d.x).w.toNat; rw [hsw]; exact hs.mat.window, hs.mat.w1⟩
        have cp := copy_sim (S := S) (dw := dw) (k := (symV S lw d.x - 256).toNat) (left := left) (d := { d with x := symS S lw d.x }) (s := s) (by omega) hn hoks hm2 hs.left hs.dw hs.cd hf rfl hi
        have kp := copyD_keeps (S := S) (dw := dw) (k := (symV S lw d.x - 256).toNat) (left := left) (d := { d with x := symS S lw d.x }) (by omega) hoks (by rw [← hs.dw]; exact codeWs_sym hs.cd) hf (by omega)
        cases cp with
        | stuck h p o =>
          rw [coded_stop g (fun q => by rw [h] at q; omega)]
          exact .stuck h (by rw [hd]; exact p) (by rw [hd]; exact o)
        | wrong h p o =>
          rw [coded_stop g (fun q => by rw [h] at q; omega)]
          exact .wrong h (by rw [hd]; exact p) (by rw [hd]; exact o)
        | read h t hl hle m c1 c2 c3 c4 d2 i2 =>
          have k1 := kp.st h
          have k2 := kp.n1
          have ht : CmdAt t (copyD S dw (symV S lw d.x - 256).toNat left { d with x := symS S lw d.x }).2 (left - (copyD S dw (symV S lw d.x - 256).toNat left { d with x := symS S lw d.x }).1) lw dw :=
            ⟨hle, m, by rw [c1, c2]; exact hs.lw, by rw [c3, c4]; exact hs.dw, by rw [c1, c2]; exact hs.cl, by rw [c3, c4]; exact hs.cd⟩
          refine behind h hl ht (by omega) (hd.trans d2) i2 (fun q hq => ?_)
          exact coded_sim g _ _ _ q (by omega) hq rfl h kp.at_ ⟨ht.left, ht.mat.part 6, ht.lw, ht.dw, ht.cl, ht.cd⟩ kp.far
    · rw [if_pos (by rw [hn]; omega)]
      exact .stuck hn (by rw [hd]; show s.part ≤ 9; omega) (by rw [hd]; exact hs.mat.out)

/-- a coded block, from behind its head on -/
theorem codedD_sim {S : ByteArray} {d : Dr} {s : Rd} (hI : Inv (setAt S d.x s)) (h0 : d.x.state = 0) (hok : okAt S d.x) (hp : s.part = 2) (hk : s.kind = 2) (hm : Mat d s) (hf : ∀ i, i < 4 → 1 ≤ d.far i ∧ d.far i ≤ 4095) :
    CmdEnd S s d.x (codedD S d) := by
  have nb := numV_bounds S d.x 12
  rw [show (2 : Int) ^ 12 = 4096 from rfl] at nb
  have w12 : width s = ((12 : Nat) : Int) := by
    unfold width
    rw [hp, hk]
    rfl
  have off : ∀ y : Sr, y.state ≠ 0 → codeS S 16 4 y = y ∨ (codeS S 16 4 y).state = y.state := fun y hy => by
    right
    have v0 : bitV S y = 0 := by unfold bitV; rw [if_pos hy]
    have b0 : bitS S y = y := by unfold bitS; rw [if_pos hy]
    unfold codeS
    rw [if_pos v0, b0]
    unfold simpR
    rw [numS_off hy]
    obtain ⟨k, hk⟩ : ∃ k : Nat, (numV S y 2 + 1).toNat = k + 1 := ⟨(numV S y 2).toNat, by have := numV_bounds S y 2; omega⟩
    rw [hk]
    unfold nameGo
    rw [numS_off hy, needS_stop hy, if_pos hy]
  have off9 : ∀ y : Sr, y.state ≠ 0 → (codeS S 272 9 y).state = y.state := fun y hy => by
    have v0 : bitV S y = 0 := by unfold bitV; rw [if_pos hy]
    have b0 : bitS S y = y := by unfold bitS; rw [if_pos hy]
    unfold codeS
    rw [if_pos v0, b0]
    unfold simpR
    rw [numS_off hy]
    obtain ⟨k, hk⟩ : ∃ k : Nat, (numV S y 2 + 1).toNat = k + 1 := ⟨(numV S y 2).toNat, by have := numV_bounds S y 2; omega⟩
    rw [hk]
    unfold nameGo
    rw [numS_off hy, needS_stop hy, if_pos hy]
  have off4 : ∀ y : Sr, y.state ≠ 0 → (codeS S 16 4 y).state = y.state := fun y hy => by
    rcases off y hy with q | q
    · rw [q]
    · exact q
  have bad : (codedX S d.x).state ≠ 0 → codedD S d = { d with x := codedX S d.x } := fun q => by
    unfold codedD
    exact coded_stop _ (fun r => q r.2)
  by_cases h1 : (numS S d.x 12).state = 0
  · obtain ⟨d1, i1⟩ := num_go hI h0 (by omega) (by omega) (by omega) w12 h1
    have eu : use (setAt S (numS S d.x 12) s) (numV S d.x 12) = setAt S (numS S d.x 12) { begin { s with left := numV S d.x 12 + 1 } 272 9 with part := 4 } := by
      unfold use
      have ep : (setAt S (numS S d.x 12) s).part = s.part := rfl
      rw [ep, if_neg (by omega), if_neg (by omega), if_pos hp]
      unfold useSize
      rw [if_pos (show (setAt S (numS S d.x 12) s).kind = 2 from hk)]
      rfl
    rw [eu] at d1 i1
    have hok1 := numS_ok hok 12
    have r1 := code_sim (S := S) (N := 272) (sz := 9) (by omega) (by omega) i1 h1 hok1 ⟨Or.inl rfl, rfl, rfl, rfl, rfl⟩
    cases r1 with
    | stuck h p o =>
      have e := off4 _ (by rw [h]; omega)
      have e2 : (codedX S d.x).state = 1 := e.trans h
      rw [bad (by rw [e2]; omega)]
      exact .stuck e2 (by rw [d1]; exact p) (by rw [d1]; exact o.trans hm.out)
    | wrong h p o =>
      have e := off4 _ (by rw [h]; omega)
      have e2 : (codedX S d.x).state = 2 := e.trans h
      rw [bad (by rw [e2]; omega)]
      exact .wrong e2 (by rw [d1]; exact p) (by rw [d1]; exact o.trans hm.out)
    | read h t a c m dd i =>
      have hok2 : okAt S (codeS S 272 9 (numS S d.x 12)) := code_at hok1
      have hp4 : t.part = 4 := a.part
      have em : madeCode t = { begin { t with lcnt := t.mcnt, lsym := t.msym } 16 4 with part := 5 } := by
        unfold madeCode
        rw [if_pos hp4]
      rw [em] at dd i
      have r2 := code_sim (S := S) (N := 16) (sz := 4) (by omega) (by omega) i h hok2 ⟨Or.inr rfl, rfl, rfl, rfl, rfl⟩
      cases r2 with
      | stuck h2 p o =>
        rw [bad (by show (codeS S 16 4 _).state ≠ 0; rw [h2]; omega)]
        exact .stuck h2 (by rw [d1, dd]; exact p) (by rw [d1, dd]; exact (o.trans a.out).trans hm.out)
      | wrong h2 p o =>
        rw [bad (by show (codeS S 16 4 _).state ≠ 0; rw [h2]; omega)]
        exact .wrong h2 (by rw [d1, dd]; exact p) (by rw [d1, dd]; exact (o.trans a.out).trans hm.out)
      | read h2 t2 a2 c2 m2 dd2 i2 =>
        have hok3 : okAt S (codedX S d.x) := code_at hok2
        have hp5 : t2.part = 5 := a2.part
        have em2 : madeCode t2 = { t2 with dcnt := t2.mcnt, dsym := t2.msym, part := 6 } := by
          unfold madeCode
          rw [if_neg (by omega)]
        rw [em2] at dd2 i2
        have cl := code_cod (S := S) (N := 272) (sz := 9) (x := numS S d.x 12) (by omega) h
        have cd := code_cod (S := S) (N := 16) (sz := 4) (x := codeS S 272 9 (numS S d.x 12)) (by omega) h2
        have lc : t2.lcnt = (codeC S 272 9 (numS S d.x 12)).1 := a2.lcnt.trans c
        have lm : ∀ p : Nat, (p : Int) < aheadOf (codeC S 272 9 (numS S d.x 12)).1 13 → t2.lsym p = (codeC S 272 9 (numS S d.x 12)).2 p := fun p hp => by
          have e : t2.lsym = t.msym := a2.lsym
          rw [e]
          exact m p hp
        have h3 : (codedX S d.x).state = 0 := h2
        have ew1 : codeWs t2.lcnt t2.lsym = wsIf (codeS S 272 9 (numS S d.x 12)) (codeC S 272 9 (numS S d.x 12)) := by
          unfold wsIf
          rw [if_pos h, lc]
          exact codeWs_congr lm
        have ew2 : codeWs t2.mcnt t2.msym = wsIf (codedX S d.x) (codeC S 16 4 (codeS S 272 9 (numS S d.x 12))) := by
          unfold wsIf
          rw [if_pos h3, c2]
          exact codeWs_congr m2
        have cl2 : Cod t2.lcnt t2.lsym 272 := by
          rw [lc]
          exact ⟨cl.lo, cl.hi, cl.full, cl.few, fun p hp => by rw [lm p hp]; exact cl.sym p hp⟩
        have cd2 : Cod t2.mcnt t2.msym 16 := by
          rw [c2]
          exact ⟨cd.lo, cd.hi, cd.full, cd.few, fun p hp => by rw [m2 p hp]; exact cd.sym p hp⟩
        have w3 : (codedX S d.x).w = d.x.w := by unfold codedX; rw [codeS_w, codeS_w, numS_w]
        have hm3 : Mat { d with x := codedX S d.x } { t2 with dcnt := t2.mcnt, dsym := t2.msym, part := 6 } := by
          refine ⟨?_, ⟨?_, ?_, ?_⟩, fun i hi => ?_, ?_, ?_⟩
          · show t2.out = d.out
            rw [a2.out]
            exact a.out.trans hm.out
          · show t2.at_ = _
            rw [a2.at_]
            exact a.at_.trans hm.ring.at_
          · intro i h1 h2
            show t2.ring _ = _
            rw [a2.ring]
            show t.ring _ = _
            rw [a.ring]
            exact hm.ring.ring i h1 h2
          · show t2.reach = if _ ≤ t2.window then _ else t2.window
            rw [a2.reach, a2.window]
            show t.reach = if _ ≤ t.window then _ else t.window
            rw [a.reach, a.window]
            exact hm.ring.reach
          · show t2.near i = _
            rw [a2.near]
            show t.near i = _
            rw [a.near]
            exact hm.near i hi
          · show t2.window = 16 * 2 ^ (codedX S d.x).w.toNat
            rw [a2.window, w3]
            exact a.window.trans hm.window
          · show t2.window ≤ 4096
            rw [a2.window]
            show t.window ≤ 4096
            rw [a.window]
            exact hm.w1
        have hleft : t2.left = numV S d.x 12 + 1 := a2.left.trans a.left
        have r := coded_sim (S := S) (lw := wsIf (codeS S 272 9 (numS S d.x 12)) (codeC S 272 9 (numS S d.x 12))) (dw := wsIf (codedX S d.x) (codeC S 16 4 (codeS S 272 9 (numS S d.x 12)))) 4098 (numV S d.x 12 + 1) { d with x := codedX S d.x } { t2 with dcnt := t2.mcnt, dsym := t2.msym, part := 6 } (by omega) (by omega) i2 rfl h3 hok3 ⟨hleft, hm3, ew1, ew2, cl2, cd2⟩ hf
        exact r.from ((d1.trans dd).trans dd2) (a2.last.trans a.last)
  · obtain ⟨d1, h1'⟩ := num_stuck (S := S) h0 (by omega) (by omega) (by omega) w12 h1
    have e1 := off9 _ h1
    have e2 : (codedX S d.x).state = 1 := ((off4 _ (by rw [e1]; exact h1)).trans e1).trans h1'
    rw [bad (by rw [e2]; omega)]
    exact .stuck e2 (by rw [d1]; show s.part ≤ 9; omega) (by rw [d1]; exact hm.out)
end Wr
