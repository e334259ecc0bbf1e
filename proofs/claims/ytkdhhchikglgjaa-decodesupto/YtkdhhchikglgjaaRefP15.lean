import Derived.Test.YtkdhhchikglgjaaRefP14
import Derived.Test.YtkdhhchikglgjaaRefP8
namespace Wr
open Go.Proofs.Ytkdhhchikglgjaa

theorem use7 (S : ByteArray) (y : Sr) (s : Rd) (v : Int) (hp : s.part = 7) : use (setAt S y s) v = setAt S y { s with length := s.least + v, part := 8 } := by
  have ep : (setAt S y s).part = 7 := hp
  unfold use
  rw [ep]
  rfl
theorem use8 (S : ByteArray) (y : Sr) (s : Rd) (v : Int) (hp : s.part = 8) : use (setAt S y s) v = useDistance (setAt S y s) v := by
  have ep : (setAt S y s).part = 8 := hp
  unfold use
  rw [ep]
  rfl
theorem use9 (S : ByteArray) (y : Sr) (s : Rd) (v : Int) (hp : s.part = 9) : use (setAt S y s) v = useCopy (setAt S y { s with near := nearAdd s.near (s.least + v) }) (s.least + v) := by
  unfold use
  have ep : (setAt S y s).part = s.part := rfl
  rw [ep, if_neg (by omega), if_neg (by omega), if_neg (by omega), if_neg (by omega), if_neg (by omega), if_neg (by omega), if_neg (by omega), if_neg (by omega), if_pos hp]
  rfl
theorem near_same {f g : Nat → Int} (h : ∀ i, i < 4 → f i = g i) (a : Int) : ∀ i, i < 4 → nearAdd f a i = nearAdd g a i := by
  intro i hi
  unfold nearAdd
  split
  · rfl
  · first
      | exact h (i - 1) (by omega)
      | (rw [if_pos hi, if_pos hi]; exact h (i - 1) (by omega))

/-- a copy, from behind its letter on -/
theorem copy_sim {S : ByteArray} {dw : List Wd} {k : Nat} {left : Int} {d : Dr} {s s7 : Rd} (hk : k ≤ 15) (h0 : d.x.state = 0) (hok : okAt S d.x)
    (hm : Mat d s) (hle : s.left = left) (hdw : codeWs s.dcnt s.dsym = dw) (hcd : Cod s.dcnt s.dsym 16) (hfar : ∀ i, i < 4 → 1 ≤ d.far i ∧ d.far i ≤ 4095)
    (e7 : s7 = { s with least := lenLeast k, more := lenMore k, part := 7 }) (hI : Inv (setAt S d.x s7)) :
    CopyEnd S s7 s d.x (copyD S dw k left d).1 left (copyD S dw k left d).2 := by
  subst hdw
  have nb := copyN_bounds S hk d.x
  have hsym := codeWs_sym hcd
  have ab := away_bounds (S := S) (k := k) hsym hfar
  have hdb : 0 ≤ copyDd S (codeWs s.dcnt s.dsym) k d.x ∧ copyDd S (codeWs s.dcnt s.dsym) k d.x < 16 := symV_bounds (N := 16) (by omega) hsym _
  have wd : width s7 = ((k - 7 : Nat) : Int) := by
    subst e7
    show lenMore k = _
    unfold lenMore
    split <;> omega
  have hp7 : s7.part = 7 := by subst e7; rfl
  have ho7 : s7.out = s.out := by subst e7; rfl
  by_cases h1 : (numS S d.x (k - 7)).state = 0
  · obtain ⟨d1, i1⟩ := num_go hI h0 (by omega) (by omega) (by omega) wd h1
    rw [use7 S _ s7 _ hp7] at d1 i1
    have hX : numS S d.x (k - 7) = copyX S k d.x := rfl
    have hok1 : okAt S (copyX S k d.x) := numS_ok hok _
    rw [hX] at d1 i1 h1
    have e8 : ({ s7 with length := s7.least + numV S d.x (k - 7), part := 8 } : Rd) = { s with least := lenLeast k, more := lenMore k, length := copyN S k d.x, part := 8 } := by
      subst e7
      rfl
    rw [e8] at d1 i1
    have hpk : peek (setAt S (copyX S k d.x) { s with least := lenLeast k, more := lenMore k, length := copyN S k d.x, part := 8 }) = find s.dcnt s.dsym (holdAt S (copyX S k d.x)) (haveAt S (copyX S k d.x)) := rfl
    rcases sym_step hcd hpk (by show (8 : Int) ≤ 9; omega) i1 h1 hok1 with ⟨h2, d2, i2⟩ | ⟨h2, d2⟩
    · rw [use8 S _ _ _ rfl] at d2 i2
      have hD : symV S (codeWs s.dcnt s.dsym) (copyX S k d.x) = copyDd S (codeWs s.dcnt s.dsym) k d.x := rfl
      rw [hD] at d2 i2
      have hw2 : (symS S (codeWs s.dcnt s.dsym) (copyX S k d.x)).w = d.x.w := (symS_w _ _ _).trans (numS_w _ _ _)
      have hwA : (awayS S (copyDd S (codeWs s.dcnt s.dsym) k d.x) (symS S (codeWs s.dcnt s.dsym) (copyX S k d.x))).w = d.x.w := (awayS_w _ _ _).trans hw2
      by_cases h4 : copyDd S (codeWs s.dcnt s.dsym) k d.x < 4
      · have eA : awayS S (copyDd S (codeWs s.dcnt s.dsym) k d.x) (symS S (codeWs s.dcnt s.dsym) (copyX S k d.x)) = symS S (codeWs s.dcnt s.dsym) (copyX S k d.x) := by
          unfold awayS
          rw [if_pos h4]
        have eV : copyAway S (codeWs s.dcnt s.dsym) k d = s.near (copyDd S (codeWs s.dcnt s.dsym) k d.x).toNat := by
          unfold copyAway awayV
          rw [if_pos h4, hm.near _ (by omega)]
        refine useCopy_sim (u := { s with least := lenLeast k, more := lenMore k, length := copyN S k d.x, part := 8, near := if 0 < copyDd S (codeWs s.dcnt s.dsym) k d.x then nearAdd s.near (copyAway S (codeWs s.dcnt s.dsym) k d) else s.near }) hm ⟨hm.out, ⟨hm.ring.at_, hm.ring.ring, hm.ring.reach⟩, hm.near, hm.window, hm.w1⟩ ?_ rfl hle rfl rfl rfl rfl rfl rfl nb.1 ab.1 (by rw [eA]; exact h2) hwA ?_ ?_
        · intro i hi
          dsimp only
          by_cases hz : copyDd S (codeWs s.dcnt s.dsym) k d.x = 0
          · rw [if_neg (by omega), if_pos hz]
            exact hm.near i hi
          · rw [if_pos (by omega), if_neg hz]
            exact near_same hm.near _ i hi
        · rw [d1, d2, eA, eV]
          unfold useDistance
          rw [if_pos h4]
          by_cases hz : 0 < copyDd S (codeWs s.dcnt s.dsym) k d.x
          · rw [if_pos hz, if_pos hz]
            rfl
          · rw [if_neg hz, if_neg hz]
            rfl
        · rw [eA, eV]
          unfold useDistance at i2
          rw [if_pos h4] at i2
          by_cases hz : 0 < copyDd S (codeWs s.dcnt s.dsym) k d.x
          · rw [if_pos hz] at i2
            rw [if_pos hz]
            exact i2
          · rw [if_neg hz] at i2
            rw [if_neg hz]
            exact i2
      · have e9 : useDistance (setAt S (symS S (codeWs s.dcnt s.dsym) (copyX S k d.x)) { s with least := lenLeast k, more := lenMore k, length := copyN S k d.x, part := 8 }) (copyDd S (codeWs s.dcnt s.dsym) k d.x) = setAt S (symS S (codeWs s.dcnt s.dsym) (copyX S k d.x)) { s with least := distLeast (copyDd S (codeWs s.dcnt s.dsym) k d.x), more := distMore (copyDd S (codeWs s.dcnt s.dsym) k d.x), length := copyN S k d.x, part := 9 } := by
          unfold useDistance
          rw [if_neg h4]
          rfl
        rw [e9] at d2 i2
        have w9 : width { s with least := distLeast (copyDd S (codeWs s.dcnt s.dsym) k d.x), more := distMore (copyDd S (codeWs s.dcnt s.dsym) k d.x), length := copyN S k d.x, part := 9 } = (((copyDd S (codeWs s.dcnt s.dsym) k d.x - 4).toNat : Nat) : Int) := by
          show distMore _ = _
          unfold distMore
          rw [if_neg h4]
          omega
        have eA : awayS S (copyDd S (codeWs s.dcnt s.dsym) k d.x) (symS S (codeWs s.dcnt s.dsym) (copyX S k d.x)) = numS S (symS S (codeWs s.dcnt s.dsym) (copyX S k d.x)) (copyDd S (codeWs s.dcnt s.dsym) k d.x - 4).toNat := by
          unfold awayS
          rw [if_neg h4]
        by_cases h3 : (numS S (symS S (codeWs s.dcnt s.dsym) (copyX S k d.x)) (copyDd S (codeWs s.dcnt s.dsym) k d.x - 4).toNat).state = 0
        · obtain ⟨d3, i3⟩ := num_go i2 h2 (by show (9 : Int) ≠ 6; omega) (by show (9 : Int) ≠ 8; omega) (by show (9 : Int) ≤ 9; omega) w9 h3
          rw [use9 S _ _ _ rfl] at d3 i3
          have eV : copyAway S (codeWs s.dcnt s.dsym) k d = distLeast (copyDd S (codeWs s.dcnt s.dsym) k d.x) + numV S (symS S (codeWs s.dcnt s.dsym) (copyX S k d.x)) (copyDd S (codeWs s.dcnt s.dsym) k d.x - 4).toNat := by
            unfold copyAway awayV distLeast
            rw [if_neg h4, if_neg h4]
          refine useCopy_sim (u := { s with least := distLeast (copyDd S (codeWs s.dcnt s.dsym) k d.x), more := distMore (copyDd S (codeWs s.dcnt s.dsym) k d.x), length := copyN S k d.x, part := 9, near := nearAdd s.near (copyAway S (codeWs s.dcnt s.dsym) k d) }) hm ⟨hm.out, ⟨hm.ring.at_, hm.ring.ring, hm.ring.reach⟩, hm.near, hm.window, hm.w1⟩ ?_ rfl hle rfl rfl rfl rfl rfl rfl nb.1 ab.1 (by rw [eA]; exact h3) hwA ?_ ?_
          · intro i hi
            dsimp only
            rw [if_neg (by omega)]
            exact near_same hm.near _ i hi
          · rw [d1, d2, d3, eA, eV]
          · rw [eA, eV]
            exact i3
        · obtain ⟨d3, h3'⟩ := num_stuck (S := S) h2 (by show (9 : Int) ≠ 6; omega) (by show (9 : Int) ≠ 8; omega) (by show (9 : Int) ≤ 9; omega) w9 h3
          have es : (copyS S (codeWs s.dcnt s.dsym) k left d).state = 1 := by
            unfold copyS
            rw [eA, needS_stop h3]
            exact h3'
          rw [copyD_off (by rw [es]; omega)]
          exact .stuck es (by rw [d1, d2, d3]; show (9 : Int) ≤ 9; omega) (by rw [d1, d2, d3]; exact hm.out)
    · have es : (copyS S (codeWs s.dcnt s.dsym) k left d).state = 1 := (copy_off2 (by rw [h2]; omega)).trans h2
      rw [copyD_off (by rw [es]; omega)]
      exact .stuck es (by rw [d1, d2]; show (8 : Int) ≤ 9; omega) (by rw [d1, d2]; exact hm.out)
  · obtain ⟨d1, h1'⟩ := num_stuck (S := S) h0 (by omega) (by omega) (by omega) wd h1
    have es : (copyS S (codeWs s.dcnt s.dsym) k left d).state = 1 := (copy_off1 h1).trans h1'
    rw [copyD_off (by rw [es]; omega)]
    exact .stuck es (by rw [d1]; show s7.part ≤ 9; omega) (by rw [d1]; show s7.out = d.out; rw [ho7, hm.out])
end Wr
