/- A BLOCK, AND ALL OF THEM: the document's and the reader's. No Go. -/
import Derived.Test.YtkdhhchikglgjaaRefP17
namespace Wr
open Go.Proofs.Ytkdhhchikglgjaa

theorem Mat.at {d : Dr} {s t : Rd} (h : Mat d s) (y : Sr) (hw : y.w = d.x.w) (e1 : t.out = s.out) (e2 : t.at_ = s.at_) (e3 : t.ring = s.ring) (e4 : t.reach = s.reach) (e5 : t.window = s.window) (e6 : t.near = s.near) : Mat { d with x := y } t :=
  ⟨by rw [e1]; exact h.out, ⟨by rw [e2]; exact h.ring.at_, by rw [e3]; exact h.ring.ring, by rw [e4, e5]; exact h.ring.reach⟩, by rw [e6]; exact h.near, by show t.window = 16 * 2 ^ y.w.toNat; rw [e5, hw]; exact h.window, by rw [e5]; exact h.w1⟩
theorem fillS_w (S : ByteArray) (x : Sr) : (fillS S x).w = x.w := (fillK_ge S _ x).2
theorem fillS_off {S : ByteArray} {x : Sr} (h : x.state ≠ 0) : fillS S x = x := fillK_stop S _ h

/-- the bytes of a stored block or of a note, from the size on -/
theorem size_sim {S : ByteArray} {d : Dr} {s : Rd} {n : Nat} {e : Nat → Sr → Dr} (hI : Inv (setAt S d.x s)) (h0 : d.x.state = 0) (hok : okAt S d.x) (hp : s.part = 2) (hk : s.kind = 1 ∨ s.kind = 3) (hn : width s = n) (hm : Mat d s)
    (left : Int) (hl : left = if s.kind = 1 then numV S d.x n + 1 else numV S d.x n)
    (est : ∀ m y, y.state ≠ 0 → (e m y).x = y ∧ (e m y).out = d.out)
    (ez : left = 0 → ∀ y, e 0 y = { d with x := y } ∨ (y.state = 0 → (e 0 y).x = y ∧ (e 0 y).out = d.out ∧ (e 0 y).far = d.far))
    (go : ∀ (m : Nat) (t : Rd) (y : Sr), left = (m + 1 : Nat) → Inv (setAt S y t) → y.state = 0 → t.part = 3 → t.kind = s.kind → t.left = (m + 1 : Nat) → Mat { d with x := y } t → CmdEnd S t y (e (m + 1) y)) :
    CmdEnd S s d.x (e left.toNat (fillS S (numS S d.x n))) := by
  have nb := numV_bounds S d.x n
  by_cases h1 : (numS S d.x n).state = 0
  · obtain ⟨d1, i1⟩ := num_go hI h0 (by omega) (by omega) (by omega) hn h1
    have hok1 := numS_ok hok n
    have eu : use (setAt S (numS S d.x n) s) (numV S d.x n) = (if fillOk (setAt S (numS S d.x n) { s with left := left }) then (if left = 0 then endBlock { fillTo (setAt S (numS S d.x n) { s with left := left }) with part := 3 } else { fillTo (setAt S (numS S d.x n) { s with left := left }) with part := 3 }) else fillTo (setAt S (numS S d.x n) { s with left := left })) := by
      unfold use
      have ep : (setAt S (numS S d.x n) s).part = s.part := rfl
      rw [ep, if_neg (by omega), if_neg (by omega), if_pos hp]
      unfold useSize
      rw [if_neg (show ¬ (setAt S (numS S d.x n) s).kind = 2 by show ¬ s.kind = 2; omega)]
      have e1 : ({ setAt S (numS S d.x n) s with left := if (setAt S (numS S d.x n) s).kind = 1 then numV S d.x n + 1 else numV S d.x n } : Rd) = setAt S (numS S d.x n) { s with left := left } := by
        rw [hl]
        rfl
      dsimp only
      rw [e1]
      split
      · rename_i hf
        have e2 : ({ fillTo (setAt S (numS S d.x n) { s with left := left }) with part := 3 } : Rd).left = left := by
          have := (fill_sim (S := S) { s with left := left } h1 hok1).1 hf
          rw [this.2.1]
          rfl
        rw [e2]
      · rfl
    rw [eu] at d1 i1
    have fs := fill_sim (S := S) { s with left := left } h1 hok1
    cases hf : fillOk (setAt S (numS S d.x n) { s with left := left })
    · obtain ⟨f1, f2⟩ := fs.2 hf
      rw [hf, if_neg (by decide), f2] at d1
      obtain ⟨q1, q2⟩ := est left.toNat (fillS S (numS S d.x n)) (by rw [f1]; omega)
      have fe := fault_end (S := S) (x := numS S d.x n) (s := { s with left := left })
      have d2 : drive (setAt S d.x s) = drive (setAt S (numS S d.x n) (fault { s with left := left })) := d1
      exact .wrong (by rw [q1]; exact f1) (by rw [d2]; exact fe.1) (by rw [d2, q2]; exact fe.2.trans hm.out)
    · obtain ⟨f1, f2, f3, f4⟩ := fs.1 hf
      rw [hf, if_pos rfl, f2] at d1 i1
      have hmt : Mat { d with x := fillS S (numS S d.x n) } { s with left := left, part := 3 } := hm.at _ ((fillS_w _ _).trans (numS_w _ _ _)) rfl rfl rfl rfl rfl rfl
      by_cases hz : left = 0
      · rw [if_pos hz] at d1 i1
        have e0 : left.toNat = 0 := by omega
        rw [e0]
        rcases ez hz (fillS S (numS S d.x n)) with q | q
        · rw [q]
          exact .read f1 { s with left := left, part := 3 } rfl hmt d1 i1
        · obtain ⟨q1, q2, q3⟩ := q f1
          refine .read (by rw [q1]; exact f1) { s with left := left, part := 3 } rfl ⟨hmt.out.trans q2.symm, by rw [q2]; exact hmt.ring, fun i hi => by rw [q3]; exact hmt.near i hi, by rw [q1]; exact hmt.window, hmt.w1⟩ (by rw [q1]; exact d1) (by rw [q1]; exact i1)
      · rw [if_neg hz] at d1 i1
        obtain ⟨m, hmm⟩ : ∃ m : Nat, left = (m + 1 : Nat) := ⟨(left - 1).toNat, by split at hl <;> omega⟩
        have e0 : left.toNat = m + 1 := by omega
        rw [e0]
        exact (go m { s with left := left, part := 3 } _ hmm i1 f1 rfl rfl hmm hmt).from d1 rfl
  · obtain ⟨d1, h1'⟩ := num_stuck (S := S) h0 (by omega) (by omega) (by omega) hn h1
    have ef : fillS S (numS S d.x n) = numS S d.x n := fillS_off h1
    rw [ef]
    obtain ⟨q1, q2⟩ := est left.toNat (numS S d.x n) h1
    exact .stuck (by rw [q1]; exact h1') (by rw [d1]; show s.part ≤ 9; omega) (by rw [d1, q2]; exact hm.out)
theorem bytes_off {S : ByteArray} {x : Sr} (n : Nat) (h : x.state ≠ 0) : bytesGo S n x = ([], x) := by
  cases n with
  | zero => rfl
  | succ n => unfold bytesGo; rw [if_pos h]

theorem block_sim {S : ByteArray} {d : Dr} {s : Rd} (hI : Inv (setAt S d.x s)) (h0 : d.x.state = 0) (hok : okAt S d.x) (hp : s.part = 1) (hm : Mat d s) (hf : ∀ i, i < 4 → 1 ≤ d.far i ∧ d.far i ≤ 4095) :
    BlkEnd S s d.x (blockD S d).1 (blockD S d).2 := by
  obtain ⟨eh, ev⟩ := head3 hok
  have bb := bitV_bounds S d.x
  have kb := numV_bounds S (bitS S d.x) 2
  rw [show (2 : Int) ^ 2 = 4 from rfl] at kb
  have hX : blockX S d.x = numS S d.x 3 := eh
  have w3 : width s = ((3 : Nat) : Int) := by
    unfold width
    rw [hp]
    rfl
  have hokX : okAt S (blockX S d.x) := by rw [hX]; exact numS_ok hok 3
  have hwX : (blockX S d.x).w = d.x.w := by rw [hX]; exact numS_w _ _ _
  by_cases h1 : (numS S d.x 3).state = 0
  · obtain ⟨d1, i1⟩ := num_go hI h0 (by omega) (by omega) (by omega) w3 h1
    have hX0 : (blockX S d.x).state = 0 := by rw [hX]; exact h1
    rw [← hX] at d1 i1
    have el : (numV S d.x 3 % 2 == 1) = (bitV S d.x == 1) := by
      rw [ev]
      congr 1
      omega
    have ek : numV S d.x 3 / 2 = numV S (bitS S d.x) 2 := by rw [ev]; omega
    have eu : use (setAt S (blockX S d.x) s) (numV S d.x 3) = (if numV S (bitS S d.x) 2 = 0 then (if fillOk (setAt S (blockX S d.x) { s with last := bitV S d.x == 1, kind := numV S (bitS S d.x) 2 }) then endBlock (fillTo (setAt S (blockX S d.x) { s with last := bitV S d.x == 1, kind := numV S (bitS S d.x) 2 })) else fillTo (setAt S (blockX S d.x) { s with last := bitV S d.x == 1, kind := numV S (bitS S d.x) 2 })) else setAt S (blockX S d.x) { s with last := bitV S d.x == 1, kind := numV S (bitS S d.x) 2, part := 2 }) := by
      unfold use
      have ep : (setAt S (blockX S d.x) s).part = s.part := rfl
      rw [ep, if_neg (by omega), if_pos hp]
      unfold useBlock
      dsimp only
      rw [el, ek]
      rfl
    rw [eu] at d1 i1
    have hmX : ∀ k p, Mat { d with x := blockX S d.x } { s with last := bitV S d.x == 1, kind := k, part := p } := fun k p => hm.at _ hwX rfl rfl rfl rfl rfl rfl
    unfold blockD
    rw [if_neg (fun q => q hX0)]
    by_cases k0 : numV S (bitS S d.x) 2 = 0
    · rw [if_pos k0] at d1 i1
      rw [if_pos k0]
      dsimp only
      have hmY := hmX (numV S (bitS S d.x) 2) s.part
      by_cases hb : bitV S d.x = 0
      · rw [if_pos hb]
        have fs := fill_sim (S := S) { s with last := bitV S d.x == 1, kind := numV S (bitS S d.x) 2 } hX0 hokX
        cases hfo : fillOk (setAt S (blockX S d.x) { s with last := bitV S d.x == 1, kind := numV S (bitS S d.x) 2 })
        · obtain ⟨f1, f2⟩ := fs.2 hfo
          rw [hfo, if_neg (by decide), f2] at d1
          have fe := fault_end (S := S) (x := blockX S d.x) (s := { s with last := bitV S d.x == 1, kind := numV S (bitS S d.x) 2 })
          have d2 : drive (setAt S d.x s) = drive (setAt S (blockX S d.x) (fault { s with last := bitV S d.x == 1, kind := numV S (bitS S d.x) 2 })) := d1
          exact .wrong f1 (by rw [d2]; exact fe.1) (by rw [d2]; exact fe.2.trans hm.out)
        · obtain ⟨f1, f2, f3, f4⟩ := fs.1 hfo
          rw [hfo, if_pos rfl, f2] at d1 i1
          exact .read f1 { s with last := bitV S d.x == 1, kind := numV S (bitS S d.x) 2 } rfl (hmY.at _ (fillS_w _ _) rfl rfl rfl rfl rfl rfl) d1 i1
      · have hb1 : bitV S d.x = 1 := by omega
        rw [if_neg hb]
        have ft := fill_twice S (blockX S d.x) { s with last := bitV S d.x == 1, kind := numV S (bitS S d.x) 2 } hX0 hokX (by show (bitV S d.x == 1) = true; rw [hb1]; rfl)
        rw [ft] at d1 i1
        exact .read hX0 { s with last := bitV S d.x == 1, kind := numV S (bitS S d.x) 2 } rfl hmY d1 i1
    · rw [if_neg k0] at d1 i1
      rw [if_neg k0]
      by_cases k1 : numV S (bitS S d.x) 2 = 1
      · rw [if_pos k1]
        dsimp only
        have nb := numV_bounds S (blockX S d.x) 12
        have r := size_sim (S := S) (d := { d with x := blockX S d.x }) (s := { s with last := bitV S d.x == 1, kind := numV S (bitS S d.x) 2, part := 2 }) (n := 12) (e := fun m y => { d with x := (bytesGo S m y).2, out := d.out ++ (bytesGo S m y).1 }) i1 hX0 hokX rfl (Or.inl k1) (by unfold width; show (if (2 : Int) = 0 then (4 : Int) else if (2 : Int) = 1 then 3 else if (2 : Int) = 2 then (if numV S (bitS S d.x) 2 = 3 then 8 else 12) else _) = _; rw [if_neg (by omega), if_neg (by omega), if_pos rfl, if_neg (by omega)]; rfl) (hmX _ _) (numV S (blockX S d.x) 12 + 1) (by rw [if_pos k1])
          (fun m y hy => by rw [bytes_off m hy]; exact ⟨rfl, List.append_nil _⟩) (fun hz => absurd hz (by omega))
          (fun m t y _ hi hy hp3 hk3 hl3 hm3 => stored_sim m { d with x := y } t hi hy hp3 (hk3.trans k1) hl3 hm3)
        exact r.blk d1 rfl
      · rw [if_neg k1]
        by_cases k2 : numV S (bitS S d.x) 2 = 2
        · rw [if_pos k2]
          have r := codedD_sim (S := S) (d := { d with x := blockX S d.x }) (s := { s with last := bitV S d.x == 1, kind := numV S (bitS S d.x) 2, part := 2 }) i1 hX0 hokX rfl k2 (hmX _ _) hf
          exact r.blk d1 rfl
        · rw [if_neg k2]
          have k3 : numV S (bitS S d.x) 2 = 3 := by omega
          have nb := numV_bounds S (blockX S d.x) 8
          have r := size_sim (S := S) (d := { d with x := blockX S d.x }) (s := { s with last := bitV S d.x == 1, kind := numV S (bitS S d.x) 2, part := 2 }) (n := 8) (e := fun m y => { d with x := (bytesGo S m y).2 }) i1 hX0 hokX rfl (Or.inr k3) (by unfold width; show (if (2 : Int) = 0 then (4 : Int) else if (2 : Int) = 1 then 3 else if (2 : Int) = 2 then (if numV S (bitS S d.x) 2 = 3 then 8 else 12) else _) = _; rw [if_neg (by omega), if_neg (by omega), if_pos rfl, if_pos k3]; rfl) (hmX _ _) (numV S (blockX S d.x) 8) (by rw [if_neg k1])
            (fun m y hy => by rw [bytes_off m hy]; exact ⟨rfl, rfl⟩) (fun _ y => Or.inr (fun _ => ⟨rfl, rfl, rfl⟩))
            (fun m t y _ hi hy hp3 hk3 hl3 hm3 => note_sim m { d with x := y } t hi hy hp3 (hk3.trans k3) hl3 hm3)
          have r2 := r.blk d1 rfl
          dsimp only at r2 ⊢
          have en : bytesGo S (numV S (blockX S d.x) 8).toNat (fillS S (numS S (blockX S d.x) 8)) = noteR S d.x := rfl
          rw [en] at r2
          cases r2 with
          | stuck h p o => exact .stuck h p o
          | wrong h p o => exact .wrong h p o
          | read h t hl m d i => exact .read h t hl ⟨m.out, m.ring, m.near, m.window, m.w1⟩ d i
  · obtain ⟨d1, h1'⟩ := num_stuck (S := S) h0 (by omega) (by omega) (by omega) w3 h1
    unfold blockD
    rw [if_pos (by rw [hX]; exact h1)]
    exact .stuck (by show (blockX S d.x).state = 1; rw [hX]; exact h1') (by rw [d1]; show s.part ≤ 9; omega) (by rw [d1]; exact hm.out)
end Wr
