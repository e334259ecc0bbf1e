/- BLOCKS: the document's and the reader's. No Go. -/
import Derived.Test.YtkdhhchikglgjaaRefP16
namespace Wr
open Go.Proofs.Ytkdhhchikglgjaa

inductive BlkEnd (S : ByteArray) (s : Rd) (x : Sr) (last : Bool) (e : Dr) : Prop
  | stuck (h : e.x.state = 1) (p : (drive (setAt S x s)).part ≤ 9) (o : (drive (setAt S x s)).out = e.out)
  | wrong (h : e.x.state = 2) (p : (drive (setAt S x s)).part = 11) (o : (drive (setAt S x s)).out = e.out)
  | read (h : e.x.state = 0) (t : Rd) (hl : t.last = last) (m : Mat e t) (d : drive (setAt S x s) = drive (endBlock (setAt S e.x t))) (i : Inv (endBlock (setAt S e.x t)))
theorem CmdEnd.blk {S : ByteArray} {s t : Rd} {x y : Sr} {last : Bool} {e : Dr} (h : CmdEnd S t y e) (hd : drive (setAt S x s) = drive (setAt S y t)) (hl : t.last = last) : BlkEnd S s x last e := by
  cases h with
  | stuck h p o => exact .stuck h (by rw [hd]; exact p) (by rw [hd]; exact o)
  | wrong h p o => exact .wrong h (by rw [hd]; exact p) (by rw [hd]; exact o)
  | read h u l m d i => exact .read h u (l.trans hl) m (hd.trans d) i

theorem use3 (S : ByteArray) (y : Sr) (s : Rd) (v : Int) (hp : s.part = 3) : use (setAt S y s) v = useByte (setAt S y s) v := by
  unfold use
  have ep : (setAt S y s).part = s.part := rfl
  rw [ep, if_neg (by omega), if_neg (by omega), if_neg (by omega), if_pos hp]
theorem width3 {s : Rd} (hp : s.part = 3) : width s = ((8 : Nat) : Int) := by
  unfold width
  rw [hp]
  rfl
theorem put_part (s : Rd) (c : Int) : (put s c).part = s.part ∧ (put s c).kind = s.kind ∧ (put s c).left = s.left - 1 ∧ (put s c).last = s.last := ⟨rfl, rfl, rfl, rfl⟩

theorem stored_sim {S : ByteArray} : ∀ (m : Nat) (d : Dr) (s : Rd), Inv (setAt S d.x s) → d.x.state = 0 → s.part = 3 → s.kind = 1 → s.left = (m + 1 : Nat) → Mat d s →
    CmdEnd S s d.x { d with x := (bytesGo S (m + 1) d.x).2, out := d.out ++ (bytesGo S (m + 1) d.x).1 }
  | m, d, s, hI, h0, hp, hk, hl, hm => by
    unfold bytesGo
    rw [if_neg (fun q => q h0)]
    by_cases h1 : (numS S d.x 8).state = 0
    · obtain ⟨d1, i1⟩ := num_go hI h0 (by omega) (by omega) (by omega) (width3 hp) h1
      rw [use3 S _ s _ hp] at d1 i1
      rw [if_neg (fun q => q h1)]
      have eu : useByte (setAt S (numS S d.x 8) s) (numV S d.x 8) = if (put s (numV S d.x 8)).left = 0 then endBlock (setAt S (numS S d.x 8) (put s (numV S d.x 8))) else setAt S (numS S d.x 8) (put s (numV S d.x 8)) := by
        unfold useByte
        rw [if_pos (show (setAt S (numS S d.x 8) s).kind = 1 from hk)]
        rfl
      rw [eu] at d1 i1
      have hmp := hm.put (numV S d.x 8) (numS S d.x 8) (numS_w _ _ _)
      obtain ⟨p1, p2, p3, p4⟩ := put_part s (numV S d.x 8)
      cases m with
      | zero =>
        rw [if_pos (by rw [p3, hl]; rfl)] at d1 i1
        exact .read h1 (put s (numV S d.x 8)) rfl hmp d1 i1
      | succ m =>
        rw [if_neg (by rw [p3, hl]; omega)] at d1 i1
        have r := stored_sim m { d with x := numS S d.x 8, out := d.out ++ [numV S d.x 8] } (put s (numV S d.x 8)) i1 h1 (p1.trans hp) (p2.trans hk) (by rw [p3, hl]; omega) hmp
        have e : d.out ++ [numV S d.x 8] ++ (bytesGo S (m + 1) (numS S d.x 8)).1 = d.out ++ (numV S d.x 8 :: (bytesGo S (m + 1) (numS S d.x 8)).1) := by rw [List.append_assoc]; rfl
        dsimp only at r
        rw [e] at r
        exact r.from d1 rfl
    · obtain ⟨d1, h1'⟩ := num_stuck (S := S) h0 (by omega) (by omega) (by omega) (width3 hp) h1
      rw [if_pos h1, List.append_nil]
      exact .stuck h1' (by rw [d1]; show s.part ≤ 9; omega) (by rw [d1]; exact hm.out)
theorem note_sim {S : ByteArray} : ∀ (m : Nat) (d : Dr) (s : Rd), Inv (setAt S d.x s) → d.x.state = 0 → s.part = 3 → s.kind = 3 → s.left = (m + 1 : Nat) → Mat d s →
    CmdEnd S s d.x { d with x := (bytesGo S (m + 1) d.x).2 }
  | m, d, s, hI, h0, hp, hk, hl, hm => by
    unfold bytesGo
    rw [if_neg (fun q => q h0)]
    by_cases h1 : (numS S d.x 8).state = 0
    · obtain ⟨d1, i1⟩ := num_go hI h0 (by omega) (by omega) (by omega) (width3 hp) h1
      rw [use3 S _ s _ hp] at d1 i1
      rw [if_neg (fun q => q h1)]
      have eu : useByte (setAt S (numS S d.x 8) s) (numV S d.x 8) = if s.left - 1 = 0 then endBlock (setAt S (numS S d.x 8) { s with left := s.left - 1 }) else setAt S (numS S d.x 8) { s with left := s.left - 1 } := by
        unfold useByte
        rw [if_neg (show ¬ (setAt S (numS S d.x 8) s).kind = 1 by show ¬ s.kind = 1; omega)]
        rfl
      rw [eu] at d1 i1
      have hmp : Mat { d with x := numS S d.x 8 } { s with left := s.left - 1 } := ⟨hm.out, ⟨hm.ring.at_, hm.ring.ring, hm.ring.reach⟩, hm.near, by show s.window = 16 * 2 ^ (numS S d.x 8).w.toNat; rw [numS_w]; exact hm.window, hm.w1⟩
      cases m with
      | zero =>
        rw [if_pos (by rw [hl]; rfl)] at d1 i1
        exact .read h1 { s with left := s.left - 1 } rfl hmp d1 i1
      | succ m =>
        rw [if_neg (by rw [hl]; omega)] at d1 i1
        have r := note_sim m { d with x := numS S d.x 8 } { s with left := s.left - 1 } i1 h1 hp hk (by show s.left - 1 = _; rw [hl]; omega) hmp
        exact r.from d1 rfl
    · obtain ⟨d1, h1'⟩ := num_stuck (S := S) h0 (by omega) (by omega) (by omega) (width3 hp) h1
      rw [if_pos h1]
      exact .stuck h1' (by rw [d1]; show s.part ≤ 9; omega) (by rw [d1]; exact hm.out)

theorem fill_twice (S : ByteArray) (x : Sr) (t : Rd) (h0 : x.state = 0) (hok : okAt S x) (hl : t.last = true) :
    (if fillOk (setAt S x t) then endBlock (fillTo (setAt S x t)) else fillTo (setAt S x t)) = endBlock (setAt S x t) := by
  have fs := fill_sim (S := S) (x := x) t h0 hok
  have el : (setAt S x t).last = true := hl
  conv => rhs; unfold endBlock; rw [el]
  cases hf : fillOk (setAt S x t)
  · rfl
  · obtain ⟨f1, f2, f3, f4⟩ := fs.1 hf
    rw [f2]
    have fo : fillOk (setAt S (fillS S x) t) = true := by
      show (holdAt S (fillS S x) % 2 ^ (haveAt S (fillS S x) % 8).toNat == 0) = true
      have e : (haveAt S (fillS S x) % 8).toNat = 0 := by unfold haveAt; omega
      rw [e, Int.pow_zero, Int.emod_one]
      rfl
    have fs2 := (fill_sim (S := S) (x := fillS S x) t f1 f4).1 fo
    have ek : fillS S (fillS S x) = fillS S x := by
      show fillK S ((8 - (fillS S x).at_ % 8) % 8) (fillS S x) = _
      rw [f3]
      rfl
    rw [ek] at fs2
    have el2 : (setAt S (fillS S x) t).last = true := hl
    unfold endBlock
    rw [el2, fo, fs2.2.1]
    rfl

theorem head3 {S : ByteArray} {x : Sr} (hok : okAt S x) : numS S (bitS S x) 2 = numS S x 3 ∧ numV S x 3 = bitV S x + 2 * numV S (bitS S x) 2 := by
  have hb := bitS_ok hok
  have a1 : numS S x 1 = bitS S (numS S x 0) := numS_succ hok 0
  have a2 : numS S x 2 = bitS S (numS S x 1) := numS_succ hok 1
  have a3 : numS S x 3 = bitS S (numS S x 2) := numS_succ hok 2
  have b1 : numS S (bitS S x) 1 = bitS S (numS S (bitS S x) 0) := numS_succ hb 0
  have b2 : numS S (bitS S x) 2 = bitS S (numS S (bitS S x) 1) := numS_succ hb 1
  rw [numS_zero hok] at a1
  rw [numS_zero hb] at b1
  rw [a1] at a2
  rw [a2] at a3
  rw [b1] at b2
  have v1 : numV S x 1 = numV S x 0 + 2 ^ 0 * bitV S (numS S x 0) := numV_succ hok 0
  have v2 : numV S x 2 = numV S x 1 + 2 ^ 1 * bitV S (numS S x 1) := numV_succ hok 1
  have v3 : numV S x 3 = numV S x 2 + 2 ^ 2 * bitV S (numS S x 2) := numV_succ hok 2
  have u1 : numV S (bitS S x) 1 = numV S (bitS S x) 0 + 2 ^ 0 * bitV S (numS S (bitS S x) 0) := numV_succ hb 0
  have u2 : numV S (bitS S x) 2 = numV S (bitS S x) 1 + 2 ^ 1 * bitV S (numS S (bitS S x) 1) := numV_succ hb 1
  rw [numV_zero, numS_zero hok] at v1
  rw [numV_zero, numS_zero hb] at u1
  rw [a1] at v2
  rw [a2] at v3
  rw [b1] at u2
  rw [show (2 : Int) ^ 0 = 1 from rfl] at v1 u1
  rw [show (2 : Int) ^ 1 = 2 from rfl] at v2 u2
  rw [show (2 : Int) ^ 2 = 4 from rfl] at v3
  exact ⟨by rw [b2, a3], by omega⟩
end Wr
