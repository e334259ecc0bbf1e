import Derived.Test.YtmpfgdmdnghhgaaR14
import Derived.Test.YtmpfgdmdnghhgaaRefP9
import Derived.Deep.DeepCutAuto
import Derived.Deep.CutBlock
import Derived.Deep.RegionHeld3
namespace Go.Proofs.Ytmpfgdmdnghhgaa
open Go.RowKit Wr

def resCells : Array Value := #[.string { data := #[] }, .int .i64 0, .int .i64 0, .slice none 0 0, .bool false]
def strCells (S : ByteArray) (g : Nat) : Array Value := #[.string S, .int .i64 0, .int .i64 0, .slice none 0 0, .int .i64 (-1), .slice none 0 0, .slice (some ⟨g, 0, none⟩) 4 4]
def far0 : Nat → Int := fun j => if j < 4 then (j : Int) + 1 else 0
theorem start_dr (w : World) (S : ByteArray) (o : Obj) :
    DR (((w.alloc o).alloc (.cells #[.int .i64 1, .int .i64 2, .int .i64 3, .int .i64 4] 3)).alloc (.cells (strCells S (w.heap.size + 1)) 98)) (w.heap.size + 1 + 1) S { x := x0, out := [], notes := [], far := far0 } (.slice none 0 0) (.slice none 0 0) (.slice (some ⟨w.heap.size + 1, 0, none⟩) 4 4) := by
  have hz1 : (w.alloc o).heap.size = w.heap.size + 1 := by simp
  have hz2 : ((w.alloc o).alloc (.cells #[.int .i64 1, .int .i64 2, .int .i64 3, .int .i64 4] 3)).heap.size = w.heap.size + 1 + 1 := by simp
  refine ⟨?_, World.ownsRow_nil _ _ _ _, World.ownsRow_nil _ _ _ _, ⟨w.heap.size + 1, rfl, ?_⟩, by simp [Value.ownBlock], by simp [Value.ownBlock], by simp [Value.ownBlock], fun g hg => by simp [Value.ownBlock] at hg, fun g _ => by simp [Value.ownBlock], fun g _ => by simp [Value.ownBlock]⟩
  · have h := World.rowIs_alloc ((w.alloc o).alloc (.cells #[.int .i64 1, .int .i64 2, .int .i64 3, .int .i64 4] 3)) (strCells S (w.heap.size + 1)) 98 (cellsS S x0 (.slice none 0 0) (.slice none 0 0) (.slice (some ⟨w.heap.size + 1, 0, none⟩) 4 4)) (fun i hi => by
      match i, hi with
      | 0, _ => rfl
      | 1, _ => rfl
      | 2, _ => rfl
      | 3, _ => rfl
      | 4, _ => rfl
      | 5, _ => rfl
      | 6, _ => rfl)
    rw [hz2] at h
    exact h
  · have h := World.rowIs_alloc (w.alloc o) #[.int .i64 1, .int .i64 2, .int .i64 3, .int .i64 4] 3 (fun i => .int .i64 (far0 i)) (fun i hi => by
      match i, hi with
      | 0, _ => rfl
      | 1, _ => rfl
      | 2, _ => rfl
      | 3, _ => rfl)
    rw [hz1] at h
    exact World.rowIs.alloc h _

theorem owns_base {w : World} {B : Nat} {e : TypeId} {size : Nat} {v : Value} {n : Nat} {xs : List Value} (h : w.ownsRow 0 e size v n xs) (hb : ∀ g, v.ownBlock = some g → B ≤ g) : w.ownsRow B e size v n xs := by
  refine ⟨h.1, ?_⟩
  rcases h.2 with h2 | ⟨g, cap, cur, hv, _, r⟩
  · exact Or.inl h2
  · exact Or.inr ⟨g, cap, cur, hv, hb g (by rw [hv]; rfl), r⟩
def setRes (w : World) (q : Nat) (v0 v1 v2 v3 v4 : Value) : World := ((((w.setCell ⟨q, 0, none⟩ v0).setCell ⟨q, 1, none⟩ v1).setCell ⟨q, 2, none⟩ v2).setCell ⟨q, 3, none⟩ v3).setCell ⟨q, 4, none⟩ v4
theorem res_cells {w : World} {q : Nat} {f : Nat → Value} (h : w.rowIs q 70 5 f) (v0 v1 v2 v3 v4 : Value) (o : Obj) :
    ((setRes w q v0 v1 v2 v3 v4).alloc o).cell? ⟨q, 0, none⟩ = some v0 ∧ ((setRes w q v0 v1 v2 v3 v4).alloc o).cell? ⟨q, 1, none⟩ = some v1 ∧ ((setRes w q v0 v1 v2 v3 v4).alloc o).cell? ⟨q, 2, none⟩ = some v2 ∧ ((setRes w q v0 v1 v2 v3 v4).alloc o).cell? ⟨q, 3, none⟩ = some v3 ∧ ((setRes w q v0 v1 v2 v3 v4).alloc o).cell? ⟨q, 4, none⟩ = some v4 := by
  have r := World.rowIs.alloc (World.rowIs.set (World.rowIs.set (World.rowIs.set (World.rowIs.set (World.rowIs.set h 0 v0) 1 v1) 2 v2) 3 v3) 4 v4) o
  exact ⟨World.rowIs.cell r (by omega), World.rowIs.cell r (by omega), World.rowIs.cell r (by omega), World.rowIs.cell r (by omega), World.rowIs.cell r (by omega)⟩
theorem res_below {w w4 : World} (h : Below w.heap.size w w4) (v0 v1 v2 v3 v4 : Value) (o : Obj) (hs : w.heap.size ≤ w4.heap.size) : Below w.heap.size w ((setRes w4 w.heap.size v0 v1 v2 v3 v4).alloc o) := by
  have h1 := ((((h.setCell (p := ⟨w.heap.size, 0, none⟩) (Nat.le_refl _) v0).setCell (p := ⟨w.heap.size, 1, none⟩) (Nat.le_refl _) v1).setCell (p := ⟨w.heap.size, 2, none⟩) (Nat.le_refl _) v2).setCell (p := ⟨w.heap.size, 3, none⟩) (Nat.le_refl _) v3).setCell (p := ⟨w.heap.size, 4, none⟩) (Nat.le_refl _) v4
  exact h1.alloc (by simp [World.setCell]; omega) o
theorem res_owns {w4 : World} {q : Nat} {e : TypeId} {size : Nat} {v : Value} {n : Nat} {xs : List Value} (h : w4.ownsRow 0 e size v n xs) (hq : ∀ g, v.ownBlock = some g → q + 3 ≤ g) (v0 v1 v2 v3 v4 : Value) (o : Obj) : ((setRes w4 q v0 v1 v2 v3 v4).alloc o).ownsRow q e size v n xs := by
  refine (owns_base (owns_of_block h fun g hg => ?_) (fun g hg => by have := hq g hg; omega)).alloc o
  have := hq g hg
  unfold setRes
  rw [Below.heap_setCell _ _ _ _ (by show g ≠ q; omega), Below.heap_setCell _ _ _ _ (by show g ≠ q; omega), Below.heap_setCell _ _ _ _ (by show g ≠ q; omega), Below.heap_setCell _ _ _ _ (by show g ≠ q; omega), Below.heap_setCell _ _ _ _ (by show g ≠ q; omega)]
theorem start_below {w w' : World} {S : ByteArray} {o : Obj} {vo vn : Value}
    (h : Stp (w.heap.size + 1 + 1) (.slice none 0 0) (.slice none 0 0) (((w.alloc o).alloc (.cells #[.int .i64 1, .int .i64 2, .int .i64 3, .int .i64 4] 3)).alloc (.cells (strCells S (w.heap.size + 1)) 98)) vo vn w') :
    Below w.heap.size w w' ∧ w.heap.size + 3 ≤ w'.heap.size ∧ (∀ g, vn.ownBlock = some g → w.heap.size + 3 ≤ g) := by
  have hz : (((w.alloc o).alloc (.cells #[.int .i64 1, .int .i64 2, .int .i64 3, .int .i64 4] 3)).alloc (.cells (strCells S (w.heap.size + 1)) 98)).heap.size = w.heap.size + 3 := by simp
  have hs := h.size
  have h1 : Below w.heap.size w (((w.alloc o).alloc (.cells #[.int .i64 1, .int .i64 2, .int .i64 3, .int .i64 4] 3)).alloc (.cells (strCells S (w.heap.size + 1)) 98)) :=
    (((Below.refl _ w).alloc (Nat.le_refl _) o).alloc (by simp) _).alloc (by simp; omega) _
  refine ⟨h1.trans ⟨h.os, h.tape, h.output, h.size, fun k hk => h.block k (by omega) (by omega) (by simp [Value.ownBlock]) (by simp [Value.ownBlock])⟩, by omega, fun g hg => ?_⟩
  rcases h.nn with q | ⟨g2, q, hq⟩
  · rw [q] at hg
    simp [Value.ownBlock] at hg
  · rw [q] at hg
    have := Option.some.inj hg
    omega

set_option maxRecDepth 100000 in
set_option maxHeartbeats 4000000 in
theorem Rread_any (w : World) (S : ByteArray) (hs : S.size ≤ 268435456) :
    Calls Try.prog 30 #[.string S] w fun e w' => ∃ vn, e = .returned (.agg #[.string (outStr (readD S).out), .int .i64 (readV S), .int .i64 (readD S).x.w, vn, .bool ((readR S).1 && ((readD S).x.state == 1))]) ∧ w'.ownsRow w.heap.size 9 1 vn (readD S).notes.length ((readD S).notes.map Value.string) ∧ Below w.heap.size w w' := by
  have hD0 := start_dr w S (.cells resCells 70)
  have hoc : okAt S x0 := Nat.zero_le _
  have hN := Rnumber_any hD0.row hs hoc 4 (by omega)
  have hnb := numV_bounds S x0 4
  rw [show (2 : Int) ^ 4 = 16 from rfl] at hnb
  have hNe := fun (Q : World) (hQ : SRow Q (w.heap.size + 1 + 1) S (numS S x0 4) (.slice none 0 0) (.slice none 0 0) (.slice (some ⟨w.heap.size + 1, 0, none⟩) 4 4)) => Rneed_any hQ (decide (numV S x0 4 ≤ 8))
  have hX1 : needS (numS S x0 4) (decide (numV S x0 4 ≤ 8)) = x1 S := rfl
  rw [hX1] at hNe
  have hok1 : okAt S (x1 S) := needS_ok (numS_ok hoc 4) _
  have hrun : RIn S (startD S) := by
    have hsa : (startX S).at_ = (x1 S).at_ := by unfold startX; split <;> rfl
    refine ⟨by show (startX S).at_ ≤ _; rw [hsa]; exact hok1, fun i hi => ?_, fun q => ?_, ?_, Nat.zero_le _⟩
    · show 1 ≤ (if i < 4 then (i : Int) + 1 else 0) ∧ (if i < 4 then (i : Int) + 1 else 0) ≤ 4095
      rw [if_pos hi]
      omega
    · show 0 ≤ (startX S).w ∧ (startX S).w ≤ 8
      have q : (startX S).state = 0 := q
      unfold startX at q ⊢
      split
      · rename_i r
        have := of_decide_eq_true (needS_zero.1 (show (needS (numS S x0 4) (decide (numV S x0 4 ≤ 8))).state = 0 from r)).2
        exact ⟨hnb.1, this⟩
      · rename_i r
        rw [if_neg r] at q
        exact absurd q r
    · show (0 : Int) ≤ _
      omega
  clear hX1
  go_enter Try.func30, Try.ntmps30
  go_upto_if 22 with (first
    | (go_at_call 40; refine (hNe _ hr1).mono ?_; rintro e w2 ⟨rfl, hr2, hon2⟩; have c3 := hr2.c_state; have hfz := hr2.free; have c5 := hr2.c_w)
    | (go_at_call 39; refine hN.mono ?_; rintro e w1 ⟨rfl, hr1, hon1⟩))
  go_cut [] (fun wx => DR wx (w.heap.size + 1 + 1) S (startD S) (.slice none 0 0) (.slice none 0 0) (.slice (some ⟨w.heap.size + 1, 0, none⟩) 4 4) ∧ Stp (w.heap.size + 1 + 1) (.slice none 0 0) (.slice none 0 0) (((w.alloc (.cells resCells 70)).alloc (.cells #[.int .i64 1, .int .i64 2, .int .i64 3, .int .i64 4] 3)).alloc (.cells (strCells S (w.heap.size + 1)) 98)) (.slice none 0 0) (.slice none 0 0) wx)
  case first =>
    have hD2 := hD0.on_ (hon1.trans hon2) hr2
    have hS2 := Stp.of_on (.slice none 0 0) (.slice none 0 0) (hon1.trans hon2)
    by_cases h0 : (x1 S).state = 0
    · have HX : Hid (startX S = { x1 S with w := numV S x0 4 }) := if_pos h0
      rw [h0] at c3
      have hrw := hr2.set_w (numV S x0 4)
      have hon3 := (On.refl (w.heap.size + 1 + 1) w2).set 4 (.int .i64 (numV S x0 4))
      have hD3 := hD2.on_ hon3 hrw
      have hS3 := hS2.trans (Stp.of_on (.slice none 0 0) (.slice none 0 0) hon3)
      have HD3 : Hid (DR (w2.setCell ⟨w.heap.size + 1 + 1, 4, none⟩ (.int .i64 (numV S x0 4))) (w.heap.size + 1 + 1) S (startD S) (.slice none 0 0) (.slice none 0 0) (.slice (some ⟨w.heap.size + 1, 0, none⟩) 4 4)) := by
        rw [Hid]
        unfold startD
        rw [HX.out]
        exact hD3
      clear hD3 hD2 hS2 hN hNe hrw
      generalize numV S x0 4 = n4 at *
      go_wp2
      go_meet
      case rel => exact ⟨HD3.out, hS3⟩
    · have HX : Hid (startX S = x1 S) := if_neg h0
      have HD3 : Hid (DR w2 (w.heap.size + 1 + 1) S (startD S) (.slice none 0 0) (.slice none 0 0) (.slice (some ⟨w.heap.size + 1, 0, none⟩) 4 4)) := by
        rw [Hid]
        unfold startD
        rw [HX.out]
        exact hD2
      clear hD2 hN hNe
      generalize numV S x0 4 = n4 at *
      go_wp2
      go_meet
      case rel => exact ⟨HD3.out, hS2⟩
  case rest =>
  obtain ⟨hDs, hSs⟩ := hcut
  clear hD0 hN hNe hr1 hr2 hon1 hon2 c3 hfz c5
  generalize numV S x0 4 = n4 at *
  go_upto_block 0 with fail
  go_cut [5, 6] (fun ve _ wx => ∃ (edge : Bool) (d : Dr) (vo vn vf : Value), ve = .bool edge ∧ Hid (readR S = (edge, d)) ∧ RIn S d ∧ DR wx (w.heap.size + 1 + 1) S d vo vn vf ∧ Stp (w.heap.size + 1 + 1) (.slice none 0 0) (.slice none 0 0) (((w.alloc (.cells resCells 70)).alloc (.cells #[.int .i64 1, .int .i64 2, .int .i64 3, .int .i64 4] 3)).alloc (.cells (strCells S (w.heap.size + 1)) 98)) vo vn wx)
  case first =>
    go_wp2_with fail
    go_loopg [5, 6] (8 * S.size + 2) (fun g ve vl wr => ∃ (edge last : Bool) (d : Dr) (vo vn vf : Value), ve = .bool edge ∧ vl = .bool last ∧ Hid (readGo S g edge last d = readR S) ∧ (d.x.state = 0 → last = false → 8 * S.size < d.x.at_ + g) ∧ RIn S d ∧ DR wr (w.heap.size + 1 + 1) S d vo vn vf ∧ Stp (w.heap.size + 1 + 1) (.slice none 0 0) (.slice none 0 0) (((w.alloc (.cells resCells 70)).alloc (.cells #[.int .i64 1, .int .i64 2, .int .i64 3, .int .i64 4] 3)).alloc (.cells (strCells S (w.heap.size + 1)) 98)) vo vn wr)
    case atStart => exact ⟨false, false, startD S, _, _, _, rfl, rfl, rfl, fun _ _ => by omega, hrun, hDs, hSs⟩
    case round =>
      obtain ⟨edge, last, d, vo, vn, vf, rfl, rfl, HF, hfu, hin, hD, hS⟩ := hrel
      have c3 := hD.row.c_state
      have c1 := hD.row.c_at
      have hfz := hD.row.free
      have hat1 : d.x.at_ ≤ 8 * S.size := hin.at_
      by_cases hgo : d.x.state = 0 ∧ last = false
      · obtain ⟨h0, rfl⟩ := hgo
        have hgk := hfu h0 rfl
        have hw08 := hin.w h0
        have ho := hin.out
        have hn := hin.notes
        have hBI : BlockIn S d := ⟨hs, hin.at_, hin.far, hw08.1, hw08.2, by omega, by omega⟩
        have hBk := Rblock_any hD hBI
        have hbi := block_in hin h0
        have HE : Hid (readGo S (gk - 1) (d.x.at_ == 8 * S.size) (blockD S d).1 (blockD S d).2 = readR S) := by
          rw [Hid, ← HF.out]
          conv => rhs; rw [show gk = gk - 1 + 1 by omega]; unfold readGo
          rw [if_pos ⟨h0, rfl⟩]
        rw [h0] at c3
        have HB : Hid (RIn S (blockD S d).2 ∧ ((blockD S d).2.x.state = 0 → d.x.at_ + 3 ≤ (blockD S d).2.x.at_)) := hbi
        clear hBI hbi HF
        generalize (blockD S d).1 = bl at *
        generalize (blockD S d).2 = d2 at *
        generalize hA : d.x.at_ = A at *
        by_cases hat : A = 8 * S.size
        · have hat2 : (A : Int) = 8 * (S.size : Int) := by omega
          have HAT : Hid ((A == 8 * S.size) = true) := by rw [Hid, hat]; exact beq_self_eq_true _
          go_wp2_with (first
            | (go_at_call 41; refine hBk.mono ?_; rintro e w3 ⟨vo3, vn3, vf3, rfl, hD3, hS3⟩))
          go_roundg (gk - 1)
          case measure => omega
          case rel => exact ⟨true, bl, d2, vo3, vn3, vf3, by first | rfl | simp, rfl, by rw [← HAT.out]; exact HE, fun q _ => by have := HB.out.2 q; omega, HB.out.1, hD3, hS.trans hS3⟩
        · have hat2 : ((A : Int) == 8 * (S.size : Int)) = false := beq_false_of_ne (by omega)
          have HAT : Hid ((A == 8 * S.size) = false) := beq_false_of_ne hat
          clear hat
          go_wp2_with (first
            | (go_at_call 41; refine hBk.mono ?_; rintro e w3 ⟨vo3, vn3, vf3, rfl, hD3, hS3⟩))
          go_roundg (gk - 1)
          case measure => omega
          case rel => exact ⟨false, bl, d2, vo3, vn3, vf3, by first | rfl | simp, rfl, by rw [← HAT.out]; exact HE, fun q _ => by have := HB.out.2 q; omega, HB.out.1, hD3, hS.trans hS3⟩
      · have HZ : Hid (readR S = (edge, d)) := by
          rw [Hid, ← HF.out]
          cases gk with
          | zero => rfl
          | succ g => unfold readGo; rw [if_neg hgo]
        clear HF hfu
        by_cases h0 : d.x.state = 0
        · have hlast : last = true := by
            cases last
            · exact absurd ⟨h0, rfl⟩ hgo
            · rfl
          subst hlast
          rw [h0] at c3
          go_wp2
          go_meet
          case rel => exact ⟨edge, d, vo, vn, vf, rfl, HZ, hin, hD, hS⟩
        · go_wp2
          go_meet
          case rel => exact ⟨edge, d, vo, vn, vf, rfl, HZ, hin, hD, hS⟩
  case rest =>
  obtain ⟨edge, d, vo, vn, vf, rfl, HZ, hin, hD, hS⟩ := hcut
  clear hDs hSs hrun
  obtain ⟨oa, oc, rfl⟩ := owns_slice hD.out
  obtain ⟨na, nc, rfl⟩ := owns_slice hD.notes
  have hF := Rfill_any hD.row hs hin.at_
  have hokf : okAt S (fillS S d.x) := fillS_ok hin.at_
  have HD : Hid (readD S = { d with x := fillS S d.x }) := by rw [Hid]; unfold readD; rw [HZ.out]
  have HV : Hid (readV S = if (fillS S d.x).state = 0 ∧ (fillS S d.x).at_ < 8 * S.size then 3 else (fillS S d.x).state) := by rw [Hid]; unfold readV; rw [HD.out]
  generalize fillS S d.x = yf at *
  go_upto_region 12 with (first
    | (go_at_call 42; refine hF.mono ?_; rintro e w4 ⟨rfl, hr4, hon4⟩; have hD4 := hD.on_ hon4 hr4; have k1 := hr4.c_state; have k2 := hr4.c_w; have k3 := hr4.c_at; have k4 := hr4.c_out; have k5 := hr4.c_notes; have hfz4 := hr4.free))
  have how4 : w4.ownsRow 0 5 1 (.slice oa d.out.length oc) d.out.length (d.out.map (Value.int .u8)) := hD4.out
  have hb4 := hr4.lt
  have HK : Hid (DR w4 (w.heap.size + 1 + 1) S { d with x := yf } (.slice oa d.out.length oc) (.slice na d.notes.length nc) vf ∧ Stp (w.heap.size + 1 + 1) (.slice none 0 0) (.slice none 0 0) (((w.alloc (.cells resCells 70)).alloc (.cells #[.int .i64 1, .int .i64 2, .int .i64 3, .int .i64 4] 3)).alloc (.cells (strCells S (w.heap.size + 1)) 98)) (.slice oa d.out.length oc) (.slice na d.notes.length nc) w4) := ⟨hD4, hS.trans (Stp.of_on _ _ hon4)⟩
  have HQ : Hid (outStr (readD S).out = outStr d.out ∧ (readD S).x.w = yf.w ∧ (readD S).x.state = yf.state ∧ (readR S).1 = edge ∧ (readD S).notes = d.notes) := by rw [Hid, HD.out, HZ.out]; exact ⟨rfl, rfl, rfl, rfl, rfl⟩
  have hat4 : yf.at_ ≤ 8 * S.size := hokf
  have hrr : w4.rowIs w.heap.size 70 5 (fun i => resCells.getD i undef) := by
    have h1 := World.rowIs_alloc w resCells 70 (fun i => resCells.getD i undef) (fun i hi => by
      match i, hi with
      | 0, _ => rfl
      | 1, _ => rfl
      | 2, _ => rfl
      | 3, _ => rfl
      | 4, _ => rfl)
    have h2 := World.rowIs.alloc (World.rowIs.alloc h1 (.cells #[.int .i64 1, .int .i64 2, .int .i64 3, .int .i64 4] 3)) (.cells (strCells S (w.heap.size + 1)) 98)
    exact World.rowIs.of_block h2 ((hS.trans (Stp.of_on _ _ hon4)).block w.heap.size (World.rowIs.lt h2) (by omega) (by simp [Value.ownBlock]) (by simp [Value.ownBlock]))
  have r0 := World.rowIs.cell hrr (show 0 < 5 by omega)
  have r1 := World.rowIs.cell hrr (show 1 < 5 by omega)
  have r2 := World.rowIs.cell hrr (show 2 < 5 by omega)
  have r3 := World.rowIs.cell hrr (show 3 < 5 by omega)
  have r4 := World.rowIs.cell hrr (show 4 < 5 by omega)
  have rfz := World.rowIs.frozen hrr
  have rlt := World.rowIs.lt hrr
  have HRR : Hid (w4.rowIs w.heap.size 70 5 (fun i => resCells.getD i undef)) := hrr
  clear hrr
  clear hok1 hoc hnb hin hD hS hF hokf hr4 hon4 hD4 HD HZ
  have hcv4 : (convert 37 9 (.slice oa d.out.length oc)).run Try.prog w4.drew = .ok (.string (outStr d.out)) w4.drew := run_out (B := 0) how4
  have hcv5 : ∀ o : Obj, (convert 37 9 (.slice oa d.out.length oc)).run Try.prog (w4.alloc o).drew = .ok (.string (outStr d.out)) (w4.alloc o).drew := fun o => run_out (B := 0) (how4.alloc o)
  clear how4
  generalize outStr d.out = T at *
  generalize yf.state = st at *
  generalize yf.w = ww at *
  generalize yf.at_ = aa at *
  generalize hBB : w.heap.size + 1 + 1 = B at *
  go_cut [7] (fun s7 wx => s7 = .pointer (some ⟨w4.heap.size, 0, none⟩) ∧ wx = (w4.alloc (.cells #[.string T, .int .i64 st, .int .i64 ww, .slice na d.notes.length nc, .bool (edge && (st == 1))] 70)).drew)
  case first =>
    clear hs hBB r0 r1 r2 r3 r4 rfz rlt
    cases edge
    · go_region
      all_goals
        go_wp2
        go_meet
        case rel => exact ⟨rfl, rfl⟩
    · go_region
      all_goals
        go_wp2
        go_meet
        case rel => exact ⟨rfl, by simp⟩
  case rest =>
  obtain ⟨rfl, rfl⟩ := hcut
  clear hcv4 hcv5
  generalize heb : (edge && (st == 1)) = eb at *
  have HEB : Hid ((edge && (st == 1)) = eb) := heb
  clear heb
  by_cases hc : st = 0 ∧ aa < 8 * S.size
  · obtain ⟨hst, hlt⟩ := hc
    rw [if_pos ⟨hst, hlt⟩] at HV
    have hlt2 : (aa : Int) < 8 * (S.size : Int) := by omega
    rw [hst] at k1
    go_wp2
    obtain ⟨q0, q1, q2, q3, q4⟩ := res_cells HRR.out (.string T) (.int .i64 3) (.int .i64 ww) (.slice na d.notes.length nc) (.bool eb) (.cells #[.string T, .int .i64 3, .int .i64 ww, .slice na d.notes.length nc, .bool eb] 70)
    unfold setRes at q0 q1 q2 q3 q4
    refine bodyPost_ret (v := .agg #[.string T, .int .i64 3, .int .i64 ww, .slice na d.notes.length nc, .bool eb]) (by simp [results, Try.results30, go_sem, q0, q1, q2, q3, q4]) rfl ?_
    subst hBB
    obtain ⟨hDk, hSk⟩ := HK.out
    obtain ⟨hbel, hsz4, hnb4⟩ := start_below hSk
    refine ⟨.slice na d.notes.length nc, ?_, ?_, ?_⟩
    · rw [HQ.out.1, HQ.out.2.1, HQ.out.2.2.1, HQ.out.2.2.2.1, HV.out, HEB.out]
    · rw [HQ.out.2.2.2.2]
      exact res_owns hDk.notes hnb4 _ _ _ _ _ _
    · exact (res_below hbel _ _ _ _ _ _ (by omega)).drew
  · rw [if_neg hc] at HV
    by_cases hst : st = 0
    · have hlt : ¬ aa < 8 * S.size := fun q => hc ⟨hst, q⟩
      have hdec : decide ((aa : Int) < 8 * (S.size : Int)) = false := decide_eq_false (by omega)
      have hdec2 : ¬ (aa : Int) < 8 * (S.size : Int) := by omega
      subst hst
      clear hc hlt
      go_wp2
      obtain ⟨q0, q1, q2, q3, q4⟩ := res_cells HRR.out (.string T) (.int .i64 0) (.int .i64 ww) (.slice na d.notes.length nc) (.bool eb) (.cells #[.string T, .int .i64 0, .int .i64 ww, .slice na d.notes.length nc, .bool eb] 70)
      unfold setRes at q0 q1 q2 q3 q4
      refine bodyPost_ret (v := .agg #[.string T, .int .i64 0, .int .i64 ww, .slice na d.notes.length nc, .bool eb]) (by simp [results, Try.results30, go_sem, q0, q1, q2, q3, q4]) rfl ?_
      subst hBB
      obtain ⟨hDk, hSk⟩ := HK.out
      obtain ⟨hbel, hsz4, hnb4⟩ := start_below hSk
      refine ⟨.slice na d.notes.length nc, ?_, ?_, ?_⟩
      · rw [HQ.out.1, HQ.out.2.1, HQ.out.2.2.1, HQ.out.2.2.2.1, HV.out, HEB.out]
      · rw [HQ.out.2.2.2.2]
        exact res_owns hDk.notes hnb4 _ _ _ _ _ _
      · exact (res_below hbel _ _ _ _ _ _ (by omega)).drew
    · clear hc
      go_wp2
      obtain ⟨q0, q1, q2, q3, q4⟩ := res_cells HRR.out (.string T) (.int .i64 st) (.int .i64 ww) (.slice na d.notes.length nc) (.bool eb) (.cells #[.string T, .int .i64 st, .int .i64 ww, .slice na d.notes.length nc, .bool eb] 70)
      unfold setRes at q0 q1 q2 q3 q4
      refine bodyPost_ret (v := .agg #[.string T, .int .i64 st, .int .i64 ww, .slice na d.notes.length nc, .bool eb]) (by simp [results, Try.results30, go_sem, q0, q1, q2, q3, q4]) rfl ?_
      subst hBB
      obtain ⟨hDk, hSk⟩ := HK.out
      obtain ⟨hbel, hsz4, hnb4⟩ := start_below hSk
      refine ⟨.slice na d.notes.length nc, ?_, ?_, ?_⟩
      · rw [HQ.out.1, HQ.out.2.1, HQ.out.2.2.1, HQ.out.2.2.2.1, HV.out, HEB.out]
      · rw [HQ.out.2.2.2.2]
        exact res_owns hDk.notes hnb4 _ _ _ _ _ _
      · exact (res_below hbel _ _ _ _ _ _ (by omega)).drew
end Go.Proofs.Ytmpfgdmdnghhgaa
