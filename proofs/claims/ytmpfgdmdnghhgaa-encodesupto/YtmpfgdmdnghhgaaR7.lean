import Derived.Test.YtmpfgdmdnghhgaaR6
import Derived.Test.YtmpfgdmdnghhgaaRefP9
namespace Go.Proofs.Ytmpfgdmdnghhgaa
open Go.RowKit Wr

theorem On.own {b : Nat} {w w' : World} (h : On b w w') {p : Addr} (hp : w.heap.size ≤ p.block) (x : Value) : On b w (w'.setCell p x) :=
  ⟨h.os, h.tape, h.output, by have := h.size; simp [World.setCell]; omega, fun k hk hb => (Below.heap_setCell _ _ _ _ (by omega)).trans (h.block k hk hb)⟩

theorem On.row {b g : Nat} {w w' : World} {t : TypeId} {n : Nat} {f : Nat → Value} (h : On b w w') (hb : g ≠ b) (hr : w.rowIs g t n f) : w'.rowIs g t n f := World.rowIs.of_block hr (h.block g (World.rowIs.lt hr) hb)
theorem words_nil (w : World) : Words w (.slice none 0 0) [] := ⟨none, 0, rfl, fun h => absurd h (by simp)⟩
theorem wsIf_stop {x : Sr} (h : x.state ≠ 0) (c : (Nat → Int) × (Nat → Int)) : wsIf x c = [] := by unfold wsIf; rw [if_neg h]
theorem wsIf_go {x : Sr} (h : x.state = 0) (c : (Nat → Int) × (Nat → Int)) : wsIf x c = codeWs c.1 c.2 := by unfold wsIf; rw [if_pos h]
def onlyOf (n : Nat) (nm : Nat → Int) (i : Nat) : Int := if n = 1 ∧ 0 < i then nm 0 else 0
theorem addr0 (g j : Nat) : (⟨g, 0, none⟩ : Addr).add j = ⟨g, j, none⟩ := by
  unfold Addr.add
  by_cases h : j = 0
  · subst h; rfl
  · simp [h]
theorem simp_res {S : ByteArray} {N sz n : Nat} {x y : Sr} {nm : Nat → Int} {ws : List Wd} (hC : simpC S N sz x = (simpleCnt n, (simpR S N sz x).1)) (hZ : simpR S N sz x = (nm, y)) (hst : y.state = 0)
    (h2 : 2 ≤ n) (h4 : n ≤ 4) (h : NamesOk N nm n) (hw : WordsAt (lenF n nm n) N 13 0 ws) : ws = wsIf (simpR S N sz x).2 (simpC S N sz x) := by
  rw [hC, hZ, wsIf_go hst]
  exact simp_words h2 h4 h hw
/-- the lengths that are laid -/
def lenN (n : Nat) (nm : Nat → Int) (i : Nat) : Nat → Int := if n = 1 then fun _ => 0 else lenF n nm i
theorem lenN_push {n : Nat} {nm : Nat → Int} {i : Nat} (h : n ≠ 1) (v : Nat) : lenN n (upd nm i v) (i + 1) = upd (lenN n nm i) v (simpLen n i) := by
  unfold lenN
  rw [if_neg h, if_neg h, lenF_push, Int.toNat_natCast]
theorem row_put {w : World} {g N : Nat} {f : Nat → Int} (h : w.rowIs g 3 N (fun j => .int .i64 (f j))) (v : Nat) (x : Int) : (w.setCell ⟨g, v, none⟩ (.int .i64 x)).rowIs g 3 N (fun j => .int .i64 (upd f v x j)) := by
  refine (World.rowIs.set h v (.int .i64 x)).congr fun i _ => ?_
  show (if i = v then _ else _) = _
  unfold upd
  split <;> rfl

set_option maxRecDepth 100000 in
set_option maxHeartbeats 2000000 in
theorem Rsimple_any {w : World} {b : Nat} {S : ByteArray} {x : Sr} {vo vn vf : Value} (h : SRow w b S x vo vn vf) (hs : S.size ≤ 268435456) (ha : okAt S x) (N sz : Nat) (hN : N ≤ 272) (hsz : sz ≤ 9) :
    Calls Try.prog 78 #[.pointer (some ⟨b, 0, none⟩), .int .i64 N, .int .i64 sz] w fun e w' => ∃ v, e = .returned v ∧ SRow w' b S (simpR S N sz x).2 vo vn vf ∧ On b w w' ∧ Words w' v (wsIf (simpR S N sz x).2 (simpC S N sz x)) ∧ (∀ g, v.ownBlock = some g → w.heap.size ≤ g) := by
  have hC := Rnumber_any h hs ha 2 (by omega)
  have hb2 := numV_bounds S x 2
  rw [show (2 : Int) ^ 2 = 4 from rfl] at hb2
  have hmk : ∀ W : World, (Instr.makeSlice 29 (.int .i64 (N : Int)) (.int .i64 (N : Int))).run Try.prog W = .ok (.slice (some ⟨W.heap.size, 0, none⟩) N N) (W.alloc (.cells (madeCells #[.int .i64 0] N) 3)) :=
    fun W => run_make_row' 29 3 _ 8 Try.underlying29 info_int rfl .i64 .i64 N (by omega) (by omega) W
  generalize hn : numV S x 2 = n0 at *
  go_enter Try.func78, Try.ntmps78
  go_wp2_with (first
    | (go_at_call 39; refine hC.mono ?_; rintro e w1 ⟨rfl, hr1, hon1⟩))
  obtain ⟨n, hn1⟩ : ∃ n : Nat, n0 + 1 = (n : Int) := ⟨(n0 + 1).toNat, by omega⟩
  have hn4 : 1 ≤ n ∧ n ≤ 4 := by omega
  have HR : Hid (nameGo S N sz n 0 (fun _ => 0) (numS S x 2) = simpR S N sz x) := by
    rw [Hid]
    unfold simpR
    rw [hn, hn1, Int.toNat_natCast]
  have HC : Hid (simpC S N sz x = (simpleCnt n, (simpR S N sz x).1)) := by
    rw [Hid]
    unfold simpC
    rw [hn, hn1]
  have hok := numS_ok ha 2
  rw [hn1]
  clear hn hn1 hb2 hC
  have hsz1 := hon1.size
  have hc4 : n = 1 ∨ n = 2 ∨ n = 3 ∨ n = 4 := by omega
  rcases hc4 with rfl | rfl | rfl | rfl
  · rw [show ((1 : Nat) : Int) = (1 : Int) from rfl]
    go_loopw [6, 9, 10, 11] (fun _ vb vl vi wr => ∃ (i : Nat) (nm : Nat → Int) (y : Sr), i ≤ 1 ∧ Hid (nameGo S N sz (1 - i) i nm y = simpR S N sz x) ∧ vb = .int .i64 (befN nm i) ∧ vl = .int .i64 (onlyOf 1 nm i) ∧ vi = .int .i64 i ∧ Hid (NamesOk N nm i) ∧ (0 < i → y.state = 0) ∧ okAt S y ∧ SRow wr b S y vo vn vf ∧ On b w wr ∧ wr.rowIs w1.heap.size 3 N (fun j => .int .i64 (lenN 1 nm i j))) (fun _ _ _ vi _ => 1 - (intOf vi).toNat)
    case atStart =>
      refine ⟨0, fun _ => 0, numS S x 2, by omega, HR, rfl, rfl, rfl, ⟨fun p hp => absurd hp (by omega), fun p hp => absurd hp (by omega)⟩, fun q => absurd q (by omega), hok, hr1.alloc _, hon1.alloc _, ?_⟩
      exact (World.rowIs_made w1 (.int .i64 0) N 3).congr fun i _ => rfl
    case round =>
      obtain ⟨i, nm, y, hin, HF, rfl, rfl, rfl, HO, hst0, hoky, hr, hon, hrow⟩ := hrel
      by_cases hlt : i < 1
      · have hN1 := fun (W : World) (hW : SRow W b S y vo vn vf) => Rnumber_any hW hs hoky sz (by omega)
        have hvb := numV_bounds S y sz
        have hp9 : (2 : Int) ^ sz ≤ 512 := pow_mono2 (show sz ≤ 9 by omega)
        have HE : Hid (nameGo S N sz (1 - i) i nm y = if (needS (numS S y sz) (decide (befN nm i < numV S y sz ∧ numV S y sz < N))).state ≠ 0 then
      (nm, needS (numS S y sz) (decide (befN nm i < numV S y sz ∧ numV S y sz < N)))
    else nameGo S N sz (1 - (i + 1)) (i + 1) (upd nm i (numV S y sz)) (needS (numS S y sz) (decide (befN nm i < numV S y sz ∧ numV S y sz < N)))) := by
          rw [Hid, show 1 - i = 1 - (i + 1) + 1 by omega]
          rfl
        have hnb : -1 ≤ befN nm i ∧ befN nm i < 1000 := by
          unfold befN
          split
          · omega
          · have := HO.out.lt (i - 1) (by omega)
            omega
        have hoky2 := numS_ok hoky sz
        have hNN := fun (W : World) (ok : Bool) (hW : SRow W b S (numS S y sz) vo vn vf) => Rneed_any hW ok
        obtain ⟨v, hv⟩ : ∃ v : Nat, numV S y sz = (v : Int) := ⟨(numV S y sz).toNat, by omega⟩
        rw [hv] at hN1 hvb HE
        clear hv
        generalize numS S y sz = y1 at *
        by_cases hA : befN nm i < v ∧ (v : Int) < N
        · obtain ⟨hA1, hA2⟩ := hA
          have hv272 : v < 272 := by omega
          have HOk : Hid (NamesOk N (upd nm i v) (i + 1)) := HO.out.push hA1 hA2
          rw [decide_eq_true (show befN nm i < v ∧ (v : Int) < N from ⟨hA1, hA2⟩), needS_true] at HE
          have HBB : Hid (befN (upd nm i v) (i + 1) = v) := by
            rw [Hid]
            unfold befN
            rw [if_neg (by omega), show i + 1 - 1 = i by omega]
            exact if_pos rfl
          have hN2 := fun (W : World) (hW : SRow W b S y1 vo vn vf) => hNN W true hW
          rw [needS_true] at hN2
          clear hNN
          by_cases hst : y1.state = 0
          · rw [if_neg (fun q => q hst)] at HE
            have HZ : Hid (nameGo S N sz (1 - (i + 1)) (i + 1) (upd nm i v) y1 = simpR S N sz x) := HE.out.symm.trans HF.out
            generalize befN nm i = bf at *
            have hgb : w1.heap.size ≠ b := by have := h.lt; omega
            go_wp2_with (first
              | (go_at_call 39; refine (hN1 _ hr).mono ?_; rintro e w2 ⟨rfl, hr2, hon2⟩)
              | (go_at_call 40; refine (hN2 _ hr2).mono ?_; rintro e w3 ⟨rfl, hr3, hon3⟩; have c3 := hr3.c_state; have hfz := hr3.free; rw [hst] at c3; have hrow3 := hon3.row hgb (hon2.row hgb hrow); have ccell := World.rowIs.cell hrow3 (show v < N by omega); have cfz := World.rowIs.frozen hrow3 v))
            go_roundw
            case rel =>
              have hi0 : i = 0 := by omega
              subst hi0
              exact ⟨0 + 1, upd nm 0 v, y1, by omega, HZ, by rw [HBB.out], rfl, by first | rfl | go_num, HOk, fun _ => hst, hoky2, hr3, (hon.trans hon2).trans hon3, hrow3⟩
            case measure => simp [intOf]; omega
          · rw [if_pos hst] at HE
            have HZ : Hid (simpR S N sz x = (nm, y1)) := HF.out.symm.trans HE.out
            generalize befN nm i = bf at *
            go_wp2_with (first
              | (go_at_call 39; refine (hN1 _ hr).mono ?_; rintro e w2 ⟨rfl, hr2, hon2⟩)
              | (go_at_call 40; refine (hN2 _ hr2).mono ?_; rintro e w3 ⟨rfl, hr3, hon3⟩; have c3 := hr3.c_state; have hfz := hr3.free))
            go_ret
            rw [HZ.out, wsIf_stop hst]
            exact ⟨_, rfl, hr3, (hon.trans hon2).trans hon3, words_nil _, fun g hg => by cases hg⟩
        · rw [decide_eq_false hA] at HE
          have hst : (needS y1 false).state ≠ 0 := fun q => by have := (needS_zero.1 q).2; cases this
          rw [if_pos hst] at HE
          have HZ : Hid (simpR S N sz x = (nm, needS y1 false)) := HF.out.symm.trans HE.out
          have hN2 := fun (W : World) (hW : SRow W b S y1 vo vn vf) => hNN W false hW
          clear hNN
          generalize needS y1 false = y2 at *
          generalize befN nm i = bf at *
          by_cases hA1 : bf < v
          · have hA2 : ¬ (v : Int) < N := fun q => hA ⟨hA1, q⟩
            have hA3 : N ≤ v := by omega
            have hA4 : decide (v < N) = false := decide_eq_false (by omega)
            clear hA hA2
            go_wp2_with (first
              | (go_at_call 39; refine (hN1 _ hr).mono ?_; rintro e w2 ⟨rfl, hr2, hon2⟩)
              | (go_at_call 40; refine (hN2 _ hr2).mono ?_; rintro e w3 ⟨rfl, hr3, hon3⟩; have c3 := hr3.c_state; have hfz := hr3.free))
            go_ret
            rw [HZ.out, wsIf_stop hst]
            exact ⟨_, rfl, hr3, (hon.trans hon2).trans hon3, words_nil _, fun g hg => by cases hg⟩
          · clear hA
            go_wp2_with (first
              | (go_at_call 39; refine (hN1 _ hr).mono ?_; rintro e w2 ⟨rfl, hr2, hon2⟩)
              | (go_at_call 40; refine (hN2 _ hr2).mono ?_; rintro e w3 ⟨rfl, hr3, hon3⟩; have c3 := hr3.c_state; have hfz := hr3.free))
            go_ret
            rw [HZ.out, wsIf_stop hst]
            exact ⟨_, rfl, hr3, (hon.trans hon2).trans hon3, words_nil _, fun g hg => by cases hg⟩
      · have hin2 : i = 1 := by omega
        subst hin2
        have hst := hst0 (by omega)
        have HZ : Hid (simpR S N sz x = (nm, y)) := HF.out.symm
        go_wp2
        go_ret
        have he : wsIf (simpR S N sz x).2 (simpC S N sz x) = [⟨nm 0, 0, 0⟩] := by
          rw [HC.out, HZ.out, wsIf_go hst]
          exact simp_one nm
        rw [he, HZ.out]
        refine ⟨_, rfl, hr.alloc _, hon.alloc _, ⟨_, 1, rfl, fun _ => ⟨wr.heap.size, rfl, by simp, fun i hi => ?_⟩⟩, fun g hg => ?_⟩
        · have hi0 : i = 0 := by simp at hi; omega
          subst hi0
          have ho : onlyOf 1 nm 1 = nm 0 := rfl
          rw [ho]
          exact ⟨by simp, by simp; rfl⟩
        · have hg2 : wr.heap.size = g := Option.some.inj hg
          have := hon.size
          omega
  · rw [show ((2 : Nat) : Int) = (2 : Int) from rfl]
    go_loopw [6, 9, 10, 11] (fun _ vb vl vi wr => ∃ (i : Nat) (nm : Nat → Int) (y : Sr), i ≤ 2 ∧ Hid (nameGo S N sz (2 - i) i nm y = simpR S N sz x) ∧ vb = .int .i64 (befN nm i) ∧ vl = .int .i64 (onlyOf 2 nm i) ∧ vi = .int .i64 i ∧ Hid (NamesOk N nm i) ∧ (0 < i → y.state = 0) ∧ okAt S y ∧ SRow wr b S y vo vn vf ∧ On b w wr ∧ wr.rowIs w1.heap.size 3 N (fun j => .int .i64 (lenN 2 nm i j))) (fun _ _ _ vi _ => 2 - (intOf vi).toNat)
    case atStart =>
      refine ⟨0, fun _ => 0, numS S x 2, by omega, HR, rfl, rfl, rfl, ⟨fun p hp => absurd hp (by omega), fun p hp => absurd hp (by omega)⟩, fun q => absurd q (by omega), hok, hr1.alloc _, hon1.alloc _, ?_⟩
      exact (World.rowIs_made w1 (.int .i64 0) N 3).congr fun i _ => rfl
    case round =>
      obtain ⟨i, nm, y, hin, HF, rfl, rfl, rfl, HO, hst0, hoky, hr, hon, hrow⟩ := hrel
      by_cases hlt : i < 2
      · have hN1 := fun (W : World) (hW : SRow W b S y vo vn vf) => Rnumber_any hW hs hoky sz (by omega)
        have hvb := numV_bounds S y sz
        have hp9 : (2 : Int) ^ sz ≤ 512 := pow_mono2 (show sz ≤ 9 by omega)
        have HE : Hid (nameGo S N sz (2 - i) i nm y = if (needS (numS S y sz) (decide (befN nm i < numV S y sz ∧ numV S y sz < N))).state ≠ 0 then
      (nm, needS (numS S y sz) (decide (befN nm i < numV S y sz ∧ numV S y sz < N)))
    else nameGo S N sz (2 - (i + 1)) (i + 1) (upd nm i (numV S y sz)) (needS (numS S y sz) (decide (befN nm i < numV S y sz ∧ numV S y sz < N)))) := by
          rw [Hid, show 2 - i = 2 - (i + 1) + 1 by omega]
          rfl
        have hnb : -1 ≤ befN nm i ∧ befN nm i < 1000 := by
          unfold befN
          split
          · omega
          · have := HO.out.lt (i - 1) (by omega)
            omega
        have hoky2 := numS_ok hoky sz
        have hNN := fun (W : World) (ok : Bool) (hW : SRow W b S (numS S y sz) vo vn vf) => Rneed_any hW ok
        obtain ⟨v, hv⟩ : ∃ v : Nat, numV S y sz = (v : Int) := ⟨(numV S y sz).toNat, by omega⟩
        rw [hv] at hN1 hvb HE
        clear hv
        generalize numS S y sz = y1 at *
        by_cases hA : befN nm i < v ∧ (v : Int) < N
        · obtain ⟨hA1, hA2⟩ := hA
          have hv272 : v < 272 := by omega
          have HOk : Hid (NamesOk N (upd nm i v) (i + 1)) := HO.out.push hA1 hA2
          rw [decide_eq_true (show befN nm i < v ∧ (v : Int) < N from ⟨hA1, hA2⟩), needS_true] at HE
          have HBB : Hid (befN (upd nm i v) (i + 1) = v) := by
            rw [Hid]
            unfold befN
            rw [if_neg (by omega), show i + 1 - 1 = i by omega]
            exact if_pos rfl
          have hN2 := fun (W : World) (hW : SRow W b S y1 vo vn vf) => hNN W true hW
          rw [needS_true] at hN2
          clear hNN
          by_cases hst : y1.state = 0
          · rw [if_neg (fun q => q hst)] at HE
            have HZ : Hid (nameGo S N sz (2 - (i + 1)) (i + 1) (upd nm i v) y1 = simpR S N sz x) := HE.out.symm.trans HF.out
            generalize befN nm i = bf at *
            have hgb : w1.heap.size ≠ b := by have := h.lt; omega
            have HS : Hid (simpLen 2 i = 1) := rfl
            have HL : Hid (lenN 2 (upd nm i v) (i + 1) = upd (lenN 2 nm i) v (simpLen 2 i)) := lenN_push (by decide) v
            go_wp2_with (first
              | (go_at_call 39; refine (hN1 _ hr).mono ?_; rintro e w2 ⟨rfl, hr2, hon2⟩)
              | (go_at_call 40; refine (hN2 _ hr2).mono ?_; rintro e w3 ⟨rfl, hr3, hon3⟩; have c3 := hr3.c_state; have hfz := hr3.free; rw [hst] at c3; have hrow3 := hon3.row hgb (hon2.row hgb hrow); have ccell := World.rowIs.cell hrow3 (show v < N by omega); have cfz := World.rowIs.frozen hrow3 v))
            go_roundw
            case rel =>
              refine ⟨i + 1, upd nm i v, y1, by omega, HZ, by rw [HBB.out], ?_, by first | rfl | go_num, HOk, fun _ => hst, hoky2, hr3.of_block (Below.heap_setCell _ _ _ _ (fun q => hgb q.symm)), ((hon.trans hon2).trans hon3).own (by show w.heap.size ≤ w1.heap.size; omega) _, ?_⟩
              · rfl
              · rw [HL.out, HS.out]
                exact row_put hrow3 v 1
            case measure => simp [intOf]; omega
          · rw [if_pos hst] at HE
            have HZ : Hid (simpR S N sz x = (nm, y1)) := HF.out.symm.trans HE.out
            generalize befN nm i = bf at *
            go_wp2_with (first
              | (go_at_call 39; refine (hN1 _ hr).mono ?_; rintro e w2 ⟨rfl, hr2, hon2⟩)
              | (go_at_call 40; refine (hN2 _ hr2).mono ?_; rintro e w3 ⟨rfl, hr3, hon3⟩; have c3 := hr3.c_state; have hfz := hr3.free))
            go_ret
            rw [HZ.out, wsIf_stop hst]
            exact ⟨_, rfl, hr3, (hon.trans hon2).trans hon3, words_nil _, fun g hg => by cases hg⟩
        · rw [decide_eq_false hA] at HE
          have hst : (needS y1 false).state ≠ 0 := fun q => by have := (needS_zero.1 q).2; cases this
          rw [if_pos hst] at HE
          have HZ : Hid (simpR S N sz x = (nm, needS y1 false)) := HF.out.symm.trans HE.out
          have hN2 := fun (W : World) (hW : SRow W b S y1 vo vn vf) => hNN W false hW
          clear hNN
          generalize needS y1 false = y2 at *
          generalize befN nm i = bf at *
          by_cases hA1 : bf < v
          · have hA2 : ¬ (v : Int) < N := fun q => hA ⟨hA1, q⟩
            have hA3 : N ≤ v := by omega
            have hA4 : decide (v < N) = false := decide_eq_false (by omega)
            clear hA hA2
            go_wp2_with (first
              | (go_at_call 39; refine (hN1 _ hr).mono ?_; rintro e w2 ⟨rfl, hr2, hon2⟩)
              | (go_at_call 40; refine (hN2 _ hr2).mono ?_; rintro e w3 ⟨rfl, hr3, hon3⟩; have c3 := hr3.c_state; have hfz := hr3.free))
            go_ret
            rw [HZ.out, wsIf_stop hst]
            exact ⟨_, rfl, hr3, (hon.trans hon2).trans hon3, words_nil _, fun g hg => by cases hg⟩
          · clear hA
            go_wp2_with (first
              | (go_at_call 39; refine (hN1 _ hr).mono ?_; rintro e w2 ⟨rfl, hr2, hon2⟩)
              | (go_at_call 40; refine (hN2 _ hr2).mono ?_; rintro e w3 ⟨rfl, hr3, hon3⟩; have c3 := hr3.c_state; have hfz := hr3.free))
            go_ret
            rw [HZ.out, wsIf_stop hst]
            exact ⟨_, rfl, hr3, (hon.trans hon2).trans hon3, words_nil _, fun g hg => by cases hg⟩
      · have hin2 : i = 2 := by omega
        subst hin2
        have hst := hst0 (by omega)
        have HZ : Hid (simpR S N sz x = (nm, y)) := HF.out.symm
        have HW : Hid (∀ ws, WordsAt (lenF 2 nm 2) N 13 0 ws → ws = wsIf (simpR S N sz x).2 (simpC S N sz x)) := by
          intro ws hws
          exact simp_res HC.out HZ.out hst (by omega) (by omega) HO.out hws
        have hl : lenN 2 nm 2 = lenF 2 nm 2 := if_neg (by decide)
        rw [hl] at hrow
        have hI : Ints wr (some ⟨w1.heap.size, 0, none⟩) N (lenF 2 nm 2) := ⟨hN, fun _ => ⟨_, rfl, World.rowIs.lt hrow, fun j hj => by
          rw [addr0]
          exact World.rowIs.cell hrow hj⟩⟩
        have hWW := Rwords_any wr (some ⟨w1.heap.size, 0, none⟩) N N (lenF 2 nm 2) hI (fun j _ => lenF_bounds 2 nm 2 j) (simp_sum (by omega) (by omega) HO.out)
        clear hI hl
        generalize lenF 2 nm 2 = F at *
        go_wp2_with (first
          | (go_at_call 98; refine hWW.mono ?_; rintro e w4 ⟨v', ws, rfl, hwa, hown, hbel⟩))
        go_ret
        rw [← HW.out ws hwa]
        refine ⟨_, rfl, ?_, ?_, owns_words hown, fun g hg => ?_⟩
        · rw [HZ.out]
          exact hr.of_block (hbel.block b hr.lt)
        · exact hon.trans ⟨hbel.os, hbel.tape, hbel.output, hbel.size, fun k hk _ => hbel.block k hk⟩
        · have := (hown.lt g hg).1
          have := hon.size
          omega
  · rw [show ((3 : Nat) : Int) = (3 : Int) from rfl]
    go_loopw [6, 9, 10, 11] (fun _ vb vl vi wr => ∃ (i : Nat) (nm : Nat → Int) (y : Sr), i ≤ 3 ∧ Hid (nameGo S N sz (3 - i) i nm y = simpR S N sz x) ∧ vb = .int .i64 (befN nm i) ∧ vl = .int .i64 (onlyOf 3 nm i) ∧ vi = .int .i64 i ∧ Hid (NamesOk N nm i) ∧ (0 < i → y.state = 0) ∧ okAt S y ∧ SRow wr b S y vo vn vf ∧ On b w wr ∧ wr.rowIs w1.heap.size 3 N (fun j => .int .i64 (lenN 3 nm i j))) (fun _ _ _ vi _ => 3 - (intOf vi).toNat)
    case atStart =>
      refine ⟨0, fun _ => 0, numS S x 2, by omega, HR, rfl, rfl, rfl, ⟨fun p hp => absurd hp (by omega), fun p hp => absurd hp (by omega)⟩, fun q => absurd q (by omega), hok, hr1.alloc _, hon1.alloc _, ?_⟩
      exact (World.rowIs_made w1 (.int .i64 0) N 3).congr fun i _ => rfl
    case round =>
      obtain ⟨i, nm, y, hin, HF, rfl, rfl, rfl, HO, hst0, hoky, hr, hon, hrow⟩ := hrel
      by_cases hlt : i < 3
      · have hN1 := fun (W : World) (hW : SRow W b S y vo vn vf) => Rnumber_any hW hs hoky sz (by omega)
        have hvb := numV_bounds S y sz
        have hp9 : (2 : Int) ^ sz ≤ 512 := pow_mono2 (show sz ≤ 9 by omega)
        have HE : Hid (nameGo S N sz (3 - i) i nm y = if (needS (numS S y sz) (decide (befN nm i < numV S y sz ∧ numV S y sz < N))).state ≠ 0 then
      (nm, needS (numS S y sz) (decide (befN nm i < numV S y sz ∧ numV S y sz < N)))
    else nameGo S N sz (3 - (i + 1)) (i + 1) (upd nm i (numV S y sz)) (needS (numS S y sz) (decide (befN nm i < numV S y sz ∧ numV S y sz < N)))) := by
          rw [Hid, show 3 - i = 3 - (i + 1) + 1 by omega]
          rfl
        have hnb : -1 ≤ befN nm i ∧ befN nm i < 1000 := by
          unfold befN
          split
          · omega
          · have := HO.out.lt (i - 1) (by omega)
            omega
        have hoky2 := numS_ok hoky sz
        have hNN := fun (W : World) (ok : Bool) (hW : SRow W b S (numS S y sz) vo vn vf) => Rneed_any hW ok
        obtain ⟨v, hv⟩ : ∃ v : Nat, numV S y sz = (v : Int) := ⟨(numV S y sz).toNat, by omega⟩
        rw [hv] at hN1 hvb HE
        clear hv
        generalize numS S y sz = y1 at *
        by_cases hA : befN nm i < v ∧ (v : Int) < N
        · obtain ⟨hA1, hA2⟩ := hA
          have hv272 : v < 272 := by omega
          have HOk : Hid (NamesOk N (upd nm i v) (i + 1)) := HO.out.push hA1 hA2
          rw [decide_eq_true (show befN nm i < v ∧ (v : Int) < N from ⟨hA1, hA2⟩), needS_true] at HE
          have HBB : Hid (befN (upd nm i v) (i + 1) = v) := by
            rw [Hid]
            unfold befN
            rw [if_neg (by omega), show i + 1 - 1 = i by omega]
            exact if_pos rfl
          have hN2 := fun (W : World) (hW : SRow W b S y1 vo vn vf) => hNN W true hW
          rw [needS_true] at hN2
          clear hNN
          by_cases hst : y1.state = 0
          · rw [if_neg (fun q => q hst)] at HE
            have HZ : Hid (nameGo S N sz (3 - (i + 1)) (i + 1) (upd nm i v) y1 = simpR S N sz x) := HE.out.symm.trans HF.out
            generalize befN nm i = bf at *
            have hgb : w1.heap.size ≠ b := by have := h.lt; omega
            rcases (show i = 0 ∨ i = 1 ∨ i = 2 by omega) with rfl | rfl | rfl
            · have HS : Hid (simpLen 3 0 = 1) := rfl
              have HL : Hid (lenN 3 (upd nm 0 v) (0 + 1) = upd (lenN 3 nm 0) v (simpLen 3 0)) := lenN_push (by decide) v
              go_wp2_with (first
                | (go_at_call 39; refine (hN1 _ hr).mono ?_; rintro e w2 ⟨rfl, hr2, hon2⟩)
                | (go_at_call 40; refine (hN2 _ hr2).mono ?_; rintro e w3 ⟨rfl, hr3, hon3⟩; have c3 := hr3.c_state; have hfz := hr3.free; rw [hst] at c3; have hrow3 := hon3.row hgb (hon2.row hgb hrow); have ccell := World.rowIs.cell hrow3 (show v < N by omega); have cfz := World.rowIs.frozen hrow3 v))
              go_roundw
              case rel =>
                refine ⟨0 + 1, upd nm 0 v, y1, by omega, HZ, by rw [HBB.out], ?_, by first | rfl | go_num, HOk, fun _ => hst, hoky2, hr3.of_block (Below.heap_setCell _ _ _ _ (fun q => hgb q.symm)), ((hon.trans hon2).trans hon3).own (by show w.heap.size ≤ w1.heap.size; omega) _, ?_⟩
                · rfl
                · rw [HL.out, HS.out]
                  exact row_put hrow3 v 1
              case measure => simp [intOf]
            · have HS : Hid (simpLen 3 1 = 2) := rfl
              have HL : Hid (lenN 3 (upd nm 1 v) (1 + 1) = upd (lenN 3 nm 1) v (simpLen 3 1)) := lenN_push (by decide) v
              go_wp2_with (first
                | (go_at_call 39; refine (hN1 _ hr).mono ?_; rintro e w2 ⟨rfl, hr2, hon2⟩)
                | (go_at_call 40; refine (hN2 _ hr2).mono ?_; rintro e w3 ⟨rfl, hr3, hon3⟩; have c3 := hr3.c_state; have hfz := hr3.free; rw [hst] at c3; have hrow3 := hon3.row hgb (hon2.row hgb hrow); have ccell := World.rowIs.cell hrow3 (show v < N by omega); have cfz := World.rowIs.frozen hrow3 v))
              go_roundw
              case rel =>
                refine ⟨1 + 1, upd nm 1 v, y1, by omega, HZ, by rw [HBB.out], ?_, by first | rfl | go_num, HOk, fun _ => hst, hoky2, hr3.of_block (Below.heap_setCell _ _ _ _ (fun q => hgb q.symm)), ((hon.trans hon2).trans hon3).own (by show w.heap.size ≤ w1.heap.size; omega) _, ?_⟩
                · rfl
                · rw [HL.out, HS.out]
                  exact row_put hrow3 v 2
              case measure => simp [intOf]
            · have HS : Hid (simpLen 3 2 = 2) := rfl
              have HL : Hid (lenN 3 (upd nm 2 v) (2 + 1) = upd (lenN 3 nm 2) v (simpLen 3 2)) := lenN_push (by decide) v
              go_wp2_with (first
                | (go_at_call 39; refine (hN1 _ hr).mono ?_; rintro e w2 ⟨rfl, hr2, hon2⟩)
                | (go_at_call 40; refine (hN2 _ hr2).mono ?_; rintro e w3 ⟨rfl, hr3, hon3⟩; have c3 := hr3.c_state; have hfz := hr3.free; rw [hst] at c3; have hrow3 := hon3.row hgb (hon2.row hgb hrow); have ccell := World.rowIs.cell hrow3 (show v < N by omega); have cfz := World.rowIs.frozen hrow3 v))
              go_roundw
              case rel =>
                refine ⟨2 + 1, upd nm 2 v, y1, by omega, HZ, by rw [HBB.out], ?_, by first | rfl | go_num, HOk, fun _ => hst, hoky2, hr3.of_block (Below.heap_setCell _ _ _ _ (fun q => hgb q.symm)), ((hon.trans hon2).trans hon3).own (by show w.heap.size ≤ w1.heap.size; omega) _, ?_⟩
                · rfl
                · rw [HL.out, HS.out]
                  exact row_put hrow3 v 2
              case measure => simp [intOf]
          · rw [if_pos hst] at HE
            have HZ : Hid (simpR S N sz x = (nm, y1)) := HF.out.symm.trans HE.out
            generalize befN nm i = bf at *
            go_wp2_with (first
              | (go_at_call 39; refine (hN1 _ hr).mono ?_; rintro e w2 ⟨rfl, hr2, hon2⟩)
              | (go_at_call 40; refine (hN2 _ hr2).mono ?_; rintro e w3 ⟨rfl, hr3, hon3⟩; have c3 := hr3.c_state; have hfz := hr3.free))
            go_ret
            rw [HZ.out, wsIf_stop hst]
            exact ⟨_, rfl, hr3, (hon.trans hon2).trans hon3, words_nil _, fun g hg => by cases hg⟩
        · rw [decide_eq_false hA] at HE
          have hst : (needS y1 false).state ≠ 0 := fun q => by have := (needS_zero.1 q).2; cases this
          rw [if_pos hst] at HE
          have HZ : Hid (simpR S N sz x = (nm, needS y1 false)) := HF.out.symm.trans HE.out
          have hN2 := fun (W : World) (hW : SRow W b S y1 vo vn vf) => hNN W false hW
          clear hNN
          generalize needS y1 false = y2 at *
          generalize befN nm i = bf at *
          by_cases hA1 : bf < v
          · have hA2 : ¬ (v : Int) < N := fun q => hA ⟨hA1, q⟩
            have hA3 : N ≤ v := by omega
            have hA4 : decide (v < N) = false := decide_eq_false (by omega)
            clear hA hA2
            go_wp2_with (first
              | (go_at_call 39; refine (hN1 _ hr).mono ?_; rintro e w2 ⟨rfl, hr2, hon2⟩)
              | (go_at_call 40; refine (hN2 _ hr2).mono ?_; rintro e w3 ⟨rfl, hr3, hon3⟩; have c3 := hr3.c_state; have hfz := hr3.free))
            go_ret
            rw [HZ.out, wsIf_stop hst]
            exact ⟨_, rfl, hr3, (hon.trans hon2).trans hon3, words_nil _, fun g hg => by cases hg⟩
          · clear hA
            go_wp2_with (first
              | (go_at_call 39; refine (hN1 _ hr).mono ?_; rintro e w2 ⟨rfl, hr2, hon2⟩)
              | (go_at_call 40; refine (hN2 _ hr2).mono ?_; rintro e w3 ⟨rfl, hr3, hon3⟩; have c3 := hr3.c_state; have hfz := hr3.free))
            go_ret
            rw [HZ.out, wsIf_stop hst]
            exact ⟨_, rfl, hr3, (hon.trans hon2).trans hon3, words_nil _, fun g hg => by cases hg⟩
      · have hin2 : i = 3 := by omega
        subst hin2
        have hst := hst0 (by omega)
        have HZ : Hid (simpR S N sz x = (nm, y)) := HF.out.symm
        have HW : Hid (∀ ws, WordsAt (lenF 3 nm 3) N 13 0 ws → ws = wsIf (simpR S N sz x).2 (simpC S N sz x)) := by
          intro ws hws
          exact simp_res HC.out HZ.out hst (by omega) (by omega) HO.out hws
        have hl : lenN 3 nm 3 = lenF 3 nm 3 := if_neg (by decide)
        rw [hl] at hrow
        have hI : Ints wr (some ⟨w1.heap.size, 0, none⟩) N (lenF 3 nm 3) := ⟨hN, fun _ => ⟨_, rfl, World.rowIs.lt hrow, fun j hj => by
          rw [addr0]
          exact World.rowIs.cell hrow hj⟩⟩
        have hWW := Rwords_any wr (some ⟨w1.heap.size, 0, none⟩) N N (lenF 3 nm 3) hI (fun j _ => lenF_bounds 3 nm 3 j) (simp_sum (by omega) (by omega) HO.out)
        clear hI hl
        generalize lenF 3 nm 3 = F at *
        go_wp2_with (first
          | (go_at_call 98; refine hWW.mono ?_; rintro e w4 ⟨v', ws, rfl, hwa, hown, hbel⟩))
        go_ret
        rw [← HW.out ws hwa]
        refine ⟨_, rfl, ?_, ?_, owns_words hown, fun g hg => ?_⟩
        · rw [HZ.out]
          exact hr.of_block (hbel.block b hr.lt)
        · exact hon.trans ⟨hbel.os, hbel.tape, hbel.output, hbel.size, fun k hk _ => hbel.block k hk⟩
        · have := (hown.lt g hg).1
          have := hon.size
          omega
  · rw [show ((4 : Nat) : Int) = (4 : Int) from rfl]
    go_loopw [6, 9, 10, 11] (fun _ vb vl vi wr => ∃ (i : Nat) (nm : Nat → Int) (y : Sr), i ≤ 4 ∧ Hid (nameGo S N sz (4 - i) i nm y = simpR S N sz x) ∧ vb = .int .i64 (befN nm i) ∧ vl = .int .i64 (onlyOf 4 nm i) ∧ vi = .int .i64 i ∧ Hid (NamesOk N nm i) ∧ (0 < i → y.state = 0) ∧ okAt S y ∧ SRow wr b S y vo vn vf ∧ On b w wr ∧ wr.rowIs w1.heap.size 3 N (fun j => .int .i64 (lenN 4 nm i j))) (fun _ _ _ vi _ => 4 - (intOf vi).toNat)
    case atStart =>
      refine ⟨0, fun _ => 0, numS S x 2, by omega, HR, rfl, rfl, rfl, ⟨fun p hp => absurd hp (by omega), fun p hp => absurd hp (by omega)⟩, fun q => absurd q (by omega), hok, hr1.alloc _, hon1.alloc _, ?_⟩
      exact (World.rowIs_made w1 (.int .i64 0) N 3).congr fun i _ => rfl
    case round =>
      obtain ⟨i, nm, y, hin, HF, rfl, rfl, rfl, HO, hst0, hoky, hr, hon, hrow⟩ := hrel
      by_cases hlt : i < 4
      · have hN1 := fun (W : World) (hW : SRow W b S y vo vn vf) => Rnumber_any hW hs hoky sz (by omega)
        have hvb := numV_bounds S y sz
        have hp9 : (2 : Int) ^ sz ≤ 512 := pow_mono2 (show sz ≤ 9 by omega)
        have HE : Hid (nameGo S N sz (4 - i) i nm y = if (needS (numS S y sz) (decide (befN nm i < numV S y sz ∧ numV S y sz < N))).state ≠ 0 then
      (nm, needS (numS S y sz) (decide (befN nm i < numV S y sz ∧ numV S y sz < N)))
    else nameGo S N sz (4 - (i + 1)) (i + 1) (upd nm i (numV S y sz)) (needS (numS S y sz) (decide (befN nm i < numV S y sz ∧ numV S y sz < N)))) := by
          rw [Hid, show 4 - i = 4 - (i + 1) + 1 by omega]
          rfl
        have hnb : -1 ≤ befN nm i ∧ befN nm i < 1000 := by
          unfold befN
          split
          · omega
          · have := HO.out.lt (i - 1) (by omega)
            omega
        have hoky2 := numS_ok hoky sz
        have hNN := fun (W : World) (ok : Bool) (hW : SRow W b S (numS S y sz) vo vn vf) => Rneed_any hW ok
        obtain ⟨v, hv⟩ : ∃ v : Nat, numV S y sz = (v : Int) := ⟨(numV S y sz).toNat, by omega⟩
        rw [hv] at hN1 hvb HE
        clear hv
        generalize numS S y sz = y1 at *
        by_cases hA : befN nm i < v ∧ (v : Int) < N
        · obtain ⟨hA1, hA2⟩ := hA
          have hv272 : v < 272 := by omega
          have HOk : Hid (NamesOk N (upd nm i v) (i + 1)) := HO.out.push hA1 hA2
          rw [decide_eq_true (show befN nm i < v ∧ (v : Int) < N from ⟨hA1, hA2⟩), needS_true] at HE
          have HBB : Hid (befN (upd nm i v) (i + 1) = v) := by
            rw [Hid]
            unfold befN
            rw [if_neg (by omega), show i + 1 - 1 = i by omega]
            exact if_pos rfl
          have hN2 := fun (W : World) (hW : SRow W b S y1 vo vn vf) => hNN W true hW
          rw [needS_true] at hN2
          clear hNN
          by_cases hst : y1.state = 0
          · rw [if_neg (fun q => q hst)] at HE
            have HZ : Hid (nameGo S N sz (4 - (i + 1)) (i + 1) (upd nm i v) y1 = simpR S N sz x) := HE.out.symm.trans HF.out
            generalize befN nm i = bf at *
            have hgb : w1.heap.size ≠ b := by have := h.lt; omega
            have HS : Hid (simpLen 4 i = 2) := rfl
            have HL : Hid (lenN 4 (upd nm i v) (i + 1) = upd (lenN 4 nm i) v (simpLen 4 i)) := lenN_push (by decide) v
            go_wp2_with (first
              | (go_at_call 39; refine (hN1 _ hr).mono ?_; rintro e w2 ⟨rfl, hr2, hon2⟩)
              | (go_at_call 40; refine (hN2 _ hr2).mono ?_; rintro e w3 ⟨rfl, hr3, hon3⟩; have c3 := hr3.c_state; have hfz := hr3.free; rw [hst] at c3; have hrow3 := hon3.row hgb (hon2.row hgb hrow); have ccell := World.rowIs.cell hrow3 (show v < N by omega); have cfz := World.rowIs.frozen hrow3 v))
            go_roundw
            case rel =>
              refine ⟨i + 1, upd nm i v, y1, by omega, HZ, by rw [HBB.out], ?_, by first | rfl | go_num, HOk, fun _ => hst, hoky2, hr3.of_block (Below.heap_setCell _ _ _ _ (fun q => hgb q.symm)), ((hon.trans hon2).trans hon3).own (by show w.heap.size ≤ w1.heap.size; omega) _, ?_⟩
              · rfl
              · rw [HL.out, HS.out]
                exact row_put hrow3 v 2
            case measure => simp [intOf]; omega
          · rw [if_pos hst] at HE
            have HZ : Hid (simpR S N sz x = (nm, y1)) := HF.out.symm.trans HE.out
            generalize befN nm i = bf at *
            go_wp2_with (first
              | (go_at_call 39; refine (hN1 _ hr).mono ?_; rintro e w2 ⟨rfl, hr2, hon2⟩)
              | (go_at_call 40; refine (hN2 _ hr2).mono ?_; rintro e w3 ⟨rfl, hr3, hon3⟩; have c3 := hr3.c_state; have hfz := hr3.free))
            go_ret
            rw [HZ.out, wsIf_stop hst]
            exact ⟨_, rfl, hr3, (hon.trans hon2).trans hon3, words_nil _, fun g hg => by cases hg⟩
        · rw [decide_eq_false hA] at HE
          have hst : (needS y1 false).state ≠ 0 := fun q => by have := (needS_zero.1 q).2; cases this
          rw [if_pos hst] at HE
          have HZ : Hid (simpR S N sz x = (nm, needS y1 false)) := HF.out.symm.trans HE.out
          have hN2 := fun (W : World) (hW : SRow W b S y1 vo vn vf) => hNN W false hW
          clear hNN
          generalize needS y1 false = y2 at *
          generalize befN nm i = bf at *
          by_cases hA1 : bf < v
          · have hA2 : ¬ (v : Int) < N := fun q => hA ⟨hA1, q⟩
            have hA3 : N ≤ v := by omega
            have hA4 : decide (v < N) = false := decide_eq_false (by omega)
            clear hA hA2
            go_wp2_with (first
              | (go_at_call 39; refine (hN1 _ hr).mono ?_; rintro e w2 ⟨rfl, hr2, hon2⟩)
              | (go_at_call 40; refine (hN2 _ hr2).mono ?_; rintro e w3 ⟨rfl, hr3, hon3⟩; have c3 := hr3.c_state; have hfz := hr3.free))
            go_ret
            rw [HZ.out, wsIf_stop hst]
            exact ⟨_, rfl, hr3, (hon.trans hon2).trans hon3, words_nil _, fun g hg => by cases hg⟩
          · clear hA
            go_wp2_with (first
              | (go_at_call 39; refine (hN1 _ hr).mono ?_; rintro e w2 ⟨rfl, hr2, hon2⟩)
              | (go_at_call 40; refine (hN2 _ hr2).mono ?_; rintro e w3 ⟨rfl, hr3, hon3⟩; have c3 := hr3.c_state; have hfz := hr3.free))
            go_ret
            rw [HZ.out, wsIf_stop hst]
            exact ⟨_, rfl, hr3, (hon.trans hon2).trans hon3, words_nil _, fun g hg => by cases hg⟩
      · have hin2 : i = 4 := by omega
        subst hin2
        have hst := hst0 (by omega)
        have HZ : Hid (simpR S N sz x = (nm, y)) := HF.out.symm
        have HW : Hid (∀ ws, WordsAt (lenF 4 nm 4) N 13 0 ws → ws = wsIf (simpR S N sz x).2 (simpC S N sz x)) := by
          intro ws hws
          exact simp_res HC.out HZ.out hst (by omega) (by omega) HO.out hws
        have hl : lenN 4 nm 4 = lenF 4 nm 4 := if_neg (by decide)
        rw [hl] at hrow
        have hI : Ints wr (some ⟨w1.heap.size, 0, none⟩) N (lenF 4 nm 4) := ⟨hN, fun _ => ⟨_, rfl, World.rowIs.lt hrow, fun j hj => by
          rw [addr0]
          exact World.rowIs.cell hrow hj⟩⟩
        have hWW := Rwords_any wr (some ⟨w1.heap.size, 0, none⟩) N N (lenF 4 nm 4) hI (fun j _ => lenF_bounds 4 nm 4 j) (simp_sum (by omega) (by omega) HO.out)
        clear hI hl
        generalize lenF 4 nm 4 = F at *
        go_wp2_with (first
          | (go_at_call 98; refine hWW.mono ?_; rintro e w4 ⟨v', ws, rfl, hwa, hown, hbel⟩))
        go_ret
        rw [← HW.out ws hwa]
        refine ⟨_, rfl, ?_, ?_, owns_words hown, fun g hg => ?_⟩
        · rw [HZ.out]
          exact hr.of_block (hbel.block b hr.lt)
        · exact hon.trans ⟨hbel.os, hbel.tape, hbel.output, hbel.size, fun k hk _ => hbel.block k hk⟩
        · have := (hown.lt g hg).1
          have := hon.size
          omega
end Go.Proofs.Ytmpfgdmdnghhgaa
