import Derived.Test.YtmpfgdmdnghhgaaW18
import Derived.Test.YtmpfgdmdnghhgaaRefP5
/- WHERE THE DOCUMENT's READER LIES, AND ITS WALKS OVER BITS. -/
namespace Go.Proofs.Ytmpfgdmdnghhgaa
open Go.RowKit Wr

def cellsS (S : ByteArray) (x : Sr) (vo vn vf : Value) (o : Nat) : Value :=
  if o = 0 then .string S
  else if o = 1 then .int .i64 x.at_
  else if o = 2 then .int .i64 x.state
  else if o = 3 then vo
  else if o = 4 then .int .i64 x.w
  else if o = 5 then vn
  else if o = 6 then vf else .nilFunc

/-- the stream lies in block b -/
def SRow (w : World) (b : Nat) (S : ByteArray) (x : Sr) (vo vn vf : Value) : Prop := w.rowIs b 98 7 (cellsS S x vo vn vf)

section
variable {w : World} {b : Nat} {S : ByteArray} {x : Sr} {vo vn vf : Value}
theorem SRow.free (h : SRow w b S x vo vn vf) (o : Nat) : w.frozen? ⟨b, o, none⟩ = false := World.rowIs.frozen h o
theorem SRow.lt (h : SRow w b S x vo vn vf) : b < w.heap.size := World.rowIs.lt h
theorem SRow.of_block {w' : World} (h : SRow w b S x vo vn vf) (e : w'.heap[b]? = w.heap[b]?) : SRow w' b S x vo vn vf := World.rowIs.of_block h e
theorem SRow.alloc (h : SRow w b S x vo vn vf) (o : Obj) : SRow (w.alloc o) b S x vo vn vf := World.rowIs.alloc h o
theorem SRow.at (h : SRow w b S x vo vn vf) (o : Nat) (ho : o < 7) {u : Value} (e : cellsS S x vo vn vf o = u) : w.cell? ⟨b, o, none⟩ = some u := by rw [← e]; exact World.rowIs.cell h ho
theorem SRow.c_s (h : SRow w b S x vo vn vf) : w.cell? ⟨b, 0, none⟩ = some (.string S) := h.at _ (by omega) rfl
theorem SRow.c_at (h : SRow w b S x vo vn vf) : w.cell? ⟨b, 1, none⟩ = some (.int .i64 x.at_) := h.at _ (by omega) rfl
theorem SRow.c_state (h : SRow w b S x vo vn vf) : w.cell? ⟨b, 2, none⟩ = some (.int .i64 x.state) := h.at _ (by omega) rfl
theorem SRow.c_out (h : SRow w b S x vo vn vf) : w.cell? ⟨b, 3, none⟩ = some vo := h.at _ (by omega) rfl
theorem SRow.c_w (h : SRow w b S x vo vn vf) : w.cell? ⟨b, 4, none⟩ = some (.int .i64 x.w) := h.at _ (by omega) rfl
theorem SRow.c_notes (h : SRow w b S x vo vn vf) : w.cell? ⟨b, 5, none⟩ = some vn := h.at _ (by omega) rfl
theorem SRow.c_far (h : SRow w b S x vo vn vf) : w.cell? ⟨b, 6, none⟩ = some vf := h.at _ (by omega) rfl
theorem SRow.turn {y : Sr} {uo un uf : Value} (h : SRow w b S x vo vn vf) (k : Nat) (v : Value) (e : ∀ o, o < 7 → (if o = k then v else cellsS S x vo vn vf o) = cellsS S y uo un uf o) : SRow (w.setCell ⟨b, k, none⟩ v) b S y uo un uf :=
  (World.rowIs.set h k v).congr e
theorem SRow.set_at (h : SRow w b S x vo vn vf) (n : Nat) : SRow (w.setCell ⟨b, 1, none⟩ (.int .i64 n)) b S { x with at_ := n } vo vn vf := by
  refine h.turn _ _ fun o _ => ?_
  by_cases e : o = 1
  · subst e; rfl
  · simp only [cellsS, if_neg e]
theorem SRow.set_state (h : SRow w b S x vo vn vf) (n : Int) : SRow (w.setCell ⟨b, 2, none⟩ (.int .i64 n)) b S { x with state := n } vo vn vf := by
  refine h.turn _ _ fun o _ => ?_
  by_cases e : o = 2
  · subst e; rfl
  · simp only [cellsS, if_neg e]
theorem SRow.set_w (h : SRow w b S x vo vn vf) (n : Int) : SRow (w.setCell ⟨b, 4, none⟩ (.int .i64 n)) b S { x with w := n } vo vn vf := by
  refine h.turn _ _ fun o _ => ?_
  by_cases e : o = 4
  · subst e; rfl
  · simp only [cellsS, if_neg e]
theorem SRow.set_out (h : SRow w b S x vo vn vf) (v : Value) : SRow (w.setCell ⟨b, 3, none⟩ v) b S x v vn vf := by
  refine h.turn _ _ fun o _ => ?_
  by_cases e : o = 3
  · subst e; rfl
  · simp only [cellsS, if_neg e]
theorem SRow.set_notes (h : SRow w b S x vo vn vf) (v : Value) : SRow (w.setCell ⟨b, 5, none⟩ v) b S x vo v vf := by
  refine h.turn _ _ fun o _ => ?_
  by_cases e : o = 5
  · subst e; rfl
  · simp only [cellsS, if_neg e]
theorem SRow.set_far (h : SRow w b S x vo vn vf) (v : Value) : SRow (w.setCell ⟨b, 6, none⟩ v) b S x vo vn v := by
  refine h.turn _ _ fun o _ => ?_
  by_cases e : o = 6
  · subst e; rfl
  · simp only [cellsS, if_neg e]
end

theorem half_pow (v : Int) (k : Nat) : v / 2 ^ k / 2 = v / 2 ^ (k + 1) := by
  rw [Int.ediv_ediv_of_nonneg (by have := pow_pos2 k; omega), Int.pow_succ]

set_option maxHeartbeats 1000000 in
theorem Rbit_any {w : World} {b : Nat} {S : ByteArray} {x : Sr} {vo vn vf : Value} (h : SRow w b S x vo vn vf) (hs : S.size ≤ 268435456) (ha : okAt S x) :
    Calls Try.prog 50 #[.pointer (some ⟨b, 0, none⟩)] w fun e w' => e = .returned (.int .i64 (bitV S x)) ∧ SRow w' b S (bitS S x) vo vn vf ∧ On b w w' := by
  have c1 := h.c_s
  have c2 := h.c_at
  have c3 := h.c_state
  have hfz := h.free
  unfold okAt at ha
  by_cases h0 : x.state = 0
  · by_cases h1 : 8 * S.size ≤ x.at_
    · have e1 : bitV S x = 0 := by simp only [bitV]; rw [if_neg (by omega), if_pos h1]
      have e2 : bitS S x = { x with state := 1 } := by simp only [bitS]; rw [if_neg (by omega), if_pos h1]
      rw [e1, e2]
      clear e1 e2
      rw [h0] at c3
      go_enter Try.func50, Try.ntmps50
      go_wp2
      go_region
      go_wp2
      go_ret
      exact ⟨rfl, h.set_state 1, ((On.refl b w).set _ _).drew⟩
    · have e1 : bitV S x = valB S.data.toList / 2 ^ x.at_ % 2 := by simp only [bitV]; rw [if_neg (by omega), if_neg h1]
      have e2 : bitS S x = { x with at_ := x.at_ + 1 } := by simp only [bitS]; rw [if_neg (by omega), if_neg h1]
      have hk : x.at_ / 8 < S.size := by omega
      have e3 := byte_bit S x.at_ (by omega) hk
      rw [e1, e2, ← e3]
      clear e1 e2 e3
      rw [h0] at c3
      have bb := byte_bounds S[x.at_ / 8]
      have H := h
      clear h
      generalize hA : x.at_ = A at *
      have hix : ∀ W : World, (Instr.index 9 (.string S) (.int .i64 ((A : Int) / 8))).run Try.prog W = .ok (.int .u8 S[A / 8].toNat) W := by
        intro W
        have hr := run_index_string (P := Try.prog) (w := W) 9 S .i64 ((A : Int) / 8) (by kernel_rfl)
        rw [hr, dif_pos (by omega)]
        congr 3
      go_enter Try.func50, Try.ntmps50
      go_wp2
      go_region
      go_wp2
      go_region
      go_wp2
      clear hix
      generalize hB : (S[A / 8].toNat : Int) = B at *
      go_loopw [3, 4] (fun v vk wr => ∃ j k : Nat, j + k = A % 8 ∧ v = .int .i64 (B / 2 ^ j) ∧ vk = .int .i64 k ∧ wr = w.drew.drew) (fun _ vk _ => (intOf vk).toNat)
      case atStart => exact ⟨0, A % 8, by omega, by rw [Int.pow_zero, Int.ediv_one], by congr 1, rfl⟩
      case round =>
        obtain ⟨j, k, hjk, rfl, rfl, rfl⟩ := hrel
        have hle : 0 ≤ B / 2 ^ j ∧ B / 2 ^ j ≤ 255 := by
          have hp := pow_pos2 j
          refine ⟨Int.ediv_nonneg bb.1 (by omega), ?_⟩
          exact Int.le_trans (Int.ediv_le_self _ bb.1) bb.2
        by_cases hk0 : 0 < k
        · have e := half_pow B j
          generalize hQ : B / 2 ^ j = Q at *
          go_wp2
          go_roundw
          case rel => exact ⟨j + 1, k - 1, by omega, by rw [← e], by go_num, trivial⟩
          case measure => simp [intOf]; omega
        · have hj : j = A % 8 := by omega
          subst hj
          generalize hQ : B / 2 ^ (A % 8) = Q at *
          go_wp2
          go_ret
          rw [hB, hQ]
          refine ⟨rfl, ?_, ((On.refl b w).set _ _).drew.drew⟩
          have := H.set_at (A + 1)
          rw [show ((A + 1 : Nat) : Int) = (A : Int) + 1 by omega] at this
          exact this
  · have e1 : bitV S x = 0 := by simp only [bitV]; rw [if_pos h0]
    have e2 : bitS S x = x := by simp only [bitS]; rw [if_pos h0]
    rw [e1, e2]
    clear e1 e2
    go_enter Try.func50, Try.ntmps50
    go_wp2
    go_ret
    exact ⟨rfl, h, On.refl b w⟩

set_option maxHeartbeats 1000000 in
theorem Rneed_any {w : World} {b : Nat} {S : ByteArray} {x : Sr} {vo vn vf : Value} (h : SRow w b S x vo vn vf) (ok : Bool) :
    Calls Try.prog 40 #[.pointer (some ⟨b, 0, none⟩), .bool ok] w fun e w' => e = .returned (.tuple #[]) ∧ SRow w' b S (needS x ok) vo vn vf ∧ On b w w' := by
  have c3 := h.c_state
  have hfz := h.free
  by_cases h0 : x.state = 0
  · cases ok with
    | false =>
      have e : needS x false = { x with state := 2 } := by unfold needS; rw [if_pos ⟨h0, rfl⟩]
      rw [e]
      clear e
      rw [h0] at c3
      go_enter Try.func40, Try.ntmps40
      go_wp2
      go_end0
      exact ⟨rfl, h.set_state 2, (On.refl b w).set _ _⟩
    | true =>
      have e : needS x true = x := by unfold needS; rw [if_neg (by simp)]
      rw [e]
      clear e
      rw [h0] at c3
      go_enter Try.func40, Try.ntmps40
      go_wp2
      go_end0
      exact ⟨rfl, h, On.refl b w⟩
  · have e : needS x ok = x := by unfold needS; rw [if_neg (by simp [h0])]
    rw [e]
    clear e
    go_enter Try.func40, Try.ntmps40
    go_wp2
    go_end0
    exact ⟨rfl, h, On.refl b w⟩

set_option maxHeartbeats 1000000 in
theorem Rnumber_any {w : World} {b : Nat} {S : ByteArray} {x : Sr} {vo vn vf : Value} (h : SRow w b S x vo vn vf) (hs : S.size ≤ 268435456) (ha : okAt S x) (n : Nat) (hn : n ≤ 12) :
    Calls Try.prog 39 #[.pointer (some ⟨b, 0, none⟩), .int .i64 n] w fun e w' => e = .returned (.int .i64 (numV S x n)) ∧ SRow w' b S (numS S x n) vo vn vf ∧ On b w w' := by
  go_enter Try.func39, Try.ntmps39
  go_wp2
  go_loopw [5, 6, 7] (fun v vw vi wr => ∃ k : Nat, k ≤ n ∧ v = .int .i64 (numV S x k) ∧ vw = .int .i64 (2 ^ k) ∧ vi = .int .i64 k ∧ SRow wr b S (numS S x k) vo vn vf ∧ On b w wr) (fun _ _ vi _ => n - (intOf vi).toNat)
  case atStart =>
    refine ⟨0, by omega, by rw [numV_zero], rfl, rfl, ?_, On.refl b w⟩
    rw [numS_zero ha]
    exact h
  case round =>
    obtain ⟨k, hk, rfl, rfl, rfl, hr, hon⟩ := hrel
    by_cases hlt : k < n
    · have hb := bitV_bounds S (numS S x k)
      have hv := numV_bounds S x k
      have e1 := numV_succ ha k
      have e2 := numS_succ ha k
      have hC := Rbit_any hr hs (numS_ok ha k)
      rw [← e2] at hC
      have hp : (2 : Int) ^ k ≤ 4096 := pow_mono2 (show k ≤ 12 by omega)
      have hp1 := pow_pos2 k
      have e3 : (2 : Int) ^ (k + 1) = 2 * 2 ^ k := by rw [Int.pow_succ]; omega
      generalize hP : (2 : Int) ^ k = P at *
      generalize hbv : bitV S (numS S x k) = bv at *
      generalize numV S x k = V at *
      rcases (show bv = 0 ∨ bv = 1 by omega) with rfl | rfl
      · go_wp2_with (go_at_call 50; refine hC.mono ?_; rintro e w1 ⟨rfl, hr1, hon1⟩)
        go_roundw
        case rel => exact ⟨k + 1, by omega, by rw [e1, Int.mul_zero, Int.add_zero], by rw [e3], by go_num, hr1, hon.trans hon1⟩
        case measure => simp [intOf]; omega
      · go_wp2_with (go_at_call 50; refine hC.mono ?_; rintro e w1 ⟨rfl, hr1, hon1⟩)
        go_roundw
        case rel => exact ⟨k + 1, by omega, by rw [e1, Int.mul_one], by rw [e3], by go_num, hr1, hon.trans hon1⟩
        case measure => simp [intOf]; omega
    · have hkn : k = n := by omega
      subst hkn
      go_wp2
      go_ret
      exact ⟨rfl, hr, hon⟩

set_option maxHeartbeats 1000000 in
theorem Rfill_any {w : World} {b : Nat} {S : ByteArray} {x : Sr} {vo vn vf : Value} (h : SRow w b S x vo vn vf) (hs : S.size ≤ 268435456) (ha : okAt S x) :
    Calls Try.prog 42 #[.pointer (some ⟨b, 0, none⟩)] w fun e w' => e = .returned (.tuple #[]) ∧ SRow w' b S (fillS S x) vo vn vf ∧ On b w w' := by
  go_enter Try.func42, Try.ntmps42
  go_wp2
  go_loopg [] ((8 - x.at_ % 8) % 8) (fun g wr => ∃ y : Sr, Hid (fillK S g y = fillS S x) ∧ (y.state = 0 → g = (8 - y.at_ % 8) % 8) ∧ okAt S y ∧ SRow wr b S y vo vn vf ∧ On b w wr)
  case atStart => exact ⟨x, rfl, fun _ => rfl, ha, h, On.refl b w⟩
  case round =>
    obtain ⟨y, HF, hg, hok, hr, hon⟩ := hrel
    have c2 := hr.c_at
    have c3 := hr.c_state
    have hfz := hr.free
    by_cases h0 : y.state = 0
    · have hgk := hg h0
      have hok' := hok
      unfold okAt at hok'
      by_cases h1 : 0 < y.at_ % 8
      · have hC := Rbit_any hr hs hok
        have hb := bitV_bounds S y
        have hN := fun (W : World) (hW : SRow W b S (bitS S y) vo vn vf) => Rneed_any hW (bitV S y == 0)
        have e : fillK S gk y = fillK S (gk - 1) (needS (bitS S y) (bitV S y == 0)) := by
          rw [show gk = gk - 1 + 1 by omega]
          conv => lhs; unfold fillK
          rw [if_neg (by omega)]
          rfl
        have hat : (bitS S y).at_ = y.at_ + 1 := by
          unfold bitS
          rw [if_neg (by omega), if_neg (by omega)]
        have hn8 : (needS (bitS S y) (bitV S y == 0)).at_ = y.at_ + 1 := by
          unfold needS
          split
          · exact hat
          · exact hat
        have HY : Hid ((needS (bitS S y) (bitV S y == 0)).at_ = y.at_ + 1 ∧ okAt S (needS (bitS S y) (bitV S y == 0)) ∧ fillK S (gk - 1) (needS (bitS S y) (bitV S y == 0)) = fillS S x) := ⟨hn8, needS_ok (bitS_ok hok) _, e.symm.trans HF.out⟩
        clear hn8 hat e
        rw [h0] at c3
        generalize needS (bitS S y) (bitV S y == 0) = y2 at *
        generalize bitS S y = y1 at *
        generalize bitV S y = bv at *
        go_wp2_with (first
          | (go_at_call 50; refine hC.mono ?_; rintro e w1 ⟨rfl, hr1, hon1⟩)
          | (go_at_call 40; refine (hN _ hr1).mono ?_; rintro e w2 ⟨rfl, hr2, hon2⟩))
        go_roundg (gk - 1)
        case measure => omega
        case rel => exact ⟨y2, HY.out.2.2, fun _ => by rw [HY.out.1]; omega, HY.out.2.1, hr2, (hon.trans hon1).trans hon2⟩
      · have g0 : gk = 0 := by omega
        have HG : Hid (fillK S gk y = y) := by rw [g0]; rfl
        have h8 : (y.at_ : Int) % 8 = 0 := by omega
        clear hgk hg g0 h1
        rw [h0] at c3
        go_wp2
        go_end0
        rw [← HF.out, HG.out]
        exact ⟨rfl, hr, hon⟩
    · go_wp2
      go_end0
      rw [← HF.out, fillK_stop S gk h0]
      exact ⟨rfl, hr, hon⟩
end Go.Proofs.Ytmpfgdmdnghhgaa

namespace Go.Proofs.Ytmpfgdmdnghhgaa
open Go.RowKit Wr

set_option maxHeartbeats 1000000 in
theorem Rmore_any (w : World) (n : Nat) (c : Int) (h0 : 0 ≤ c) (h1 : c + 1 < 2 ^ n) (hn : n ≤ 12) :
    Calls Try.prog 115 #[.string (bstr n c)] w fun e w' => e = .returned (.string (bstr n (c + 1))) ∧ w' = w := by
  have hsz := bstr_size n c
  go_enter Try.func115, Try.ntmps115
  go_wp2
  go_loopw [3, 4] (fun vi vt wr => ∃ q j : Nat, q + j + 1 = n ∧ vi = .int .i64 q ∧ vt = .string (noughts j) ∧ Hid (c % 2 ^ j = 2 ^ j - 1) ∧ wr = w) (fun vi _ _ => (intOf vi).toNat)
  case atStart =>
    have hn0 : 0 < n := by
      rcases Nat.eq_zero_or_pos n with e | e
      · rw [e] at h1
        have : (2 : Int) ^ 0 = 1 := rfl
        omega
      · exact e
    exact ⟨n - 1, 0, by omega, by congr 1; omega, rfl, by show c % 1 = 1 - 1; omega, rfl⟩
  case round =>
    obtain ⟨q, j, hq, rfl, rfl, HM, rfl⟩ := hrel
    have hns := noughts_succ j
    have hqs : q < (bstr n c).size := by omega
    have hat := bstr_at hqs
    have hnj := noughts_size j
    rw [show n - 1 - q = j by omega] at hat
    have HE := fun (hz : c / 2 ^ j % 2 = 0) => more_eq (n := n) h0 (by omega) HM.out hz ⟨#[49]⟩ rfl
    rw [show n - 1 - j = q by omega] at HE
    generalize noughts j = NJ at *
    by_cases h2 : c / 2 ^ j % 2 = 1
    · have hd : digit c j = 49 := by unfold digit; rw [if_pos h2]
      rw [hd] at hat
      have hm2 : c % 2 ^ (j + 1) = 2 ^ (j + 1) - 1 := by
        rw [mod_step, HM.out, h2, Int.pow_succ]
        omega
      have hq1 : 1 ≤ q := by
        rcases Nat.eq_zero_or_pos q with e | e
        · exfalso
          rw [show j + 1 = n by omega, Int.emod_eq_of_lt h0 (by omega)] at hm2
          omega
        · exact e
      have HM2 : Hid (c % 2 ^ (j + 1) = 2 ^ (j + 1) - 1) := hm2
      clear hm2 hd HE HM h2 h0 h1
      generalize bstr n c = T at *
      go_wp2
      go_roundw
      case rel => exact ⟨q - 1, j + 1, by omega, by go_num, by rw [← hns]; rfl, HM2, trivial⟩
      case measure => simp [intOf]; omega
    · have hd : digit c j = 48 := by unfold digit; rw [if_neg h2]
      rw [hd] at hat
      have HE2 : Hid ((bstr n c).extract 0 q ++ ⟨#[49]⟩ ++ NJ = bstr n (c + 1)) := HE (by omega)
      clear HE HM h2 hd
      generalize bstr n c = T at *
      go_wp2
      go_ret
      rw [HE2.out]
      exact ⟨rfl, rfl⟩
end Go.Proofs.Ytmpfgdmdnghhgaa

namespace Go.Proofs.Ytmpfgdmdnghhgaa
open Go.RowKit Wr

/-- a row of numbers -/
def Ints (w : World) (a : Option Addr) (n : Nat) (f : Nat → Int) : Prop :=
  n ≤ 272 ∧ (0 < n → ∃ ad, a = some ad ∧ ad.block < w.heap.size ∧ ∀ i, i < n → w.cell? (ad.add i) = some (.int .i64 (f i)))

theorem ad_block (ad : Addr) (k : Nat) : (ad.add k).block = ad.block := by
  unfold Addr.add
  split <;> rfl

theorem owns_slice {w : World} {B : Nat} {e : TypeId} {size : Nat} {v : Value} {n : Nat} {xs : List Value} (h : w.ownsRow B e size v n xs) : ∃ a c, v = .slice a n c := by
  rcases h.2 with ⟨h3, h4⟩ | ⟨g, cap, cur, hv, _⟩
  · exact ⟨none, 0, by rw [h3, h4]⟩
  · exact ⟨_, _, hv⟩

theorem parts_bound (f : Nat → Int) : ∀ n : Nat, 0 ≤ (countGo f n).2 ∧ (countGo f n).2 ≤ 4096 * n
  | 0 => ⟨Int.le_refl _, Int.le_refl _⟩
  | n + 1 => by
    obtain ⟨h1, h2⟩ := parts_bound f n
    unfold countGo
    dsimp only
    split
    · have hp : (2 : Int) ^ (12 - f n).toNat ≤ 4096 := pow_mono2 (show (12 - f n).toNat ≤ 12 by omega)
      have hq := pow_pos2 (12 - f n).toNat
      dsimp only
      omega
    · omega
theorem parts_succ {f : Nat → Int} {n : Nat} (h0 : 0 ≤ f n) (h1 : f n ≤ 12) : (countGo f (n + 1)).2 = (countGo f n).2 + if 0 < f n then 4096 / 2 ^ (f n).toNat else 0 := by
  conv => lhs; unfold countGo
  dsimp only
  split
  · rename_i h
    rw [if_pos h.1]
    dsimp only
    congr 1
    have e : (4096 : Int) = 2 ^ (f n).toNat * 2 ^ (12 - f n).toNat := by
      rw [← pow_add2, show (f n).toNat + (12 - f n).toNat = 12 by omega]
      rfl
    rw [e, Int.mul_ediv_cancel_left _ (by have := pow_pos2 (f n).toNat; omega)]
  · rw [if_neg (by omega), Int.add_zero]

set_option maxHeartbeats 1000000 in
theorem Rparts_any (w : World) (a : Option Addr) (n cap : Nat) (f : Nat → Int) (hI : Ints w a n f) (hf : ∀ i, i < n → 0 ≤ f i ∧ f i ≤ 12) :
    Calls Try.prog 99 #[.slice a n cap] w fun e w' => e = .returned (.int .i64 (countGo f n).2) ∧ w' = w := by
  obtain ⟨hn, hrow⟩ := hI
  go_enter Try.func99, Try.ntmps99
  go_wp2
  go_loopw [3, 4] (fun v vi wr => ∃ k : Nat, k ≤ n ∧ v = .int .i64 (countGo f k).2 ∧ vi = .int .i64 k ∧ wr = w) (fun _ vi _ => n - (intOf vi).toNat)
  case atStart => exact ⟨0, by omega, rfl, rfl, rfl⟩
  case round =>
    obtain ⟨k, hk, rfl, rfl, rfl⟩ := hrel
    by_cases hlt : k < n
    · obtain ⟨ad, rfl, hbb, hcell⟩ := hrow (by omega)
      have hck := hcell k hlt
      obtain ⟨f0, f1⟩ := hf k hlt
      have pb := parts_bound f k
      have HS : Hid ((countGo f (k + 1)).2 = (countGo f k).2 + if 0 < f k then 4096 / 2 ^ (f k).toNat else 0) := parts_succ f0 f1
      clear hcell hrow hf
      generalize (countGo f k).2 = V at *
      generalize f k = F at *
      go_wp2
      go_loopw [5, 6] (fun vp vm wq => ∃ j m : Nat, (j : Int) + m = F ∧ vp = .int .i64 (4096 / 2 ^ j) ∧ vm = .int .i64 m ∧ wq = wr) (fun _ vm _ => (intOf vm).toNat)
      case atStart => exact ⟨0, F.toNat, by omega, by rfl, by congr 1; omega, rfl⟩
      case round =>
        obtain ⟨j, m, hjm, rfl, rfl, rfl⟩ := hrel
        have e := half_pow 4096 j
        have hle : 0 ≤ (4096 : Int) / 2 ^ j ∧ (4096 : Int) / 2 ^ j ≤ 4096 := ⟨Int.ediv_nonneg (by omega) (by have := pow_pos2 j; omega), Int.ediv_le_self _ (by omega)⟩
        by_cases hm : 0 < m
        · generalize (4096 : Int) / 2 ^ j = Q at *
          go_wp2
          go_roundw
          case rel => exact ⟨j + 1, m - 1, by omega, by rw [← e], by go_num, trivial⟩
          case measure => simp [intOf]; omega
        · have hj : j = F.toNat := by omega
          have hS := HS.out
          rw [← hj] at hS
          clear HS e
          by_cases hF : 0 < F
          · rw [if_pos hF] at hS
            generalize (4096 : Int) / 2 ^ j = Q at *
            go_wp2
            go_roundw
            case rel => exact ⟨k + 1, by omega, by rw [hS], by go_num, trivial⟩
            case measure => simp [intOf]; omega
          · rw [if_neg hF, Int.add_zero] at hS
            generalize (4096 : Int) / 2 ^ j = Q at *
            go_wp2
            go_roundw
            case rel => exact ⟨k + 1, by omega, by rw [hS], by go_num, trivial⟩
            case measure => simp [intOf]; omega
    · have hkn : k = n := by omega
      subst hkn
      go_wp2
      go_ret
      exact ⟨rfl, rfl⟩
end Go.Proofs.Ytmpfgdmdnghhgaa
