import Derived.Test.YtmpfgdmdnghhgaaS2
import Derived.Test.YtmpfgdmdnghhgaaK9
/- SYMBOLS OF COPIES, AND THE LAST DISTANCES IN A BLOCK OF THEIR OWN. -/
namespace Go.Proofs.Ytmpfgdmdnghhgaa
open Go.RowKit Wr

set_option maxHeartbeats 600000 in
theorem ForLength_any (w : World) (l : Int) (h0 : 0 ≤ l) (h1 : l ≤ 520) :
    Calls Try.prog 123 #[.int .i64 l] w fun e w' => e = .returned (.int .i64 (forLen l : Nat)) ∧ w' = w := by
  go_enter Try.func123, Try.ntmps123
  go_wp2
  go_loopw [3, 4, 5] (fun vk _ _ wr => ∃ k : Nat, k ≤ 15 ∧ vk = .int .i64 k ∧ forLen l = flGo l (15 - k) k ∧ wr = w) (fun vk _ _ _ => 15 - (intOf vk).toNat)
  case atStart => exact ⟨0, by omega, rfl, rfl, rfl⟩
  case round =>
    obtain ⟨k, hk, rfl, he, rfl⟩ := hrel
    have HE : Hid (forLen l = flGo l (15 - k) k) := he
    clear he
    by_cases h15 : k = 15
    · subst h15
      have HN : Hid (forLen l = 15) := by rw [Hid, HE.out]; rfl
      go_wp2
      go_ret
      rw [HN.out]
      exact ⟨rfl, rfl⟩
    · have hki : (k : Int) < 15 := by omega
      have hL := length_any k wr (by omega) (by omega)
      have hb : ∀ k : Nat, k ≤ 14 → 0 ≤ lenLeast k ∧ lenLeast k ≤ 1000 ∧ 0 ≤ lenMore k ∧ lenMore k ≤ 8 := by decide
      obtain ⟨b1, b2, b3, b4⟩ := hb k (by omega)
      clear hb
      have hp := pow_lt64 (lenMore k).toNat (by omega)
      have hp2 : (2 : Int) ^ (lenMore k).toNat ≤ 2 ^ 8 := pow_mono (by omega)
      have hp3 : (2 : Int) ^ 8 = 256 := rfl
      by_cases hc : l < lenLeast k + 2 ^ (lenMore k).toNat
      · have HN : Hid (((forLen l : Nat) : Int) = k) := by
          rw [Hid, HE.out, show 15 - k = (14 - k) + 1 by omega]
          unfold flGo
          rw [if_pos hc]
        generalize lenLeast k = x at *
        generalize lenMore k = y at *
        go_wp2_with (go_at_call 94; refine hL.mono ?_; rintro e w' ⟨rfl, rfl⟩)
        go_ret
        rw [HN.out]
        exact ⟨rfl, rfl⟩
      · have HN : Hid (forLen l = flGo l (15 - (k + 1)) (k + 1)) := by
          rw [Hid, HE.out, show 15 - k = (15 - (k + 1)) + 1 by omega]
          show (if _ then _ else _) = _
          rw [if_neg hc]
        generalize lenLeast k = x at *
        generalize lenMore k = y at *
        go_wp2_with (go_at_call 94; refine hL.mono ?_; rintro e w' ⟨rfl, rfl⟩)
        go_roundw
        case rel => exact ⟨k + 1, by omega, by go_num, HN.out, trivial⟩
        case measure => simp [intOf]; omega

set_option maxHeartbeats 600000 in
theorem ForDistance_any (w : World) (d : Int) (h0 : 0 ≤ d) (h1 : d ≤ 4096) :
    Calls Try.prog 125 #[.int .i64 d] w fun e w' => e = .returned (.int .i64 (forDist d : Nat)) ∧ w' = w := by
  go_enter Try.func125, Try.ntmps125
  go_wp2
  go_loopw [3, 4, 5] (fun vk _ _ wr => ∃ k : Nat, 4 ≤ k ∧ k ≤ 15 ∧ vk = .int .i64 k ∧ forDist d = fdGo d (15 - k) k ∧ wr = w) (fun vk _ _ _ => 15 - (intOf vk).toNat)
  case atStart => exact ⟨4, by omega, by omega, rfl, rfl, rfl⟩
  case round =>
    obtain ⟨k, hk4, hk, rfl, he, rfl⟩ := hrel
    have HE : Hid (forDist d = fdGo d (15 - k) k) := he
    clear he
    by_cases h15 : k = 15
    · subst h15
      have HN : Hid (forDist d = 15) := by rw [Hid, HE.out]; rfl
      go_wp2
      go_ret
      rw [HN.out]
      exact ⟨rfl, rfl⟩
    · have hki : (k : Int) < 15 := by omega
      have hL := distance_any k wr (by omega) (by omega)
      have hb : ∀ k : Nat, k ≤ 14 → 0 ≤ distLeast k ∧ distLeast k ≤ 4096 ∧ 0 ≤ distMore k ∧ distMore k ≤ 11 := by decide
      obtain ⟨b1, b2, b3, b4⟩ := hb k (by omega)
      clear hb
      have hp := pow_lt64 (distMore k).toNat (by omega)
      have hp2 : (2 : Int) ^ (distMore k).toNat ≤ 2 ^ 11 := pow_mono (by omega)
      have hp3 : (2 : Int) ^ 11 = 2048 := rfl
      by_cases hc : d < distLeast k + 2 ^ (distMore k).toNat
      · have HN : Hid (((forDist d : Nat) : Int) = k) := by
          rw [Hid, HE.out, show 15 - k = (14 - k) + 1 by omega]
          unfold fdGo
          rw [if_pos hc]
        generalize distLeast k = x at *
        generalize distMore k = y at *
        go_wp2_with (go_at_call 96; refine hL.mono ?_; rintro e w' ⟨rfl, rfl⟩)
        go_ret
        rw [HN.out]
        exact ⟨rfl, rfl⟩
      · have HN : Hid (forDist d = fdGo d (15 - (k + 1)) (k + 1)) := by
          rw [Hid, HE.out, show 15 - k = (15 - (k + 1)) + 1 by omega]
          show (if _ then _ else _) = _
          rw [if_neg hc]
        generalize distLeast k = x at *
        generalize distMore k = y at *
        go_wp2_with (go_at_call 96; refine hL.mono ?_; rintro e w' ⟨rfl, rfl⟩)
        go_roundw
        case rel => exact ⟨k + 1, by omega, by omega, by go_num, HN.out, trivial⟩
        case measure => simp [intOf]; omega

/-- the last distances in block b -/
def RRow (w : World) (b : Nat) (far : Nat → Int) : Prop := w.rowIs b 82 4 (iV far)
theorem TRec : RowTy 82 4 zInt := rowTy_of (by kernel_rfl) (by kernel_rfl) (by kernel_rfl)

section
variable {w : World} {b : Nat} {far : Nat → Int}
theorem RRow.cell (h : RRow w b far) (i : Nat) (hi : i < 4) : w.cell? ⟨b, i, none⟩ = some (.int .i64 (far i)) := World.rowIs.cell h hi

set_option maxHeartbeats 400000 in
theorem rAdd_any (hr : RRow w b far) (d : Int) :
    Calls Try.prog 76 #[.pointer (some ⟨b, 0, none⟩), .int .i64 d] w fun e w' => e = .returned (.tuple #[]) ∧ RRow w' b (nearAdd far d) ∧ Tch (· = b) w w' := by
  have h0 := hr.cell 0 (by omega)
  have h1 := hr.cell 1 (by omega)
  have h2 := hr.cell 2 (by omega)
  have h3 := hr.cell 3 (by omega)
  have hfz := World.rowIs.frozen hr
  have HR : Hid (RRow w b far) := hr
  clear hr
  go_enter Try.func76, Try.ntmps76
  go_wp2
  refine wp_loop_rounds 4 ?_
  rw [rounds_succ]
  go_wp2
  go_region
  go_wp2
  rw [rounds_succ]
  go_wp2
  go_region
  go_wp2
  rw [rounds_succ]
  go_wp2
  go_region
  go_wp2
  rw [rounds_succ]
  go_wp2
  go_end0
  refine ⟨rfl, ?_, (((((Tch.refl (· = b) w).set ⟨b, 3, none⟩ _ (fun _ => rfl)).set ⟨b, 2, none⟩ _ (fun _ => rfl)).set ⟨b, 1, none⟩ _ (fun _ => rfl)).set ⟨b, 0, none⟩ _ (fun _ => rfl)).drew.drew.drew⟩
  have R := rowIs_upd (rowIs_upd (rowIs_upd (rowIs_upd HR.out 3 (far 2)) 2 (far 1)) 1 (far 0)) 0 d
  rw [near_eq] at R
  exact R

set_option maxHeartbeats 400000 in
theorem rUse_any (hr : RRow w b far) (k : Nat) (h4 : k < 4) :
    Calls Try.prog 95 #[.pointer (some ⟨b, 0, none⟩), .int .i64 k] w fun e w' => e = .returned (.int .i64 (far k)) ∧ RRow w' b (useR far k) ∧ Tch (· = b) w w' := by
  have hc := hr.cell k h4
  have hfz := World.rowIs.frozen hr
  have h4i : (k : Int) < 4 := by omega
  by_cases hk : 0 < k
  · have HU : Hid (useR far k = nearAdd far (far k)) := by rw [Hid, useR, if_neg (by omega)]
    have hki : 0 < (k : Int) := by omega
    have hA := rAdd_any hr (far k)
    clear hr
    go_enter Try.func95, Try.ntmps95
    go_wp2_with (go_at_call 76; refine hA.mono ?_; rintro e w' ⟨rfl, hr1, hon⟩)
    go_ret
    rw [HU.out]
    exact ⟨rfl, hr1, hon⟩
  · have hk0 : k = 0 := by omega
    subst hk0
    have HU : Hid (useR far 0 = far) := by rw [Hid, useR, if_pos rfl]
    go_enter Try.func95, Try.ntmps95
    go_wp2
    go_ret
    rw [HU.out]
    exact ⟨rfl, hr, Tch.refl _ _⟩

def nearI (far : Nat → Int) (d : Int) : Int := match nearOf far d with | some i => (i : Int) | none => 0
def nearB (far : Nat → Int) (d : Int) : Bool := (nearOf far d).isSome
set_option maxHeartbeats 600000 in
theorem rFind_any (hr : RRow w b far) (d : Int) :
    Calls Try.prog 124 #[.pointer (some ⟨b, 0, none⟩), .int .i64 d] w fun e w' => e = .returned (.tuple #[.int .i64 (nearI far d), .bool (nearB far d)]) ∧ w' = w := by
  have hfz := World.rowIs.frozen hr
  go_enter Try.func124, Try.ntmps124
  go_wp2
  go_loopw [4, 5, 6] (fun va vb vi wr => ∃ i : Nat, i ≤ 4 ∧ va = .int .i64 0 ∧ vb = .bool false ∧ vi = .int .i64 i ∧ nearOf far d = nearGo far d (4 - i) i ∧ wr = w) (fun _ _ vi _ => 4 - (intOf vi).toNat)
  case atStart => exact ⟨0, by omega, rfl, rfl, rfl, rfl, rfl⟩
  case round =>
    obtain ⟨i, hi, rfl, rfl, rfl, he, rfl⟩ := hrel
    have HE : Hid (nearOf far d = nearGo far d (4 - i) i) := he
    clear he
    by_cases hlt : i < 4
    · have c1 := hr.cell i hlt
      have hil : (i : Int) < 4 := by omega
      by_cases hq : far i = d
      · have HN : Hid (nearOf far d = some i) := by
          rw [Hid, HE.out, show 4 - i = (3 - i) + 1 by omega]
          unfold nearGo
          rw [if_pos hq]
        rw [hq] at c1
        go_wp2
        go_ret2
        unfold nearI nearB
        rw [HN.out]
        exact ⟨rfl, rfl⟩
      · have HN : Hid (nearOf far d = nearGo far d (4 - (i + 1)) (i + 1)) := by
          rw [Hid, HE.out, show 4 - i = (4 - (i + 1)) + 1 by omega]
          show (if _ then _ else _) = _
          rw [if_neg hq]
        have hqb : (far i == d) = false := beq_eq_false_iff_ne.2 hq
        go_wp2
        go_roundw
        case rel => exact ⟨i + 1, by omega, rfl, rfl, by go_num, HN.out, trivial⟩
        case measure => simp [intOf]; omega
    · have h4 : i = 4 := by omega
      subst h4
      have HN : Hid (nearOf far d = none) := by rw [Hid, HE.out]; rfl
      go_wp2
      go_ret2
      unfold nearI nearB
      rw [HN.out]
      exact ⟨rfl, rfl⟩
end
end Go.Proofs.Ytmpfgdmdnghhgaa

/- THE FINDER WALKED: byteAt, same, next, slot. -/
namespace Go.Proofs.Ytmpfgdmdnghhgaa
open Go.RowKit Wr

/-- the bytes of a block lie in block g -/
def Bts (w : World) (g : Nat) (P : List UInt8) : Prop := ∀ i, i < P.length → w.cell? ⟨g, i, none⟩ = some (.int .u8 (pB P i))
theorem Bts.keep {w w' : World} {g : Nat} {P : List UInt8} {A : Nat → Prop} (h : Bts w g P) (k : Tch A w w') (hA : ¬ A g) : Bts w' g P := fun j hj => k.cell (h j hj) hA

def fndV (bv : Value) (win : Int) (h b : Nat → Int) (o : Nat) : Value :=
  if o = 0 then bv else .int .i64 (if o = 1 then win else if o < 1026 then h (o - 2) else b (o - 1026))
def FRow (w : World) (q : Nat) (bv : Value) (win : Int) (f : Fnd) : Prop := w.rowIs q 158 5122 (fndV bv win f.heads f.before)

section
variable {w : World} {q : Nat} {bv : Value} {win : Int} {f : Fnd}
theorem FRow.free (h : FRow w q bv win f) (o : Nat) : w.frozen? ⟨q, o, none⟩ = false := World.rowIs.frozen h o
theorem FRow.lt (h : FRow w q bv win f) : q < w.heap.size := World.rowIs.lt h
theorem FRow.at (h : FRow w q bv win f) (o : Nat) (ho : o < 5122) {x : Value} (e : fndV bv win f.heads f.before o = x) : w.cell? ⟨q, o, none⟩ = some x := by
  rw [← e]; exact World.rowIs.cell h ho
theorem FRow.c_block (h : FRow w q bv win f) : w.cell? ⟨q, 0, none⟩ = some bv := h.at _ (by omega) rfl
theorem FRow.c_window (h : FRow w q bv win f) : w.cell? ⟨q, 1, none⟩ = some (.int .i64 win) := h.at _ (by omega) rfl
theorem FRow.c_head (h : FRow w q bv win f) (i : Nat) (hi : i < 1024) : w.cell? ⟨q, 2 + i, none⟩ = some (.int .i64 (f.heads i)) := by
  refine h.at _ (by omega) ?_
  unfold fndV
  rw [if_neg (by omega), if_neg (by omega), if_pos (by omega), show 2 + i - 2 = i by omega]
theorem FRow.c_before (h : FRow w q bv win f) (i : Nat) (hi : i < 4096) : w.cell? ⟨q, 1026 + i, none⟩ = some (.int .i64 (f.before i)) := by
  refine h.at _ (by omega) ?_
  unfold fndV
  rw [if_neg (by omega), if_neg (by omega), if_neg (by omega), show 1026 + i - 1026 = i by omega]
set_option maxRecDepth 100000 in
theorem FRow.setHead (h : FRow w q bv win f) (i : Nat) (hi : i < 1024) (x : Int) : FRow (w.setCell ⟨q, 2 + i, none⟩ (.int .i64 x)) q bv win ⟨upd f.heads i x, f.before⟩ := by
  refine (World.rowIs.set h _ _).congr fun o ho => ?_
  unfold fndV
  by_cases e : o = 2 + i
  · rw [if_pos e, if_neg (by omega), if_neg (by omega), if_pos (by omega)]
    show _ = Value.int .i64 (upd _ _ _ _)
    rw [upd, if_pos (by omega)]
  · rw [if_neg e]
    by_cases e0 : o = 0
    · rw [if_pos e0, if_pos e0]
    rw [if_neg e0, if_neg e0]
    by_cases e1 : o = 1
    · rw [if_pos e1, if_pos e1]
    rw [if_neg e1, if_neg e1]
    by_cases e2 : o < 1026
    · rw [if_pos e2, if_pos e2]
      show _ = Value.int .i64 (upd _ _ _ _)
      rw [upd, if_neg (by omega)]
    · rw [if_neg e2, if_neg e2]
set_option maxRecDepth 100000 in
theorem FRow.setBefore (h : FRow w q bv win f) (i : Nat) (hi : i < 4096) (x : Int) : FRow (w.setCell ⟨q, 1026 + i, none⟩ (.int .i64 x)) q bv win ⟨f.heads, upd f.before i x⟩ := by
  refine (World.rowIs.set h _ _).congr fun o ho => ?_
  unfold fndV
  by_cases e : o = 1026 + i
  · rw [if_pos e, if_neg (by omega), if_neg (by omega), if_neg (by omega)]
    show _ = Value.int .i64 (upd _ _ _ _)
    rw [upd, if_pos (by omega)]
  · rw [if_neg e]
    by_cases e0 : o = 0
    · rw [if_pos e0, if_pos e0]
    rw [if_neg e0, if_neg e0]
    by_cases e1 : o = 1
    · rw [if_pos e1, if_pos e1]
    rw [if_neg e1, if_neg e1]
    by_cases e2 : o < 1026
    · rw [if_pos e2, if_pos e2]
    · rw [if_neg e2, if_neg e2]
      show _ = Value.int .i64 (upd _ _ _ _)
      rw [upd, if_neg (by omega)]
end

section
variable {w : World} {q g cap : Nat} {P : List UInt8} {win : Int} {f : Fnd}
set_option maxRecDepth 100000 in
set_option maxHeartbeats 400000 in
theorem byteAt_any (h : FRow w q (.slice (some ⟨g, 0, none⟩) P.length cap) win f) (hb : Bts w g P) (i : Nat) (hi : i < P.length) :
    Calls Try.prog 135 #[.pointer (some ⟨q, 0, none⟩), .int .i64 i] w fun e w' => e = .returned (.int .u8 (pB P i)) ∧ w' = w := by
  have c1 := h.c_block
  have c2 := hb i hi
  have hfz := h.free
  have hii : (i : Int) < P.length := by omega
  generalize P.length = n at *
  go_enter Try.func135, Try.ntmps135
  go_wp2
  go_ret
  exact ⟨rfl, rfl⟩

set_option maxRecDepth 100000 in
set_option maxHeartbeats 600000 in
theorem fsame_any (h : FRow w q (.slice (some ⟨g, 0, none⟩) P.length cap) win f) (hb : Bts w g P) (p a most : Nat) (hp : p < a) (hm : a + most ≤ P.length) (hPl : P.length ≤ 4096) :
    Calls Try.prog 121 #[.pointer (some ⟨q, 0, none⟩), .int .i64 p, .int .i64 a, .int .i64 most] w fun e w' => e = .returned (.int .i64 (sameP P p a most : Nat)) ∧ w' = w := by
  have hB : ∀ i : Nat, i < P.length → ∀ x : Int, x = i → Calls Try.prog 135 #[.pointer (some ⟨q, 0, none⟩), .int .i64 x] w fun e w' => e = .returned (.int .u8 (pB P i)) ∧ w' = w := fun i hi x hx => by rw [hx]; exact byteAt_any h hb i hi
  clear h hb
  go_enter Try.func121, Try.ntmps121
  go_wp2
  go_loopw [9] (fun vn wr => ∃ n : Nat, n ≤ most ∧ vn = .int .i64 n ∧ sameP P p a most = sameGo P p a (most - n) n ∧ wr = w) (fun vn _ => most - (intOf vn).toNat)
  case atStart => exact ⟨0, by omega, rfl, rfl, rfl⟩
  case round =>
    obtain ⟨n, hn, rfl, he, rfl⟩ := hrel
    have HE : Hid (sameP P p a most = sameGo P p a (most - n) n) := he
    clear he
    by_cases hlt : n < most
    · have hB1 := hB (p + n) (by omega) ((p : Int) + n) (by omega)
      have hB2 := hB (a + n) (by omega) ((a : Int) + n) (by omega)
      by_cases hq : pB P (p + n) = pB P (a + n)
      · have HN : Hid (sameP P p a most = sameGo P p a (most - (n + 1)) (n + 1)) := by
          rw [Hid, HE.out, show most - n = (most - (n + 1)) + 1 by omega]
          show (if _ then _ else _) = _
          rw [if_pos hq]
        rw [← hq] at hB2
        clear hB HE
        generalize pB P (p + n) = x at *
        go_wp2_with (first
          | (go_at_call 135; have tk := tok; clear tk; refine hB2.mono ?_; rintro e w' ⟨rfl, rfl⟩)
          | (go_at_call 135; refine hB1.mono ?_; rintro e w' ⟨rfl, rfl⟩; have tok : True := trivial))
        go_roundw
        case rel => exact ⟨n + 1, by omega, by go_num, HN.out, trivial⟩
        case measure => simp [intOf]; omega
      · have HN : Hid (((sameP P p a most : Nat) : Int) = n) := by
          rw [Hid, HE.out, show most - n = (most - (n + 1)) + 1 by omega]
          unfold sameGo
          rw [if_neg hq]
        have hqb : (pB P (p + n) == pB P (a + n)) = false := beq_eq_false_iff_ne.2 hq
        clear hB HE hq
        generalize pB P (p + n) = x at *
        generalize pB P (a + n) = y at *
        go_wp2_with (first
          | (go_at_call 135; have tk := tok; clear tk; refine hB2.mono ?_; rintro e w' ⟨rfl, rfl⟩)
          | (go_at_call 135; refine hB1.mono ?_; rintro e w' ⟨rfl, rfl⟩; have tok : True := trivial))
        go_ret
        rw [HN.out]
        exact ⟨rfl, rfl⟩
    · have hnm : n = most := by omega
      subst hnm
      have HN : Hid (((sameP P p a n : Nat) : Int) = n) := by rw [Hid, HE.out, Nat.sub_self]; rfl
      go_wp2
      go_ret
      rw [HN.out]
      exact ⟨rfl, rfl⟩

set_option maxRecDepth 100000 in
set_option maxHeartbeats 400000 in
theorem fnext_any (h : FRow w q (.slice (some ⟨g, 0, none⟩) P.length cap) win f) (p : Nat) (hp : p < 4096) (hb : 0 ≤ f.before p ∧ f.before p ≤ 4096) :
    Calls Try.prog 122 #[.pointer (some ⟨q, 0, none⟩), .int .i64 p] w fun e w' => e = .returned (.int .i64 (f.before p - 1)) ∧ w' = w := by
  have c1 := h.c_before p hp
  have hfz := h.free
  have hpi : (p : Int) < 4096 := by omega
  generalize f.before p = x at *
  go_enter Try.func122, Try.ntmps122
  go_wp2
  go_ret
  exact ⟨rfl, rfl⟩

set_option maxRecDepth 100000 in
set_option maxHeartbeats 600000 in
theorem fslot_any (h : FRow w q (.slice (some ⟨g, 0, none⟩) P.length cap) win f) (hb : Bts w g P) (_hPl : P.length ≤ 4096) (a : Nat) (ha : a ≤ 4096) :
    Calls Try.prog 120 #[.pointer (some ⟨q, 0, none⟩), .int .i64 a] w fun e w' => e = .returned (if a + 2 < P.length then .tuple #[.int .i64 (slotOf P a : Nat), .bool true] else .tuple #[.int .i64 0, .bool false]) ∧ w' = w := by
  have c1 := h.c_block
  have hfz := h.free
  by_cases hlt : a + 2 < P.length
  · rw [if_pos hlt]
    have d0 := hb a (by omega)
    have d1 := hb (a + 1) (by omega)
    have d2 := hb (a + 2) (by omega)
    have b0 := pB_bounds P a
    have b1 := pB_bounds P (a + 1)
    have b2 := pB_bounds P (a + 2)
    have HS : Hid (((slotOf P a : Nat) : Int) = (529 * pB P a + 23 * pB P (a + 1) + pB P (a + 2)) % 1024) := by
      rw [Hid]
      unfold slotOf
      omega
    have hll : (a : Int) + 2 < P.length := by omega
    have l1 : (a : Int) + 1 < P.length := by omega
    have l0 : (a : Int) < P.length := by omega
    generalize P.length = n at *
    generalize pB P a = x at *
    generalize pB P (a + 1) = y at *
    generalize pB P (a + 2) = z at *
    clear h hb
    go_enter Try.func120, Try.ntmps120
    go_wp2
    go_ret2
    rw [HS.out]
    exact ⟨by go_num, rfl⟩
  · rw [if_neg hlt]
    have hll : ¬ (a : Int) + 2 < P.length := by omega
    generalize P.length = n at *
    go_enter Try.func120, Try.ntmps120
    go_wp2
    go_ret2
    exact ⟨rfl, rfl⟩
end
end Go.Proofs.Ytmpfgdmdnghhgaa
