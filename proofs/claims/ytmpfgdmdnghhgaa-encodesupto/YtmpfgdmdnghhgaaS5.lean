import Derived.Test.YtmpfgdmdnghhgaaS2
import Derived.Test.YtmpfgdmdnghhgaaK9
/- THE CODE MAKER WALKED: assign. -/
namespace Go.Proofs.Ytmpfgdmdnghhgaa
open Go.RowKit Wr

/-- a sender's cells -/
def sndI (N wd n : Int) (nm len row : Nat → Int) (o : Nat) : Int :=
  if o = 0 then N else if o = 1 then wd else if o = 2 then n
  else if o < 7 then nm (o - 3) else if o < 279 then len (o - 7) else row (o - 279)
theorem TSnd : RowTy 142 551 zInt := rowTy_of (by kernel_rfl) (by kernel_rfl) (by kernel_rfl)
def SdRow (w : World) (b : Nat) (N wd n : Int) (nm len row : Nat → Int) : Prop := w.rowIs b 142 551 (iV (sndI N wd n nm len row))

section
variable {w : World} {b : Nat} {N wd n : Int} {nm len row : Nat → Int}
theorem SdRow.free (h : SdRow w b N wd n nm len row) (o : Nat) : w.frozen? ⟨b, o, none⟩ = false := World.rowIs.frozen h o
theorem SdRow.lt (h : SdRow w b N wd n nm len row) : b < w.heap.size := World.rowIs.lt h
theorem SdRow.at (h : SdRow w b N wd n nm len row) (o : Nat) (ho : o < 551) {x : Int} (e : sndI N wd n nm len row o = x) : w.cell? ⟨b, o, none⟩ = some (.int .i64 x) := by
  rw [← e]; exact World.rowIs.cell h ho
theorem SdRow.c_size (h : SdRow w b N wd n nm len row) : w.cell? ⟨b, 0, none⟩ = some (.int .i64 N) := h.at _ (by omega) rfl
theorem SdRow.c_width (h : SdRow w b N wd n nm len row) : w.cell? ⟨b, 1, none⟩ = some (.int .i64 wd) := h.at _ (by omega) rfl
theorem SdRow.c_count (h : SdRow w b N wd n nm len row) : w.cell? ⟨b, 2, none⟩ = some (.int .i64 n) := h.at _ (by omega) rfl
theorem SdRow.c_name (h : SdRow w b N wd n nm len row) (i : Nat) (hi : i < 4) : w.cell? ⟨b, 3 + i, none⟩ = some (.int .i64 (nm i)) := by
  refine h.at _ (by omega) ?_
  unfold sndI
  rw [if_neg (by omega), if_neg (by omega), if_neg (by omega), if_pos (by omega), show 3 + i - 3 = i by omega]
theorem SdRow.c_len (h : SdRow w b N wd n nm len row) (i : Nat) (hi : i < 272) : w.cell? ⟨b, 7 + i, none⟩ = some (.int .i64 (len i)) := by
  refine h.at _ (by omega) ?_
  unfold sndI
  rw [if_neg (by omega), if_neg (by omega), if_neg (by omega), if_neg (by omega), if_pos (by omega), show 7 + i - 7 = i by omega]
theorem SdRow.c_row (h : SdRow w b N wd n nm len row) (i : Nat) (hi : i < 272) : w.cell? ⟨b, 279 + i, none⟩ = some (.int .i64 (row i)) := by
  refine h.at _ (by omega) ?_
  unfold sndI
  rw [if_neg (by omega), if_neg (by omega), if_neg (by omega), if_neg (by omega), if_neg (by omega), show 279 + i - 279 = i by omega]
theorem SdRow.turn {N' wd' n' : Int} {nm' len' row' : Nat → Int} (h : SdRow w b N wd n nm len row) (k : Nat) (x : Int) (he : ∀ o, o < 551 → (if o = k then x else sndI N wd n nm len row o) = sndI N' wd' n' nm' len' row' o) :
    SdRow (w.setCell ⟨b, k, none⟩ (.int .i64 x)) b N' wd' n' nm' len' row' :=
  (rowIs_upd h k x).congr fun i hi => by
    show Value.int .i64 (upd _ k x i) = Value.int .i64 _
    rw [← he i hi]
    rfl
theorem SdRow.setCount (h : SdRow w b N wd n nm len row) (x : Int) : SdRow (w.setCell ⟨b, 2, none⟩ (.int .i64 x)) b N wd x nm len row := by
  refine h.turn _ _ fun o _ => ?_
  by_cases e : o = 2
  · subst e; rfl
  · rw [if_neg e]
    simp only [sndI, if_neg e]
theorem SdRow.setName (h : SdRow w b N wd n nm len row) (i : Nat) (hi : i < 4) (x : Int) : SdRow (w.setCell ⟨b, 3 + i, none⟩ (.int .i64 x)) b N wd n (upd nm i x) len row := by
  refine h.turn _ _ fun o ho => ?_
  unfold sndI
  by_cases e : o = 3 + i
  · rw [if_pos e, if_neg (by omega), if_neg (by omega), if_neg (by omega), if_pos (by omega), upd, if_pos (by omega)]
  · rw [if_neg e]
    have : ∀ o, ¬ o = 0 → ¬ o = 1 → ¬ o = 2 → o ≠ 3 + i → upd nm i x (o - 3) = nm (o - 3) := fun o h1 h2 h3 h4 => if_neg (by omega)
    repeat' split
    all_goals first | rfl | (rw [this o (by assumption) (by assumption) (by assumption) e])
set_option maxRecDepth 10000 in
theorem SdRow.setLen (h : SdRow w b N wd n nm len row) (i : Nat) (hi : i < 272) (x : Int) : SdRow (w.setCell ⟨b, 7 + i, none⟩ (.int .i64 x)) b N wd n nm (upd len i x) row := by
  refine h.turn _ _ fun o ho => ?_
  unfold sndI
  by_cases e : o = 7 + i
  · rw [if_pos e, if_neg (by omega), if_neg (by omega), if_neg (by omega), if_neg (by omega), if_pos (by omega), upd, if_pos (by omega)]
  · rw [if_neg e]
    have : ∀ o, ¬ o < 7 → o ≠ 7 + i → upd len i x (o - 7) = len (o - 7) := fun o h1 h4 => if_neg (by omega)
    repeat' split
    all_goals first | rfl | (rw [this o (by assumption) e])
set_option maxRecDepth 10000 in
theorem SdRow.setRow (h : SdRow w b N wd n nm len row) (i : Nat) (hi : i < 272) (x : Int) : SdRow (w.setCell ⟨b, 279 + i, none⟩ (.int .i64 x)) b N wd n nm len (upd row i x) := by
  refine h.turn _ _ fun o ho => ?_
  unfold sndI
  by_cases e : o = 279 + i
  · rw [if_pos e, if_neg (by omega), if_neg (by omega), if_neg (by omega), if_neg (by omega), if_neg (by omega), upd, if_pos (by omega)]
  · rw [if_neg e]
    have : ∀ o, ¬ o < 279 → o ≠ 279 + i → upd row i x (o - 279) = row (o - 279) := fun o h1 h4 => if_neg (by omega)
    repeat' split
    all_goals first | (rw [this o (by assumption) e]) | rfl
end

/-- the rows so far: lengths below n, and n below i -/
def rowsAt (f : Nat → Int) (N n i : Nat) : Nat → Int := fun j => if j < N ∧ ((1 ≤ f j ∧ f j < n) ∨ (f j = n ∧ j < i)) then msb (codeOf f N j) (f j).toNat else 0
theorem rowsAt_start (f : Nat → Int) (N : Nat) : rowsAt f N 1 0 = fun _ => 0 := by
  funext j
  unfold rowsAt
  rw [if_neg (by omega)]
theorem rowsAt_next (f : Nat → Int) (N n : Nat) (hn : 1 ≤ n) : rowsAt f N n N = rowsAt f N (n + 1) 0 := by
  funext j
  unfold rowsAt
  by_cases h : j < N ∧ ((1 ≤ f j ∧ f j < n) ∨ (f j = n ∧ j < N))
  · rw [if_pos h, if_pos (by omega)]
  · rw [if_neg h, if_neg (by omega)]
theorem rowsAt_skip {f : Nat → Int} {N n i : Nat} (h : f i ≠ n) : rowsAt f N n (i + 1) = rowsAt f N n i := by
  funext j
  unfold rowsAt
  by_cases e : j = i
  · subst e
    by_cases h1 : j < N ∧ ((1 ≤ f j ∧ f j < n) ∨ (f j = n ∧ j < j))
    · rw [if_pos h1, if_pos (by omega)]
    · rw [if_neg h1, if_neg (by omega)]
  · by_cases h1 : j < N ∧ ((1 ≤ f j ∧ f j < n) ∨ (f j = n ∧ j < i))
    · rw [if_pos h1, if_pos (by omega)]
    · rw [if_neg h1, if_neg (by omega)]
theorem rowsAt_take {f : Nat → Int} {N n i : Nat} (hi : i < N) (h : f i = n) : rowsAt f N n (i + 1) = upd (rowsAt f N n i) i (msb (firstOf (countGo f N).1 n + occ f n i) n) := by
  funext j
  unfold rowsAt upd
  dsimp only
  by_cases e : j = i
  · subst e
    rw [if_pos (by omega), if_pos rfl]
    unfold codeOf
    rw [h, Int.toNat_natCast]
  · rw [if_neg e]
    by_cases h1 : j < N ∧ ((1 ≤ f j ∧ f j < n) ∨ (f j = n ∧ j < i))
    · rw [if_pos h1, if_pos (by omega)]
    · rw [if_neg h1, if_neg (by omega)]
theorem rowsAt_end {f : Nat → Int} {N : Nat} (h : ∀ i, f i ≤ 12) : rowsAt f N 13 0 = rowOf f N := by
  funext j
  have := h j
  unfold rowsAt rowOf
  by_cases h1 : j < N ∧ ((1 ≤ f j ∧ f j < (13 : Nat)) ∨ (f j = (13 : Nat) ∧ j < 0))
  · rw [if_pos h1, if_pos (by omega)]
  · rw [if_neg h1, if_neg (by omega)]
/-- the code has room -/
def Room (f : Nat → Int) (N : Nat) : Prop := ∀ l, l ≤ 12 → firstOf (countGo f N).1 l + (countGo f N).1 l ≤ 2 ^ l
theorem cnt_occ {f : Nat → Int} {N n : Nat} (h1 : 1 ≤ n) (h12 : n ≤ 12) : (countGo f N).1 n = occ f n N := by rw [count_occ, if_pos ⟨h1, h12⟩]

set_option maxRecDepth 100000 in
set_option maxHeartbeats 2000000 in
theorem assign_any (w : World) (b N : Nat) (wd n : Int) (nm f : Nat → Int) (hN : N ≤ 272) (hr : SdRow w b N wd n nm f (fun _ => 0)) (hf : ∀ i, 0 ≤ f i ∧ f i ≤ 12) (hroom : Room f N) :
    Calls Try.prog 139 #[.pointer (some ⟨b, 0, none⟩)] w fun e w' => e = .returned (.tuple #[]) ∧ SdRow w' b N wd n nm f (rowOf f N) ∧ Tch (· = b) w w' := by
  have f0 : ∀ l, 0 ≤ firstOf (countGo f N).1 l := by
    intro l
    induction l with
    | zero => exact Int.le_refl _
    | succ l ih =>
      have := count_lo f N l
      show 0 ≤ 2 * (firstOf (countGo f N).1 l + (countGo f N).1 l)
      omega
  go_enter Try.func139, Try.ntmps139
  go_wp2
  go_loopw [2, 3, 4] (fun vx vn _ wr => ∃ m : Nat, m ≤ 12 ∧ vn = .int .i64 ((m : Int) + 1) ∧ vx = .int .i64 (firstOf (countGo f N).1 m + (countGo f N).1 m) ∧ SdRow wr b N wd n nm f (rowsAt f N (m + 1) 0) ∧ Tch (· = b) w wr) (fun _ vn _ _ => 13 - (intOf vn).toNat)
  case atStart =>
    refine ⟨0, by omega, rfl, ?_, by rw [rowsAt_start]; exact hr, Tch.refl _ _⟩
    rw [show (countGo f N).1 0 = 0 by rw [count_occ, if_neg (by omega)]]
    rfl
  case round =>
    obtain ⟨m, hm, rfl, rfl, hrm, htm⟩ := hrel
    clear hr
    have hrm0 := hroom m hm
    have fm := f0 m
    have cm := count_lo f N m
    have hp : (2 : Int) ^ m ≤ 2 ^ 12 := pow_mono hm
    have hp3 : (2 : Int) ^ 12 = 4096 := rfl
    by_cases hlt : m = 12
    · subst hlt
      have HE : Hid (rowsAt f N (12 + 1) 0 = rowOf f N) := rowsAt_end (fun i => (hf i).2)
      go_wp2
      go_end0
      rw [HE.out] at hrm
      exact ⟨rfl, hrm, htm⟩
    · have hlt2 : (m : Int) + 1 ≤ 12 := by omega
      have HX : Hid (2 * (firstOf (countGo f N).1 m + (countGo f N).1 m) = firstOf (countGo f N).1 (m + 1)) := rfl
      have hroom1 := hroom (m + 1) (by omega)
      have fm1 := f0 (m + 1)
      have HO : (countGo f N).1 (m + 1) = occ f (m + 1 : Nat) N := cnt_occ (by omega) (by omega)
      have HFS : Hid (firstOf (countGo f N).1 (m + 1) = 2 * (firstOf (countGo f N).1 m + (countGo f N).1 m)) := rfl
      generalize hA : firstOf (countGo f N).1 m + (countGo f N).1 m = A at *
      go_wp2
      go_loopw [2, 4] (fun vx vi wq => ∃ i : Nat, i ≤ N ∧ vi = .int .i64 i ∧ vx = .int .i64 (firstOf (countGo f N).1 (m + 1) + occ f (m + 1 : Nat) i) ∧ SdRow wq b N wd n nm f (rowsAt f N (m + 1) i) ∧ Tch (· = b) w wq) (fun _ vi _ => N - (intOf vi).toNat)
      case atStart =>
        refine ⟨0, by omega, rfl, ?_, hrm, htm⟩
        show _ = Value.int .i64 (_ + 0)
        rw [Int.add_zero, HFS.out]
      case round =>
        obtain ⟨i, hi, rfl, rfl, hri, hti⟩ := hrel
        clear hrm htm
        have c1 := hri.c_size
        have hfz := hri.free
        have oc0 := occ_nonneg f (m + 1 : Nat) i
        have oc1 := occ_mono f (m + 1 : Nat) hi
        have hp5 : (2 : Int) ^ (m + 1) ≤ 2 ^ 12 := pow_mono (by omega)
        by_cases hil : i < N
        · have c2 := hri.c_len i (by omega)
          have hi272 : (i : Int) < 272 := by omega
          by_cases hfi : f i = (m + 1 : Nat)
          · have HT : Hid (rowsAt f N (m + 1) (i + 1) = upd (rowsAt f N (m + 1) i) i (msb (firstOf (countGo f N).1 (m + 1) + occ f (m + 1 : Nat) i) (m + 1))) := rowsAt_take hil hfi
            have HOC : Hid (occ f (m + 1 : Nat) (i + 1) = occ f (m + 1 : Nat) i + 1) := by
              show occ f (m + 1 : Nat) i + (if f i = ((m + 1 : Nat) : Int) then 1 else 0) = _
              rw [if_pos hfi]
            have oclt := occ_lt f hil
            rw [hfi] at oclt c2
            have hm1 : ((m + 1 : Nat) : Int) = (m : Int) + 1 := rfl
            have hrev := fun W => reversed_any W (firstOf (countGo f N).1 (m + 1) + occ f (m + 1 : Nat) i) (m + 1) (by omega) (by omega) (by omega)
            rw [hm1] at c2
            have hrev2 : ∀ W, Calls Try.prog 141 #[.int .i64 (firstOf (countGo f N).1 (m + 1) + occ f (m + 1 : Nat) i), .int .i64 ((m : Int) + 1)] W fun e w' => e = .returned (.int .i64 (msb (firstOf (countGo f N).1 (m + 1) + occ f (m + 1 : Nat) i) (m + 1))) ∧ w' = W := hrev
            clear hrev hm1 hfi
            have c3 := hri.c_row i (by omega)
            have hs := hri.setRow i (by omega) (msb (firstOf (countGo f N).1 (m + 1) + occ f (m + 1 : Nat) i) (m + 1))
            have hts := hti.set ⟨b, 279 + i, none⟩ (.int .i64 (msb (firstOf (countGo f N).1 (m + 1) + occ f (m + 1 : Nat) i) (m + 1))) (fun _ => rfl)
            have hx1 : firstOf (countGo f N).1 (m + 1) + occ f (m + 1 : Nat) i ≤ 4096 := by omega
            have hx0 : 0 ≤ firstOf (countGo f N).1 (m + 1) + occ f (m + 1 : Nat) i := by omega
            generalize hX : firstOf (countGo f N).1 (m + 1) + occ f (m + 1 : Nat) i = X at *
            have HX2 : Hid (X = firstOf (countGo f N).1 (m + 1) + occ f (m + 1 : Nat) i) := hX.symm
            generalize msb X (m + 1) = V at *
            clear hri hti hroom f0 hX oclt oc0 oc1 hroom1 HO HX HFS hf
            go_wp2
            go_region_with (go_at_call 141; refine (hrev2 _).mono ?_; rintro e w' ⟨rfl, rfl⟩)
            all_goals
              go_wp2
              go_roundw
              case rel => exact ⟨i + 1, by omega, by go_num, by rw [HOC.out, HX2.out, Int.add_assoc], by rw [HT.out]; exact hs, hts.drew⟩
              case measure => simp [intOf]; omega
          · have HT : Hid (rowsAt f N (m + 1) (i + 1) = rowsAt f N (m + 1) i) := rowsAt_skip hfi
            have HOC : Hid (occ f (m + 1 : Nat) (i + 1) = occ f (m + 1 : Nat) i) := by
              show occ f (m + 1 : Nat) i + (if f i = ((m + 1 : Nat) : Int) then 1 else 0) = _
              rw [if_neg hfi, Int.add_zero]
            have hfb : (f i == (m : Int) + 1) = false := beq_eq_false_iff_ne.2 (by omega)
            go_wp2
            refine ⟨⟨i + 1, by omega, by go_num, by rw [HOC.out], by rw [HT.out]; exact hri, hti⟩, by simp [intOf]; omega⟩
        · have hiN : i = N := by omega
          subst hiN
          have HE : Hid (rowsAt f i (m + 1) i = rowsAt f i (m + 1 + 1) 0) := rowsAt_next f i (m + 1) (by omega)
          go_wp2
          refine ⟨⟨m + 1, by omega, by go_num, by rw [HO], by rw [← HE.out]; exact hri, hti⟩, by simp [intOf]; omega⟩
end Go.Proofs.Ytmpfgdmdnghhgaa

/- THE CODE MAKER WALKED: simple, full. -/
namespace Go.Proofs.Ytmpfgdmdnghhgaa
open Go.RowKit Wr

def zF : Nat → Int := fun _ => 0
theorem built_simple (a b : Int) : Try.prog.built 142 [(0, .int .i64 a), (1, .int .i64 b)] = some (cellsL 551 (iV (sndI a b 0 zF zF zF))).toArray := by kernel_rfl
theorem built_full (a b : Int) (f : Nat → Int) : Try.prog.built 142 [(0, .int .i64 a), (1, .int .i64 b), (4, .agg (cellsL 272 (iV f)).toArray)] = some (cellsL 551 (iV (sndI a b 0 zF f zF))).toArray := by kernel_rfl
end Go.Proofs.Ytmpfgdmdnghhgaa

/- THE CODE MAKER WALKED: simple, full. -/
namespace Go.Proofs.Ytmpfgdmdnghhgaa
open Go.RowKit Wr

theorem wpList_build_to {ops : Array Oper} {rest : List Oper} {o : Oper} {a : Act} {w : World} {Q : Exit → Act → World → Prop} (hg : o.guard = none) (t : TypeId) (parts : Array (Nat × Operand)) (ho : o.op = .build t parts)
    (vs : List (Nat × Value)) (hv : (parts.map fun (i, x) => (i, a.eval x)).toList = vs) (C : Array Value) (hC : Try.prog.built t vs = some C)
    (h : wpList Try.prog ops Q rest (a.put o.dst (.agg C)) w) : wpList Try.prog ops Q (o :: rest) a w := by
  refine wpList_build hg t parts ho (by rw [hv, hC]; rfl) ?_
  rw [hv, hC]
  exact h

theorem room_full {f : Nat → Int} {N : Nat} (h : (countGo f N).2 = 4096) : Room f N := by
  intro l hl
  exact first_room (count_lo f N) (by rw [(count_sums f N).1, h]; rfl) hl
theorem count_none {f : Nat → Int} (h : ∀ i, f i = 0) : ∀ n, countGo f n = (fun _ => 0, 0)
  | 0 => rfl
  | n + 1 => by
    unfold countGo
    simp only [count_none h n]
    rw [if_neg (by rw [h n]; omega)]
theorem room_none {f : Nat → Int} (N : Nat) (h : ∀ i, f i = 0) : Room f N := by
  intro l _
  rw [count_none h, first_zero]
  have := pow_pos2 l
  show (0 : Int) + 0 ≤ _
  omega
/-- a sender as a value -/
def sndA (s : Snd) (N : Nat) (wd : Int) : List Value := cellsL 551 (iV (sndI N wd s.n s.nm s.len (rowOf s.len N)))
/-- what the counts are -/
structure Cnt (c : Nat → Int) (N : Nat) : Prop where
  lo : ∀ i, 0 ≤ c i
  hi : ∀ i, c i ≤ 4096
  sum : sumTo c N ≤ 4096
theorem lens_bounds {c : Nat → Int} {N : Nat} (hc : Cnt c N) (hu : 2 ≤ usedTo c N) : ∀ i, 0 ≤ lensFor c N i ∧ lensFor c N i ≤ 12 := by
  intro i
  obtain ⟨f, _⟩ := lensFor_full hc.lo hc.sum hu
  by_cases h : i < N ∧ 0 < c i
  · have := f.used i h.1 h.2
    omega
  · rw [f.none i (fun a b => h ⟨a, b⟩)]
    omega

set_option maxRecDepth 100000 in
set_option maxHeartbeats 400000 in
theorem full_any (w : World) (g N : Nat) (wd : Int) (c : Nat → Int) (hN : N ≤ 272) (hg : g < w.heap.size) (hc : IntsA w g N c) (hk : Cnt c N) (hu : 2 ≤ usedTo c N) :
    Calls Try.prog 130 #[.slice (some ⟨g, 0, none⟩) N N, .int .i64 wd] w fun e w' => e = .returned (.agg (sndA (fullSnd c N) N wd).toArray) ∧ Tch NoOld w w' := by
  have HR := room_full (lensFor_full hk.lo hk.sum hu).2
  have HB := lens_bounds hk hu
  have HSA : Hid (sndA (fullSnd c N) N wd = cellsL 551 (iV (sndI N wd 0 zF (lensFor c N) (rowOf (lensFor c N) N)))) := by
    unfold Hid sndA fullSnd
    dsimp only
    rfl
  have hl := fun (W : World) (hT : Tch NoOld w W) => lengthsFor_any W g N c hN (Nat.lt_of_lt_of_le hg hT.size) (hc.keep hT (fun q => q)) hk.lo hk.hi hk.sum
  have HBf : Hid (Try.prog.built 142 [(0, .int .i64 N), (1, .int .i64 wd), (4, .agg (cellsL 272 (iV (lensFor c N))).toArray)] = some (cellsL 551 (iV (sndI N wd 0 zF (lensFor c N) zF))).toArray) := built_full N wd (lensFor c N)
  obtain ⟨f, hfe⟩ : ∃ f, f = lensFor c N := ⟨_, rfl⟩
  rw [← hfe] at HR HB HSA hl HBf
  clear hfe
  have r0 := rowIs_new w 142 551 zInt
  have t0 := (Tch.refl NoOld w).alloc (.cells (cellsL 551 zInt).toArray 142)
  have HLL := hl _ t0
  clear hl
  have hq : Hid (∀ (w1 : World), SdRow ((w1.alloc (.cells (cellsL 551 zInt).toArray 142)).setCells w1.heap.size 0 (cellsL 551 (iV (sndI N wd 0 zF f zF)))) w1.heap.size N wd 0 zF f (fun _ => 0)) := fun w1 => rowIs_setAll (rowIs_new w1 _ _ _) _
  have hqt : Hid (∀ (w1 : World), Tch NoOld w1 ((w1.alloc (.cells (cellsL 551 zInt).toArray 142)).setCells w1.heap.size 0 (cellsL 551 (iV (sndI N wd 0 zF f zF))))) := fun w1 => ((Tch.refl NoOld w1).alloc _).cells w1.heap.size (fun q => absurd q (Nat.lt_irrefl _)) _ _
  have HFin : Hid (∀ (w3 : World) (F : Nat → Value), w3.rowIs w.heap.size 142 551 zInt → (w3.setCells w.heap.size 0 (cellsL 551 F)).rowIs w.heap.size 142 551 F) := fun w3 F h => rowIs_setAll h F
  go_enter Try.func130, Try.ntmps130
  go_wp2_with (first
    | (refine wpList_store_row rfl 142 _ _ rfl rfl rfl r3p TSnd (fun _ _ => rfl) ?_)
    | (refine wpList_load_row rfl 142 _ rfl rfl r3 TSnd ?_)
    | (go_at_call 139; refine (assign_any w2 w1.heap.size N wd 0 zF f hN r2 HB HR).mono ?_; rintro e w3 ⟨rfl, r3, t3⟩; have r3p := t3.rowIs r2p (by have := t1.size; simp at this; show ¬ w.heap.size = w1.heap.size; omega))
    | (refine wpList_store_row rfl 142 _ _ rfl rfl rfl (rowIs_new w1 _ _ _) TSnd (fun _ _ => rfl) ?_; have r2 := hq.out w1; have t2 := hqt.out w1; have r2p := t2.rowIs (t1.rowIs r0 (fun q => q)) (fun q => q); generalize (w1.alloc (.cells (cellsL 551 zInt).toArray 142)).setCells w1.heap.size 0 (cellsL 551 (iV (sndI N wd 0 zF f zF))) = w2 at *)
    | (go_at_call 140; refine HLL.mono ?_; rintro e w1 ⟨rfl, t1⟩)
    | (refine wpList_build_to rfl 142 _ rfl [(0, .int .i64 N), (1, .int .i64 wd), (4, .agg (cellsL 272 (iV f)).toArray)] (by simp [Act.eval]) _ HBf.out ?_)
    | (refine wpList_alloc_row rfl 142 rfl TSnd ?_))
  refine bodyPost_ret (post_row TSnd rfl _ rfl (HFin.out _ _ r3p)) rfl ?_
  rw [HSA.out]
  refine ⟨rfl, ?_⟩
  have hs1 := t1.size
  simp at hs1
  exact (((t0.trans t1 (fun _ _ q => q)).trans t2 (fun _ _ q => q)).trans t3 (fun j hj q => by have : j = w1.heap.size := q; omega)).cells w.heap.size (fun q => absurd q (Nat.lt_irrefl _)) _ _
end Go.Proofs.Ytmpfgdmdnghhgaa
