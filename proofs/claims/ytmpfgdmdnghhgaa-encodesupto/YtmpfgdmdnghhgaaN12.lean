import Derived.Test.YtmpfgdmdnghhgaaN9
import Derived.Test.YtmpfgdmdnghhgaaW17
/- THE WRITER: Note, New. -/
namespace Go.Proofs.Ytmpfgdmdnghhgaa
open Go.RowKit Wr

section
variable {w : World} {b t : Nat} {s : St} {P : List UInt8} {wv wv0 u : Value}
set_option maxRecDepth 100000 in
set_option maxHeartbeats 1000000 in
theorem Note_W (h : W0 w b s P wv) (x : ByteArray) (hx : x.size ≤ 255) (hL : s.L.length ≤ 400000000000) :
    Calls Try.prog 46 #[.pointer (some ⟨b, 0, none⟩), .string x] w fun e w' => e = .returned (.string (outStr (outFrom (noteS (letS s P) x.data.toList).L (s.L.length / 8)))) ∧ ∃ wv', W0 w' b (noteS (letS s P) x.data.toList) [] wv' ∧ Own w wv wv' ∧ Tch (BT b wv) w w' := by
  have h0 := h.mid
  have hpl := h.2.plen
  have h1 := letOut_W h0 (by omega)
  have hll := letS_length s P
  have hxs : x.data.toList.length = x.size := by simp
  have HF : Hid (noteS (letS s P) x.data.toList = ⟨(letS s P).k, padL (headL (letS s P).L false 3 ++ numBits (x.size : Int) 8) ++ byteBits x.data.toList⟩) := by rw [Hid, ← hxs]; rfl
  generalize letS s P = s1 at *
  have hH := headL_length s1.L false 3
  have h2 := fun W u' wv' (hM : Mid w W b s1 [] (s.L.length / 8) wv u' wv') => mbegin hM false 3 (by omega) (by omega) (by omega)
  have h3 : ∀ W u' wv', Mid w W b ⟨s1.k, headL s1.L false 3⟩ [] (s.L.length / 8) wv u' wv' → Calls Try.prog 43 #[.pointer (some ⟨b, 0, none⟩), .int .i64 (x.size : Int), .int .i64 8] W fun e w' => e = .returned (.tuple #[]) ∧ ∃ u'', Mid w w' b ⟨s1.k, headL s1.L false 3 ++ numBits (x.size : Int) 8⟩ [] (s.L.length / 8) wv u'' wv' := fun W u' wv' hM => mnum hM (x.size : Int) 8 (by omega) (by show _ < (256 : Int); omega) (by omega) (by show (headL _ _ _).length ≤ _; omega)
  have hH2 : (headL s1.L false 3 ++ numBits (x.size : Int) 8).length = s1.L.length + 11 := by rw [List.length_append, numBits_length, hH]
  have h4 := fun W u' wv' (hM : Mid w W b ⟨s1.k, headL s1.L false 3 ++ numBits (x.size : Int) 8⟩ [] (s.L.length / 8) wv u' wv') => mfill hM (by show (_ ++ _ : List Int).length ≤ _; omega)
  have hH3 := padL_le (headL s1.L false 3 ++ numBits (x.size : Int) 8)
  have H2 : Hid _ := h2
  have H3 : Hid _ := h3
  have H4 : Hid _ := h4
  have HS : Hid (x.data.toList.length = x.size) := hxs
  clear h0 h hxs h2 h3 h4
  go_enter Try.func46, Try.ntmps46
  go_wp2_with (first
    | (go_at_call 58; refine (H4.out _ _ _ hM3).mono ?_; rintro e w4 ⟨rfl, u4, hM4⟩)
    | (go_at_call 43; refine (H3.out _ _ _ hM2).mono ?_; rintro e w3 ⟨rfl, u3, hM3⟩)
    | (go_at_call 57; refine (H2.out _ _ _ hM1).mono ?_; rintro e w2 ⟨rfl, u2, hM2⟩)
    | (go_at_call 55; refine h1.mono ?_; rintro e w1 ⟨rfl, u1, wv1, hM1⟩))
  clear hM1 hM2 hM3 h1 H2 H3 H4
  generalize padL (headL s1.L false 3 ++ numBits (x.size : Int) 8) = L3 at *
  go_loopw [5] (fun vi wr => ∃ (k : Nat) (u : Value), k ≤ x.size ∧ vi = .int .i64 k ∧ Mid w wr b ⟨s1.k, L3 ++ byteBits (x.data.toList.take k)⟩ [] (s.L.length / 8) wv u wv1) (fun vi _ => x.size - (intOf vi).toNat)
  case atStart =>
    refine ⟨0, u4, by omega, rfl, ?_⟩
    show Mid w _ b ⟨s1.k, L3 ++ []⟩ [] _ wv u4 wv1
    rw [List.append_nil]
    exact hM4
  case round =>
    obtain ⟨k, u, hk, rfl, hMk⟩ := hrel
    clear hM4
    have hl4 : (byteBits (x.data.toList.take k)).length ≤ 8 * 255 := by
      have := HS.out
      rw [byteBits_length, List.length_take]; omega
    obtain ⟨_, c1, c2, c3, c4⟩ := hMk.wr.cells
    by_cases hlt : k < x.size
    · have hlen : k < x.data.toList.length := by simpa using hlt
      have cb := byte_bounds x[k]
      have HT : Hid (L3 ++ byteBits (x.data.toList.take (k + 1)) = L3 ++ byteBits (x.data.toList.take k) ++ numBits (x[k].toNat : Int) 8) := by
        rw [Hid, byteBits_take _ k hlen, List.append_assoc, pB_get _ k hlen]
        rfl
      have hN : ∀ W, Mid w W b ⟨s1.k, L3 ++ byteBits (x.data.toList.take k)⟩ [] (s.L.length / 8) wv u wv1 → Calls Try.prog 43 #[.pointer (some ⟨b, 0, none⟩), .int .i64 (x[k].toNat : Int), .int .i64 8] W fun e w' => e = .returned (.tuple #[]) ∧ ∃ u'', Mid w w' b ⟨s1.k, L3 ++ byteBits (x.data.toList.take k) ++ numBits (x[k].toNat : Int) 8⟩ [] (s.L.length / 8) wv u'' wv1 := fun W hM => mnum hM (x[k].toNat : Int) 8 cb.1 (by show _ < (256 : Int); omega) (by omega) (by show (_ ++ _ : List Int).length ≤ _; rw [List.length_append]; omega)
      have hNN := hN _ hMk.drew
      have hw2 : IntKind.i64.wrap (x[k].toNat : Int) = (x[k].toNat : Int) := by rw [IntKind.wrap_i64]; omega
      clear HF hL hH3 hl4 hH2 hll hN hMk
      go_wp2
      go_region_with (go_at_call 43; refine hNN.mono ?_; rintro e w5 ⟨rfl, u5, hM5⟩)
      all_goals
        go_wp2
        go_roundw
        case rel => exact ⟨k + 1, u5, by omega, by go_num, by rw [HT.out]; exact hM5⟩
        case measure => simp [intOf]; omega
    · have hM5 : Mid w wr b ⟨s1.k, L3 ++ byteBits x.data.toList⟩ [] (s.L.length / 8) wv u wv1 := by
        rw [List.take_of_length_le (by have := HS.out; omega)] at hMk
        exact hMk
      have hT := mtake hM5
      clear hMk hM5
      go_wp2_with (first
        | (go_at_call 54; refine hT.mono ?_; rintro e w1 ⟨rfl, hR1, ho1, ht1⟩))
      go_ret
      rw [HF.out]
      exact ⟨rfl, wv1, hR1, ho1, ht1⟩
end
end Go.Proofs.Ytmpfgdmdnghhgaa

/- AN ENCODER: New, and wring's calls. -/
namespace Go.Proofs.Ytmpfgdmdnghhgaa
open Go.RowKit Wr

def farE : Nat → Int := fun j => if j < 4 then (j : Int) + 1 else 0
def iniS (x l : Int) : St := ⟨⟨l, 16 * 2 ^ x.toNat, farE⟩, numBits x 4⟩
theorem built_writer (lv wn : Int) : Try.prog.built 104 [(1, .int .i64 lv), (2, .int .i64 wn), (3, .agg #[.int .i64 1, .int .i64 2, .int .i64 3, .int .i64 4])] = some (cellsL 10 (FW ⟨lv, wn, farE⟩ (.slice none 0 0) (.slice none 0 0) 0 0)).toArray := by kernel_rfl
section
variable {w : World} {T : TypeId} {n0 : Nat} {F : Value → Int → Int → Nat → Value} {b : Nat} {v : Value}
set_option maxHeartbeats 600000 in
theorem bsmall_any (hF : IsBox F n0) (hr : w.rowIs b T n0 (F v 0 0)) (x n : Int) (h5 : 0 ≤ x) (h6 : x < 4096) (h7 : 0 ≤ n) (h8 : n ≤ 7) :
    Calls Try.prog 43 #[.pointer (some ⟨b, 0, none⟩), .int .i64 x, .int .i64 n] w fun e w' => e = .returned (.tuple #[]) ∧ w'.rowIs b T n0 (F v x n) ∧ Tch (· = b) w w' := by
  have hn3 := hF.fit
  have c0 : w.cell? ⟨b, 1, none⟩ = some (.int .i64 0) := by rw [World.rowIs.cell hr (i := 1) (by omega), hF.c1]
  have c1 : w.cell? ⟨b, 2, none⟩ = some (.int .i64 0) := by rw [World.rowIs.cell hr (i := 2) (by omega), hF.c2]
  have hfz := World.rowIs.frozen hr
  go_enter Try.func43, Try.ntmps43
  go_wp2
  go_region
  go_wp2
  go_loopg [] 0 (fun g wr => wr = ((w.setCell ⟨b, 1, none⟩ (.int .i64 x)).setCell ⟨b, 2, none⟩ (.int .i64 n)).drew)
  case atStart => rfl
  case round =>
    subst hrel
    go_wp2
    go_end0
    exact ⟨rfl, hF.set2 (hF.set1 hr x) n, (((Tch.refl (· = b) w).set ⟨b, 1, none⟩ _ (fun _ => rfl)).set ⟨b, 2, none⟩ _ (fun _ => rfl)).drew⟩
end
theorem rel_init (x : Int) (h0 : 0 ≤ x) (h8 : x ≤ 8) : RelB ⟨[], x, 4⟩ (numBits x 4) 0 := by
  have hv : Wr.valOf (numBits x 4) = x := valOf_num_lt h0 (by show x < 16; omega)
  have hl := numBits_length x 4
  refine ⟨numBits_isBits _ _, by rw [hl]; rfl, ?_, ?_, Nat.zero_le _⟩
  · rw [hl, hv]
    show x = x / 2 ^ 0
    rw [Int.pow_zero, Int.ediv_one]
  · unfold outFrom
    rw [hl]
    rfl
theorem Tch.ofBelow {w w' : World} (h : Below w.heap.size w w') : Tch NoOld w w' := ⟨h.os, h.tape, h.output, h.size, fun k hk _ => h.block k hk⟩

set_option maxRecDepth 100000 in
set_option maxHeartbeats 1000000 in
theorem wNew_any (w : World) (x l : Int) (h0 : 0 ≤ x) (h8 : x ≤ 8) (l0 : 0 ≤ l) (l2 : l ≤ 2) : Calls Try.prog 31 #[.int .i64 x, .int .i64 l] w fun e w' => ∃ b, e = .returned (.pointer (some ⟨b, 0, none⟩)) ∧ w.heap.size ≤ b ∧ W0 w' b (iniS x l) [] (.slice none 0 0) ∧ Tch NoOld w w' := by
  have hp := pow_lt64 x.toNat (by omega)
  have hp2 : (2 : Int) ^ x.toNat ≤ 2 ^ 8 := pow_mono (by omega)
  have hp3 : (2 : Int) ^ 8 = 256 := rfl
  have hNR := NewRecent_any w
  have HB : Hid (Try.prog.built 104 [(1, .int .i64 l), (2, .int .i64 (16 * 2 ^ x.toNat)), (3, .agg #[.int .i64 1, .int .i64 2, .int .i64 3, .int .i64 4])] = some (cellsL 10 (FW ⟨l, 16 * 2 ^ x.toNat, farE⟩ (.slice none 0 0) (.slice none 0 0) 0 0)).toArray) := built_writer l _
  have hS := fun (W : World) (b : Nat) (hr : W.rowIs b 104 10 (FW ⟨l, 16 * 2 ^ x.toNat, farE⟩ (.slice none 0 0) (.slice none 0 0) 0 0)) => bsmall_any (boxW _ _) hr x 4 h0 (by omega) (by omega) (by omega)
  have HS : Hid _ := hS
  have HOk : Hid (WkOk ⟨l, 16 * 2 ^ x.toNat, farE⟩) := ⟨l0, l2, by show 0 ≤ 16 * 2 ^ x.toNat; omega, by show 16 * 2 ^ x.toNat ≤ 4096; omega⟩
  clear hS
  have HI : Hid (iniS x l = ⟨⟨l, 16 * 2 ^ x.toNat, farE⟩, numBits x 4⟩) := rfl
  go_enter Try.func31, Try.ntmps31
  go_wp2_with (first
    | (go_at_call 43; refine (HS.out _ _ (rowIs_new w1 _ _ _)).mono ?_; rintro e w2 ⟨rfl, r2, t2⟩)
    | (refine wpList_build_to rfl 104 _ rfl [(1, .int .i64 l), (2, .int .i64 (16 * 2 ^ x.toNat)), (3, .agg #[.int .i64 1, .int .i64 2, .int .i64 3, .int .i64 4])] (by simp [Act.eval]) _ HB.out ?_)
    | (go_at_call 37; refine hNR.mono ?_; rintro e w1 ⟨rfl, hb1⟩))
  go_ret
  have t1 := Tch.ofBelow hb1
  have t3 := (t1.alloc (.cells (cellsL 10 (FW ⟨l, 16 * 2 ^ x.toNat, farE⟩ (.slice none 0 0) (.slice none 0 0) 0 0)).toArray 104)).fresh t2 t1.size
  refine ⟨w1.heap.size, rfl, t1.size, ⟨HOk.out, ?_⟩, t3⟩
  refine ⟨⟨⟨[], x, 4⟩, ⟨r2, World.ownsRow_nil _ _ _ _, (fun q => by cases q)⟩, ?_⟩, World.ownsRow_nil _ _ _ _, (fun q => by cases q), (fun g hg => by cases hg), Nat.zero_le _⟩
  rw [HI.out]
  show RelB _ (numBits x 4) ((numBits x 4).length / 8)
  rw [numBits_length]
  exact rel_init x h0 h8

/-- an encoder in block q, its writer in block r -/
def EncAt (w : World) (q : Nat) (r : Option Nat) : Prop := w.rowIs q 77 1 (fun _ => .pointer (r.map fun b => ⟨b, 0, none⟩))
theorem EncAt.keep {w w' : World} {q : Nat} {r : Option Nat} {A : Nat → Prop} (hd : EncAt w q r) (h : Tch A w w') (hq : ¬ A q) : EncAt w' q r := h.rowIs hd hq
theorem W0.lt {w : World} {b : Nat} {s : St} {P : List UInt8} {wv : Value} (h : W0 w b s P wv) : b < w.heap.size := h.2.lt
theorem W0.own_lt {w : World} {b : Nat} {s : St} {P : List UInt8} {wv : Value} (h : W0 w b s P wv) : ∀ g, wv.ownBlock = some g → g < w.heap.size := h.2.own_lt
theorem W0.keep {w w' : World} {b : Nat} {s : St} {P : List UInt8} {wv : Value} {A : Nat → Prop} (h : W0 w b s P wv) (k : Tch A w w') (h1 : ¬ A b) (h2 : ∀ g, wv.ownBlock = some g → ¬ A g) : W0 w' b s P wv := ⟨h.1, h.2.keep k h1 (fun g hg => by cases hg) h2⟩

set_option maxHeartbeats 400000 in
theorem NewEncoder_good (w : World) (x l : Int) (h0 : 0 ≤ x) (h8 : x ≤ 8) (l0 : 0 ≤ l) (l2 : l ≤ 2) :
    Calls Try.prog 24 #[.int .i64 x, .int .i64 l] w fun e w' => ∃ q b, e = .returned (.tuple #[.pointer (some ⟨q, 0, none⟩), .int .i64 0]) ∧ w.heap.size ≤ b ∧ b < q ∧ W0 w' b (iniS x l) [] (.slice none 0 0) ∧ EncAt w' q (some b) ∧ Tch NoOld w w' := by
  have hN := fun W => wNew_any W x l h0 h8 l0 l2
  go_enter Try.func24, Try.ntmps24
  go_wp2_with (first
    | (go_at_call 31; refine (hN _).mono ?_; rintro e w1 ⟨b, rfl, hb0, hr1, hb1⟩))
  go_ret2
  refine ⟨w1.heap.size, b, rfl, hb0, hr1.lt, hr1.keep ((Tch.refl NoOld w1).alloc _) (fun q => q) (fun _ _ q => q), ?_, hb1.alloc _⟩
  exact World.rowIs_alloc w1 _ 77 (fun _ => .pointer (some ⟨b, 0, none⟩)) (fun i hi => by
    match i, hi with
    | 0, _ => rfl)
end Go.Proofs.Ytmpfgdmdnghhgaa

/- AN ENCODER's CALLS. -/
namespace Go.Proofs.Ytmpfgdmdnghhgaa
open Go.RowKit Wr

set_option maxHeartbeats 400000 in
theorem NewEncoder_bad (w : World) (x l : Int) (h : ¬ (0 ≤ x ∧ x ≤ 8 ∧ 0 ≤ l ∧ l ≤ 2)) :
    Calls Try.prog 24 #[.int .i64 x, .int .i64 l] w fun e w' => e = .returned (.tuple #[.pointer none, .int .i64 4]) ∧ w' = w := by
  by_cases h1 : x < 0
  · go_enter Try.func24, Try.ntmps24
    go_wp2
    go_ret2
    exact ⟨rfl, rfl⟩
  by_cases h2 : 8 < x
  · go_enter Try.func24, Try.ntmps24
    go_wp2
    go_ret2
    exact ⟨rfl, rfl⟩
  by_cases h3 : l < 0
  · go_enter Try.func24, Try.ntmps24
    go_wp2
    go_ret2
    exact ⟨rfl, rfl⟩
  have h4 : 2 < l := by omega
  clear h
  go_enter Try.func24, Try.ntmps24
  go_wp2
  go_ret2
  exact ⟨rfl, rfl⟩

section
variable {w : World} {q b : Nat} {s : St} {P : List UInt8} {wv : Value}

set_option maxHeartbeats 400000 in
theorem EncWrite_open (hd : EncAt w q (some b)) (h : W0 w b s P wv) (x : ByteArray) (hL : s.L.length + 8 * P.length + 30 * x.size ≤ 400000000000) :
    Calls Try.prog 32 #[.pointer (some ⟨q, 0, none⟩), .string x] w fun e w' => e = .returned (.tuple #[.string (outStr (outFrom (writeS (s, P) x.data.toList).1.L (s.L.length / 8))), .int .i64 0]) ∧ ∃ wv', W0 w' b (writeS (s, P) x.data.toList).1 (writeS (s, P) x.data.toList).2 wv' ∧ Own w wv wv' ∧ Tch (BT b wv) w w' := by
  have c0 : w.cell? ⟨q, 0, none⟩ = some (.pointer (some ⟨b, 0, none⟩)) := World.rowIs.cell hd (by omega)
  have hW := Write_W h x hL
  generalize writeS (s, P) x.data.toList = r at *
  go_enter Try.func32, Try.ntmps32
  go_wp2_with (first
    | (go_at_call 44; refine hW.mono ?_; rintro e w1 ⟨rfl, wv1, hr1, ho1, ht1⟩))
  go_ret2
  exact ⟨rfl, wv1, hr1, ho1, ht1⟩

set_option maxHeartbeats 400000 in
theorem EncFlush_open (hd : EncAt w q (some b)) (h : W0 w b s P wv) (hL : s.L.length ≤ 400000000000) :
    Calls Try.prog 33 #[.pointer (some ⟨q, 0, none⟩)] w fun e w' => e = .returned (.tuple #[.string (outStr (outFrom ((flushS s P, ([] : List UInt8))).1.L (s.L.length / 8))), .int .i64 0]) ∧ ∃ wv', W0 w' b ((flushS s P, ([] : List UInt8))).1 ((flushS s P, ([] : List UInt8))).2 wv' ∧ Own w wv wv' ∧ Tch (BT b wv) w w' := by
  have c0 : w.cell? ⟨q, 0, none⟩ = some (.pointer (some ⟨b, 0, none⟩)) := World.rowIs.cell hd (by omega)
  have hW := Flush_W h hL
  generalize flushS s P = r at *
  go_enter Try.func33, Try.ntmps33
  go_wp2_with (first
    | (go_at_call 45; refine hW.mono ?_; rintro e w1 ⟨rfl, wv1, hr1, ho1, ht1⟩))
  go_ret2
  exact ⟨rfl, wv1, hr1, ho1, ht1⟩

set_option maxHeartbeats 400000 in
theorem EncNote_open (hd : EncAt w q (some b)) (h : W0 w b s P wv) (x : ByteArray) (hx : x.size ≤ 255) (hL : s.L.length ≤ 400000000000) :
    Calls Try.prog 34 #[.pointer (some ⟨q, 0, none⟩), .string x] w fun e w' => e = .returned (.tuple #[.string (outStr (outFrom ((noteS (letS s P) x.data.toList, ([] : List UInt8))).1.L (s.L.length / 8))), .int .i64 0]) ∧ ∃ wv', W0 w' b ((noteS (letS s P) x.data.toList, ([] : List UInt8))).1 ((noteS (letS s P) x.data.toList, ([] : List UInt8))).2 wv' ∧ Own w wv wv' ∧ Tch (BT b wv) w w' := by
  have c0 : w.cell? ⟨q, 0, none⟩ = some (.pointer (some ⟨b, 0, none⟩)) := World.rowIs.cell hd (by omega)
  have hW := Note_W h x hx hL
  generalize noteS (letS s P) x.data.toList = r at *
  go_enter Try.func34, Try.ntmps34
  go_wp2_with (first
    | (go_at_call 46; refine hW.mono ?_; rintro e w1 ⟨rfl, wv1, hr1, ho1, ht1⟩))
  go_ret2
  exact ⟨rfl, wv1, hr1, ho1, ht1⟩

set_option maxHeartbeats 400000 in
theorem EncNote_long (hd : EncAt w q (some b)) (x : ByteArray) (hx : 255 < x.size) :
    Calls Try.prog 34 #[.pointer (some ⟨q, 0, none⟩), .string x] w fun e w' => e = .returned (.tuple #[.string ByteArray.empty, .int .i64 5]) ∧ w' = w := by
  have c0 : w.cell? ⟨q, 0, none⟩ = some (.pointer (some ⟨b, 0, none⟩)) := World.rowIs.cell hd (by omega)
  go_enter Try.func34, Try.ntmps34
  go_wp2
  go_ret2
  exact ⟨rfl, rfl⟩

set_option maxHeartbeats 400000 in
theorem EncFinish_open (hd : EncAt w q (some b)) (hqb : q ≠ b) (hqv : wv.ownBlock ≠ some q) (h : W0 w b s P wv) (hL : s.L.length ≤ 400000000000) :
    Calls Try.prog 35 #[.pointer (some ⟨q, 0, none⟩)] w fun e w' => e = .returned (.tuple #[.string (outStr (outFrom (finS s P).L (s.L.length / 8))), .int .i64 0]) ∧ EncAt w' q none ∧ ∃ w1, Tch (BT b wv) w w1 ∧ Tch (· = q) w1 w' := by
  have c0 : w.cell? ⟨q, 0, none⟩ = some (.pointer (some ⟨b, 0, none⟩)) := World.rowIs.cell hd (by omega)
  have hW := Finish_W h hL
  generalize finS s P = r at *
  go_enter Try.func35, Try.ntmps35
  go_wp2_with (first
    | (go_at_call 47; refine hW.mono ?_; rintro e w1 ⟨rfl, ht1⟩; have hd1 := hd.keep ht1 (not_BT hqb hqv); have c1 : w1.cell? ⟨q, 0, none⟩ = some (.pointer (some ⟨b, 0, none⟩)) := World.rowIs.cell hd1 (by omega); have hfz := World.rowIs.frozen hd1))
  go_ret2
  refine ⟨rfl, ?_, w1, ht1, (Tch.refl (· = q) w1).set _ _ (fun _ => rfl)⟩
  refine (World.rowIs.set hd1 0 (.pointer none)).congr fun i hi => ?_
  match i, hi with
  | 0, _ => rfl

set_option maxHeartbeats 400000 in
theorem EncWrite_done (hd : EncAt w q none) (x : ByteArray) : Calls Try.prog 32 #[.pointer (some ⟨q, 0, none⟩), .string x] w fun e w' => e = .returned (.tuple #[.string ByteArray.empty, .int .i64 6]) ∧ w' = w := by
  have c0 : w.cell? ⟨q, 0, none⟩ = some (.pointer none) := World.rowIs.cell hd (by omega)
  go_enter Try.func32, Try.ntmps32
  go_wp2
  go_ret2
  exact ⟨rfl, rfl⟩
set_option maxHeartbeats 400000 in
theorem EncNote_done (hd : EncAt w q none) (x : ByteArray) : Calls Try.prog 34 #[.pointer (some ⟨q, 0, none⟩), .string x] w fun e w' => e = .returned (.tuple #[.string ByteArray.empty, .int .i64 6]) ∧ w' = w := by
  have c0 : w.cell? ⟨q, 0, none⟩ = some (.pointer none) := World.rowIs.cell hd (by omega)
  go_enter Try.func34, Try.ntmps34
  go_wp2
  go_ret2
  exact ⟨rfl, rfl⟩
set_option maxHeartbeats 400000 in
theorem EncFlush_done (hd : EncAt w q none) : Calls Try.prog 33 #[.pointer (some ⟨q, 0, none⟩)] w fun e w' => e = .returned (.tuple #[.string ByteArray.empty, .int .i64 6]) ∧ w' = w := by
  have c0 : w.cell? ⟨q, 0, none⟩ = some (.pointer none) := World.rowIs.cell hd (by omega)
  go_enter Try.func33, Try.ntmps33
  go_wp2
  go_ret2
  exact ⟨rfl, rfl⟩
set_option maxHeartbeats 400000 in
theorem EncFinish_done (hd : EncAt w q none) : Calls Try.prog 35 #[.pointer (some ⟨q, 0, none⟩)] w fun e w' => e = .returned (.tuple #[.string ByteArray.empty, .int .i64 6]) ∧ w' = w := by
  have c0 : w.cell? ⟨q, 0, none⟩ = some (.pointer none) := World.rowIs.cell hd (by omega)
  go_enter Try.func35, Try.ntmps35
  go_wp2
  go_ret2
  exact ⟨rfl, rfl⟩
end
end Go.Proofs.Ytmpfgdmdnghhgaa
