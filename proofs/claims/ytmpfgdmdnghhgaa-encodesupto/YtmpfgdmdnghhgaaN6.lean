import Derived.Test.YtmpfgdmdnghhgaaN2
/- THE WRITER: begin, stored. -/
namespace Go.Proofs.Ytmpfgdmdnghhgaa
open Go.RowKit Wr

def lastI (l : Bool) : Int := if l then 1 else 0
def headL (L : List Int) (l : Bool) (kind : Int) : List Int := L ++ numBits (lastI l) 1 ++ numBits kind 2
/-- a stored block -/
def stoL (L : List Int) (l : Bool) (P : List UInt8) : List Int := padL (headL L l 1 ++ numBits ((P.length : Int) - 1) 12) ++ byteBits P
/-- a coded block -/
def codL (L : List Int) (l : Bool) (P : List UInt8) (M : List Int) : List Int := headL L l 2 ++ numBits ((P.length : Int) - 1) 12 ++ M
def noteL (L : List Int) (P : List UInt8) : List Int := padL (headL L false 3 ++ numBits (P.length : Int) 8) ++ byteBits P
def emptyL (L : List Int) (l : Bool) : List Int := padL (headL L l 0)
theorem headL_length (L : List Int) (l : Bool) (kind : Int) : (headL L l kind).length = L.length + 3 := by
  unfold headL
  rw [List.length_append, List.length_append, numBits_length, numBits_length]
theorem padL_length (L : List Int) : (padL L).length = L.length + fillN L.length := by
  unfold padL
  rw [List.length_append, numBits_length]
theorem padL_whole (L : List Int) : (padL L).length % 8 = 0 := by
  rw [padL_length]
  unfold fillN
  omega
theorem padL_le (L : List Int) : (padL L).length ≤ L.length + 7 := by
  rw [padL_length]
  unfold fillN
  omega

theorem Adds.undrew {w w' : World} {T : TypeId} {n0 : Nat} {F : Value → Int → Int → Nat → Value} {r t : Nat} {L : List Int} {v : Value} (h : Adds w.drew w' T n0 F r t L v) : Adds w w' T n0 F r t L v := by
  obtain ⟨v', a, b, c⟩ := h
  exact ⟨v', a, b, ⟨c.os, c.tape, c.output, c.size, c.block⟩⟩
/-- what a call may change -/
def WT (b : Nat) (v wv : Value) : Nat → Prop := fun j => j = b ∨ v.ownBlock = some j ∨ wv.ownBlock = some j
section
variable {w : World} {b t : Nat} {k : Wk} {L : List Int} {P : List UInt8} {v wv : Value}
theorem WR.own_lt (h : WR w b k L P t v wv) : ∀ g, wv.ownBlock = some g → g < w.heap.size := fun g hg => (World.ownsRow.lt h.own g hg).2
/-- bits are added: the rest of the writer is as it was -/
theorem WR.adds {w' : World} {L' : List Int} (h : WR w b k L P t v wv) (ha : Adds w w' 104 10 (FW k wv) b t L' v) : ∃ v', WR w' b k L' P t v' wv ∧ Own w v v' ∧ Tch (BT b v) w w' := by
  obtain ⟨v', h1, h2, h3⟩ := ha
  refine ⟨v', ⟨h1, h3.owns h.own (fun g hg => not_BT (fun e => h.nb (by rw [hg, e])) (h.ap g hg)), h.nb, fun g hg => h2.ne (h.own_lt g hg) (h.ap g hg), h.plen⟩, h2, h3⟩

set_option maxHeartbeats 400000 in
theorem begin_W (h : WR w b k L P t v wv) (l : Bool) (kind : Int) (h0 : 0 ≤ kind) (h3 : kind < 4) (hL : L.length ≤ 700000000000) :
    Calls Try.prog 57 #[.pointer (some ⟨b, 0, none⟩), .int .i64 kind, .bool l] w fun e w' => e = .returned (.tuple #[]) ∧ ∃ v', WR w' b k (headL L l kind) P t v' wv ∧ Own w v v' ∧ Tch (BT b v) w w' := by
  have h1 : Calls Try.prog 43 #[.pointer (some ⟨b, 0, none⟩), .int .i64 (lastI l), .int .i64 1] w fun e w' => e = .returned (.tuple #[]) ∧ Adds w w' 104 10 (FW k wv) b t (L ++ numBits (lastI l) 1) v := number_B (boxW k wv) h.row (lastI l) 1 (by cases l <;> decide) (by cases l <;> decide) (by omega) (by omega)
  have h2 : ∀ W u, BB W 104 10 (FW k wv) b (L ++ numBits (lastI l) 1) t u → Calls Try.prog 43 #[.pointer (some ⟨b, 0, none⟩), .int .i64 kind, .int .i64 2] W fun e w' => e = .returned (.tuple #[]) ∧ Adds W w' 104 10 (FW k wv) b t (L ++ numBits (lastI l) 1 ++ numBits kind 2) u := fun W u hW => number_B (boxW k wv) hW kind 2 h0 h3 (by omega) (by rw [List.length_append, numBits_length]; omega)
  have HA : Hid (∀ w' : World, Adds w w' 104 10 (FW k wv) b t (headL L l kind) v → ∃ v', WR w' b k (headL L l kind) P t v' wv ∧ Own w v v' ∧ Tch (BT b v) w w') := fun w' ha => h.adds ha
  obtain ⟨_, _, _, _, hfz⟩ := h.cells
  have HE : Hid (headL L l kind = L ++ numBits (lastI l) 1 ++ numBits kind 2) := rfl
  have H2 : Hid _ := h2
  clear h h2
  cases l
  all_goals
    go_enter Try.func57, Try.ntmps57
    go_wp2_with (first
      | (go_at_call 43; refine (H2.out _ _ b1).mono ?_; rintro e w2 ⟨rfl, u2, b2, o2, t2⟩)
      | (go_at_call 43; refine h1.mono ?_; rintro e w1 ⟨rfl, u1, b1, o1, t1⟩))
    go_end0
    refine ⟨rfl, HA.out _ ⟨u2, ?_, o1.trans o2 t1.size, t1.trans t2 (BT.next o1)⟩⟩
    rw [HE.out]
    exact b2

theorem byteBits_take (P : List UInt8) (i : Nat) (h : i < P.length) : byteBits (P.take (i + 1)) = byteBits (P.take i) ++ numBits (pB P i) 8 := by
  rw [List.take_add_one, byteBits_append, pB_get P i h, List.getElem?_eq_getElem h]
  show _ ++ (numBits _ 8 ++ []) = _
  rw [List.append_nil]

set_option maxRecDepth 100000 in
set_option maxHeartbeats 800000 in
theorem stored_W (h : WR w b k L P t v wv) (l : Bool) (hP : P ≠ []) (hL : L.length ≤ 600000000000) :
    Calls Try.prog 66 #[.pointer (some ⟨b, 0, none⟩), .bool l] w fun e w' => e = .returned (.tuple #[]) ∧ ∃ v', WR w' b k (stoL L l P) P t v' wv ∧ Own w v v' ∧ Tch (BT b v) w w' := by
  obtain ⟨g, cap, rfl, hbt, hgw, hgb⟩ := h.bytes hP
  have hpos : 0 < P.length := List.length_pos_iff.2 hP
  have hpl := h.plen
  have hH := headL_length L l 1
  have h1 := begin_W h l 1 (by omega) (by omega) (by omega)
  have h2 : ∀ W u, BB W 104 10 (FW k (.slice (some ⟨g, 0, none⟩) P.length cap)) b (headL L l 1) t u → Calls Try.prog 43 #[.pointer (some ⟨b, 0, none⟩), .int .i64 ((P.length : Int) - 1), .int .i64 12] W fun e w' => e = .returned (.tuple #[]) ∧ Adds W w' 104 10 (FW k (.slice (some ⟨g, 0, none⟩) P.length cap)) b t (headL L l 1 ++ numBits ((P.length : Int) - 1) 12) u := fun W u hW => number_B (boxW _ _) hW ((P.length : Int) - 1) 12 (by omega) (by show _ < (4096 : Int); omega) (by omega) (by omega)
  have hH2 : (headL L l 1 ++ numBits ((P.length : Int) - 1) 12).length = L.length + 15 := by rw [List.length_append, numBits_length, hH]
  have h3 : ∀ W u, BB W 104 10 (FW k (.slice (some ⟨g, 0, none⟩) P.length cap)) b (headL L l 1 ++ numBits ((P.length : Int) - 1) 12) t u → Calls Try.prog 58 #[.pointer (some ⟨b, 0, none⟩)] W fun e w' => e = .returned (.tuple #[]) ∧ Adds W w' 104 10 (FW k (.slice (some ⟨g, 0, none⟩) P.length cap)) b t (padL (headL L l 1 ++ numBits ((P.length : Int) - 1) 12)) u := fun W u hW => fill_B (boxW _ _) hW (by omega)
  have hH3 := padL_le (headL L l 1 ++ numBits ((P.length : Int) - 1) 12)
  have HB : Hid (stoL L l P = padL (headL L l 1 ++ numBits ((P.length : Int) - 1) 12) ++ byteBits P) := rfl
  generalize padL (headL L l 1 ++ numBits ((P.length : Int) - 1) 12) = L3 at *
  generalize headL L l 1 ++ numBits ((P.length : Int) - 1) 12 = L2 at *
  generalize headL L l 1 = L1 at *
  have hw1 : IntKind.i64.wrap ((P.length : Int) - 1) = (P.length : Int) - 1 := by rw [IntKind.wrap_i64]; omega
  have HWR : Hid (WR w b k L P t v (.slice (some ⟨g, 0, none⟩) P.length cap)) := h
  have nb : ∀ {W : World} {u : Value}, Tch (BT b v) w W → Own w v u → Bts W g P := fun hT _ => hbt.keep hT (not_BT hgb (h.ap g rfl))
  have HNB : Hid (∀ (W : World), Tch (BT b v) w W → Bts W g P) := fun W hT => hbt.keep hT (not_BT hgb (h.ap g rfl))
  have H2 : Hid _ := h2
  have H3 : Hid _ := h3
  clear h hbt nb h2 h3
  go_enter Try.func66, Try.ntmps66
  go_wp2_with (first
    | (go_at_call 57; refine h1.mono ?_; rintro e w1 ⟨rfl, u1, hW1, o1, t1⟩; obtain ⟨_, c1, c2, c3, c4⟩ := hW1.cells))
  have hN2 := H2.out _ _ (hW1.row.keep (Tch.refl NoOld w1).drew (fun q => q) (fun _ _ q => q))
  go_region_with (go_at_call 43; refine hN2.mono ?_; rintro e w2 ⟨rfl, hA2⟩)
  all_goals
    obtain ⟨u2, hW2, o2, t2⟩ := hW1.adds (w' := w2) hA2.undrew
    have O2 := o1.trans o2 t1.size
    have T2 := t1.trans t2 (BT.next o1)
    clear hN2 hA2 c1 c2 c3 c4
    go_wp2_with (first
      | (go_at_call 58; refine (H3.out _ _ hW2.row).mono ?_; rintro e w3 ⟨rfl, hA3⟩))
    obtain ⟨u3, hW3, o3, t3⟩ := hW2.adds (w' := w3) hA3
    have O3 := O2.trans o3 T2.size
    have T3 := T2.trans t3 (BT.next O2)
    clear hA3 hW2 hW1 o1 o2 o3 t1 t2 t3 O2 T2 H2 H3 h1
    go_loopw [4] (fun vi wr => ∃ (i : Nat) (u : Value), i ≤ P.length ∧ vi = .int .i64 i ∧ WR wr b k (L3 ++ byteBits (P.take i)) P t u (.slice (some ⟨g, 0, none⟩) P.length cap) ∧ Own w v u ∧ Tch (BT b v) w wr) (fun vi _ => P.length - (intOf vi).toNat)
    case atStart =>
      refine ⟨0, u3, by omega, rfl, ?_, O3, T3⟩
      show WR _ b k (L3 ++ []) P t u3 _
      rw [List.append_nil]
      exact hW3
    case round =>
      obtain ⟨i, u, hi, rfl, hRi, hOi, hTi⟩ := hrel
      clear hW3 O3 T3
      obtain ⟨_, c1, c2, c3, c4⟩ := hRi.cells
      by_cases hlt : i < P.length
      · have kb := HNB.out _ hTi i hlt
        have cb := pB_bounds P i
        have HT : Hid (L3 ++ byteBits (P.take (i + 1)) = L3 ++ byteBits (P.take i) ++ numBits (pB P i) 8) := by rw [Hid, byteBits_take P i hlt, List.append_assoc]
        have hl4 : (byteBits (P.take i)).length ≤ 8 * 4096 := by rw [byteBits_length, List.length_take]; omega
        have hN : ∀ W, BB W 104 10 (FW k (.slice (some ⟨g, 0, none⟩) P.length cap)) b (L3 ++ byteBits (P.take i)) t u → Calls Try.prog 43 #[.pointer (some ⟨b, 0, none⟩), .int .i64 (pB P i), .int .i64 8] W fun e w' => e = .returned (.tuple #[]) ∧ Adds W w' 104 10 (FW k (.slice (some ⟨g, 0, none⟩) P.length cap)) b t (L3 ++ byteBits (P.take i) ++ numBits (pB P i) 8) u := fun W hW => number_B (boxW _ _) hW _ 8 cb.1 (by show _ < (256 : Int); omega) (by omega) (by rw [List.length_append]; omega)
        have hNN := hN _ (hRi.row.keep (Tch.refl NoOld wr).drew (fun q => q) (fun _ _ q => q))
        have HRi : Hid (WR wr b k (L3 ++ byteBits (P.take i)) P t u (.slice (some ⟨g, 0, none⟩) P.length cap)) := hRi
        generalize pB P i = c at *
        have hw2 : IntKind.i64.wrap c = c := by rw [IntKind.wrap_i64]; omega
        have hli : (i : Int) < P.length := by omega
        clear HB hL hH3 hl4 hN hRi hH2 hH
        go_wp2
        go_region_with (go_at_call 43; refine hNN.mono ?_; rintro e w4 ⟨rfl, hA4⟩)
        all_goals
          obtain ⟨u4, hW4, o4, t4⟩ := HRi.out.adds (w' := w4) hA4.undrew
          go_wp2
          go_roundw
          case rel => exact ⟨i + 1, u4, by omega, by go_num, by rw [HT.out]; exact hW4, hOi.trans o4 hTi.size, hTi.trans t4 (BT.next hOi)⟩
          case measure => simp [intOf]; omega
      · have hil : i = P.length := by omega
        subst hil
        rw [List.take_length] at hRi
        go_wp2
        go_end0
        rw [HB.out]
        exact ⟨rfl, u, hRi, hOi, hTi⟩
end
end Go.Proofs.Ytmpfgdmdnghhgaa
