import Derived.Test.YtmjigodhncjfjaaE3
namespace Go.Proofs.Ytmjigodhncjfjaa
open Go.RowKit Wr

def letL (L : List Int) (P : List UInt8) : List Int := if P = [] then L else blkL L false P
def flushL (L : List Int) (P : List UInt8) : List Int := if (letL L P).length % 8 = 0 then letL L P else emptyL (letL L P) false
def finL (L : List Int) (P : List UInt8) : List Int := padL (if P = [] then headL L true 0 else blkL L true P)
def addE (e : List Int × List UInt8) (c : UInt8) : List Int × List UInt8 := if 4096 ≤ e.2.length then (blkL e.1 false e.2, [c]) else (e.1, e.2 ++ [c])
def writeE (e : List Int × List UInt8) (l : List UInt8) : List Int × List UInt8 := l.foldl addE e
def phiE (e : List Int × List UInt8) : Nat := e.1.length + 8 * e.2.length

theorem blkL_length (L : List Int) (l : Bool) (P : List UInt8) : (blkL L l P).length ≤ L.length + 22 + 8 * P.length := by
  unfold blkL
  have h1 := padL_le (headL L l 1 ++ numBits ((P.length : Int) - 1) 12)
  have h2 := headL_length L l 1
  rw [List.length_append, numBits_length] at h1
  rw [List.length_append, byteBits_length]
  omega
theorem letL_length (L : List Int) (P : List UInt8) : (letL L P).length ≤ L.length + 22 + 8 * P.length := by
  unfold letL
  split
  · omega
  · exact blkL_length L false P
theorem addE_phi (e : List Int × List UInt8) (c : UInt8) : phiE (addE e c) ≤ phiE e + 30 := by
  unfold addE phiE
  split
  · have := blkL_length e.1 false e.2
    simp only [List.length_singleton]
    omega
  · simp only [List.length_append, List.length_singleton]
    omega
theorem writeE_phi : ∀ (l : List UInt8) (e : List Int × List UInt8), phiE (writeE e l) ≤ phiE e + 30 * l.length
  | [], e => by show phiE e ≤ _; simp
  | c :: l, e => by
    have h1 := addE_phi e c
    have h2 := writeE_phi l (addE e c)
    show phiE (writeE (addE e c) l) ≤ _
    rw [List.length_cons]
    omega

section
variable {w : World} {B b t : Nat} {L : List Int} {P : List UInt8}

theorem WR.push (h : WR w B b L P t) (c : UInt8) (hP : P.length < 4096) : WR ((w.setCell ⟨b, 3 + P.length, none⟩ (.int .u8 c.toNat)).setCell ⟨b, 4099, none⟩ (.int .i64 ((P.length : Int) + 1))) B b L (P ++ [c]) t := by
  obtain ⟨s, ⟨h1, h2, v, h3, h4⟩, hl⟩ := h
  have hon := ((On.refl b w).set (3 + P.length) (.int .u8 c.toNat)).set 4099 (.int .i64 ((P.length : Int) + 1))
  refine ⟨_, ⟨h1, Nat.le_trans h2 hon.size, v, (h3.wait P.length hP _).count _, hon.owns h1 h4⟩, ⟨hl.bits, hl.have_, hl.hold, hl.out, hl.le, ?_, ?_, ?_⟩⟩
  · show (P.length : Int) + 1 = _
    rw [List.length_append]; rfl
  · intro i hi
    rw [List.length_append, List.length_singleton] at hi
    show upd s.wait P.length (c.toNat : Int) i = _
    unfold upd
    rw [List.getD_eq_getElem?_getD]
    split
    · rename_i e
      subst e
      rw [List.getElem?_append_right (Nat.le_refl _), Nat.sub_self]
      rfl
    · rw [List.getElem?_append_left (by omega), ← List.getD_eq_getElem?_getD]
      exact hl.wait i (by omega)
  · rw [List.length_append, List.length_singleton]; omega

set_option maxHeartbeats 400000 in
theorem letOut_W (h : WR w B b L P t) (hL : L.length ≤ 900000000000) :
    Calls Try.prog 69 #[.pointer (some ⟨b, 0, none⟩)] w fun e w' => e = .returned (.tuple #[]) ∧ WR w' B b (letL L P) [] t ∧ Fr B b w w' := by
  obtain ⟨s1, v1, r1, hbB, hBw, k1, _, _, kw⟩ := h.open
  have c1 := r1.c_count
  rw [k1] at c1
  by_cases hP : P = []
  · have HL : Hid (letL L P = L) := by rw [Hid, letL, if_pos hP]
    subst hP
    have c2 : w.cell? ⟨b, 4099, none⟩ = some (.int .i64 0) := c1
    clear c1
    go_enter Try.func69, Try.ntmps69
    go_wp2
    go_end0
    rw [HL.out]
    exact ⟨rfl, h, Fr.refl _ _ _⟩
  · have HL : Hid (letL L P = blkL L false P) := by rw [Hid, letL, if_neg hP]
    have hpos : 0 < P.length := List.length_pos_iff.2 hP
    have hS := stored_W h false hP hL
    clear kw k1 hP
    go_enter Try.func69, Try.ntmps69
    go_wp2_with (go_at_call 67; refine hS.mono ?_; rintro e w1 ⟨rfl, hR1, hf1⟩)
    go_end0
    rw [HL.out]
    exact ⟨rfl, hR1, hf1⟩

set_option maxRecDepth 100000 in
set_option maxHeartbeats 1000000 in
theorem Write_W (h : W0 w b L P) (x : ByteArray) (hL : L.length + 8 * P.length + 30 * x.size ≤ 800000000000) :
    Calls Try.prog 58 #[.pointer (some ⟨b, 0, none⟩), .string x] w fun e w' => e = .returned (.string (outStr (outFrom (writeE (L, P) x.data.toList).1 (L.length / 8)))) ∧ W0 w' b (writeE (L, P) x.data.toList).1 (writeE (L, P) x.data.toList).2 ∧ On b w w' := by
  have h0 := h.wr
  go_enter Try.func58, Try.ntmps58
  go_wp2
  go_loopw [5] (fun vi wr => ∃ (k : Nat), k ≤ x.size ∧ vi = .int .i64 k ∧ WR wr w.heap.size b (writeE (L, P) (x.data.toList.take k)).1 (writeE (L, P) (x.data.toList.take k)).2 (L.length / 8) ∧ Fr w.heap.size b w wr) (fun vi _ => x.size - (intOf vi).toNat)
  case atStart => exact ⟨0, by omega, rfl, by rw [List.take_zero]; exact h0, Fr.refl _ _ _⟩
  case round =>
    obtain ⟨k, hk, rfl, hRk, hfk⟩ := hrel
    clear h0 h
    by_cases hlt : k < x.size
    · have hlen : k < x.data.toList.length := by simpa using hlt
      have HW : Hid (writeE (L, P) (x.data.toList.take (k + 1)) = addE (writeE (L, P) (x.data.toList.take k)) x[k]) := by
        rw [Hid, List.take_add_one, List.getElem?_eq_getElem hlen]
        unfold writeE
        rw [List.foldl_append]
        rfl
      have hphi := writeE_phi (x.data.toList.take k) (L, P)
      have hph2 : phiE (L, P) = L.length + 8 * P.length := rfl
      have hph3 : (x.data.toList.take k).length ≤ k := List.length_take_le _ _
      generalize writeE (L, P) (x.data.toList.take k) = e at *
      obtain ⟨L1, P1⟩ := e
      dsimp only at hRk
      have hph4 : phiE (L1, P1) = L1.length + 8 * P1.length := rfl
      obtain ⟨s1, v1, r1, hbB, hBw, k1, _, kp, _⟩ := hRk.open
      have c1 := r1.c_count
      rw [k1] at c1
      have hfz := r1.free
      by_cases hfull : 4096 ≤ P1.length
      · have hP1 : P1.length = 4096 := by omega
        have HA : Hid (addE (L1, P1) x[k] = (blkL L1 false P1, [] ++ [x[k]])) := by rw [Hid, addE, if_pos hfull]; rfl
        have hS := stored_W hRk false (fun q => by rw [q] at hP1; cases hP1) (by omega)
        rw [hP1] at c1
        have hU : ∀ W, WR W w.heap.size b (blkL L1 false P1) [] (L.length / 8) → W.cell? ⟨b, 4099, none⟩ = some (.int .i64 0) ∧ (∃ v, W.cell? ⟨b, 3, none⟩ = some v) ∧ ∀ o, W.frozen? ⟨b, o, none⟩ = false := by
          intro W hW
          obtain ⟨s2, v2, r2, _, _, k2, _, _, _⟩ := hW.open
          have c2 := r2.c_count
          rw [k2] at c2
          exact ⟨c2, ⟨_, r2.c_wait 0 (by omega)⟩, r2.free⟩
        clear r1 k1 kp hphi hph2 hph3 hph4
        go_wp2_with (first
          | (go_at_call 67; refine hS.mono ?_; rintro e w1 ⟨rfl, hR1, hf1⟩; obtain ⟨d1, ⟨v9, d2⟩, d3⟩ := hU _ hR1))
        clear hU hS c1
        have hpu := hR1.push x[k] (by decide)
        have hff := ((hfk.trans hf1).set 3 (.int .u8 (x[k].toNat : Int))).set 4099 (.int .i64 1)
        go_region
        go_wp2
        refine ⟨⟨k + 1, by omega, by go_num, ?_, hff.drew⟩, by simp [intOf]; omega⟩
        rw [HW.out, HA.out]
        exact hpu.drew
      · have HA : Hid (addE (L1, P1) x[k] = (L1, P1 ++ [x[k]])) := by rw [Hid, addE, if_neg hfull]
        have c2 := r1.c_wait P1.length (by omega)
        clear r1 k1 kp hphi hph2 hph3 hph4
        have hpu := hRk.push x[k] (by omega)
        have hff := (hfk.set (3 + P1.length) (.int .u8 (x[k].toNat : Int))).set 4099 (.int .i64 ((P1.length : Int) + 1))
        go_wp2
        go_region
        go_wp2
        refine ⟨⟨k + 1, by omega, by go_num, ?_, hff.drew⟩, by simp [intOf]; omega⟩
        rw [HW.out, HA.out]
        exact hpu.drew
    · have hkx : k = x.size := by omega
      have HE : Hid (x.data.toList.take k = x.data.toList) := by rw [Hid, hkx]; exact List.take_of_length_le (by simp)
      rw [HE.out] at hRk
      have hT := take_W hRk
      clear HE hRk
      go_wp2_with (first
        | (go_at_call 68; refine hT.mono ?_; rintro e w1 ⟨rfl, hR1, hf1⟩))
      go_ret
      have hf2 := hfk.trans hf1
      exact ⟨rfl, hR1, ⟨hf2.os, hf2.tape, hf2.output, hf2.size, hf2.block⟩⟩

set_option maxHeartbeats 400000 in
theorem Flush_W (h : W0 w b L P) (hL : L.length ≤ 800000000000) :
    Calls Try.prog 59 #[.pointer (some ⟨b, 0, none⟩)] w fun e w' => e = .returned (.string (outStr (outFrom (flushL L P) (L.length / 8)))) ∧ W0 w' b (flushL L P) [] ∧ On b w w' := by
  have h0 := h.wr
  have hpl : P.length ≤ 4096 := by obtain ⟨_, _, _, _, _, _, _, q, _⟩ := h0.open; exact q
  have h1 := letOut_W h0 (by omega)
  have hll := letL_length L P
  have HF : Hid (flushL L P = if (letL L P).length % 8 = 0 then letL L P else emptyL (letL L P) false) := rfl
  generalize letL L P = L1 at *
  have hc : ∀ W, WR W w.heap.size b L1 [] (L.length / 8) → W.cell? ⟨b, 2, none⟩ = some (.int .i64 (L1.length % 8 : Nat)) := by
    intro W hW
    obtain ⟨s1, v1, r1, _, _, _, k2, _, _⟩ := hW.open
    have c1 := r1.c_have
    rw [k2] at c1
    exact c1
  by_cases h8 : L1.length % 8 = 0
  · have HF2 : Hid (flushL L P = L1) := by rw [Hid, HF.out, if_pos h8]
    have h2 := fun W (hW : WR W w.heap.size b L1 [] (L.length / 8)) => take_W hW
    rw [h8] at hc
    clear HF h0
    go_enter Try.func59, Try.ntmps59
    go_wp2_with (first
      | (go_at_call 68; refine (h2 _ hR1).mono ?_; rintro e w2 ⟨rfl, hR2, hf2⟩)
      | (go_at_call 69; refine h1.mono ?_; rintro e w1 ⟨rfl, hR1, hf1⟩; have c1 := hc _ hR1))
    go_ret
    rw [HF2.out]
    have hf3 := hf1.trans hf2
    exact ⟨rfl, hR2, ⟨hf3.os, hf3.tape, hf3.output, hf3.size, hf3.block⟩⟩
  · have HF2 : Hid (flushL L P = padL (headL L1 false 0)) := by rw [Hid, HF.out, if_neg h8]; rfl
    have h2 := fun W (hW : WR W w.heap.size b L1 [] (L.length / 8)) => begin_W hW false 0 (by omega) (by omega) (by omega)
    have h3 := fun W (hW : WR W w.heap.size b (headL L1 false 0) [] (L.length / 8)) => fill_W hW (by rw [headL_length]; omega)
    have h4 := fun W (hW : WR W w.heap.size b (padL (headL L1 false 0)) [] (L.length / 8)) => take_W hW
    obtain ⟨r, hr⟩ : ∃ r : Int, r = (L1.length % 8 : Nat) := ⟨_, rfl⟩
    rw [← hr] at hc
    have hr0 : 0 < r := by omega
    have hr1 : r < 8 := by omega
    clear HF h0 hr h8
    go_enter Try.func59, Try.ntmps59
    go_wp2_with (first
      | (go_at_call 68; refine (h4 _ hR3).mono ?_; rintro e w4 ⟨rfl, hR4, hf4⟩)
      | (go_at_call 71; refine (h3 _ hR2).mono ?_; rintro e w3 ⟨rfl, hR3, hf3⟩)
      | (go_at_call 70; refine (h2 _ hR1).mono ?_; rintro e w2 ⟨rfl, hR2, hf2⟩)
      | (go_at_call 69; refine h1.mono ?_; rintro e w1 ⟨rfl, hR1, hf1⟩; have c1 := hc _ hR1))
    go_ret
    rw [HF2.out]
    have hf5 := ((hf1.trans hf2).trans hf3).trans hf4
    exact ⟨rfl, hR4, ⟨hf5.os, hf5.tape, hf5.output, hf5.size, hf5.block⟩⟩

set_option maxHeartbeats 400000 in
theorem Finish_W (h : W0 w b L P) (hL : L.length ≤ 800000000000) :
    Calls Try.prog 61 #[.pointer (some ⟨b, 0, none⟩)] w fun e w' => e = .returned (.string (outStr (outFrom (finL L P) (L.length / 8)))) ∧ On b w w' := by
  have h0 := h.wr
  obtain ⟨s1, v1, r1, hbB, hBw, k1, _, hpl, _⟩ := h0.open
  have c1 := r1.c_count
  rw [k1] at c1
  by_cases hP : P = []
  · have HF : Hid (finL L P = padL (headL L true 0)) := by rw [Hid, finL, if_pos hP]
    subst hP
    have c2 : w.cell? ⟨b, 4099, none⟩ = some (.int .i64 0) := c1
    have h1 := begin_W h0 true 0 (by omega) (by omega) (by omega)
    have h3 := fun W (hW : WR W w.heap.size b (headL L true 0) [] (L.length / 8)) => fill_W hW (by rw [headL_length]; omega)
    have h4 := fun W (hW : WR W w.heap.size b (padL (headL L true 0)) [] (L.length / 8)) => take_W hW
    clear c1 h0 k1
    go_enter Try.func61, Try.ntmps61
    go_wp2_with (first
      | (go_at_call 68; refine (h4 _ hR2).mono ?_; rintro e w3 ⟨rfl, hR3, hf3⟩)
      | (go_at_call 71; refine (h3 _ hR1).mono ?_; rintro e w2 ⟨rfl, hR2, hf2⟩)
      | (go_at_call 70; refine h1.mono ?_; rintro e w1 ⟨rfl, hR1, hf1⟩))
    go_ret
    rw [HF.out]
    have hf5 := (hf1.trans hf2).trans hf3
    exact ⟨rfl, ⟨hf5.os, hf5.tape, hf5.output, hf5.size, hf5.block⟩⟩
  · have HF : Hid (finL L P = padL (blkL L true P)) := by rw [Hid, finL, if_neg hP]
    have hpos : 0 < P.length := List.length_pos_iff.2 hP
    have h1 := stored_W h0 true hP (by omega)
    have hbl := blkL_length L true P
    have h3 := fun W (hW : WR W w.heap.size b (blkL L true P) [] (L.length / 8)) => fill_W hW (by omega)
    have h4 := fun W (hW : WR W w.heap.size b (padL (blkL L true P)) [] (L.length / 8)) => take_W hW
    clear h0 k1 hP
    go_enter Try.func61, Try.ntmps61
    go_wp2_with (first
      | (go_at_call 68; refine (h4 _ hR2).mono ?_; rintro e w3 ⟨rfl, hR3, hf3⟩)
      | (go_at_call 71; refine (h3 _ hR1).mono ?_; rintro e w2 ⟨rfl, hR2, hf2⟩)
      | (go_at_call 67; refine h1.mono ?_; rintro e w1 ⟨rfl, hR1, hf1⟩))
    go_ret
    rw [HF.out]
    have hf5 := (hf1.trans hf2).trans hf3
    exact ⟨rfl, ⟨hf5.os, hf5.tape, hf5.output, hf5.size, hf5.block⟩⟩
end
end Go.Proofs.Ytmjigodhncjfjaa
