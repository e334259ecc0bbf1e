import Derived.Test.YtmjigodhncjfjaaE4
namespace Go.Proofs.Ytmjigodhncjfjaa
open Go.RowKit Wr

section
variable {w : World} {B b t : Nat} {L : List Int} {P : List UInt8}

set_option maxRecDepth 100000 in
set_option maxHeartbeats 1000000 in
theorem Note_W (h : W0 w b L P) (x : ByteArray) (hx : x.size ≤ 255) (hL : L.length ≤ 800000000000) :
    Calls Try.prog 60 #[.pointer (some ⟨b, 0, none⟩), .string x] w fun e w' => e = .returned (.string (outStr (outFrom (noteL (letL L P) x.data.toList) (L.length / 8)))) ∧ W0 w' b (noteL (letL L P) x.data.toList) [] ∧ On b w w' := by
  have h0 := h.wr
  have hpl : P.length ≤ 4096 := by obtain ⟨_, _, _, _, _, _, _, q, _⟩ := h0.open; exact q
  have h1 := letOut_W h0 (by omega)
  have hll := letL_length L P
  have hxs : x.data.toList.length = x.size := by simp
  have HF : Hid (noteL (letL L P) x.data.toList = padL (headL (letL L P) false 3 ++ numBits (x.size : Int) 8) ++ byteBits x.data.toList) := by rw [Hid, ← hxs]; rfl
  generalize letL L P = L1 at *
  have hH := headL_length L1 false 3
  have h2 := fun W (hW : WR W w.heap.size b L1 [] (L.length / 8)) => begin_W hW false 3 (by omega) (by omega) (by omega)
  have h3 : ∀ W, WR W w.heap.size b (headL L1 false 3) [] (L.length / 8) → Calls Try.prog 57 #[.pointer (some ⟨b, 0, none⟩), .int .i64 (x.size : Int), .int .i64 8] W fun e w' => e = .returned (.tuple #[]) ∧ WR w' w.heap.size b (headL L1 false 3 ++ numBits (x.size : Int) 8) [] (L.length / 8) ∧ Fr w.heap.size b W w' := fun W hW => number_W hW (x.size : Int) 8 (by omega) (by show (x.size : Int) < 256; omega) (by omega) (by omega)
  have hH2 : (headL L1 false 3 ++ numBits (x.size : Int) 8).length = L1.length + 11 := by rw [List.length_append, numBits_length, hH]
  have h4 := fun W (hW : WR W w.heap.size b (headL L1 false 3 ++ numBits (x.size : Int) 8) [] (L.length / 8)) => fill_W hW (by omega)
  have hH3 := padL_le (headL L1 false 3 ++ numBits (x.size : Int) 8)
  generalize padL (headL L1 false 3 ++ numBits (x.size : Int) 8) = L3 at *
  generalize headL L1 false 3 ++ numBits (x.size : Int) 8 = L2 at *
  generalize headL L1 false 3 = LH at *
  have HS : Hid (x.data.toList.length = x.size) := hxs
  clear h0 h hH hxs
  go_enter Try.func60, Try.ntmps60
  go_wp2_with (first
    | (go_at_call 71; refine (h4 _ hR3).mono ?_; rintro e w4 ⟨rfl, hR4, hf4⟩)
    | (go_at_call 57; refine (h3 _ hR2).mono ?_; rintro e w3 ⟨rfl, hR3, hf3⟩)
    | (go_at_call 70; refine (h2 _ hR1).mono ?_; rintro e w2 ⟨rfl, hR2, hf2⟩)
    | (go_at_call 69; refine h1.mono ?_; rintro e w1 ⟨rfl, hR1, hf1⟩))
  have hF : Fr w.heap.size b w w4 := ((hf1.trans hf2).trans hf3).trans hf4
  clear hR1 hR2 hR3 hf1 hf2 hf3 hf4 h1 h2 h3 h4
  go_loopw [5] (fun vi wr => ∃ k : Nat, k ≤ x.size ∧ vi = .int .i64 k ∧ WR wr w.heap.size b (L3 ++ byteBits (x.data.toList.take k)) [] (L.length / 8) ∧ Fr w.heap.size b w wr) (fun vi _ => x.size - (intOf vi).toNat)
  case atStart =>
    refine ⟨0, by omega, rfl, ?_, hF⟩
    show WR _ w.heap.size b (L3 ++ []) [] _
    rw [List.append_nil]
    exact hR4
  case round =>
    obtain ⟨k, hk, rfl, hRk, hfk⟩ := hrel
    clear hR4 hF
    have hl4 : (byteBits (x.data.toList.take k)).length ≤ 8 * 255 := by
      have := HS.out
      rw [byteBits_length, List.length_take]; omega
    by_cases hlt : k < x.size
    · have hlen : k < x.data.toList.length := by simpa using hlt
      have cb := byte_bounds x[k]
      have HT : Hid (L3 ++ byteBits (x.data.toList.take (k + 1)) = L3 ++ byteBits (x.data.toList.take k) ++ numBits (x[k].toNat : Int) 8) := by
        rw [Hid, byteBits_take _ k hlen, List.append_assoc, List.getD_eq_getElem?_getD, List.getElem?_eq_getElem hlen]
        rfl
      have hN : ∀ (W : World), WR W w.heap.size b (L3 ++ byteBits (x.data.toList.take k)) [] (L.length / 8) → Calls Try.prog 57 #[.pointer (some ⟨b, 0, none⟩), .int .i64 (x[k].toNat : Int), .int .i64 8] W fun e w' => e = .returned (.tuple #[]) ∧ WR w' w.heap.size b (L3 ++ byteBits (x.data.toList.take k) ++ numBits (x[k].toNat : Int) 8) [] (L.length / 8) ∧ Fr w.heap.size b W w' := fun W hW => number_W hW _ 8 cb.1 (by show _ < (256 : Int); omega) (by omega) (by rw [List.length_append]; omega)
      have hw2 : IntKind.i64.wrap (x[k].toNat : Int) = (x[k].toNat : Int) := by rw [IntKind.wrap_i64]; omega
      clear HF hL hH3 hl4 hH2 hll
      go_wp2
      go_region_with (go_at_call 57; refine (hN _ hRk.drew).mono ?_; rintro e w5 ⟨rfl, hR5, hfr5⟩)
      go_wp2
      go_roundw
      case rel => exact ⟨k + 1, by omega, by go_num, by rw [HT.out]; exact hR5, hfk.drew.trans hfr5⟩
      case measure => simp [intOf]; omega
    · have hR5 : WR wr w.heap.size b (L3 ++ byteBits x.data.toList) [] (L.length / 8) := by
        rw [List.take_of_length_le (by have := HS.out; omega)] at hRk
        exact hRk
      have hT := take_W hR5
      clear hRk hR5
      go_wp2_with (first
        | (go_at_call 68; refine hT.mono ?_; rintro e w1 ⟨rfl, hR1, hf1⟩))
      go_ret
      rw [HF.out]
      have hf2 := hfk.trans hf1
      exact ⟨rfl, hR1, ⟨hf2.os, hf2.tape, hf2.output, hf2.size, hf2.block⟩⟩

/-- a number that makes no byte -/
theorem small_W {s : Wt} {v : Value} (hr : WRow w b s v) (x n : Int) (h1 : s.have_ = 0) (h3 : s.hold = 0) (h5 : 0 ≤ x) (h6 : x < 4096) (h7 : 0 ≤ n) (h8 : n ≤ 7) :
    Calls Try.prog 57 #[.pointer (some ⟨b, 0, none⟩), .int .i64 x, .int .i64 n] w fun e w' => e = .returned (.tuple #[]) ∧ WRow w' b { s with hold := x, have_ := n } v ∧ On b w w' := by
  have c0 := hr.c_hold
  have c1 := hr.c_have
  have hfz := hr.free
  rw [h3] at c0
  rw [h1] at c1
  clear h1 h3
  go_enter Try.func57, Try.ntmps57
  go_wp2
  go_region
  go_wp2
  go_loopg [] 0 (fun g wr => wr = ((w.setCell ⟨b, 1, none⟩ (.int .i64 x)).setCell ⟨b, 2, none⟩ (.int .i64 n)).drew)
  case atStart => rfl
  case round =>
    subst hrel
    go_wp2
    go_end0
    exact ⟨rfl, (hr.hold x).have_ n, (((On.refl b w).set _ _).set _ _).drew⟩
end

def initWt : Wt := ⟨[], 0, 0, fun _ => 0, 0⟩
def writerCells : Array Value := ((List.range 4100).map (wtCells initWt (.slice none 0 0))).toArray
theorem writer_cells : Try.zeroCells118 = writerCells := by kernel_rfl
theorem writerCells_size : writerCells.size = 4100 := by simp [writerCells]
theorem writer_row (w : World) : WRow (w.alloc (.cells writerCells 118)) w.heap.size initWt (.slice none 0 0) := by
  have h := World.rowIs_alloc w writerCells 118 (wtCells initWt (.slice none 0 0)) (fun i hi => by
    rw [writerCells_size] at hi
    unfold writerCells
    simp [hi])
  rw [writerCells_size] at h
  exact h
theorem rel_init (x : Int) (h0 : 0 ≤ x) (h8 : x ≤ 8) : Rel { initWt with hold := x, have_ := 4 } (numBits x 4) [] 0 := by
  have hv : Wr.valOf (numBits x 4) = x := valOf_num_lt h0 (by show x < 16; omega)
  have hl := numBits_length x 4
  refine ⟨numBits_isBits _ _, by rw [hl]; rfl, ?_, ?_, Nat.zero_le _, rfl, fun i hi => absurd hi (by simp), by simp⟩
  · rw [hl, hv]
    show x = x / 2 ^ 0
    rw [Int.pow_zero, Int.ediv_one]
  · unfold outFrom
    rw [hl]
    rfl

set_option maxRecDepth 100000 in
set_option maxHeartbeats 1000000 in
theorem wNew_any (w : World) (x : Int) (h0 : 0 ≤ x) (h8 : x ≤ 8) : Calls Try.prog 42 #[.int .i64 x] w fun e w' => ∃ b, e = .returned (.pointer (some ⟨b, 0, none⟩)) ∧ w.heap.size ≤ b ∧ W0 w' b (numBits x 4) [] ∧ Below w.heap.size w w' := by
  have hrow := writer_row w
  rw [← writer_cells] at hrow
  have hS := small_W hrow x 4 rfl rfl h0 (by omega) (by omega) (by omega)
  go_enter Try.func42, Try.ntmps42
  go_wp2_with (first
    | (go_at_call 57; refine hS.mono ?_; rintro e w1 ⟨rfl, hR1, hf1⟩))
  go_ret
  refine ⟨w.heap.size, rfl, Nat.le_refl _, ⟨_, hR1, ?_⟩, ?_⟩
  · rw [numBits_length]
    exact rel_init x h0 h8
  · have hsz : (w.alloc (.cells Try.zeroCells118 118)).heap.size = w.heap.size + 1 := by simp
    exact ⟨hf1.os, hf1.tape, hf1.output, by have := hf1.size; omega, fun k hk => (hf1.block k (by omega) (by omega)).trans (Below.heap_alloc _ _ _ hk)⟩
end Go.Proofs.Ytmjigodhncjfjaa
