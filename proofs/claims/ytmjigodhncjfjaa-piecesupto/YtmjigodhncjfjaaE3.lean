import Derived.Test.YtmjigodhncjfjaaE2
namespace Go.Proofs.Ytmjigodhncjfjaa
open Go.RowKit Wr

def lastI (l : Bool) : Int := if l then 1 else 0
def headL (L : List Int) (l : Bool) (kind : Int) : List Int := L ++ numBits (lastI l) 1 ++ numBits kind 2
/-- a stored block -/
def blkL (L : List Int) (l : Bool) (P : List UInt8) : List Int := padL (headL L l 1 ++ numBits ((P.length : Int) - 1) 12) ++ byteBits P
def noteL (L : List Int) (P : List UInt8) : List Int := padL (headL L false 3 ++ numBits (P.length : Int) 8) ++ byteBits P
def emptyL (L : List Int) (l : Bool) : List Int := padL (headL L l 0)
theorem headL_length (L : List Int) (l : Bool) (kind : Int) : (headL L l kind).length = L.length + 3 := by
  unfold headL
  rw [List.length_append, List.length_append, numBits_length, numBits_length]
theorem padL_length (L : List Int) : (padL L).length = L.length + fillN L.length := by
  unfold padL
  rw [List.length_append, numBits_length]
theorem padL_whole (L : List Int) : (padL L).length % 8 = 0 := by
  rw [padL_length]
  unfold fillN
  omega
theorem padL_le (L : List Int) : (padL L).length ≤ L.length + 7 := by
  rw [padL_length]
  unfold fillN
  omega

section
variable {w : World} {B b t : Nat} {L : List Int} {P : List UInt8}

set_option maxHeartbeats 400000 in
theorem begin_W (h : WR w B b L P t) (l : Bool) (kind : Int) (h0 : 0 ≤ kind) (h3 : kind < 4) (hL : L.length ≤ 1000000000000) :
    Calls Try.prog 70 #[.pointer (some ⟨b, 0, none⟩), .int .i64 kind, .bool l] w fun e w' => e = .returned (.tuple #[]) ∧ WR w' B b (headL L l kind) P t ∧ Fr B b w w' := by
  have h1 := number_W h (lastI l) 1 (by cases l <;> decide) (by cases l <;> decide) (by omega) (by omega)
  have h2 := fun (W : World) (hW : WR W B b (L ++ numBits (lastI l) 1) P t) => number_W hW kind 2 h0 h3 (by omega) (by rw [List.length_append, numBits_length]; omega)
  unfold headL
  cases l
  all_goals
    go_enter Try.func70, Try.ntmps70
    go_wp2_with (first
      | (go_at_call_of 57 (Value.int .i64 2); refine (h2 _ hR1).mono ?_; rintro e w2 ⟨rfl, hR2, hfr2⟩)
      | (go_at_call 57; refine h1.mono ?_; rintro e w1 ⟨rfl, hR1, hfr1⟩))
    go_end0
    exact ⟨rfl, hR2, hfr1.trans hfr2⟩

theorem WR.drew (h : WR w B b L P t) : WR w.drew B b L P t := h
theorem WR.open (h : WR w B b L P t) : ∃ s v, WRow w b s v ∧ b < B ∧ B ≤ w.heap.size ∧ s.count = P.length ∧ s.have_ = (L.length % 8 : Nat) ∧ P.length ≤ 4096 ∧ (∀ i, i < P.length → s.wait i = ((P.getD i 0).toNat : Int)) := by
  obtain ⟨s, ⟨h1, h2, v, h3, _⟩, hl⟩ := h
  exact ⟨s, v, h3, h1, h2, hl.count, hl.have_, hl.plen, hl.wait⟩
theorem byteBits_take (P : List UInt8) (i : Nat) (h : i < P.length) : byteBits (P.take (i + 1)) = byteBits (P.take i) ++ numBits ((P.getD i 0).toNat : Int) 8 := by
  rw [List.take_add_one, byteBits_append, List.getD_eq_getElem?_getD, List.getElem?_eq_getElem h]
  show _ ++ (numBits _ 8 ++ []) = _
  rw [List.append_nil]
  rfl

theorem WR.empty (h : WR w B b L P t) : WR (w.setCell ⟨b, 4099, none⟩ (.int .i64 0)) B b L [] t := by
  obtain ⟨s, ⟨h1, h2, v, h3, h4⟩, hl⟩ := h
  have hon := (On.refl b w).set 4099 (.int .i64 0)
  exact ⟨{ s with count := 0 }, ⟨h1, Nat.le_trans h2 hon.size, v, h3.count 0, hon.owns h1 h4⟩, ⟨hl.bits, hl.have_, hl.hold, hl.out, hl.le, rfl, fun i hi => absurd hi (by simp), by simp⟩⟩

set_option maxRecDepth 100000 in
set_option maxHeartbeats 300000 in
theorem stored_W (h : WR w B b L P t) (l : Bool) (hP : P ≠ []) (hL : L.length ≤ 900000000000) :
    Calls Try.prog 67 #[.pointer (some ⟨b, 0, none⟩), .bool l] w fun e w' => e = .returned (.tuple #[]) ∧ WR w' B b (blkL L l P) [] t ∧ Fr B b w w' := by
  have hpos : 0 < P.length := List.length_pos_iff.2 hP
  have hpl : P.length ≤ 4096 := by obtain ⟨_, _, _, _, _, _, _, q, _⟩ := h.open; exact q
  have hH := headL_length L l 1
  have h1 := begin_W h l 1 (by omega) (by omega) (by omega)
  have h2 : ∀ (W : World), WR W B b (headL L l 1) P t → Calls Try.prog 57 #[.pointer (some ⟨b, 0, none⟩), .int .i64 ((P.length : Int) - 1), .int .i64 12] W fun e w' => e = .returned (.tuple #[]) ∧ WR w' B b (headL L l 1 ++ numBits ((P.length : Int) - 1) 12) P t ∧ Fr B b W w' := fun W hW => number_W hW ((P.length : Int) - 1) 12 (by omega) (by show (P.length : Int) - 1 < 4096; omega) (by omega) (by omega)
  have hH2 : (headL L l 1 ++ numBits ((P.length : Int) - 1) 12).length = L.length + 15 := by rw [List.length_append, numBits_length, hH]
  have h3 := fun (W : World) (hW : WR W B b (headL L l 1 ++ numBits ((P.length : Int) - 1) 12) P t) => fill_W hW (by omega)
  have hH3 := padL_le (headL L l 1 ++ numBits ((P.length : Int) - 1) 12)
  have HB : Hid (blkL L l P = padL (headL L l 1 ++ numBits ((P.length : Int) - 1) 12) ++ byteBits P) := rfl
  generalize padL (headL L l 1 ++ numBits ((P.length : Int) - 1) 12) = L3 at *
  generalize headL L l 1 ++ numBits ((P.length : Int) - 1) 12 = L2 at *
  generalize headL L l 1 = L1 at *
  obtain ⟨n, hn⟩ : ∃ n : Int, n = P.length := ⟨_, rfl⟩
  rw [← hn] at h2
  have HN : Hid (n = P.length) := hn
  have hn1 : 1 ≤ n ∧ n ≤ 4096 := by omega
  have hk : ∀ (W : World), WR W B b L1 P t → W.cell? ⟨b, 4099, none⟩ = some (.int .i64 n) := by
    intro W hW
    obtain ⟨s1, v1, r1, _, _, k1, _, _, _⟩ := hW.open
    have c1 := r1.c_count
    rw [k1, ← hn] at c1
    exact c1
  have hw : IntKind.i64.wrap (n - 1) = n - 1 := by rw [IntKind.wrap_i64]; omega
  clear hn hpos hP h hH
  go_enter Try.func67, Try.ntmps67
  go_wp2_with (first
    | (go_at_call 70; refine h1.mono ?_; rintro e w1 ⟨rfl, hR1, hfr1⟩; have c1 := hk _ hR1))
  clear hk
  go_region_with (go_at_call 57; refine (h2 _ hR1.drew).mono ?_; rintro e w2 ⟨rfl, hR2, hfr2⟩)
  clear c1 h1 h2
  go_wp2_with (first
    | (go_at_call 71; refine (h3 _ hR2).mono ?_; rintro e w3 ⟨rfl, hR3, hfr3⟩))
  have hF : Fr B b w w3 := (hfr1.drew.trans hfr2).trans hfr3
  clear hR1 hR2 hfr1 hfr2 hfr3 h3
  go_loopw [4] (fun vi wr => ∃ i : Nat, i ≤ P.length ∧ vi = .int .i64 i ∧ WR wr B b (L3 ++ byteBits (P.take i)) P t ∧ Fr B b w wr) (fun vi _ => P.length - (intOf vi).toNat)
  case atStart =>
    refine ⟨0, by omega, rfl, ?_, hF⟩
    show WR _ B b (L3 ++ []) P t
    rw [List.append_nil]
    exact hR3
  case round =>
    obtain ⟨i, hi, rfl, hRi, hfi⟩ := hrel
    clear hR3 hF
    obtain ⟨s1, v1, r1, hbB, hBw, k1, _, _, kw⟩ := hRi.open
    have c1 := r1.c_count
    rw [k1] at c1
    have hfz := r1.free
    by_cases hlt : i < P.length
    · have c2 := r1.c_wait i (by omega)
      rw [kw i hlt] at c2
      have cb := byte_bounds (P.getD i 0)
      have HT : Hid (L3 ++ byteBits (P.take (i + 1)) = L3 ++ byteBits (P.take i) ++ numBits ((P.getD i 0).toNat : Int) 8) := by rw [Hid, byteBits_take P i hlt, List.append_assoc]
      have hl4 : (byteBits (P.take i)).length ≤ 8 * 4096 := by rw [byteBits_length, List.length_take]; omega
      have hN : ∀ (W : World), WR W B b (L3 ++ byteBits (P.take i)) P t → Calls Try.prog 57 #[.pointer (some ⟨b, 0, none⟩), .int .i64 ((P.getD i 0).toNat : Int), .int .i64 8] W fun e w' => e = .returned (.tuple #[]) ∧ WR w' B b (L3 ++ byteBits (P.take i) ++ numBits ((P.getD i 0).toNat : Int) 8) P t ∧ Fr B b W w' := fun W hW => number_W hW _ 8 cb.1 (by show _ < (256 : Int); omega) (by omega) (by rw [List.length_append]; omega)
      clear kw r1 k1
      generalize ((P.getD i 0).toNat : Int) = c at *
      have hw2 : IntKind.i64.wrap c = c := by rw [IntKind.wrap_i64]; omega
      clear HB HN hw hL hH3 hl4
      go_wp2
      go_region_with (go_at_call 57; refine (hN _ hRi.drew).mono ?_; rintro e w4 ⟨rfl, hR4, hfr4⟩)
      go_wp2
      go_roundw
      case rel => exact ⟨i + 1, by omega, by go_num, by rw [HT.out]; exact hR4, hfi.drew.trans hfr4⟩
      case measure => simp [intOf]; omega
    · have hil : i = P.length := by omega
      have hR5 : WR wr B b (L3 ++ byteBits P) P t := by
        rw [hil, List.take_length] at hRi
        exact hRi
      have hR6 := hR5.empty
      rw [hil]
      clear hRi
      go_wp2
      go_end0
      rw [HB.out]
      exact ⟨rfl, hR6, hfi.set _ _⟩
end
end Go.Proofs.Ytmjigodhncjfjaa
