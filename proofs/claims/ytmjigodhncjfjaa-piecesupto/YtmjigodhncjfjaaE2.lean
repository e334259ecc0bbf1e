import Derived.Test.YtmjigodhncjfjaaE1
import Derived.Test.YtmjigodhncjfjaaPlainP2
namespace Go.Proofs.Ytmjigodhncjfjaa
open Go.RowKit Wr

/-- what has come of the bits since byte t -/
def outFrom (L : List Int) (t : Nat) : List Int := (List.range (L.length / 8 - t)).map fun j => Wr.valOf L / 2 ^ (8 * (t + j)) % 256

theorem val_more (L : List Int) {v : Int} {n : Nat} (h0 : 0 ≤ v) (h1 : v < 2 ^ n) : Wr.valOf (L ++ numBits v n) = Wr.valOf L + 2 ^ L.length * v := by
  rw [valOf_append, valOf_num_lt h0 h1]
theorem byte_same (a : Int) (x : Int) (m k : Nat) (h : 8 * k + 8 ≤ m) : (a + 2 ^ m * x) / 2 ^ (8 * k) % 256 = a / 2 ^ (8 * k) % 256 := by
  have hp := pow_pos2 (8 * k)
  have e : (2 : Int) ^ m * x = (2 ^ (m - 8 * k - 8) * x * 256) * 2 ^ (8 * k) := by
    have e1 : (2 : Int) ^ m = 2 ^ (m - 8 * k - 8) * 256 * 2 ^ (8 * k) := by
      have : (256 : Int) = 2 ^ 8 := rfl
      rw [this, ← pow_add2, ← pow_add2, show m - 8 * k - 8 + 8 + 8 * k = m by omega]
    rw [e1]
    simp only [Int.mul_comm, Int.mul_left_comm]
  rw [e, Int.add_mul_ediv_right _ _ (by omega), Int.add_mul_emod_self_right]
theorem outFrom_more (L X : List Int) (t : Nat) (ht : t ≤ L.length / 8) : outFrom (L ++ X) t = outFrom L t ++ outFrom (L ++ X) (L.length / 8) := by
  unfold outFrom
  have hl : (L ++ X).length = L.length + X.length := List.length_append
  rw [show (L ++ X).length / 8 - t = (L.length / 8 - t) + ((L ++ X).length / 8 - L.length / 8) by omega, List.range_add, List.map_append, List.map_map]
  congr 1
  · refine List.map_congr_left fun j hj => ?_
    have hj' := List.mem_range.1 hj
    rw [valOf_append]
    exact byte_same _ _ _ _ (by omega)
  · refine List.map_congr_left fun j _ => ?_
    show Wr.valOf (L ++ X) / 2 ^ (8 * (t + (L.length / 8 - t + j))) % 256 = _
    rw [show t + (L.length / 8 - t + j) = L.length / 8 + j by omega]

structure Rel (s : Wt) (L : List Int) (P : List UInt8) (t : Nat) : Prop where
  bits : isBits L
  have_ : s.have_ = (L.length % 8 : Nat)
  hold : s.hold = Wr.valOf L / 2 ^ (8 * (L.length / 8))
  out : s.out = outFrom L t
  le : t ≤ L.length / 8
  count : s.count = P.length
  wait : ∀ i, i < P.length → s.wait i = ((P.getD i 0).toNat : Int)
  plen : P.length ≤ 4096

theorem Rel.bounds {s : Wt} {L : List Int} {P : List UInt8} {t : Nat} (h : Rel s L P t) : 0 ≤ s.have_ ∧ s.have_ < 8 ∧ 0 ≤ s.hold ∧ s.hold < 2 ^ (L.length % 8) ∧ s.hold < 256 ∧ s.out.length ≤ L.length / 8 := by
  have vb := valOf_bounds _ h.bits
  have hp := pow_pos2 (8 * (L.length / 8))
  have e : (2 : Int) ^ L.length = 2 ^ (L.length % 8) * 2 ^ (8 * (L.length / 8)) := by rw [← pow_add2, show L.length % 8 + 8 * (L.length / 8) = L.length by omega]
  have hb : Wr.valOf L / 2 ^ (8 * (L.length / 8)) < 2 ^ (L.length % 8) := Int.ediv_lt_of_lt_mul (by omega) (by rw [← e]; exact vb.2)
  have h8 : (2 : Int) ^ (L.length % 8) ≤ 2 ^ 7 := pow_mono (by omega)
  have h9 : (2 : Int) ^ 7 = 128 := rfl
  rw [h.have_, h.hold, h.out]
  refine ⟨by omega, by omega, Int.ediv_nonneg vb.1 (by omega), hb, by omega, ?_⟩
  unfold outFrom
  rw [List.length_map, List.length_range]
  omega

theorem Rel.num {s : Wt} {L : List Int} {P : List UInt8} {t : Nat} (h : Rel s L P t) {v : Int} {n : Nat} (h0 : 0 ≤ v) (h1 : v < 2 ^ n) : Rel (numP s v n) (L ++ numBits v n) P t := by
  have hV := val_more L h0 h1
  have hlen : (L ++ numBits v n).length = L.length + n := by rw [List.length_append, numBits_length]
  have hm : ((s.have_ + n) / 8).toNat = (L.length + n) / 8 - L.length / 8 := by rw [h.have_]; omega
  have hp := pow_pos2 (8 * (L.length / 8))
  have e : (2 : Int) ^ L.length = 2 ^ (8 * (L.length / 8)) * 2 ^ (L.length % 8) := by rw [← pow_add2, show 8 * (L.length / 8) + L.length % 8 = L.length by omega]
  have eh : s.hold + v * 2 ^ s.have_.toNat = Wr.valOf (L ++ numBits v n) / 2 ^ (8 * (L.length / 8)) := by
    rw [hV, e, Int.mul_assoc, Int.add_mul_ediv_left _ _ (by omega), h.hold, h.have_, Int.toNat_natCast, Int.mul_comm v]
  have dd : ∀ k : Nat, Wr.valOf (L ++ numBits v n) / 2 ^ (8 * (L.length / 8)) / 2 ^ (8 * k) = Wr.valOf (L ++ numBits v n) / 2 ^ (8 * (L.length / 8 + k)) := by
    intro k
    rw [Int.ediv_ediv_of_nonneg (by omega), ← pow_add2, show 8 * (L.length / 8) + 8 * k = 8 * (L.length / 8 + k) by omega]
  refine ⟨isBits_cat h.bits (numBits_isBits _ _), ?_, ?_, ?_, ?_, h.count, h.wait, h.plen⟩
  · show s.have_ + n - 8 * ((((s.have_ + n) / 8).toNat : Nat) : Int) = _
    rw [hm, hlen, h.have_]
    omega
  · show (s.hold + v * 2 ^ s.have_.toNat) / 2 ^ (8 * ((s.have_ + n) / 8).toNat) = _
    rw [eh, dd, hm, hlen, show L.length / 8 + ((L.length + n) / 8 - L.length / 8) = (L.length + n) / 8 by omega]
  · show s.out ++ (List.range ((s.have_ + n) / 8).toNat).map (fun i => (s.hold + v * 2 ^ s.have_.toNat) / 2 ^ (8 * i) % 256) = _
    rw [outFrom_more L _ t h.le, h.out, eh, hm]
    congr 1
    unfold outFrom
    rw [hlen]
    exact List.map_congr_left fun j _ => by rw [dd]
  · rw [hlen]
    have := h.le
    omega

/-- the writer lies in block b: bits L so far, P waits; t bytes were taken -/
def WR (w : World) (B b : Nat) (L : List Int) (P : List UInt8) (t : Nat) : Prop := ∃ s, WRep w B b s ∧ Rel s L P t
/-- at rest: all bytes were taken -/
def W0 (w : World) (b : Nat) (L : List Int) (P : List UInt8) : Prop := ∃ s, WRow w b s (.slice none 0 0) ∧ Rel s L P (L.length / 8)
theorem outFrom_all (L : List Int) : outFrom L (L.length / 8) = [] := by unfold outFrom; rw [Nat.sub_self]; rfl
theorem W0.wr {w : World} {b : Nat} {L : List Int} {P : List UInt8} (h : W0 w b L P) : WR w w.heap.size b L P (L.length / 8) := by
  obtain ⟨s, hr, hl⟩ := h
  refine ⟨s, ⟨hr.lt, Nat.le_refl _, _, hr, ?_⟩, hl⟩
  rw [hl.out, outFrom_all]
  exact World.ownsRow_nil _ _ _ _

def fillN (n : Nat) : Nat := (8 - n % 8) % 8
def padL (L : List Int) : List Int := L ++ numBits 0 (fillN L.length)

section
variable {w : World} {B b t : Nat} {L : List Int} {P : List UInt8}

theorem number_W (h : WR w B b L P t) (v : Int) (n : Nat) (h0 : 0 ≤ v) (h1 : v < 2 ^ n) (hn : n ≤ 12) (hL : L.length ≤ 1099511627776) :
    Calls Try.prog 57 #[.pointer (some ⟨b, 0, none⟩), .int .i64 v, .int .i64 n] w fun e w' => e = .returned (.tuple #[]) ∧ WR w' B b (L ++ numBits v n) P t ∧ Fr B b w w' := by
  obtain ⟨s, hR, hl⟩ := h
  have hb := hl.bounds
  have h2 : (2 : Int) ^ n ≤ 2 ^ 12 := pow_mono hn
  have h3 : (2 : Int) ^ 12 = 4096 := rfl
  refine (number_any hR v n hb.1 hb.2.1 hb.2.2.1 hb.2.2.2.2.1 h0 (by omega) (by omega) (by omega) (by omega)).mono ?_
  rintro e w' ⟨rfl, hR', hf⟩
  exact ⟨rfl, ⟨_, hR', hl.num h0 h1⟩, hf⟩
theorem fill_W (h : WR w B b L P t) (hL : L.length ≤ 1099511627776) :
    Calls Try.prog 71 #[.pointer (some ⟨b, 0, none⟩)] w fun e w' => e = .returned (.tuple #[]) ∧ WR w' B b (padL L) P t ∧ Fr B b w w' := by
  obtain ⟨s, hR, hl⟩ := h
  have hb := hl.bounds
  refine (wfill_any hR hb.1 hb.2.1 hb.2.2.1 hb.2.2.2.2.1 (by omega)).mono ?_
  rintro e w' ⟨rfl, hR', hf⟩
  refine ⟨rfl, ⟨_, hR', ?_⟩, hf⟩
  have hh := hl.have_
  unfold padL
  split
  · have e : (8 : Int) - s.have_ = (fillN L.length : Nat) := by unfold fillN; omega
    rw [e]
    exact hl.num (Int.le_refl _) (pow_pos2 _)
  · have e : fillN L.length = 0 := by unfold fillN; omega
    rw [e]
    show Rel s (L ++ []) P t
    rw [List.append_nil]
    exact hl
theorem take_W (h : WR w B b L P t) :
    Calls Try.prog 68 #[.pointer (some ⟨b, 0, none⟩)] w fun e w' => e = .returned (.string (outStr (outFrom L t))) ∧ W0 w' b L P ∧ Fr B b w w' := by
  obtain ⟨s, hR, hl⟩ := h
  refine (wtake_any hR).mono ?_
  rintro e w' ⟨rfl, hR', hf⟩
  rw [hl.out]
  exact ⟨rfl, ⟨_, hR', ⟨hl.bits, hl.have_, hl.hold, (outFrom_all L).symm, Nat.le_refl _, hl.count, hl.wait, hl.plen⟩⟩, hf⟩
end
end Go.Proofs.Ytmjigodhncjfjaa
