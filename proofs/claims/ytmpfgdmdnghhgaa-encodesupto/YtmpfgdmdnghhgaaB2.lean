import Derived.Test.YtmpfgdmdnghhgaaB1
import Derived.Test.YtmpfgdmdnghhgaaRing
/- A ROW OF BITS, AS A LIST OF BITS. -/
namespace Go.Proofs.Ytmpfgdmdnghhgaa
open Go.RowKit Wr

/-- what has come of the bits since byte t -/
def outFrom (L : List Int) (t : Nat) : List Int := (List.range (L.length / 8 - t)).map fun j => Wr.valOf L / 2 ^ (8 * (t + j)) % 256

theorem val_more (L : List Int) {v : Int} {n : Nat} (h0 : 0 ≤ v) (h1 : v < 2 ^ n) : Wr.valOf (L ++ numBits v n) = Wr.valOf L + 2 ^ L.length * v := by
  rw [valOf_append, valOf_num_lt h0 h1]
theorem byte_same (a : Int) (x : Int) (m k : Nat) (h : 8 * k + 8 ≤ m) : (a + 2 ^ m * x) / 2 ^ (8 * k) % 256 = a / 2 ^ (8 * k) % 256 := by
  have hp := pow_pos2 (8 * k)
  have e : (2 : Int) ^ m * x = (2 ^ (m - 8 * k - 8) * x * 256) * 2 ^ (8 * k) := by
    have e1 : (2 : Int) ^ m = 2 ^ (m - 8 * k - 8) * 256 * 2 ^ (8 * k) := by
      have : (256 : Int) = 2 ^ 8 := rfl
      rw [this, ← pow_add2, ← pow_add2, show m - 8 * k - 8 + 8 + 8 * k = m by omega]
    rw [e1]
    simp only [Int.mul_comm, Int.mul_left_comm]
  rw [e, Int.add_mul_ediv_right _ _ (by omega), Int.add_mul_emod_self_right]
theorem outFrom_more (L X : List Int) (t : Nat) (ht : t ≤ L.length / 8) : outFrom (L ++ X) t = outFrom L t ++ outFrom (L ++ X) (L.length / 8) := by
  unfold outFrom
  have hl : (L ++ X).length = L.length + X.length := List.length_append
  rw [show (L ++ X).length / 8 - t = (L.length / 8 - t) + ((L ++ X).length / 8 - L.length / 8) by omega, List.range_add, List.map_append, List.map_map]
  congr 1
  · refine List.map_congr_left fun j hj => ?_
    have hj' := List.mem_range.1 hj
    rw [valOf_append]
    exact byte_same _ _ _ _ (by omega)
  · refine List.map_congr_left fun j _ => ?_
    show Wr.valOf (L ++ X) / 2 ^ (8 * (t + (L.length / 8 - t + j))) % 256 = _
    rw [show t + (L.length / 8 - t + j) = L.length / 8 + j by omega]

structure RelB (s : Br) (L : List Int) (t : Nat) : Prop where
  bits : isBits L
  have_ : s.have_ = (L.length % 8 : Nat)
  hold : s.hold = Wr.valOf L / 2 ^ (8 * (L.length / 8))
  out : s.out = outFrom L t
  le : t ≤ L.length / 8
theorem RelB.bounds {s : Br} {L : List Int} {t : Nat} (h : RelB s L t) : 0 ≤ s.have_ ∧ s.have_ < 8 ∧ 0 ≤ s.hold ∧ s.hold < 2 ^ (L.length % 8) ∧ s.hold < 256 ∧ s.out.length = L.length / 8 - t := by
  have vb := valOf_bounds _ h.bits
  have hp := pow_pos2 (8 * (L.length / 8))
  have e : (2 : Int) ^ L.length = 2 ^ (L.length % 8) * 2 ^ (8 * (L.length / 8)) := by rw [← pow_add2, show L.length % 8 + 8 * (L.length / 8) = L.length by omega]
  have hb : Wr.valOf L / 2 ^ (8 * (L.length / 8)) < 2 ^ (L.length % 8) := Int.ediv_lt_of_lt_mul (by omega) (by rw [← e]; exact vb.2)
  have h8 : (2 : Int) ^ (L.length % 8) ≤ 2 ^ 7 := pow_mono (by omega)
  have h9 : (2 : Int) ^ 7 = 128 := rfl
  rw [h.have_, h.hold, h.out]
  refine ⟨by omega, by omega, Int.ediv_nonneg vb.1 (by omega), hb, by omega, ?_⟩
  unfold outFrom
  rw [List.length_map, List.length_range]
theorem RelB.num {s : Br} {L : List Int} {t : Nat} (h : RelB s L t) {v : Int} {n : Nat} (h0 : 0 ≤ v) (h1 : v < 2 ^ n) : RelB (numP s v n) (L ++ numBits v n) t := by
  have hV := val_more L h0 h1
  have hlen : (L ++ numBits v n).length = L.length + n := by rw [List.length_append, numBits_length]
  have hm : ((s.have_ + n) / 8).toNat = (L.length + n) / 8 - L.length / 8 := by rw [h.have_]; omega
  have hp := pow_pos2 (8 * (L.length / 8))
  have e : (2 : Int) ^ L.length = 2 ^ (8 * (L.length / 8)) * 2 ^ (L.length % 8) := by rw [← pow_add2, show 8 * (L.length / 8) + L.length % 8 = L.length by omega]
  have eh : s.hold + v * 2 ^ s.have_.toNat = Wr.valOf (L ++ numBits v n) / 2 ^ (8 * (L.length / 8)) := by
    rw [hV, e, Int.mul_assoc, Int.add_mul_ediv_left _ _ (by omega), h.hold, h.have_, Int.toNat_natCast, Int.mul_comm v]
  have dd : ∀ k : Nat, Wr.valOf (L ++ numBits v n) / 2 ^ (8 * (L.length / 8)) / 2 ^ (8 * k) = Wr.valOf (L ++ numBits v n) / 2 ^ (8 * (L.length / 8 + k)) := by
    intro k
    rw [Int.ediv_ediv_of_nonneg (by omega), ← pow_add2, show 8 * (L.length / 8) + 8 * k = 8 * (L.length / 8 + k) by omega]
  refine ⟨isBits_cat h.bits (numBits_isBits _ _), ?_, ?_, ?_, ?_⟩
  · show s.have_ + n - 8 * ((((s.have_ + n) / 8).toNat : Nat) : Int) = _
    rw [hm, hlen, h.have_]
    omega
  · show (s.hold + v * 2 ^ s.have_.toNat) / 2 ^ (8 * ((s.have_ + n) / 8).toNat) = _
    rw [eh, dd, hm, hlen, show L.length / 8 + ((L.length + n) / 8 - L.length / 8) = (L.length + n) / 8 by omega]
  · show s.out ++ (List.range ((s.have_ + n) / 8).toNat).map (fun i => (s.hold + v * 2 ^ s.have_.toNat) / 2 ^ (8 * i) % 256) = _
    rw [outFrom_more L _ t h.le, h.out, eh, hm]
    congr 1
    unfold outFrom
    rw [hlen]
    exact List.map_congr_left fun j _ => by rw [dd]
  · rw [hlen]
    have := h.le
    omega

theorem outFrom_all (L : List Int) : outFrom L (L.length / 8) = [] := by unfold outFrom; rw [Nat.sub_self]; rfl
def fillN (n : Nat) : Nat := (8 - n % 8) % 8
def padL (L : List Int) : List Int := L ++ numBits 0 (fillN L.length)

/-- a row of bits lies in block b: L so far; t bytes were taken -/
def BB (w : World) (T : TypeId) (n : Nat) (F : Value → Int → Int → Nat → Value) (b : Nat) (L : List Int) (t : Nat) (v : Value) : Prop := ∃ s, BRep w T n F b s v ∧ RelB s L t

section
variable {w : World} {T : TypeId} {n0 : Nat} {F : Value → Int → Int → Nat → Value} {b t : Nat} {L : List Int} {v : Value}
theorem BB.lt (h : BB w T n0 F b L t v) : b < w.heap.size := by
  obtain ⟨s, h, _⟩ := h
  exact World.rowIs.lt h.1
theorem BB.keep {w' : World} {A : Nat → Prop} (h : BB w T n0 F b L t v) (k : Tch A w w') (h1 : ¬ A b) (h2 : ∀ g, v.ownBlock = some g → ¬ A g) : BB w' T n0 F b L t v := by
  obtain ⟨s, ⟨a1, a2, a3⟩, h⟩ := h
  exact ⟨s, ⟨k.rowIs a1 h1, k.owns a2 h2, a3⟩, h⟩
theorem number_B (hF : IsBox F n0) (h : BB w T n0 F b L t v) (x : Int) (n : Nat) (h0 : 0 ≤ x) (h1 : x < 2 ^ n) (hn : n ≤ 12) (hL : L.length ≤ 1099511627776) :
    Calls Try.prog 43 #[.pointer (some ⟨b, 0, none⟩), .int .i64 x, .int .i64 n] w fun e w' => e = .returned (.tuple #[]) ∧ ∃ v', BB w' T n0 F b (L ++ numBits x n) t v' ∧ Own w v v' ∧ Tch (BT b v) w w' := by
  obtain ⟨s, hR, hl⟩ := h
  have hb := hl.bounds
  have h2 : (2 : Int) ^ n ≤ 2 ^ 12 := pow_mono hn
  have h3 : (2 : Int) ^ 12 = 4096 := rfl
  refine (bnum_any hF hR x n hb.1 hb.2.1 hb.2.2.1 hb.2.2.2.2.1 h0 (by omega) (by omega) (by omega) (by omega)).mono ?_
  rintro e w' ⟨rfl, v', hR', ho, hf⟩
  exact ⟨rfl, v', ⟨_, hR', hl.num h0 h1⟩, ho, hf⟩
theorem fill_B (hF : IsBox F n0) (h : BB w T n0 F b L t v) (hL : L.length ≤ 1099511627776) :
    Calls Try.prog 58 #[.pointer (some ⟨b, 0, none⟩)] w fun e w' => e = .returned (.tuple #[]) ∧ ∃ v', BB w' T n0 F b (padL L) t v' ∧ Own w v v' ∧ Tch (BT b v) w w' := by
  obtain ⟨s, hR, hl⟩ := h
  have hb := hl.bounds
  refine (bfill_any hF hR hb.1 hb.2.1 hb.2.2.1 hb.2.2.2.2.1 (by omega)).mono ?_
  rintro e w' ⟨rfl, v', hR', ho, hf⟩
  refine ⟨rfl, v', ⟨_, hR', ?_⟩, ho, hf⟩
  have hh := hl.have_
  unfold padL
  split
  · have e : (8 : Int) - s.have_ = (fillN L.length : Nat) := by unfold fillN; omega
    rw [e]
    exact hl.num (Int.le_refl _) (pow_pos2 _)
  · have e : fillN L.length = 0 := by unfold fillN; omega
    rw [e]
    show RelB s (L ++ []) t
    rw [List.append_nil]
    exact hl
theorem even_B (hF : IsBox F n0) (h : BB w T n0 F b L t v) :
    Calls Try.prog 56 #[.pointer (some ⟨b, 0, none⟩)] w fun e w' => e = .returned (.bool (decide (L.length % 8 = 0))) ∧ w' = w := by
  obtain ⟨s, hR, hl⟩ := h
  have hh := hl.have_
  have e : decide (s.have_ = 0) = decide (L.length % 8 = 0) := by
    by_cases h : L.length % 8 = 0
    · rw [decide_eq_true h, decide_eq_true (by omega)]
    · rw [decide_eq_false h, decide_eq_false (by omega)]
  rw [← e]
  exact beven_any hF hR
theorem size_B (hF : IsBox F n0) (h : BB w T n0 F b L 0 v) (hL : L.length ≤ 1099511627776) :
    Calls Try.prog 84 #[.pointer (some ⟨b, 0, none⟩)] w fun e w' => e = .returned (.int .i64 (L.length : Int)) ∧ Tch NoOld w w' := by
  obtain ⟨s, hR, hl⟩ := h
  have hb := hl.bounds
  have hh := hl.have_
  have e : (L.length : Int) = 8 * s.out.length + s.have_ := by omega
  rw [e]
  exact bsize_any hF hR hb.1 hb.2.1 (by omega)
theorem take_B (hF : IsBox F n0) (h : BB w T n0 F b L t v) :
    Calls Try.prog 54 #[.pointer (some ⟨b, 0, none⟩)] w fun e w' => e = .returned (.string (outStr (outFrom L t))) ∧ BB w' T n0 F b L (L.length / 8) (.slice none 0 0) ∧ Tch (· = b) w w' := by
  obtain ⟨s, hR, hl⟩ := h
  refine (btake_any hF hR).mono ?_
  rintro e w' ⟨rfl, hR', hf⟩
  rw [hl.out]
  exact ⟨rfl, ⟨_, hR', ⟨hl.bits, hl.have_, hl.hold, (outFrom_all L).symm, Nat.le_refl _⟩⟩, hf⟩
end

/- bits of a value -/
theorem bits_inj : ∀ {a b : List Int}, isBits a → isBits b → a.length = b.length → Wr.valOf a = Wr.valOf b → a = b
  | [], [], _, _, _, _ => rfl
  | [], _ :: _, _, _, h, _ => by cases h
  | _ :: _, [], _, _, h, _ => by cases h
  | x :: a, y :: b, ha, hb, h, hv => by
    have hx := ha x (List.mem_cons_self ..)
    have hy := hb y (List.mem_cons_self ..)
    have hv' : x + 2 * Wr.valOf a = y + 2 * Wr.valOf b := hv
    have e : x = y := by omega
    subst e
    rw [bits_inj (fun z hz => ha z (List.mem_cons_of_mem _ hz)) (fun z hz => hb z (List.mem_cons_of_mem _ hz)) (by simpa using h) (by omega)]
theorem num_val {C : List Int} (h : isBits C) : numBits (Wr.valOf C) C.length = C := by
  have vb := valOf_bounds _ h
  exact bits_inj (numBits_isBits _ _) h (numBits_length _ _) (valOf_num_lt vb.1 vb.2)
theorem val_div {A : List Int} (hb : isBits A) (X : List Int) : Wr.valOf (A ++ X) / 2 ^ A.length = Wr.valOf X := by
  have vb := valOf_bounds _ hb
  have hp := pow_pos2 A.length
  rw [valOf_append, Int.add_mul_ediv_left _ _ (by omega), Int.ediv_eq_zero_of_lt vb.1 vb.2]
  omega
theorem isBits_sub {M : List Int} (h : isBits M) (a n : Nat) : isBits ((M.drop a).take n) := fun x hx => h x (List.mem_of_mem_drop (List.mem_of_mem_take hx))
/-- n bits from place a on -/
theorem num_part {M : List Int} (h : isBits M) (a n : Nat) (ha : a + n ≤ M.length) : numBits (Wr.valOf M / 2 ^ a % 2 ^ n) n = (M.drop a).take n := by
  have e : M = M.take a ++ ((M.drop a).take n ++ (M.drop a).drop n) := by rw [List.take_append_drop, List.take_append_drop]
  have hl : (M.take a).length = a := by rw [List.length_take]; omega
  have hl2 : ((M.drop a).take n).length = n := by rw [List.length_take, List.length_drop]; omega
  have v1 : Wr.valOf M / 2 ^ a = Wr.valOf ((M.drop a).take n ++ (M.drop a).drop n) := by
    have := val_div (fun x hx => h x (List.mem_of_mem_take hx) : isBits (M.take a)) ((M.drop a).take n ++ (M.drop a).drop n)
    rw [← e, hl] at this
    exact this
  have vb := valOf_bounds _ (isBits_sub h a n)
  rw [hl2] at vb
  have v2 : Wr.valOf M / 2 ^ a % 2 ^ n = Wr.valOf ((M.drop a).take n) := by
    rw [v1, valOf_append, hl2, Int.add_mul_emod_self_left, Int.emod_eq_of_lt vb.1 vb.2]
  rw [v2]
  have := num_val (isBits_sub h a n)
  rw [hl2] at this
  exact this
theorem outFrom_get (M : List Int) (i : Nat) (hi : i < M.length / 8) : (outFrom M 0)[i]? = some (Wr.valOf M / 2 ^ (8 * i) % 256) := by
  unfold outFrom
  rw [List.getElem?_map, List.getElem?_range (by omega)]
  show some (Wr.valOf M / 2 ^ (8 * (0 + i)) % 256) = _
  rw [Nat.zero_add]

section
variable {w : World} {T T2 : TypeId} {n0 n2 : Nat} {F F2 : Value → Int → Int → Nat → Value} {b t b2 : Nat} {L M : List Int} {v v2 : Value}
set_option maxHeartbeats 1000000 in
/-- all bits of another row -/
theorem add_B (hF : IsBox F n0) (hF2 : IsBox F2 n2) (h : BB w T n0 F b L t v) (h2 : BB w T2 n2 F2 b2 M 0 v2) (hbb : b2 ≠ b) (hb2 : v.ownBlock ≠ some b2) (hv2 : ∀ g, v2.ownBlock = some g → g ≠ b ∧ v.ownBlock ≠ some g) (hL : L.length + M.length ≤ 1000000000000) :
    Calls Try.prog 65 #[.pointer (some ⟨b, 0, none⟩), .pointer (some ⟨b2, 0, none⟩)] w fun e w' => e = .returned (.tuple #[]) ∧ ∃ v', BB w' T n0 F b (L ++ M) t v' ∧ Own w v v' ∧ Tch (BT b v) w w' := by
  have hnot1 : ¬ BT b v b2 := fun q => by
    rcases q with q | q
    · exact hbb q
    · exact hb2 q
  have hnot2 : ∀ g, v2.ownBlock = some g → ¬ BT b v g := fun g hg q => by
    obtain ⟨a1, a2⟩ := hv2 g hg
    rcases q with q | q
    · exact a1 q
    · exact a2 q
  obtain ⟨s2, _, hl2⟩ := id h2
  have hM := hl2.bits
  have hb2b := hl2.bounds
  have HOL : s2.out.length = M.length / 8 := by rw [hb2b.2.2.2.2.2]; omega
  go_enter Try.func65, Try.ntmps65
  go_wp2
  go_loopw [4] (fun vi wr => ∃ (i : Nat) (u : Value), i ≤ M.length / 8 ∧ vi = .int .i64 i ∧ BB wr T n0 F b (L ++ M.take (8 * i)) t u ∧ Own w v u ∧ Tch (BT b v) w wr) (fun vi _ => M.length / 8 - (intOf vi).toNat)
  case atStart =>
    refine ⟨0, v, by omega, rfl, ?_, Own.refl _ _, Tch.refl _ _⟩
    show BB w T n0 F b (L ++ []) t v
    rw [List.append_nil]
    exact h
  case round =>
    obtain ⟨i, u, hi, rfl, hRi, hoi, hti⟩ := hrel
    have h2i := h2.keep hti hnot1 hnot2
    obtain ⟨s3, ⟨r3, o3, _⟩, l3⟩ := h2i
    have hn3 := hF2.fit
    have k0 : wr.cell? ⟨b2, 0, none⟩ = some v2 := by rw [World.rowIs.cell r3 (i := 0) (by omega), hF2.c0]
    have k1 : wr.cell? ⟨b2, 1, none⟩ = some (.int .i64 s3.hold) := by rw [World.rowIs.cell r3 (i := 1) (by omega), hF2.c1]
    have k2 : wr.cell? ⟨b2, 2, none⟩ = some (.int .i64 s3.have_) := by rw [World.rowIs.cell r3 (i := 2) (by omega), hF2.c2]
    have hfz := World.rowIs.frozen r3
    have e3 : s3.out.length = M.length / 8 := by rw [l3.bounds.2.2.2.2.2]; omega
    have hln : (L ++ M.take (8 * i)).length ≤ 1000000000000 := by rw [List.length_append, List.length_take]; omega
    by_cases hlt : i < M.length / 8
    · obtain ⟨g, cap, rfl, hcell⟩ : ∃ g cap, v2 = .slice (some ⟨g, 0, none⟩) (M.length / 8) cap ∧ wr.cell? ⟨g, i, none⟩ = some (.int .u8 (Wr.valOf M / 2 ^ (8 * i) % 256)) := by
        have oo := o3
        unfold ownsB at oo
        rw [e3] at oo
        rcases oo.2 with ⟨_, h4⟩ | ⟨g, cap, cur, hv, _⟩
        · omega
        · refine ⟨g, cap, hv, ?_⟩
          have := World.ownsRow.cells oo (g := g) (by rw [hv]; rfl) i (.int .u8 (Wr.valOf M / 2 ^ (8 * i) % 256)) (by
            rw [List.getElem?_map, l3.out, outFrom_get M i hlt]
            rfl)
          rw [Addr.add_mid, Nat.zero_add] at this
          exact this
      have HT : Hid (L ++ M.take (8 * (i + 1)) = L ++ M.take (8 * i) ++ numBits (Wr.valOf M / 2 ^ (8 * i) % 256) 8) := by
        have := num_part hM (8 * i) 8 (by omega)
        have e256 : (256 : Int) = 2 ^ 8 := rfl
        rw [Hid, e256, this, List.append_assoc, show 8 * (i + 1) = 8 * i + 8 by omega, List.take_add]
      have xb : 0 ≤ Wr.valOf M / 2 ^ (8 * i) % 256 ∧ Wr.valOf M / 2 ^ (8 * i) % 256 < 256 := by omega
      have hN := fun W (hW : BB W T n0 F b (L ++ M.take (8 * i)) t u) => number_B hF hW (Wr.valOf M / 2 ^ (8 * i) % 256) 8 xb.1 (by show _ < (256 : Int); omega) (by omega) (by omega)
      generalize Wr.valOf M / 2 ^ (8 * i) % 256 = x at *
      have hNN := hN _ hRi
      clear hN r3 o3 l3 h2 h k1 k2 hnot2 hv2 hRi
      go_wp2_with (go_at_call 43; refine hNN.mono ?_; rintro e w1 ⟨rfl, u1, hR1, ho1, ht1⟩)
      go_roundw
      case rel => exact ⟨i + 1, u1, by omega, by go_num, by rw [HT.out]; exact hR1, hoi.trans ho1 hti.size, hti.trans ht1 (BT.next hoi)⟩
      case measure => simp [intOf]; omega
    · have hie : i = M.length / 8 := by omega
      obtain ⟨qa, qc, rfl⟩ : ∃ a c, v2 = .slice a (M.length / 8) c := by
        rcases o3.2 with ⟨h3, h4⟩ | ⟨g, cap, cur, hv, _⟩
        · exact ⟨none, 0, by rw [h3, ← e3, h4]⟩
        · exact ⟨_, _, by rw [hv, e3]⟩
      have hb3 := l3.bounds
      have HT : Hid (L ++ M = L ++ M.take (8 * i) ++ numBits s3.hold (M.length % 8)) := by
        have := num_part hM (8 * i) (M.length % 8) (by omega)
        have hm : Wr.valOf M / 2 ^ (8 * i) % 2 ^ (M.length % 8) = s3.hold := by
          rw [l3.hold, ← hie]
          have q := hb3.2.2
          rw [l3.hold, ← hie] at q
          exact Int.emod_eq_of_lt q.1 q.2.1
        have e4 : (M.drop (8 * i)).take (M.length % 8) = M.drop (8 * i) := List.take_of_length_le (by rw [List.length_drop]; omega)
        rw [hm, e4] at this
        rw [Hid, this, List.append_assoc, List.take_append_drop]
      have hN := fun W (hW : BB W T n0 F b (L ++ M.take (8 * i)) t u) => number_B hF hW s3.hold (M.length % 8) hb3.2.2.1 hb3.2.2.2.1 (by omega) (by omega)
      have hh := l3.have_
      rw [← hh] at hN
      have hNN := hN _ hRi
      have hNN2 : Calls Try.prog 43 #[.pointer (some ⟨b, 0, none⟩), .int .i64 s3.hold, .int .i64 s3.have_] wr.drew _ := hN _ (hRi.keep (Tch.refl NoOld wr).drew (fun q => q) (fun _ _ q => q))
      clear hN r3 o3 l3 h2 h hnot2 hv2 hRi hb3 hh
      generalize s3.hold = ho at *
      generalize s3.have_ = ha at *
      clear e3
      subst hie
      go_wp2
      go_region_with (go_at_call 43; refine hNN2.mono ?_; rintro e w1 ⟨rfl, u1, hR1, ho1, ht1⟩)
      all_goals
        go_wp2
        go_end0
        refine ⟨rfl, u1, ?_, hoi.trans ho1 hti.size, hti.trans ((Tch.refl (BT b u) _).drew.trans ht1 (fun _ _ q => q)) (BT.next hoi)⟩
        rw [HT.out]
        exact hR1
end
end Go.Proofs.Ytmpfgdmdnghhgaa
