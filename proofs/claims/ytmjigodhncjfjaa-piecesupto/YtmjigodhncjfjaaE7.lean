/- AN ENCODER's STREAM, READ. -/
import Derived.Test.YtmjigodhncjfjaaE4
import Derived.Test.YtmjigodhncjfjaaPlainP3
namespace Go.Proofs.Ytmjigodhncjfjaa
open Go.RowKit Wr

/-- the bytes of a block, the last one too -/
theorem bytes2 : ∀ (c : List UInt8) (s : Rd) (rest : List Int) (m : Int), Inv s → s.part = 3 → s.left = c.length → c ≠ [] → s.hold = Wr.valOf (byteBits c ++ rest) → s.have_ = 8 * c.length + m → 0 ≤ m →
    ∃ u, Inv (endBlock u) ∧ drive s = drive (endBlock u) ∧ u.last = s.last ∧ u.hold = Wr.valOf rest ∧ u.have_ = m ∧ u.out = (if s.kind = 1 then s.out ++ ints8 c else s.out)
  | [], _, _, _, _, _, _, hc, _, _, _ => absurd rfl hc
  | c :: l, s, rest, m, hI, hp, hle, _, hh, hn, hm => by
    have hb := byte_bounds c
    rw [List.length_cons] at hle hn
    have hh2 : s.hold = (c.toNat : Int) + 2 ^ (8 : Int).toNat * Wr.valOf (byteBits l ++ rest) := by
      rw [hh]
      show Wr.valOf (numBits c.toNat 8 ++ byteBits l ++ rest) = _
      rw [List.append_assoc, val_num_head _ hb.1 (by show (c.toNat : Int) < 256; omega)]
      rfl
    have hw : width s = 8 := by unfold width; rw [if_neg (by omega), if_neg (by omega), if_neg (by omega), if_neg (by omega), if_neg (by omega)]
    obtain ⟨e1, i1⟩ := drive_num hI (c.toNat : Int) (Wr.valOf (byteBits l ++ rest)) 8 (8 * l.length + m) (by omega) (by omega) (by omega) hw hh2 hb.1 (by show (c.toNat : Int) < 256; omega) (by omega) (by omega)
    have eu : use { s with hold := Wr.valOf (byteBits l ++ rest), have_ := 8 * l.length + m } (c.toNat : Int) = useByte { s with hold := Wr.valOf (byteBits l ++ rest), have_ := 8 * l.length + m } (c.toNat : Int) := by
      unfold use
      rw [if_neg (show ¬ s.part = 0 by omega), if_neg (show ¬ s.part = 1 by omega), if_neg (show ¬ s.part = 2 by omega), if_pos (show s.part = 3 from hp)]
    rw [eu] at e1 i1
    obtain ⟨u, hu, hup, hula, hule, huh, hun, huk, huo⟩ : ∃ u : Rd, useByte { s with hold := Wr.valOf (byteBits l ++ rest), have_ := 8 * l.length + m } (c.toNat : Int) = (if u.left = 0 then endBlock u else u) ∧ u.part = 3 ∧ u.last = s.last ∧ u.left = l.length ∧ u.hold = Wr.valOf (byteBits l ++ rest) ∧ u.have_ = 8 * l.length + m ∧ u.kind = s.kind ∧ u.out = (if s.kind = 1 then s.out ++ [(c.toNat : Int)] else s.out) := by
      by_cases hk : s.kind = 1
      · refine ⟨put { s with hold := Wr.valOf (byteBits l ++ rest), have_ := 8 * l.length + m } (c.toNat : Int), ?_, hp, rfl, ?_, rfl, rfl, rfl, ?_⟩
        · unfold useByte
          rw [if_pos (show s.kind = 1 from hk)]
        · show s.left - 1 = _; omega
        · rw [if_pos hk]; rfl
      · refine ⟨{ s with hold := Wr.valOf (byteBits l ++ rest), have_ := 8 * l.length + m, left := s.left - 1 }, ?_, hp, rfl, ?_, rfl, rfl, rfl, ?_⟩
        · unfold useByte
          rw [if_neg (show ¬ s.kind = 1 from hk)]
        · show s.left - 1 = _; omega
        · rw [if_neg hk]
    rw [hu] at e1 i1
    by_cases hl : l = []
    · subst hl
      rw [if_pos (by rw [hule]; rfl)] at e1 i1
      refine ⟨u, i1, e1, hula, ?_, ?_, ?_⟩
      · rw [huh]; rfl
      · rw [hun, List.length_nil]; omega
      · rw [huo]; rfl
    · have hpos : 0 < l.length := List.length_pos_iff.2 hl
      rw [if_neg (by rw [hule]; omega)] at e1 i1
      obtain ⟨t, t1, t2, t3, t4, t5, t6⟩ := bytes2 l u rest m i1 hup hule hl huh hun hm
      refine ⟨t, t1, e1.trans t2, t3.trans hula, t4, t5, ?_⟩
      rw [t6, huk, huo]
      split
      · show s.out ++ [(c.toNat : Int)] ++ ints8 l = s.out ++ ((c.toNat : Int) :: ints8 l)
        rw [List.append_assoc]; rfl
      · rfl

/-- a block's head, the fill and its bytes -/
theorem head2 (l : Bool) (kind : Int) (s : Rd) (hI : Inv s) (hp : s.part = 1) (c : List UInt8) (z nb f m : Int) (rest : List Int)
    (hk : (kind = 1 ∧ nb = 12 ∧ z = (c.length : Int) - 1 ∧ c ≠ [] ∧ c.length ≤ 4096) ∨ (kind = 3 ∧ nb = 8 ∧ z = (c.length : Int) ∧ c.length ≤ 255))
    (hh : s.hold = (lastI l + 2 * kind) + 2 ^ (3 : Int).toNat * (z + 2 ^ nb.toNat * (0 + 2 ^ f.toNat * Wr.valOf (byteBits c ++ rest)))) (hn : s.have_ = 3 + nb + f + 8 * c.length + m) (m0 : 0 ≤ m) (hm8 : m % 8 = 0) (f0 : 0 ≤ f) (f8 : f < 8) :
    ∃ u, Inv (endBlock u) ∧ drive s = drive (endBlock u) ∧ u.last = l ∧ u.hold = Wr.valOf rest ∧ u.have_ = m ∧ u.out = (if kind = 1 then s.out ++ ints8 c else s.out) := by
  have hw1 : width s = 3 := by unfold width; rw [if_neg (by omega), if_pos hp]
  have hl : lastI l = 0 ∨ lastI l = 1 := by cases l <;> decide
  have hl2 : (lastI l == 1) = l := by cases l <;> rfl
  have hkb : 0 ≤ lastI l + 2 * kind ∧ lastI l + 2 * kind < 8 := by omega
  obtain ⟨e1, i1⟩ := drive_num hI (lastI l + 2 * kind) (z + 2 ^ nb.toNat * (0 + 2 ^ f.toNat * Wr.valOf (byteBits c ++ rest))) 3 (nb + f + 8 * c.length + m) (by omega) (by omega) (by omega) hw1 hh hkb.1 (by show lastI l + 2 * kind < 8; omega) (by omega) (by omega)
  have u1 : use { s with hold := z + 2 ^ nb.toNat * (0 + 2 ^ f.toNat * Wr.valOf (byteBits c ++ rest)), have_ := nb + f + 8 * c.length + m } (lastI l + 2 * kind) =
      { s with hold := z + 2 ^ nb.toNat * (0 + 2 ^ f.toNat * Wr.valOf (byteBits c ++ rest)), have_ := nb + f + 8 * c.length + m, last := l, kind := kind, part := 2 } := by
    unfold use
    rw [if_neg (show ¬ s.part = 0 by omega), if_pos (show s.part = 1 from hp)]
    unfold useBlock
    have e : (lastI l + 2 * kind) / 2 = kind := by omega
    have e2 : ((lastI l + 2 * kind) % 2 == 1) = l := by rw [show (lastI l + 2 * kind) % 2 = lastI l by omega]; exact hl2
    rw [e, e2]
    dsimp only
    rw [if_neg (by omega)]
  rw [u1] at e1 i1
  clear u1
  have hw2 : width { s with hold := z + 2 ^ nb.toNat * (0 + 2 ^ f.toNat * Wr.valOf (byteBits c ++ rest)), have_ := nb + f + 8 * c.length + m, last := l, kind := kind, part := 2 } = nb := by
    show (if kind = 3 then (8 : Int) else 12) = nb
    rcases hk with ⟨a, b, _⟩ | ⟨a, b, _⟩
    · rw [if_neg (by omega), b]
    · rw [if_pos a, b]
  have hz : 0 ≤ z ∧ z < 2 ^ nb.toNat := by
    rcases hk with ⟨a, b, d, e, f⟩ | ⟨a, b, d, f⟩
    · have : 0 < c.length := List.length_pos_iff.2 e
      rw [b]
      show 0 ≤ z ∧ z < 4096
      omega
    · rw [b]
      show 0 ≤ z ∧ z < 256
      omega
  obtain ⟨e2, i2⟩ := drive_num i1 z (0 + 2 ^ f.toNat * Wr.valOf (byteBits c ++ rest)) nb (f + 8 * c.length + m) (by show (2 : Int) ≠ 6; omega) (by show (2 : Int) ≠ 8; omega) (by show (2 : Int) ≤ 9; omega) hw2 rfl hz.1 hz.2 (by show nb + f + 8 * c.length + m = _; omega) (by omega)
  generalize hV : Wr.valOf (byteBits c ++ rest) = V at *
  have hpf := pow_pos2 f.toNat
  have u2 : use { s with hold := 0 + 2 ^ f.toNat * V, have_ := f + 8 * c.length + m, last := l, kind := kind, part := 2 } z =
      (if (c.length : Int) = 0 then endBlock ({ s with hold := V, have_ := 8 * c.length + m, last := l, kind := kind, part := 3, left := c.length } : Rd) else { s with hold := V, have_ := 8 * c.length + m, last := l, kind := kind, part := 3, left := c.length }) := by
    show useSize _ z = _
    unfold useSize
    rw [if_neg (show ¬ kind = 2 by omega)]
    have hleft : (if kind = 1 then z + 1 else z) = (c.length : Int) := by
      rcases hk with ⟨a, _, d, _⟩ | ⟨a, _, d, _⟩
      · rw [if_pos a]; omega
      · rw [if_neg (by omega)]; omega
    dsimp only
    rw [hleft]
    have hmod : (f + 8 * (c.length : Int) + m) % 8 = f := by omega
    have hf : fillOk { s with hold := 0 + 2 ^ f.toNat * V, have_ := f + 8 * c.length + m, last := l, kind := kind, part := 2, left := c.length } = true := by
      unfold fillOk
      dsimp only
      rw [hmod, Int.zero_add, Int.mul_emod_right]
      rfl
    have hft : fillTo { s with hold := 0 + 2 ^ f.toNat * V, have_ := f + 8 * c.length + m, last := l, kind := kind, part := 2, left := c.length } = { s with hold := V, have_ := 8 * c.length + m, last := l, kind := kind, part := 2, left := c.length } := by
      unfold fillTo
      rw [hf]
      dsimp only
      rw [hmod, Int.zero_add, Int.mul_ediv_cancel_left _ (by omega), show f + 8 * (c.length : Int) + m - f = 8 * c.length + m by omega]
      rfl
    rw [hf, hft]
    dsimp only
    rw [if_pos rfl]
  have e2' := e2
  have i2' := i2
  rw [u2] at e2' i2'
  clear e2 i2 u2
  by_cases h0 : (c.length : Int) = 0
  · have hc : c = [] := List.length_eq_zero_iff.1 (by omega)
    rw [if_pos h0] at e2' i2'
    refine ⟨_, i2', e1.trans e2', rfl, ?_, ?_, ?_⟩
    · show V = _; rw [← hV, hc]; rfl
    · show 8 * (c.length : Int) + m = m; omega
    · show s.out = _
      rcases hk with ⟨_, _, _, hne, _⟩ | ⟨a, _⟩
      · exact absurd hc hne
      · rw [if_neg (by omega)]
  · rw [if_neg h0] at e2' i2'
    have hne : c ≠ [] := fun e => h0 (by rw [e]; rfl)
    obtain ⟨t, t1, t2, t3, t4, t5, t6⟩ := bytes2 c _ rest m i2' rfl rfl hne hV.symm rfl m0
    exact ⟨t, t1, (e1.trans e2').trans t2, t3, t4, t5, t6⟩

theorem end_more {u : Rd} (h : u.last = false) : endBlock u = { u with part := 1 } := by unfold endBlock; rw [h]; rfl
theorem end_last {u : Rd} (h : u.last = true) (h0 : u.hold = 0) (h1 : u.have_ = 0) : drive (endBlock u) = endBlock u ∧ (endBlock u).out = u.out ∧ errnoBig (endBlock u) = 0 := by
  have hf : fillOk u = true := by unfold fillOk; rw [h0, h1]; rfl
  have e : endBlock u = { u with hold := 0, have_ := 0, part := 10 } := by
    unfold endBlock
    rw [if_pos h, if_pos hf]
    unfold fillTo
    rw [if_pos hf, h0, h1]
    rfl
  rw [e]
  exact ⟨drive_stop (Or.inl rfl), rfl, rfl⟩

/-- the reader over all these bits -/
def over (L : List Int) : Rd := { initRd with hold := Wr.valOf L, have_ := L.length }
theorem over_inv {L : List Int} (hb : isBits L) : Inv (over L) := by
  have vb := valOf_bounds _ hb
  have b := init_rest.1.1
  refine ⟨⟨vb.1, ?_, by show (0 : Int) ≤ (L.length : Int); omega, b.at0, b.at1, b.r0, b.r1, b.w1, b.near, b.l0, b.l1⟩, part_end (Or.inl ⟨rfl, rfl⟩)⟩
  show Wr.valOf L < 2 ^ (L.length : Int).toNat
  rw [Int.toNat_natCast]
  exact vb.2
/-- bits that are read as the beginning of a stream: a block is to begin behind them, and these bytes have come out -/
def Reads (L : List Int) (C : List UInt8) : Prop := isBits L ∧ ∀ R : List Int, isBits R → (L ++ R).length % 8 = 0 →
  ∃ t, Inv t ∧ t.part = 1 ∧ t.hold = Wr.valOf R ∧ t.have_ = R.length ∧ t.out = ints8 C ∧ drive (over (L ++ R)) = drive t

theorem reads_init (x : Int) (h0 : 0 ≤ x) (h8 : x ≤ 8) : Reads (numBits x 4) [] := by
  refine ⟨numBits_isBits _ _, fun R hR hlen => ?_⟩
  have hi := over_inv (isBits_cat (numBits_isBits x 4) hR)
  have hl : ((numBits x 4 ++ R).length : Int) = 4 + R.length := by rw [List.length_append, numBits_length]; omega
  have hv : Wr.valOf (numBits x 4 ++ R) = x + 2 ^ (4 : Int).toNat * Wr.valOf R := val_num_head R h0 (by show x < 16; omega)
  obtain ⟨e1, i1⟩ := drive_num hi x (Wr.valOf R) 4 R.length (by show (0 : Int) ≠ 6; omega) (by show (0 : Int) ≠ 8; omega) (by show (0 : Int) ≤ 9; omega) rfl hv h0 (by show x < 16; omega) hl (by omega)
  have u1 : use { over (numBits x 4 ++ R) with hold := Wr.valOf R, have_ := (R.length : Int) } x = { initRd with hold := Wr.valOf R, have_ := R.length, window := 16 * 2 ^ x.toNat, part := 1 } := by
    show useWindow _ x = _
    unfold useWindow
    rw [if_neg (by omega)]
    rfl
  rw [u1] at e1 i1
  exact ⟨_, i1, rfl, rfl, rfl, rfl, e1⟩

def tailL (l : Bool) (kind z : Int) (nb f : Nat) (P : List UInt8) (R : List Int) : List Int := numBits (lastI l) 1 ++ (numBits kind 2 ++ (numBits z nb ++ (numBits 0 f ++ (byteBits P ++ R))))
theorem blkL_eq (L : List Int) (l : Bool) (P : List UInt8) (R : List Int) : blkL L l P ++ R = L ++ tailL l 1 ((P.length : Int) - 1) 12 (fillN (L.length + 15)) P R := by
  have h : (headL L l 1 ++ numBits ((P.length : Int) - 1) 12).length = L.length + 15 := by rw [List.length_append, headL_length, numBits_length]
  unfold blkL padL tailL
  rw [h]
  unfold headL
  simp only [List.append_assoc]
theorem noteL_eq (L : List Int) (P : List UInt8) (R : List Int) : noteL L P ++ R = L ++ tailL false 3 (P.length : Int) 8 (fillN (L.length + 11)) P R := by
  have h : (headL L false 3 ++ numBits (P.length : Int) 8).length = L.length + 11 := by rw [List.length_append, headL_length, numBits_length]
  unfold noteL padL tailL
  rw [h]
  unfold headL
  simp only [List.append_assoc]
theorem emptyL_eq (L : List Int) (l : Bool) (R : List Int) : emptyL L l ++ R = L ++ (numBits (lastI l) 1 ++ (numBits 0 2 ++ (numBits 0 (fillN (L.length + 3)) ++ R))) := by
  unfold emptyL padL
  rw [headL_length]
  unfold headL
  simp only [List.append_assoc]
theorem tail_length (l : Bool) (kind z : Int) (nb f : Nat) (P : List UInt8) (R : List Int) : (tailL l kind z nb f P R).length = 3 + nb + f + 8 * P.length + R.length := by
  unfold tailL
  simp only [List.length_append, numBits_length, byteBits_length]
  omega
theorem tail_bits (l : Bool) (kind z : Int) (nb f : Nat) (P : List UInt8) {R : List Int} (h : isBits R) : isBits (tailL l kind z nb f P R) :=
  isBits_cat (numBits_isBits _ _) (isBits_cat (numBits_isBits _ _) (isBits_cat (numBits_isBits _ _) (isBits_cat (numBits_isBits _ _) (isBits_cat (byteBits_isBits _) h))))
theorem first_val (l : Bool) (kind : Int) (h0 : 0 ≤ kind) (h4 : kind < 4) (X : List Int) : Wr.valOf (numBits (lastI l) 1 ++ (numBits kind 2 ++ X)) = (lastI l + 2 * kind) + 2 ^ (3 : Int).toNat * Wr.valOf X := by
  have hl : 0 ≤ lastI l ∧ lastI l < 2 := by cases l <;> decide
  rw [val_num_head _ hl.1 (by show lastI l < 2; omega), val_num_head _ h0 (by show kind < 4; omega)]
  show lastI l + 2 * (kind + 4 * Wr.valOf X) = lastI l + 2 * kind + 8 * Wr.valOf X
  omega
theorem tail_val (l : Bool) (kind z : Int) (nb f : Nat) (P : List UInt8) (R : List Int) (h0 : 0 ≤ kind) (h4 : kind < 4) (z0 : 0 ≤ z) (z1 : z < 2 ^ nb) :
    Wr.valOf (tailL l kind z nb f P R) = (lastI l + 2 * kind) + 2 ^ (3 : Int).toNat * (z + 2 ^ (nb : Int).toNat * (0 + 2 ^ (f : Int).toNat * Wr.valOf (byteBits P ++ R))) := by
  unfold tailL
  rw [first_val l kind h0 h4, val_num_head _ z0 z1, val_num_head _ (Int.le_refl _) (pow_pos2 f)]
  rfl
theorem fillN_lt (n : Nat) : fillN n < 8 := by unfold fillN; omega
theorem fillN_add (n : Nat) : (n + fillN n) % 8 = 0 := by unfold fillN; omega

/-- a stored block, the last one too -/
theorem blk_reads {L : List Int} {C : List UInt8} (h : Reads L C) (l : Bool) (P : List UInt8) (hP : P ≠ []) (h4 : P.length ≤ 4096) (R : List Int) (hR : isBits R) (hlen : (blkL L l P ++ R).length % 8 = 0) :
    ∃ u, Inv (endBlock u) ∧ drive (over (blkL L l P ++ R)) = drive (endBlock u) ∧ u.last = l ∧ u.hold = Wr.valOf R ∧ u.have_ = R.length ∧ u.out = ints8 (C ++ P) := by
  rw [blkL_eq] at hlen ⊢
  have hpos : 0 < P.length := List.length_pos_iff.2 hP
  obtain ⟨t, t1, t2, t3, t4, t5, t6⟩ := h.2 _ (tail_bits l 1 ((P.length : Int) - 1) 12 (fillN (L.length + 15)) P hR) hlen
  have hfa := fillN_add (L.length + 15)
  have hfl := fillN_lt (L.length + 15)
  have htl := tail_length l 1 ((P.length : Int) - 1) 12 (fillN (L.length + 15)) P R
  rw [List.length_append, htl] at hlen
  rw [tail_val l 1 ((P.length : Int) - 1) 12 _ P R (by omega) (by omega) (by omega) (by show (P.length : Int) - 1 < 4096; omega)] at t3
  rw [htl] at t4
  obtain ⟨u, u1, u2, u3, u4, u5, u6⟩ := head2 l 1 t t1 t2 P ((P.length : Int) - 1) 12 (fillN (L.length + 15)) R.length R (Or.inl ⟨rfl, rfl, rfl, hP, h4⟩) t3 (by omega) (by omega) (by omega) (by omega) (by omega)
  refine ⟨u, u1, t6.trans u2, u3, u4, u5, ?_⟩
  rw [u6, if_pos rfl, t5]
  unfold ints8
  rw [List.map_append]
theorem note_reads {L : List Int} {C : List UInt8} (h : Reads L C) (P : List UInt8) (h4 : P.length ≤ 255) (R : List Int) (hR : isBits R) (hlen : (noteL L P ++ R).length % 8 = 0) :
    ∃ u, Inv (endBlock u) ∧ drive (over (noteL L P ++ R)) = drive (endBlock u) ∧ u.last = false ∧ u.hold = Wr.valOf R ∧ u.have_ = R.length ∧ u.out = ints8 C := by
  rw [noteL_eq] at hlen ⊢
  obtain ⟨t, t1, t2, t3, t4, t5, t6⟩ := h.2 _ (tail_bits false 3 (P.length : Int) 8 (fillN (L.length + 11)) P hR) hlen
  have hfa := fillN_add (L.length + 11)
  have hfl := fillN_lt (L.length + 11)
  have htl := tail_length false 3 (P.length : Int) 8 (fillN (L.length + 11)) P R
  rw [List.length_append, htl] at hlen
  rw [tail_val false 3 (P.length : Int) 8 _ P R (by omega) (by omega) (by omega) (by show (P.length : Int) < 256; omega)] at t3
  rw [htl] at t4
  obtain ⟨u, u1, u2, u3, u4, u5, u6⟩ := head2 false 3 t t1 t2 P (P.length : Int) 8 (fillN (L.length + 11)) R.length R (Or.inr ⟨rfl, rfl, rfl, h4⟩) t3 (by omega) (by omega) (by omega) (by omega) (by omega)
  refine ⟨u, u1, t6.trans u2, u3, u4, u5, ?_⟩
  rw [u6, if_neg (by omega), t5]
theorem empty_reads {L : List Int} {C : List UInt8} (h : Reads L C) (l : Bool) (R : List Int) (hR : isBits R) (hlen : (emptyL L l ++ R).length % 8 = 0) :
    ∃ u, Inv (endBlock u) ∧ drive (over (emptyL L l ++ R)) = drive (endBlock u) ∧ u.last = l ∧ u.hold = Wr.valOf R ∧ u.have_ = R.length ∧ u.out = ints8 C := by
  rw [emptyL_eq] at hlen ⊢
  have hb : isBits (numBits (lastI l) 1 ++ (numBits 0 2 ++ (numBits 0 (fillN (L.length + 3)) ++ R))) := isBits_cat (numBits_isBits _ _) (isBits_cat (numBits_isBits _ _) (isBits_cat (numBits_isBits _ _) hR))
  obtain ⟨t, t1, t2, t3, t4, t5, t6⟩ := h.2 _ hb hlen
  have hfa := fillN_add (L.length + 3)
  have hfl := fillN_lt (L.length + 3)
  have htl : (numBits (lastI l) 1 ++ (numBits 0 2 ++ (numBits 0 (fillN (L.length + 3)) ++ R))).length = 3 + fillN (L.length + 3) + R.length := by
    simp only [List.length_append, numBits_length]
    omega
  rw [List.length_append, htl] at hlen
  rw [first_val l 0 (by omega) (by omega), val_num_head _ (Int.le_refl _) (pow_pos2 _)] at t3
  rw [htl] at t4
  have hl : lastI l = 0 ∨ lastI l = 1 := by cases l <;> decide
  have hl2 : (lastI l == 1) = l := by cases l <;> rfl
  have hw1 : width t = 3 := by unfold width; rw [if_neg (by omega), if_pos t2]
  generalize hf : fillN (L.length + 3) = f at *
  obtain ⟨e1, i1⟩ := drive_num t1 (lastI l + 2 * 0) (0 + 2 ^ f * Wr.valOf R) 3 (f + R.length) (by omega) (by omega) (by omega) hw1 t3 (by omega) (by show lastI l + 2 * 0 < 8; omega) (by omega) (by omega)
  have hpf := pow_pos2 f
  have u1 : use { t with hold := 0 + 2 ^ f * Wr.valOf R, have_ := f + R.length } (lastI l + 2 * 0) = endBlock { t with hold := Wr.valOf R, have_ := R.length, last := l, kind := 0 } := by
    unfold use
    rw [if_neg (show ¬ t.part = 0 by omega), if_pos (show t.part = 1 from t2)]
    unfold useBlock
    have e : (lastI l + 2 * 0) / 2 = 0 := by omega
    have e2 : ((lastI l + 2 * 0) % 2 == 1) = l := by rw [show (lastI l + 2 * 0) % 2 = lastI l by omega]; exact hl2
    rw [e, e2]
    dsimp only
    rw [if_pos rfl]
    have hmod : ((f : Int) + (R.length : Int)) % 8 = f := by omega
    have hfk : fillOk { t with hold := 0 + 2 ^ f * Wr.valOf R, have_ := f + R.length, last := l, kind := 0 } = true := by
      unfold fillOk
      dsimp only
      rw [hmod, Int.toNat_natCast, Int.zero_add, Int.mul_emod_right]
      rfl
    have hft : fillTo { t with hold := 0 + 2 ^ f * Wr.valOf R, have_ := f + R.length, last := l, kind := 0 } = { t with hold := Wr.valOf R, have_ := R.length, last := l, kind := 0 } := by
      unfold fillTo
      rw [hfk]
      dsimp only
      rw [hmod, Int.toNat_natCast, Int.zero_add, Int.mul_ediv_cancel_left _ (by omega), show (f : Int) + (R.length : Int) - f = R.length by omega]
      rfl
    rw [hfk, hft]
    rfl
  rw [u1] at e1 i1
  exact ⟨_, i1, t6.trans e1, rfl, rfl, rfl, t5⟩

theorem reads_of {L' : List Int} {C' : List UInt8} (hb : isBits L') (h : ∀ R : List Int, isBits R → (L' ++ R).length % 8 = 0 → ∃ u, Inv (endBlock u) ∧ drive (over (L' ++ R)) = drive (endBlock u) ∧ u.last = false ∧ u.hold = Wr.valOf R ∧ u.have_ = R.length ∧ u.out = ints8 C') : Reads L' C' := by
  refine ⟨hb, fun R hR hlen => ?_⟩
  obtain ⟨u, u1, u2, u3, u4, u5, u6⟩ := h R hR hlen
  rw [end_more u3] at u1 u2
  exact ⟨_, u1, rfl, u4, u5, u6, u2⟩
theorem head_bits {L : List Int} (h : isBits L) (l : Bool) (k : Int) : isBits (headL L l k) := isBits_cat (isBits_cat h (numBits_isBits _ _)) (numBits_isBits _ _)
theorem pad_bits {L : List Int} (h : isBits L) : isBits (padL L) := isBits_cat h (numBits_isBits _ _)
theorem blkL_bits {L : List Int} (h : isBits L) (l : Bool) (P : List UInt8) : isBits (blkL L l P) := isBits_cat (pad_bits (isBits_cat (head_bits h _ _) (numBits_isBits _ _))) (byteBits_isBits _)
theorem reads_blk {L : List Int} {C : List UInt8} (h : Reads L C) (P : List UInt8) (hP : P ≠ []) (h4 : P.length ≤ 4096) : Reads (blkL L false P) (C ++ P) :=
  reads_of (blkL_bits h.1 _ _) (blk_reads h false P hP h4)
theorem reads_note {L : List Int} {C : List UInt8} (h : Reads L C) (P : List UInt8) (h4 : P.length ≤ 255) : Reads (noteL L P) C :=
  reads_of (isBits_cat (pad_bits (isBits_cat (head_bits h.1 _ _) (numBits_isBits _ _))) (byteBits_isBits _)) (note_reads h P h4)
theorem reads_empty {L : List Int} {C : List UInt8} (h : Reads L C) : Reads (emptyL L false) C :=
  reads_of (pad_bits (head_bits h.1 _ _)) (empty_reads h false)
end Go.Proofs.Ytmjigodhncjfjaa
