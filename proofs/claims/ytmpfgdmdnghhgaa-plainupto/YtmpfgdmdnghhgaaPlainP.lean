/- STORED BLOCKS AND NOTES, READ. No Go. -/
import Derived.Test.YtmpfgdmdnghhgaaBitsP
namespace Wr

def byteBits : List UInt8 → List Int
  | [] => []
  | c :: l => numBits c.toNat 8 ++ byteBits l
theorem byteBits_length : ∀ l : List UInt8, (byteBits l).length = 8 * l.length
  | [] => rfl
  | c :: l => by
    show (numBits c.toNat 8 ++ byteBits l).length = _
    rw [List.length_append, numBits_length, byteBits_length l, List.length_cons]
    omega
theorem byteBits_append : ∀ a b : List UInt8, byteBits (a ++ b) = byteBits a ++ byteBits b
  | [], b => rfl
  | c :: a, b => by
    show numBits c.toNat 8 ++ byteBits (a ++ b) = numBits c.toNat 8 ++ byteBits a ++ byteBits b
    rw [byteBits_append a b, List.append_assoc]
theorem byteBits_isBits : ∀ l : List UInt8, isBits (byteBits l)
  | [] => fun b hb => by cases hb
  | c :: l => by
    intro b hb
    rcases List.mem_append.1 hb with h | h
    · exact numBits_isBits _ _ b h
    · exact byteBits_isBits l b h

def ints8 (l : List UInt8) : List Int := l.map fun c => (c.toNat : Int)

theorem val_num_head {v : Int} {n : Nat} (r : List Int) (h0 : 0 ≤ v) (h1 : v < 2 ^ n) : valOf (numBits v n ++ r) = v + 2 ^ n * valOf r := by
  rw [valOf_append, valOf_num_lt h0 h1, numBits_length]

/-- the bytes of a block -/
theorem bytes_read : ∀ (c : List UInt8) (s : Rd) (rest : List Int) (m : Int), Inv s → s.part = 3 → s.last = false → s.left = c.length → c ≠ [] → s.hold = valOf (byteBits c ++ rest) → s.have_ = 8 * c.length + m → 0 ≤ m →
    ∃ t, Inv t ∧ drive s = drive t ∧ t.part = 1 ∧ t.hold = valOf rest ∧ t.have_ = m ∧ t.out = (if s.kind = 1 then s.out ++ ints8 c else s.out)
  | [], _, _, _, _, _, _, _, hc, _, _, _ => absurd rfl hc
  | c :: l, s, rest, m, hI, hp, hla, hle, _, hh, hn, hm => by
    have hb := byte_bounds c
    rw [List.length_cons] at hle hn
    have hh2 : s.hold = (c.toNat : Int) + 2 ^ (8 : Int).toNat * valOf (byteBits l ++ rest) := by
      rw [hh]
      show valOf (numBits c.toNat 8 ++ byteBits l ++ rest) = _
      rw [List.append_assoc, val_num_head _ hb.1 (by show (c.toNat : Int) < 256; omega)]
      rfl
    have hw : width s = 8 := by unfold width; rw [if_neg (by omega), if_neg (by omega), if_neg (by omega), if_neg (by omega), if_neg (by omega)]
    obtain ⟨e1, i1⟩ := drive_num hI (c.toNat : Int) (valOf (byteBits l ++ rest)) 8 (8 * l.length + m) (by omega) (by omega) (by omega) hw hh2 hb.1 (by show (c.toNat : Int) < 256; omega) (by omega) (by omega)
    have eu : use { s with hold := valOf (byteBits l ++ rest), have_ := 8 * l.length + m } (c.toNat : Int) = useByte { s with hold := valOf (byteBits l ++ rest), have_ := 8 * l.length + m } (c.toNat : Int) := by
      unfold use
      rw [if_neg (show ¬ s.part = 0 by omega), if_neg (show ¬ s.part = 1 by omega), if_neg (show ¬ s.part = 2 by omega), if_pos (show s.part = 3 from hp)]
    rw [eu] at e1 i1
    obtain ⟨u, hu, hup, hula, hule, huh, hun, huk, huo⟩ : ∃ u : Rd, useByte { s with hold := valOf (byteBits l ++ rest), have_ := 8 * l.length + m } (c.toNat : Int) = (if u.left = 0 then endBlock u else u) ∧ u.part = 3 ∧ u.last = false ∧ u.left = l.length ∧ u.hold = valOf (byteBits l ++ rest) ∧ u.have_ = 8 * l.length + m ∧ u.kind = s.kind ∧ u.out = (if s.kind = 1 then s.out ++ [(c.toNat : Int)] else s.out) := by
      by_cases hk : s.kind = 1
      · refine ⟨put { s with hold := valOf (byteBits l ++ rest), have_ := 8 * l.length + m } (c.toNat : Int), ?_, hp, hla, ?_, rfl, rfl, rfl, ?_⟩
        · unfold useByte
          rw [if_pos (show s.kind = 1 from hk)]
        · show s.left - 1 = _; omega
        · rw [if_pos hk]; rfl
      · refine ⟨{ s with hold := valOf (byteBits l ++ rest), have_ := 8 * l.length + m, left := s.left - 1 }, ?_, hp, hla, ?_, rfl, rfl, rfl, ?_⟩
        · unfold useByte
          rw [if_neg (show ¬ s.kind = 1 from hk)]
        · show s.left - 1 = _; omega
        · rw [if_neg hk]
    rw [hu] at e1 i1
    by_cases hl : l = []
    · subst hl
      rw [if_pos (by rw [hule]; rfl)] at e1 i1
      have eb : endBlock u = { u with part := 1 } := by unfold endBlock; rw [hula]; rfl
      rw [eb] at e1 i1
      refine ⟨_, i1, e1, rfl, ?_, ?_, ?_⟩
      · show u.hold = _; rw [huh]; rfl
      · show u.have_ = _; rw [hun, List.length_nil]; omega
      · show u.out = _; rw [huo]; rfl
    · have hpos : 0 < l.length := List.length_pos_iff.2 hl
      rw [if_neg (by rw [hule]; omega)] at e1 i1
      obtain ⟨t, t1, t2, t3, t4, t5, t6⟩ := bytes_read l u rest m i1 hup hula hule hl huh hun hm
      refine ⟨t, t1, e1.trans t2, t3, t4, t5, ?_⟩
      rw [t6, huk, huo]
      split
      · show s.out ++ [(c.toNat : Int)] ++ ints8 l = s.out ++ ((c.toNat : Int) :: ints8 l)
        rw [List.append_assoc]; rfl
      · rfl

/-- a block that is no last one: its head, one bit of fill, its bytes -/
theorem head_read (kind : Int) (s : Rd) (hI : Inv s) (hp : s.part = 1) (c : List UInt8) (z nb m : Int) (rest : List Int) (hk : (kind = 1 ∧ nb = 12 ∧ z = (c.length : Int) - 1 ∧ c ≠ [] ∧ c.length ≤ 4096) ∨ (kind = 3 ∧ nb = 8 ∧ z = (c.length : Int) ∧ c.length ≤ 255))
    (hh : s.hold = 2 * kind + 2 ^ (3 : Int).toNat * (z + 2 ^ nb.toNat * (0 + 2 ^ (1 : Int).toNat * valOf (byteBits c ++ rest)))) (hn : s.have_ = 3 + nb + 1 + 8 * c.length + m) (m0 : 0 ≤ m) (hm8 : m % 8 = 0) :
    ∃ t, Inv t ∧ drive s = drive t ∧ t.part = 1 ∧ t.hold = valOf rest ∧ t.have_ = m ∧ t.out = (if kind = 1 then s.out ++ ints8 c else s.out) := by
  have hw1 : width s = 3 := by unfold width; rw [if_neg (by omega), if_pos hp]
  have hkb : 0 ≤ 2 * kind ∧ 2 * kind < 8 := by omega
  obtain ⟨e1, i1⟩ := drive_num hI (2 * kind) (z + 2 ^ nb.toNat * (0 + 2 ^ (1 : Int).toNat * valOf (byteBits c ++ rest))) 3 (nb + 1 + 8 * c.length + m) (by omega) (by omega) (by omega) hw1 hh hkb.1 (by show 2 * kind < 8; omega) (by omega) (by omega)
  have u1 : use { s with hold := z + 2 ^ nb.toNat * (0 + 2 ^ (1 : Int).toNat * valOf (byteBits c ++ rest)), have_ := nb + 1 + 8 * c.length + m } (2 * kind) =
      { s with hold := z + 2 ^ nb.toNat * (0 + 2 ^ (1 : Int).toNat * valOf (byteBits c ++ rest)), have_ := nb + 1 + 8 * c.length + m, last := false, kind := kind, part := 2 } := by
    unfold use
    rw [if_neg (show ¬ s.part = 0 by omega), if_pos (show s.part = 1 from hp)]
    unfold useBlock
    have e : 2 * kind / 2 = kind := by omega
    have e2 : (2 * kind % 2 == 1) = false := by rw [show 2 * kind % 2 = 0 by omega]; rfl
    rw [e, e2]
    dsimp only
    rw [if_neg (by omega)]
  rw [u1] at e1 i1
  clear u1
  have hw2 : width { s with hold := z + 2 ^ nb.toNat * (0 + 2 ^ (1 : Int).toNat * valOf (byteBits c ++ rest)), have_ := nb + 1 + 8 * c.length + m, last := false, kind := kind, part := 2 } = nb := by
    show (if kind = 3 then (8 : Int) else 12) = nb
    rcases hk with ⟨a, b, _⟩ | ⟨a, b, _⟩
    · rw [if_neg (by omega), b]
    · rw [if_pos a, b]
  have hz : 0 ≤ z ∧ z < 2 ^ nb.toNat := by
    rcases hk with ⟨a, b, d, e, f⟩ | ⟨a, b, d, f⟩
    · have : 0 < c.length := List.length_pos_iff.2 e
      rw [b]
      show 0 ≤ z ∧ z < 4096
      omega
    · rw [b]
      show 0 ≤ z ∧ z < 256
      omega
  obtain ⟨e2, i2⟩ := drive_num i1 z (0 + 2 ^ (1 : Int).toNat * valOf (byteBits c ++ rest)) nb (1 + 8 * c.length + m) (by show (2 : Int) ≠ 6; omega) (by show (2 : Int) ≠ 8; omega) (by show (2 : Int) ≤ 9; omega) hw2 rfl hz.1 hz.2 (by show nb + 1 + 8 * (c.length : Int) + m = _; omega) (by omega)
  generalize hV : valOf (byteBits c ++ rest) = V at *
  have u2 : use { s with hold := 0 + 2 ^ (1 : Int).toNat * V, have_ := 1 + 8 * c.length + m, last := false, kind := kind, part := 2 } z =
      (if (c.length : Int) = 0 then ({ s with hold := V, have_ := 8 * c.length + m, last := false, kind := kind, part := 1, left := c.length } : Rd) else { s with hold := V, have_ := 8 * c.length + m, last := false, kind := kind, part := 3, left := c.length }) := by
    show useSize _ z = _
    unfold useSize
    rw [if_neg (show ¬ kind = 2 by omega)]
    have hleft : (if kind = 1 then z + 1 else z) = (c.length : Int) := by
      rcases hk with ⟨a, _, d, _⟩ | ⟨a, _, d, _⟩
      · rw [if_pos a]; omega
      · rw [if_neg (by omega)]; omega
    dsimp only
    rw [hleft]
    have hmod : (1 + 8 * (c.length : Int) + m) % 8 = 1 := by omega
    have hf : fillOk { s with hold := 0 + 2 ^ (1 : Int).toNat * V, have_ := 1 + 8 * c.length + m, last := false, kind := kind, part := 2, left := c.length } = true := by
      unfold fillOk
      dsimp only
      rw [hmod]
      show ((0 + 2 * V) % 2 == 0) = true
      rw [show (0 + 2 * V) % 2 = 0 by omega]
      rfl
    have hft : fillTo { s with hold := 0 + 2 ^ (1 : Int).toNat * V, have_ := 1 + 8 * c.length + m, last := false, kind := kind, part := 2, left := c.length } = { s with hold := V, have_ := 8 * c.length + m, last := false, kind := kind, part := 2, left := c.length } := by
      unfold fillTo
      rw [hf]
      dsimp only
      rw [hmod, show (0 + 2 ^ (1 : Int).toNat * V) / 2 ^ (1 : Int).toNat = V by show (0 + 2 * V) / 2 = V; omega, show 1 + 8 * (c.length : Int) + m - 1 = 8 * c.length + m by omega]
      rfl
    rw [hf, hft]
    dsimp only
    rw [if_pos rfl]
    by_cases h0 : (c.length : Int) = 0
    · rw [if_pos h0, if_pos h0]
      unfold endBlock
      rfl
    · rw [if_neg h0, if_neg h0]
  have e2' := e2
  have i2' := i2
  rw [u2] at e2' i2'
  clear e2 i2 u2
  by_cases h0 : (c.length : Int) = 0
  · have hc : c = [] := List.length_eq_zero_iff.1 (by omega)
    rw [if_pos h0] at e2' i2'
    refine ⟨_, i2', e1.trans e2', rfl, ?_, ?_, ?_⟩
    · show V = _; rw [← hV, hc]; rfl
    · show 8 * (c.length : Int) + m = m; omega
    · show s.out = _
      rcases hk with ⟨_, _, _, hne, _⟩ | ⟨a, _⟩
      · exact absurd hc hne
      · rw [if_neg (by omega)]
  · rw [if_neg h0] at e2' i2'
    have hne : c ≠ [] := fun e => h0 (by rw [e]; rfl)
    obtain ⟨t, t1, t2, t3, t4, t5, t6⟩ := bytes_read c _ rest m i2' rfl rfl rfl hne hV.symm rfl m0
    exact ⟨t, t1, (e1.trans e2').trans t2, t3, t4, t5, t6⟩

/-- a stored block -/
def blk (c : List UInt8) : List Int := numBits 2 3 ++ (numBits ((c.length : Int) - 1) 12 ++ ([0] ++ byteBits c))
theorem blk_length (c : List UInt8) : (blk c).length = 16 + 8 * c.length := by
  unfold blk
  simp only [List.length_append, numBits_length, byteBits_length, List.length_singleton]
  omega
theorem blk_val (c : List UInt8) (hc : c ≠ []) (h : c.length ≤ 4096) (rest : List Int) : valOf (blk c ++ rest) = 2 * 1 + 2 ^ (3 : Int).toNat * (((c.length : Int) - 1) + 2 ^ (12 : Int).toNat * (0 + 2 ^ (1 : Int).toNat * valOf (byteBits c ++ rest))) := by
  have hpos : 0 < c.length := List.length_pos_iff.2 hc
  unfold blk
  rw [List.append_assoc, val_num_head _ (by omega) (by decide), List.append_assoc, val_num_head _ (by omega) (by show (c.length : Int) - 1 < 4096; omega), List.append_assoc]
  rfl

def stored : List (List UInt8) → List Int
  | [] => numBits 1 3
  | c :: l => blk c ++ stored l
def good (l : List (List UInt8)) : Prop := ∀ c ∈ l, c ≠ [] ∧ c.length ≤ 4096
theorem stored_length : ∀ l : List (List UInt8), (stored l).length % 8 = 3
  | [] => by show (numBits 1 3).length % 8 = 3; rw [numBits_length]
  | c :: l => by
    show (blk c ++ stored l).length % 8 = 3
    rw [List.length_append, blk_length]
    have := stored_length l
    omega

theorem stored_read : ∀ (l : List (List UInt8)) (s : Rd), good l → Inv s → s.part = 1 → s.hold = valOf (stored l) → s.have_ = (stored l).length + 5 →
    (drive s).out = s.out ++ ints8 l.flatten ∧ errnoBig (drive s) = 0
  | [], s, _, hI, hp, hh, hn => by
    have hv : s.hold = 1 + 2 ^ (3 : Int).toNat * 0 := by rw [hh]; rfl
    have hn' : s.have_ = 3 + 5 := by rw [hn]; show ((numBits 1 3).length : Int) + 5 = _; rw [numBits_length]; rfl
    have hw1 : width s = 3 := by unfold width; rw [if_neg (by omega), if_pos hp]
    obtain ⟨e1, i1⟩ := drive_num hI 1 0 3 5 (by omega) (by omega) (by omega) hw1 hv (by omega) (by decide) hn' (by omega)
    have u1 : use { s with hold := 0, have_ := 5 } 1 = { s with hold := 0, have_ := 0, last := true, kind := 0, part := 10 } := by
      unfold use
      rw [if_neg (show ¬ s.part = 0 by omega), if_pos (show s.part = 1 from hp)]
      simp [useBlock, fillOk, fillTo, endBlock]
    rw [u1] at e1
    rw [e1, drive_stop (Or.inl rfl)]
    exact ⟨by show s.out = s.out ++ []; rw [List.append_nil], rfl⟩
  | c :: l, s, hg, hI, hp, hh, hn => by
    have hc := hg c (List.mem_cons_self ..)
    have hl : good l := fun x hx => hg x (List.mem_cons_of_mem _ hx)
    have hv : s.hold = 2 * 1 + 2 ^ (3 : Int).toNat * (((c.length : Int) - 1) + 2 ^ (12 : Int).toNat * (0 + 2 ^ (1 : Int).toNat * valOf (byteBits c ++ stored l))) := by
      rw [hh]; exact blk_val c hc.1 hc.2 (stored l)
    have hn' : s.have_ = 3 + 12 + 1 + 8 * (c.length : Int) + (((stored l).length : Int) + 5) := by
      rw [hn]; show (((blk c ++ stored l).length : Nat) : Int) + 5 = _; rw [List.length_append, blk_length]; omega
    have hs8 := stored_length l
    obtain ⟨t, t1, t2, t3, t4, t5, t6⟩ := head_read 1 s hI hp c _ 12 _ (stored l) (Or.inl ⟨rfl, rfl, rfl, hc.1, hc.2⟩) hv hn' (by omega) (by omega)
    obtain ⟨r1, r2⟩ := stored_read l t hl t1 t3 t4 t5
    rw [t2]
    refine ⟨?_, r2⟩
    rw [r1, t6, if_pos rfl, List.append_assoc]
    show s.out ++ (ints8 c ++ ints8 l.flatten) = s.out ++ ints8 (c ++ l.flatten)
    unfold ints8
    rw [List.map_append]

/-- the whole stream -/
def plainBits (w : Int) (note : List UInt8) (l : List (List UInt8)) : List Int := numBits w 4 ++ (numBits 6 3 ++ (numBits note.length 8 ++ ([0] ++ (byteBits note ++ stored l))))

theorem plain_read (w : Int) (note : List UInt8) (l : List (List UInt8)) (w0 : 0 ≤ w) (w8 : w ≤ 8) (hn : note.length ≤ 255) (hg : good l) (hb : isBits (plainBits w note l)) :
    (drive { initRd with hold := valOf (plainBits w note l), have_ := (plainBits w note l).length + 5 }).out = ints8 l.flatten ∧ errnoBig (drive { initRd with hold := valOf (plainBits w note l), have_ := (plainBits w note l).length + 5 }) = 0 := by
  have vb := valOf_bounds _ hb
  have hlen : (plainBits w note l).length = 4 + (3 + (8 + (1 + (8 * note.length + (stored l).length)))) := by
    unfold plainBits
    simp only [List.length_append, numBits_length, byteBits_length, List.length_singleton]
  have i0 : Inv { initRd with hold := valOf (plainBits w note l), have_ := (plainBits w note l).length + 5 } := by
    have b := init_rest.1.1
    refine ⟨⟨vb.1, ?_, by show (0 : Int) ≤ ((plainBits w note l).length : Int) + 5; omega, b.at0, b.at1, b.r0, b.r1, b.w1, b.near, b.l0, b.l1⟩, part_end (Or.inl ⟨rfl, rfl⟩)⟩
    show valOf (plainBits w note l) < 2 ^ (((plainBits w note l).length : Int) + 5).toNat
    rw [show (((plainBits w note l).length : Int) + 5).toNat = (plainBits w note l).length + 5 by omega, pow_add2]
    have : (2 : Int) ^ 5 = 32 := rfl
    rw [this]
    have := vb.2
    omega
  have hv : valOf (plainBits w note l) = w + 2 ^ (4 : Int).toNat * (2 * 3 + 2 ^ (3 : Int).toNat * ((note.length : Int) + 2 ^ (8 : Int).toNat * (0 + 2 ^ (1 : Int).toNat * valOf (byteBits note ++ stored l)))) := by
    unfold plainBits
    rw [val_num_head _ w0 (by show w < 16; omega), val_num_head _ (by omega) (by decide), val_num_head _ (by omega) (by show (note.length : Int) < 256; omega)]
    rfl
  generalize hR : (2 * 3 + 2 ^ (3 : Int).toNat * ((note.length : Int) + 2 ^ (8 : Int).toNat * (0 + 2 ^ (1 : Int).toNat * valOf (byteBits note ++ stored l))) : Int) = R at *
  obtain ⟨e1, i1⟩ := drive_num i0 w R 4 (3 + 8 + 1 + 8 * note.length + ((stored l).length + 5)) (by show (0 : Int) ≠ 6; omega) (by show (0 : Int) ≠ 8; omega) (by show (0 : Int) ≤ 9; omega) rfl hv w0 (by show w < 16; omega) (by show ((plainBits w note l).length : Int) + 5 = _; rw [hlen]; omega) (by omega)
  have u1 : use { ({ initRd with hold := valOf (plainBits w note l), have_ := (plainBits w note l).length + 5 } : Rd) with hold := R, have_ := 3 + 8 + 1 + 8 * note.length + ((stored l).length + 5) } w = { initRd with hold := R, have_ := 3 + 8 + 1 + 8 * note.length + ((stored l).length + 5), window := 16 * 2 ^ w.toNat, part := 1 } := by
    show useWindow _ w = _
    unfold useWindow
    rw [if_neg (by omega)]
  rw [u1] at e1 i1
  have hs8 := stored_length l
  obtain ⟨t, t1, t2, t3, t4, t5, t6⟩ := head_read 3 _ i1 rfl note _ 8 _ (stored l) (Or.inr ⟨rfl, rfl, rfl, hn⟩) hR.symm rfl (by omega) (by omega)
  obtain ⟨r1, r2⟩ := stored_read l t hg t1 t3 t4 t5
  rw [e1, t2]
  refine ⟨?_, r2⟩
  rw [r1, t6, if_neg (by omega)]
  rfl

end Wr
