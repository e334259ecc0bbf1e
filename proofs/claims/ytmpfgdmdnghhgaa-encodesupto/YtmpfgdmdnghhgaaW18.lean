import Derived.Test.YtmpfgdmdnghhgaaRing
import Derived.Test.YtmpfgdmdnghhgaaW17
/- THE STREAMS OF 'Copied', READ. No Go. -/
namespace Wr

theorem name_more_step {s : Rd} {x : Int} (h0 : s.mstep = 2) (h1 : ¬ (s.msize ≤ x ∨ 272 ≤ s.mat)) (h2 : ¬ (0 < s.mat ∧ x ≤ s.msym (s.mat - 1).toNat)) (h3 : s.mat + 1 < s.mwanted) :
    useCode s x = { s with msym := upd s.msym s.mat.toNat x, mat := s.mat + 1 } := by
  have e : give s x = ({ s with msym := upd s.msym s.mat.toNat x, mat := s.mat + 1 }, 0) := by
    unfold give
    rw [if_neg (by omega), if_neg (by omega), if_pos h0]
    unfold nameP
    rw [if_neg h1, if_neg h2]
    dsimp only
    rw [if_pos h3]
  unfold useCode
  rw [e]
  rfl
theorem name_done_step {s : Rd} {x : Int} (h0 : s.mstep = 2) (h1 : ¬ (s.msize ≤ x ∨ 272 ≤ s.mat)) (h2 : ¬ (0 < s.mat ∧ x ≤ s.msym (s.mat - 1).toNat)) (h3 : ¬ s.mat + 1 < s.mwanted) :
    give s x = ({ s with msym := upd s.msym s.mat.toNat x, mat := s.mat + 1, mcnt := simpleCnt s.mwanted }, 1) := by
  unfold give
  rw [if_neg (by omega), if_neg (by omega), if_pos h0]
  unfold nameP
  rw [if_neg h1, if_neg h2]
  dsimp only
  rw [if_neg h3]

theorem find_one (sym : Nat → Int) (hold have_ : Int) (h : 0 ≤ have_) : find (simpleCnt 1) sym hold have_ = (sym 0, 0) := by
  unfold find findGo
  rw [if_pos ⟨by omega, by omega⟩, if_pos (by decide)]
  rfl
theorem find3_0 (sym : Nat → Int) (hold have_ : Int) (h : 1 ≤ have_) (b : hold % 2 = 0) : find (simpleCnt 3) sym hold have_ = (sym 0, ((1 : Nat) : Int)) := by
  have b' : hold / 2 ^ 0 % 2 = 0 := by rw [Int.pow_zero, Int.ediv_one]; exact b
  unfold find findGo
  rw [if_pos ⟨by omega, by omega⟩, if_neg (by decide)]
  unfold findGo
  rw [b', if_pos ⟨by omega, by omega⟩, if_pos (by decide)]
  rfl
theorem find3_1 (sym : Nat → Int) (hold have_ : Int) (h : 2 ≤ have_) (b : hold % 2 = 1) (c : Int) (hc : hold / 2 % 2 = c) (c01 : c = 0 ∨ c = 1) : find (simpleCnt 3) sym hold have_ = (sym (1 + c).toNat, ((2 : Nat) : Int)) := by
  have b' : hold / 2 ^ 0 % 2 = 1 := by rw [Int.pow_zero, Int.ediv_one]; exact b
  have c' : hold / 2 ^ (0 + 1) % 2 = c := hc
  unfold find findGo
  rw [if_pos ⟨by omega, by omega⟩, if_neg (by decide)]
  unfold findGo
  rw [b', if_pos ⟨by omega, by omega⟩, if_neg (by decide)]
  unfold findGo
  rw [c', if_pos ⟨by omega, by omega⟩]
  rcases c01 with rfl | rfl
  · rw [if_pos (by decide)]; rfl
  · rw [if_pos (by decide)]; rfl

/- the states, one behind the other -/
def cs1 (h W : Int) : Rd := { initRd with hold := h, have_ := 60, window := W, part := 1 }
def cs2 (h W : Int) : Rd := { initRd with hold := h, have_ := 57, window := W, part := 2, last := true, kind := 2 }
def cs3 (h n W z : Int) (st wn at' : Int) (sy : Nat → Int) : Rd :=
  { initRd with hold := h, have_ := n, window := W, part := 4, last := true, kind := 2, left := z + 1, msize := 272, mwidth := 9, mstep := st, mwanted := wn, mat := at', msym := sy }
def lsy (x y k : Int) : Nat → Int := upd (upd (upd (fun _ => 0) 0 x) 1 y) 2 (256 + k)
def cs4 (h n W z x y k : Int) (st wn : Int) : Rd :=
  { initRd with hold := h, have_ := n, window := W, part := 5, last := true, kind := 2, left := z + 1, msize := 16, mwidth := 4, mstep := st, mwanted := wn, mat := 0, msym := lsy x y k, mcnt := simpleCnt 3, lcnt := simpleCnt 3, lsym := lsy x y k }
def cs5 (h n W l x y k d : Int) (rg : Nat → Int) (at' : Int) (o : List Int) : Rd :=
  { initRd with hold := h, have_ := n, window := W, part := 6, last := true, kind := 2, left := l, msize := 16, mwidth := 4, mstep := 2, mwanted := 1, mat := 1, msym := upd (lsy x y k) 0 d, mcnt := simpleCnt 1,
                lcnt := simpleCnt 3, lsym := lsy x y k, dcnt := simpleCnt 1, dsym := upd (lsy x y k) 0 d, ring := rg, at_ := at', reach := at', out := o }
def cs6 (p h n W l x y k d len : Int) : Rd := { cs5 h n W l x y k d (upd (upd (fun _ => 0) 0 x) 1 y) 2 [x, y] with part := p, least := 3 + k, more := 0, length := len }

def copiedVal (w x y k d z : Int) : Int := w + 2 ^ 4 * (5 + 2 ^ 3 * (z + 2 ^ 12 * (0 + 2 ^ 1 * (2 + 2 ^ 2 * (x + 2 ^ 9 * (y + 2 ^ 9 * (256 + k + 2 ^ 9 * (0 + 2 ^ 1 * (0 + 2 ^ 2 * (d + 2 ^ 4 * 26))))))))))

theorem copied_head (w x y k d z : Int) (w0 : 0 ≤ w) (w8 : w ≤ 8) (x0 : 0 ≤ x) (xy : x < y) (y1 : y ≤ 255) (k0 : 0 ≤ k) (k7 : k ≤ 7) (d0 : 0 ≤ d) (d2 : d ≤ 2) (z0 : 3 ≤ z) (z1 : z ≤ 20) :
    drive { initRd with hold := copiedVal w x y k d z, have_ := 64 } = drive (cs6 8 0 3 (16 * 2 ^ w.toNat) (z - 1) x y k d (3 + k)) ∧ Inv (cs6 8 0 3 (16 * 2 ^ w.toNat) (z - 1) x y k d (3 + k)) := by
  have p4 : (2 : Int) ^ 4 = 16 := rfl
  have p3 : (2 : Int) ^ 3 = 8 := rfl
  have p12 : (2 : Int) ^ 12 = 4096 := rfl
  have p9 : (2 : Int) ^ 9 = 512 := rfl
  have p1 : (2 : Int) ^ 1 = 2 := rfl
  have p2 : (2 : Int) ^ 2 = 4 := rfl
  have hV : 0 ≤ copiedVal w x y k d z ∧ copiedVal w x y k d z < 2 ^ 64 := by
    unfold copiedVal
    rw [p4, p3, p12, p9, p1, p2]
    have : (2 : Int) ^ 64 = 18446744073709551616 := rfl
    rw [this]
    omega
  have i0 : Inv { initRd with hold := copiedVal w x y k d z, have_ := 64 } := by
    have b := init_rest.1.1
    exact ⟨⟨hV.1, hV.2, by show (0 : Int) ≤ 64; omega, b.at0, b.at1, b.r0, b.r1, b.w1, b.near, b.l0, b.l1⟩, part_end (Or.inl ⟨rfl, rfl⟩)⟩
  have t0 : ∀ h : Int, use { ({ initRd with hold := copiedVal w x y k d z, have_ := 64 } : Rd) with hold := h, have_ := 60 } w = cs1 h (16 * 2 ^ w.toNat) := fun h => by
    show useWindow _ w = _
    unfold useWindow
    rw [if_neg (by omega)]
    rfl
  generalize hR10 : (d + 2 ^ 4 * 26 : Int) = R10
  generalize hR9 : (0 + 2 ^ 2 * R10 : Int) = R9
  generalize hR8 : (0 + 2 ^ 1 * R9 : Int) = R8
  generalize hR7 : (256 + k + 2 ^ 9 * R8 : Int) = R7
  generalize hR6 : (y + 2 ^ 9 * R7 : Int) = R6
  generalize hR5 : (x + 2 ^ 9 * R6 : Int) = R5
  generalize hR4 : (2 + 2 ^ 2 * R5 : Int) = R4
  generalize hR3 : (0 + 2 ^ 1 * R4 : Int) = R3
  generalize hR2 : (z + 2 ^ 12 * R3 : Int) = R2
  generalize hR1 : (5 + 2 ^ 3 * R2 : Int) = R1
  have hV1 : copiedVal w x y k d z = w + 2 ^ 4 * R1 := by unfold copiedVal; rw [hR10, hR9, hR8, hR7, hR6, hR5, hR4, hR3, hR2, hR1]
  obtain ⟨e1, i1⟩ := drive_num i0 w R1 4 60 (by show ((0 : Int)) ≠ 6; omega) (by show ((0 : Int)) ≠ 8; omega) (by show ((0 : Int)) ≤ 9; omega) rfl hV1 w0 (by show w < 16; omega) rfl (by omega)
  rw [t0] at e1 i1
  rw [e1]
  clear e1 i0 t0 hV hV1
  have hWb : (16 : Int) ≤ 16 * 2 ^ w.toNat := by have := pow_pos2 w.toNat; omega
  generalize hW : (16 * 2 ^ w.toNat : Int) = W at *
  obtain ⟨e2, i2⟩ := drive_num i1 5 R2 3 57 (by show ((1 : Int)) ≠ 6; omega) (by show ((1 : Int)) ≠ 8; omega) (by show ((1 : Int)) ≤ 9; omega) rfl hR1.symm (by omega) (by decide) rfl (by omega)
  rw [show use { cs1 R1 W with hold := R2, have_ := 57 } 5 = cs2 R2 W from rfl] at e2 i2
  rw [e2]
  clear e2 i1
  obtain ⟨e3, i3⟩ := drive_num i2 z R3 12 45 (by show ((2 : Int)) ≠ 6; omega) (by show ((2 : Int)) ≠ 8; omega) (by show ((2 : Int)) ≤ 9; omega) rfl hR2.symm (by omega) (by show z < 4096; omega) rfl (by omega)
  rw [show use { cs2 R2 W with hold := R3, have_ := 45 } z = cs3 R3 45 W z 0 0 0 (fun _ => 0) from rfl] at e3 i3
  rw [e3]
  clear e3 i2
  obtain ⟨e4, i4⟩ := drive_num i3 0 R4 1 44 (by show ((4 : Int)) ≠ 6; omega) (by show ((4 : Int)) ≠ 8; omega) (by show ((4 : Int)) ≤ 9; omega) rfl hR3.symm (by omega) (by decide) rfl (by omega)
  rw [show use { cs3 R3 45 W z 0 0 0 (fun _ => 0) with hold := R4, have_ := 44 } 0 = cs3 R4 44 W z 1 0 0 (fun _ => 0) from rfl] at e4 i4
  rw [e4]
  clear e4 i3
  obtain ⟨e5, i5⟩ := drive_num i4 2 R5 2 42 (by show ((4 : Int)) ≠ 6; omega) (by show ((4 : Int)) ≠ 8; omega) (by show ((4 : Int)) ≤ 9; omega) rfl hR4.symm (by omega) (by decide) rfl (by omega)
  rw [show use { cs3 R4 44 W z 1 0 0 (fun _ => 0) with hold := R5, have_ := 42 } 2 = cs3 R5 42 W z 2 3 0 (fun _ => 0) from rfl] at e5 i5
  rw [e5]
  clear e5 i4
  obtain ⟨e6, i6⟩ := drive_num i5 x R6 9 33 (by show ((4 : Int)) ≠ 6; omega) (by show ((4 : Int)) ≠ 8; omega) (by show ((4 : Int)) ≤ 9; omega) rfl hR5.symm x0 (by show x < 512; omega) rfl (by omega)
  have t6 : use { cs3 R5 42 W z 2 3 0 (fun _ => 0) with hold := R6, have_ := 33 } x = cs3 R6 33 W z 2 3 1 (upd (fun _ => 0) 0 x) := by
    show useCode _ x = _
    rw [name_more_step rfl (by show ¬ ((272 : Int) ≤ x ∨ (272 : Int) ≤ 0); omega) (by show ¬ ((0 : Int) < 0 ∧ _); omega) (by show (0 : Int) + 1 < 3; omega)]
    rfl
  rw [t6] at e6 i6
  rw [e6]
  clear e6 i5 t6
  obtain ⟨e7, i7⟩ := drive_num i6 y R7 9 24 (by show ((4 : Int)) ≠ 6; omega) (by show ((4 : Int)) ≠ 8; omega) (by show ((4 : Int)) ≤ 9; omega) rfl hR6.symm (by omega) (by show y < 512; omega) rfl (by omega)
  have t7 : use { cs3 R6 33 W z 2 3 1 (upd (fun _ => 0) 0 x) with hold := R7, have_ := 24 } y = cs3 R7 24 W z 2 3 2 (upd (upd (fun _ => 0) 0 x) 1 y) := by
    show useCode _ y = _
    rw [name_more_step rfl (by show ¬ ((272 : Int) ≤ y ∨ (272 : Int) ≤ 1); omega) (by show ¬ ((0 : Int) < 1 ∧ y ≤ x); omega) (by show (1 : Int) + 1 < 3; omega)]
    rfl
  rw [t7] at e7 i7
  rw [e7]
  clear e7 i6 t7
  obtain ⟨e8, i8⟩ := drive_num i7 (256 + k) R8 9 15 (by show ((4 : Int)) ≠ 6; omega) (by show ((4 : Int)) ≠ 8; omega) (by show ((4 : Int)) ≤ 9; omega) rfl hR7.symm (by omega) (by show 256 + k < 512; omega) rfl (by omega)
  have t8 : use { cs3 R7 24 W z 2 3 2 (upd (upd (fun _ => 0) 0 x) 1 y) with hold := R8, have_ := 15 } (256 + k) = cs4 R8 15 W z x y k 0 3 := by
    show useCode _ (256 + k) = _
    unfold useCode
    rw [name_done_step rfl (by show ¬ ((272 : Int) ≤ 256 + k ∨ (272 : Int) ≤ 2); omega) (by show ¬ ((0 : Int) < 2 ∧ 256 + k ≤ y); omega) (by show ¬ (2 : Int) + 1 < 3; omega)]
    rfl
  rw [t8] at e8 i8
  rw [e8]
  clear e8 i7 t8
  obtain ⟨e9, i9⟩ := drive_num i8 0 R9 1 14 (by show ((5 : Int)) ≠ 6; omega) (by show ((5 : Int)) ≠ 8; omega) (by show ((5 : Int)) ≤ 9; omega) rfl hR8.symm (by omega) (by decide) rfl (by omega)
  rw [show use { cs4 R8 15 W z x y k 0 3 with hold := R9, have_ := 14 } 0 = cs4 R9 14 W z x y k 1 3 from rfl] at e9 i9
  rw [e9]
  clear e9 i8
  obtain ⟨e10, i10⟩ := drive_num i9 0 R10 2 12 (by show ((5 : Int)) ≠ 6; omega) (by show ((5 : Int)) ≠ 8; omega) (by show ((5 : Int)) ≤ 9; omega) rfl hR9.symm (by omega) (by decide) rfl (by omega)
  rw [show use { cs4 R9 14 W z x y k 1 3 with hold := R10, have_ := 12 } 0 = cs4 R10 12 W z x y k 2 1 from rfl] at e10 i10
  rw [e10]
  clear e10 i9
  obtain ⟨e11, i11⟩ := drive_num i10 d 26 4 8 (by show ((5 : Int)) ≠ 6; omega) (by show ((5 : Int)) ≠ 8; omega) (by show ((5 : Int)) ≤ 9; omega) rfl hR10.symm d0 (by show d < 16; omega) rfl (by omega)
  have t11 : use { cs4 R10 12 W z x y k 2 1 with hold := 26, have_ := 8 } d = cs5 26 8 W (z + 1) x y k d (fun _ => 0) 0 [] := by
    show useCode _ d = _
    unfold useCode
    rw [name_done_step rfl (by show ¬ ((16 : Int) ≤ d ∨ (272 : Int) ≤ 0); omega) (by show ¬ ((0 : Int) < 0 ∧ _); omega) (by show ¬ (0 : Int) + 1 < 1; omega)]
    rfl
  rw [t11] at e11 i11
  rw [e11]
  clear e11 i10 t11
  -- the letters
  have pk : ∀ (h n l : Int) (rg : Nat → Int) (a' : Int) (o : List Int), peek (cs5 h n W l x y k d rg a' o) = find (simpleCnt 3) (lsy x y k) h n := fun _ _ _ _ _ _ => rfl
  obtain ⟨e12, i12⟩ := drive_sym i11 x 1 13 7 (by rw [pk, find3_0 _ _ _ (by omega) rfl]; rfl) (by show (6 : Int) ≤ 9; omega) rfl rfl (by omega)
  have t12 : use { cs5 26 8 W (z + 1) x y k d (fun _ => 0) 0 [] with hold := 13, have_ := 7 } x = cs5 13 7 W z x y k d (upd (fun _ => 0) 0 x) 1 [x] := by
    show useLetter _ x = _
    unfold useLetter
    rw [if_pos (by omega)]
    unfold endCommand
    rw [if_neg (by show ¬ (z + 1 - 1 = 0); omega)]
    have hr : (put ({ cs5 26 8 W (z + 1) x y k d (fun _ => 0) 0 [] with hold := 13, have_ := 7 } : Rd) x).reach = 1 := by
      show (if (0 : Int) < W then (0 : Int) + 1 else 0) = 1
      rw [if_pos (by omega)]; rfl
    have hl : (put ({ cs5 26 8 W (z + 1) x y k d (fun _ => 0) 0 [] with hold := 13, have_ := 7 } : Rd) x).left = z := by
      show z + 1 - 1 = z; omega
    show ({ put ({ cs5 26 8 W (z + 1) x y k d (fun _ => 0) 0 [] with hold := 13, have_ := 7 } : Rd) x with part := 6, reach := (put ({ cs5 26 8 W (z + 1) x y k d (fun _ => 0) 0 [] with hold := 13, have_ := 7 } : Rd) x).reach, left := (put ({ cs5 26 8 W (z + 1) x y k d (fun _ => 0) 0 [] with hold := 13, have_ := 7 } : Rd) x).left } : Rd) = _
    rw [hr, hl]
    rfl
  rw [t12] at e12 i12
  rw [e12]
  clear e12 i11 t12
  obtain ⟨e13, i13⟩ := drive_sym i12 y 2 3 5 (by rw [pk, find3_1 _ _ _ (by omega) rfl 0 rfl (Or.inl rfl)]; rfl) (by show (6 : Int) ≤ 9; omega) rfl rfl (by omega)
  have t13 : use { cs5 13 7 W z x y k d (upd (fun _ => 0) 0 x) 1 [x] with hold := 3, have_ := 5 } y = cs5 3 5 W (z - 1) x y k d (upd (upd (fun _ => 0) 0 x) 1 y) 2 [x, y] := by
    show useLetter _ y = _
    unfold useLetter
    rw [if_pos (by omega)]
    unfold endCommand
    rw [if_neg (by show ¬ (z - 1 = 0); omega)]
    have hr : (put ({ cs5 13 7 W z x y k d (upd (fun _ => 0) 0 x) 1 [x] with hold := 3, have_ := 5 } : Rd) y).reach = 2 := by
      show (if (1 : Int) < W then (1 : Int) + 1 else 1) = 2
      rw [if_pos (by omega)]; rfl
    show ({ put ({ cs5 13 7 W z x y k d (upd (fun _ => 0) 0 x) 1 [x] with hold := 3, have_ := 5 } : Rd) y with part := 6, reach := (put ({ cs5 13 7 W z x y k d (upd (fun _ => 0) 0 x) 1 [x] with hold := 3, have_ := 5 } : Rd) y).reach } : Rd) = _
    rw [hr]
    rfl
  rw [t13] at e13 i13
  rw [e13]
  clear e13 i12 t13
  obtain ⟨e14, i14⟩ := drive_sym i13 (256 + k) 2 0 3 (by rw [pk, find3_1 _ _ _ (by omega) rfl 1 rfl (Or.inr rfl)]; rfl) (by show (6 : Int) ≤ 9; omega) rfl rfl (by omega)
  have t14 : use { cs5 3 5 W (z - 1) x y k d (upd (upd (fun _ => 0) 0 x) 1 y) 2 [x, y] with hold := 0, have_ := 3 } (256 + k) = cs6 7 0 3 W (z - 1) x y k d 0 := by
    show useLetter _ (256 + k) = _
    unfold useLetter
    rw [if_neg (by omega), show lenLeast (256 + k - 256) = 3 + k by unfold lenLeast; rw [if_pos (by omega)]; omega, show lenMore (256 + k - 256) = 0 by unfold lenMore; rw [if_pos (by omega)]]
    rfl
  rw [t14] at e14 i14
  rw [e14]
  clear e14 i13 t14
  obtain ⟨e15, i15⟩ := drive_num i14 0 0 0 3 (by show (7 : Int) ≠ 6; omega) (by show (7 : Int) ≠ 8; omega) (by show (7 : Int) ≤ 9; omega) rfl rfl (by omega) (by decide) rfl (by omega)
  have t15 : use { cs6 7 0 3 W (z - 1) x y k d 0 with hold := 0, have_ := 3 } 0 = cs6 8 0 3 W (z - 1) x y k d (3 + k) := by
    show ({ cs6 7 0 3 W (z - 1) x y k d 0 with hold := 0, have_ := 3, length := 3 + k + 0, part := 8 } : Rd) = _
    rw [show 3 + k + 0 = 3 + k by omega]
    rfl
  rw [t15] at e15 i15
  exact ⟨e15, i15⟩

/-- the copy -/
theorem copied_tail (W x y k d l : Int) (_hW : 16 ≤ W) (_hW2 : W ≤ 4096) (_k0 : 0 ≤ k) (_k7 : k ≤ 7) (d0 : 0 ≤ d) (d2 : d ≤ 2) (hI : Inv (cs6 8 0 3 W l x y k d (3 + k))) :
    drive (cs6 8 0 3 W l x y k d (3 + k)) = drive (useCopy (if 0 < d then { cs6 8 0 3 W l x y k d (3 + k) with near := nearAdd initRd.near (d + 1) } else cs6 8 0 3 W l x y k d (3 + k)) (d + 1)) := by
  have pk : peek (cs6 8 0 3 W l x y k d (3 + k)) = (d, ((0 : Nat) : Int)) := by
    show find (simpleCnt 1) (upd (lsy x y k) 0 d) 0 3 = _
    rw [find_one _ _ _ (by omega)]
    rfl
  obtain ⟨e, _⟩ := drive_sym hI d 0 0 3 pk (by show (8 : Int) ≤ 9; omega) rfl rfl (by omega)
  rw [e]
  have hn : (cs6 8 0 3 W l x y k d (3 + k)).near d.toNat = d + 1 := by
    show (if d.toNat < 4 then (d.toNat : Int) + 1 else 0) = d + 1
    rw [if_pos (by omega)]; omega
  show drive (useDistance (cs6 8 0 3 W l x y k d (3 + k)) d) = _
  unfold useDistance
  rw [if_pos (by omega), hn]
  rfl

theorem copied_far (W x y k l : Int) (hW : 16 ≤ W) (hW2 : W ≤ 4096) (k0 : 0 ≤ k) (k7 : k ≤ 7) (hI : Inv (cs6 8 0 3 W l x y k 2 (3 + k))) :
    (drive (cs6 8 0 3 W l x y k 2 (3 + k))).out = [x, y] ∧ errnoBig (drive (cs6 8 0 3 W l x y k 2 (3 + k))) = 2 := by
  rw [copied_tail W x y k 2 l hW hW2 k0 k7 (by omega) (by omega) hI, if_pos (by omega)]
  unfold useCopy
  rw [if_pos (Or.inl (by show (2 : Int) < 2 + 1; omega)), drive_stop (Or.inr rfl)]
  exact ⟨rfl, rfl⟩

theorem copied_long (W x y k d : Int) (hW : 16 ≤ W) (hW2 : W ≤ 4096) (k0 : 0 ≤ k) (k7 : k ≤ 7) (d0 : 0 ≤ d) (d2 : d ≤ 1) (hI : Inv (cs6 8 0 3 W (2 + k) x y k d (3 + k))) :
    (drive (cs6 8 0 3 W (2 + k) x y k d (3 + k))).out = [x, y] ∧ errnoBig (drive (cs6 8 0 3 W (2 + k) x y k d (3 + k))) = 2 := by
  rw [copied_tail W x y k d (2 + k) hW hW2 k0 k7 (by omega) (by omega) hI]
  have key : ∀ s : Rd, s.left = 2 + k → s.length = 3 + k → s.out = [x, y] → (drive (useCopy s (d + 1))).out = [x, y] ∧ errnoBig (drive (useCopy s (d + 1))) = 2 := by
    intro s h1 h2 h3
    unfold useCopy
    rw [if_pos (Or.inr (by omega)), drive_stop (Or.inr rfl)]
    exact ⟨h3, rfl⟩
  split
  · exact key _ rfl rfl rfl
  · exact key _ rfl rfl rfl

theorem copied_good (W x y k d : Int) (hW : 16 ≤ W) (hW2 : W ≤ 4096) (k0 : 0 ≤ k) (k7 : k ≤ 7) (d0 : 0 ≤ d) (d2 : d ≤ 1) (hI : Inv (cs6 8 0 3 W (3 + k) x y k d (3 + k))) :
    (drive (cs6 8 0 3 W (3 + k) x y k d (3 + k))).out = copyList (d + 1).toNat (3 + k).toNat [x, y] ∧ errnoBig (drive (cs6 8 0 3 W (3 + k) x y k d (3 + k))) = 0 := by
  rw [copied_tail W x y k d (3 + k) hW hW2 k0 k7 (by omega) (by omega) hI]
  have key : ∀ s : Rd, s.left = 3 + k → s.length = 3 + k → s.out = [x, y] → s.reach = 2 → s.at_ = 2 → s.window = W → s.ring = upd (upd (fun _ => 0) 0 x) 1 y → s.last = true → s.hold = 0 → s.have_ = 3 →
      (drive (useCopy s (d + 1))).out = copyList (d + 1).toNat (3 + k).toNat [x, y] ∧ errnoBig (drive (useCopy s (d + 1))) = 0 := by
    intro s h1 h2 h3 h4 h5 h6 h7 h8 h9 h10
    have hro : RingOk s [x, y] := by
      refine ⟨by rw [h5]; rfl, ?_, ?_⟩
      · intro i hi _
        rw [h7]
        match i, hi with
        | 0, _ => rfl
        | 1, _ => rfl
      · rw [h4, h6]
        show (2 : Int) = if ((2 : Nat) : Int) ≤ W then ((2 : Nat) : Int) else W
        rw [if_pos (by omega)]
        rfl
    have cr := (copy_ring (d + 1).toNat (by omega) (3 + k).toNat s [x, y] hro (by omega) (by omega) (by omega)).2 [] (by rw [h3]; rfl)
    rw [show (((d + 1).toNat : Nat) : Int) = d + 1 by omega] at cr
    have keep : ∀ (n : Nat) (t : Rd), (copyGo n t (d + 1)).left = t.left - n ∧ (copyGo n t (d + 1)).last = t.last ∧ (copyGo n t (d + 1)).hold = t.hold ∧ (copyGo n t (d + 1)).have_ = t.have_ := by
      intro n
      induction n with
      | zero => intro t; exact ⟨by show t.left = t.left - ((0 : Nat) : Int); omega, rfl, rfl, rfl⟩
      | succ n ih =>
        intro t
        obtain ⟨a, b, c, e⟩ := ih (put t (agoP t (d + 1)))
        refine ⟨?_, b, c, e⟩
        show (copyGo n (put t (agoP t (d + 1))) (d + 1)).left = _
        rw [a]
        show t.left - 1 - (n : Int) = t.left - ((n + 1 : Nat) : Int)
        omega
    obtain ⟨q1, q2, q3, q4⟩ := keep (3 + k).toNat s
    unfold useCopy
    rw [if_neg (by omega), h2]
    generalize copyGo (3 + k).toNat s (d + 1) = t at *
    have hl : t.left = 0 := by omega
    unfold endCommand
    rw [if_pos hl]
    have hf : fillOk { t with part := 6 } = true := by
      unfold fillOk
      show (t.hold % 2 ^ (t.have_ % 8).toNat == 0) = true
      rw [q3, q4, h9, h10]
      rfl
    have he : endBlock { t with part := 6 } = { fillTo { t with part := 6 } with part := 10 } := by
      unfold endBlock
      rw [if_pos (show t.last = true by rw [q2, h8]), hf]
      rfl
    have hft : fillTo { t with part := 6 } = { t with part := 6, hold := t.hold / 2 ^ (t.have_ % 8).toNat, have_ := t.have_ - t.have_ % 8 } := by
      unfold fillTo
      rw [hf]
      rfl
    rw [he, drive_stop (Or.inl rfl), hft]
    refine ⟨?_, ?_⟩
    · show t.out = _
      rw [cr]
      rfl
    · unfold errnoBig
      rw [if_neg (by show ¬ ((10 : Int) = 11); omega), if_neg (by show ¬ ((10 : Int) ≠ 10); omega), if_neg (by show ¬ (0 < t.have_ - t.have_ % 8); omega)]
  split
  · exact key _ rfl rfl rfl rfl rfl rfl rfl rfl rfl rfl
  · exact key _ rfl rfl rfl rfl rfl rfl rfl rfl rfl rfl

end Wr

namespace Go.Proofs.Ytmpfgdmdnghhgaa
open Go.RowKit Wr

def pickP (c n : Int) : Int := if c < 0 then (-(c + 1)) % n else c % n
theorem pickP_bounds (c n : Int) (hn : 1 ≤ n) : 0 ≤ pickP c n ∧ pickP c n < n := by
  unfold pickP
  split
  · exact ⟨Int.emod_nonneg _ (by omega), Int.emod_lt_of_pos _ (by omega)⟩
  · exact ⟨Int.emod_nonneg _ (by omega), Int.emod_lt_of_pos _ (by omega)⟩
def windowP (w : Int) : Int := if 0 ≤ w ∧ w ≤ 8 then w else pickP w 9
theorem windowP_bounds (w : Int) : 0 ≤ windowP w ∧ windowP w ≤ 8 := by
  unfold windowP
  split
  · assumption
  · have := pickP_bounds w 9 (by omega); omega

set_option maxHeartbeats 400000 in
theorem pick_any (w : World) (c n : Int) (h1 : -9223372036854775808 ≤ c) (h2 : c ≤ 9223372036854775807) (h3 : 1 ≤ n) (h4 : n ≤ 1000000) :
    Calls Try.prog 14 #[.int .i64 c, .int .i64 n] w fun e w' => e = .returned (.int .i64 (pickP c n)) ∧ w' = w := by
  by_cases hc : c < 0
  · have HE : Hid (pickP c n = -((c + 1).tmod n)) := by
      rw [Hid, pickP, if_pos hc, ← Int.neg_tmod, Int.tmod_eq_emod_of_nonneg (by omega)]
    go_enter Try.func14, Try.ntmps14
    go_wp2
    go_ret
    rw [HE.out]
    exact ⟨rfl, rfl⟩
  · have HE : Hid (pickP c n = c % n) := by rw [Hid, pickP, if_neg hc]
    go_enter Try.func14, Try.ntmps14
    go_wp2
    go_ret
    rw [HE.out]
    exact ⟨rfl, rfl⟩

theorem info_int : (Try.prog.info? 3).map (fun i => (i.zero, i.size, i.bytes)) = some (some (.int .i64 0), 1, 8) := by kernel_rfl

theorem bit_one (x : Int) (h0 : 0 ≤ x) (h1 : x < 4611686018427387904) : bits BinOp.and IntKind.i64 x 1 = x % 2 := bits_mask x 1 h0 h1 (by omega)

set_option maxHeartbeats 1000000 in
theorem put_bits (w : World) (B : Nat) (v : Value) (l : List Int) (x : Int) (n : Nat) (hown : w.ownsRow B 3 1 v l.length (l.map (Value.int .i64))) (hB : B ≤ w.heap.size)
    (x0 : 0 ≤ x) (x1 : x < 1099511627776) (hn : n ≤ 40) (hl : l.length ≤ 1099511627776) :
    Calls Try.prog 11 #[v, .int .i64 x, .int .i64 n] w fun e w' => ∃ v', e = .returned v' ∧ w'.ownsRow B 3 1 v' (l ++ numBits x n).length ((l ++ numBits x n).map (Value.int .i64)) ∧ Below B w w' := by
  obtain ⟨i0, hi, hz0, hz1, hz2⟩ := info_parts info_int
  have HI : Hid (Try.prog.info? 3 = some i0 ∧ i0.zero = some (.int .i64 0) ∧ i0.size = 1 ∧ i0.bytes = 8) := ⟨hi, hz0, hz1, hz2⟩
  clear hi hz0 hz1 hz2
  go_enter Try.func11, Try.ntmps11
  go_wp2
  go_loopw [0, 7] (fun u vi wr => ∃ k : Nat, k ≤ n ∧ vi = .int .i64 k ∧ wr.ownsRow B 3 1 u (l ++ numBits x k).length ((l ++ numBits x k).map (Value.int .i64)) ∧ Below B w wr) (fun _ vi _ => n - (intOf vi).toNat)
  case atStart =>
    refine ⟨0, by omega, rfl, ?_, Below.refl _ _⟩
    have e : l ++ numBits x 0 = l := by simp [numBits]
    rw [e]
    exact hown
  case round =>
    obtain ⟨k, hk, rfl, hownk, hbk⟩ := hrel
    clear hown
    by_cases hlt : k < n
    · have hp := pow_lt64 k (by omega)
      have q0 : 0 ≤ x / 2 ^ k := Int.ediv_nonneg x0 (by omega)
      have q1 : x / 2 ^ k ≤ x := Int.ediv_le_self _ x0
      have hm := bit_one (x / 2 ^ k) q0 (by omega)
      have e1 : (l ++ numBits x k) ++ [x / 2 ^ k % 2] = l ++ numBits x (k + 1) := by rw [numBits_succ, List.append_assoc]
      have hlen : (l ++ numBits x k).length = l.length + k := by rw [List.length_append, numBits_length]
      have HL : Hid ((l ++ numBits x k).length = l.length + k) := hlen
      have HE : Hid ((l ++ numBits x k) ++ [x / 2 ^ k % 2] = l ++ numBits x (k + 1)) := e1
      have hBr := hbk.size
      clear e1 hlen
      generalize l ++ numBits x k = L at *
      go_wp2_with (at_builtin; refine wpList_append_own _ rfl _ _ 29 rfl B 3 i0 (.int .i64 0) 1 8 Try.underlying29 HI.out.1 HI.out.2.1 HI.out.2.2.1 HI.out.2.2.2 rfl (by decide) _ _ _ rfl (hownk.alloc _) ⟨wr.heap.size, 0, none⟩ 1 1 [.int .i64 (x / 2 ^ k % 2)] rfl rfl ?c1 ?c2 ?c3 ?c4 ?c5 ?_)
      case c1 =>
        intro j u hj
        match j, hj with
        | 0, hj => simp at hj; subst hj; simp [Addr.add]
      case c2 => intro u hu; simp at hu; subst hu; rfl
      case c3 => rw [HL.out]; unfold maxLen; omega
      case c4 => rw [HL.out]; omega
      case c5 => simp; omega
      · intro v' w1 hown' hgrow _
        have hb1 : Below B w w1 := (hbk.alloc (by omega) _).grown hgrow (by simp; omega) (owns_above hownk)
        have ho2 : w1.ownsRow B 3 1 v' (l ++ numBits x (k + 1)).length ((l ++ numBits x (k + 1)).map (Value.int .i64)) := by
          rw [← HE.out, List.length_append, List.map_append]
          exact hown'
        clear hown' hgrow hownk
        go_wp2
        go_roundw
        case rel => exact ⟨k + 1, by omega, by go_num, ho2, hb1⟩
        case measure => simp [intOf]; omega
    · have hkn : k = n := by omega
      subst hkn
      go_wp2
      go_ret
      exact ⟨_, rfl, hownk, hbk⟩
end Go.Proofs.Ytmpfgdmdnghhgaa
