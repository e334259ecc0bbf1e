import Derived.Test.YtmpfgdmdnghhgaaInv2
import Derived.Lib.Strings
/- FEEDING THE READER. No Go. -/
namespace Wr

def feed : Rd → List UInt8 → Rd
  | s, [] => s
  | s, c :: l => if s.part = 11 ∨ s.trailing = true then s else feed (take s c.toNat) l

/-- between two bytes -/
def Rest (s : Rd) : Prop := Inv s ∧ (10 ≤ s.part ∨ s.have_ ≤ 11)

theorem take_rest {s : Rd} (h : Rest s) (c : Int) (c0 : 0 ≤ c) (c1 : c ≤ 255) (_hp : s.part ≠ 11) : Rest (take s c) ∧ psi (take s c) ≤ psi s + 4096 := by
  obtain ⟨hi, h11⟩ := h
  unfold take
  by_cases e10 : s.part = 10
  · rw [if_pos e10]
    refine ⟨⟨⟨hi.1.of rfl rfl rfl rfl rfl rfl ⟨hi.1.l0, hi.1.l1⟩, part_end (by right; right; right; left; exact e10)⟩, Or.inl (by show 10 ≤ s.part; omega)⟩, ?_⟩
    show psi s ≤ _
    omega
  · rw [if_neg e10]
    have pr := part_range hi.2
    have hm := more8_inv hi c c0 c1
    obtain ⟨i1, i2, i3⟩ := drive_inv (mu (more8 s c) + 1) (more8 s c) (by omega) hm
    refine ⟨⟨i1, ?_⟩, ?_⟩
    · by_cases h9 : (drive (more8 s c)).part ≤ 9
      · exact Or.inr (step_none i1 h9 i2)
      · exact Or.inl (by omega)
    · have e : psi (more8 s c) = psi s + 4096 := by
        show (s.out.length : Int) + s.left + 512 * (s.have_ + 8) = s.out.length + s.left + 512 * s.have_ + 4096
        omega
      omega

theorem feed_stop {s : Rd} (h : s.part = 11 ∨ s.trailing = true) : ∀ l, feed s l = s
  | [] => rfl
  | c :: l => by unfold feed; rw [if_pos h]
theorem feed_go {s : Rd} (h : ¬ (s.part = 11 ∨ s.trailing = true)) (c : UInt8) (l : List UInt8) : feed s (c :: l) = feed (take s c.toNat) l := by
  conv => lhs; unfold feed
  rw [if_neg h]

def outStr (l : List Int) : ByteArray := l.foldl (fun r n => r.push (UInt8.ofNat n.toNat)) ByteArray.empty

def initRd : Rd :=
  { hold := 0, have_ := 0, part := 0, last := false, kind := 0, left := 0, msize := 0, mwidth := 0, mstep := 0, mwanted := 0, mat := 0, mrepeat := 0,
    mlen := fun _ => 0, mcnt := fun _ => 0, msym := fun _ => 0, lcnt := fun _ => 0, lsym := fun _ => 0, dcnt := fun _ => 0, dsym := fun _ => 0,
    least := 0, more := 0, length := 0, near := fun j => if j < 4 then (j : Int) + 1 else 0, ring := fun _ => 0, at_ := 0, window := 0, reach := 0, trailing := false, out := [] }

theorem init_rest : Rest initRd := by
  refine ⟨⟨⟨by decide, by decide, by decide, by decide, by decide, by decide, by decide, by decide, ?_, by decide, by decide⟩, part_end (Or.inl ⟨rfl, rfl⟩)⟩, Or.inr (by decide)⟩
  intro i hi
  show 1 ≤ (if i < 4 then (i : Int) + 1 else 0) ∧ (if i < 4 then (i : Int) + 1 else 0) ≤ 4095
  rw [if_pos hi]
  omega

def errno (s : Rd) : Int := if s.part = 11 then 2 else if s.part ≠ 10 then 1 else if s.trailing then 3 else 0

end Wr

/- ALL BITS AT ONCE: what the reader comes to hangs on no cut. No Go. -/
namespace Wr

theorem more_div (h c : Int) (a n : Nat) (hn : n ≤ a) : (h + c * 2 ^ a) / 2 ^ n = h / 2 ^ n + c * 2 ^ (a - n) ∧ (h + c * 2 ^ a) % 2 ^ n = h % 2 ^ n := by
  have hp := pow_pos2 n
  have e : c * 2 ^ a = (c * 2 ^ (a - n)) * 2 ^ n := by
    rw [Int.mul_assoc, ← pow_add2, show a - n + n = a by omega]
  rw [e]
  exact ⟨Int.add_mul_ediv_right _ _ (by omega), Int.add_mul_emod_self_right _ _ _⟩

theorem drop_more {s : Rd} (h0 : 0 ≤ s.have_) (n c : Int) (n0 : 0 ≤ n) (n1 : n ≤ s.have_) : drop (more8 s c) n = more8 (drop s n) c := by
  unfold drop more8
  have e := (more_div s.hold c s.have_.toNat n.toNat (by omega)).1
  simp only
  rw [e, show s.have_.toNat - n.toNat = (s.have_ - n).toNat by omega, show s.have_ + 8 - n = s.have_ - n + 8 by omega]

theorem fillOk_more {s : Rd} (h0 : 0 ≤ s.have_) (c : Int) : fillOk (more8 s c) = fillOk s := by
  unfold fillOk more8
  simp only
  rw [show (s.have_ + 8) % 8 = s.have_ % 8 by omega, (more_div s.hold c s.have_.toNat (s.have_ % 8).toNat (by omega)).2]
theorem fillTo_more {s : Rd} (h0 : 0 ≤ s.have_) (c : Int) : fillTo (more8 s c) = more8 (fillTo s) c := by
  unfold fillTo
  rw [fillOk_more h0]
  split
  · have e : (more8 s c).have_ % 8 = s.have_ % 8 := by show (s.have_ + 8) % 8 = _; omega
    have := drop_more h0 (s.have_ % 8) c (by omega) (by omega)
    rw [e]
    exact this
  · rfl
theorem endBlock_more {s : Rd} (h0 : 0 ≤ s.have_) (c : Int) : endBlock (more8 s c) = more8 (endBlock s) c := by
  unfold endBlock
  rw [fillOk_more h0, fillTo_more h0]
  have e : (more8 s c).last = s.last := rfl
  rw [e]
  split
  · split <;> rfl
  · rfl
theorem endCommand_more {s : Rd} (h0 : 0 ≤ s.have_) (c : Int) : endCommand (more8 s c) = more8 (endCommand s) c := by
  unfold endCommand
  have e : (more8 s c).left = s.left := rfl
  rw [e]
  split
  · exact endBlock_more (s := { s with part := 6 }) h0 c
  · rfl
theorem copy_more (d c : Int) : ∀ (n : Nat) (s : Rd), copyGo n (more8 s c) d = more8 (copyGo n s d) c
  | 0, _ => rfl
  | n + 1, s => by
    have := copy_more d c n (put s (agoP s d))
    exact this
theorem copy_have (d : Int) : ∀ (n : Nat) (s : Rd), (copyGo n s d).have_ = s.have_
  | 0, _ => rfl
  | n + 1, s => copy_have d n (put s (agoP s d))
theorem useCopy_more {s : Rd} (h0 : 0 ≤ s.have_) (d c : Int) : useCopy (more8 s c) d = more8 (useCopy s d) c := by
  unfold useCopy
  have e1 : (more8 s c).reach = s.reach := rfl
  have e2 : (more8 s c).left = s.left := rfl
  have e3 : (more8 s c).length = s.length := rfl
  rw [e1, e2, e3]
  split
  · rfl
  · rw [copy_more]
    exact endCommand_more (by rw [copy_have]; exact h0) c
theorem useWindow_more (s : Rd) (x c : Int) : useWindow (more8 s c) x = more8 (useWindow s x) c := by
  unfold useWindow
  split <;> rfl
theorem fill_have {s : Rd} (h0 : 0 ≤ s.have_) : 0 ≤ (fillTo s).have_ := by
  unfold fillTo
  split
  · show 0 ≤ s.have_ - s.have_ % 8; omega
  · exact h0
theorem useBlock_more {s : Rd} (h0 : 0 ≤ s.have_) (x c : Int) : useBlock (more8 s c) x = more8 (useBlock s x) c := by
  unfold useBlock
  dsimp only
  have h0' : 0 ≤ ({ s with last := x % 2 == 1, kind := x / 2 } : Rd).have_ := h0
  have e1 := fillOk_more h0' c
  have e2 := fillTo_more h0' c
  have e : ({ more8 s c with last := x % 2 == 1, kind := x / 2 } : Rd) = more8 { s with last := x % 2 == 1, kind := x / 2 } c := rfl
  rw [e, e1, e2]
  split
  · split
    · exact endBlock_more (fill_have h0') c
    · rfl
  · rfl
theorem useSize_more {s : Rd} (h0 : 0 ≤ s.have_) (x c : Int) : useSize (more8 s c) x = more8 (useSize s x) c := by
  have key : ∀ t : Rd, 0 ≤ t.have_ → (if fillOk (more8 t c) then (if ({ fillTo (more8 t c) with part := 3 } : Rd).left = 0 then endBlock { fillTo (more8 t c) with part := 3 } else { fillTo (more8 t c) with part := 3 }) else fillTo (more8 t c)) =
      more8 (if fillOk t then (if ({ fillTo t with part := 3 } : Rd).left = 0 then endBlock { fillTo t with part := 3 } else { fillTo t with part := 3 }) else fillTo t) c := by
    intro t ht
    rw [fillOk_more ht, fillTo_more ht]
    split
    · have e : ({ more8 (fillTo t) c with part := 3 } : Rd).left = ({ fillTo t with part := 3 } : Rd).left := rfl
      rw [e]
      split
      · exact endBlock_more (s := { fillTo t with part := 3 }) (fill_have ht) c
      · rfl
    · rfl
  unfold useSize
  have ek : (more8 s c).kind = s.kind := rfl
  rw [ek]
  by_cases hk : s.kind = 2
  · rw [if_pos hk, if_pos hk]
    rfl
  · rw [if_neg hk, if_neg hk]
    exact key { s with left := if s.kind = 1 then x + 1 else x } h0
theorem useByte_more {s : Rd} (h0 : 0 ≤ s.have_) (x c : Int) : useByte (more8 s c) x = more8 (useByte s x) c := by
  have key : ∀ t : Rd, 0 ≤ t.have_ → (if (more8 t c).left = 0 then endBlock (more8 t c) else more8 t c) = more8 (if t.left = 0 then endBlock t else t) c := by
    intro t ht
    have e : (more8 t c).left = t.left := rfl
    rw [e]
    split
    · exact endBlock_more ht c
    · rfl
  unfold useByte
  dsimp only
  have ek : (more8 s c).kind = s.kind := rfl
  rw [ek]
  by_cases hk : s.kind = 1
  · rw [if_pos hk, if_pos hk]
    exact key (put s x) h0
  · rw [if_neg hk, if_neg hk]
    exact key { s with left := s.left - 1 } h0
theorem useLetter_more {s : Rd} (h0 : 0 ≤ s.have_) (x c : Int) : useLetter (more8 s c) x = more8 (useLetter s x) c := by
  unfold useLetter
  split
  · exact endCommand_more (s := put s x) h0 c
  · rfl
theorem useDistance_more {s : Rd} (h0 : 0 ≤ s.have_) (x c : Int) : useDistance (more8 s c) x = more8 (useDistance s x) c := by
  unfold useDistance
  have en : (more8 s c).near = s.near := rfl
  rw [en]
  split
  · split
    · exact useCopy_more (s := { s with near := nearAdd s.near (s.near x.toNat) }) h0 _ c
    · exact useCopy_more h0 _ c
  · rfl
theorem lay_more (s : Rd) (x n c : Int) : lay (more8 s c) x n = (more8 (lay s x n).1 c, (lay s x n).2) := by
  unfold lay
  have e1 : (more8 s c).msize = s.msize := rfl
  have e2 : (more8 s c).mat = s.mat := rfl
  have e3 : (more8 s c).mlen = s.mlen := rfl
  have e4 : (more8 s c).msym = s.msym := rfl
  rw [e1, e2, e3, e4]
  split
  · rfl
  · dsimp only
    split
    · rfl
    · split <;> rfl
theorem give_more (s : Rd) (x c : Int) : give (more8 s c) x = (more8 (give s x).1 c, (give s x).2) := by
  unfold give
  have e1 : (more8 s c).mstep = s.mstep := rfl
  rw [e1]
  split
  · rfl
  split
  · rfl
  split
  · unfold nameP
    have e2 : (more8 s c).msize = s.msize := rfl
    have e3 : (more8 s c).mat = s.mat := rfl
    have e4 : (more8 s c).msym = s.msym := rfl
    rw [e2, e3, e4]
    split
    · rfl
    split
    · rfl
    · dsimp only
      have e5 : (more8 s c).mwanted = s.mwanted := rfl
      rw [e5]
      split <;> rfl
  split
  · unfold lengthP
    have e3 : (more8 s c).mat = s.mat := rfl
    rw [e3]
    split
    · exact lay_more s x 1 c
    split <;> rfl
  · unfold times
    dsimp only
    have e3 : (more8 s c).mrepeat = s.mrepeat := rfl
    rw [e3]
    split
    · exact lay_more { s with mstep := 3 } (before { s with mstep := 3 }) (3 + x) c
    split
    · exact lay_more { s with mstep := 3 } 0 (3 + x) c
    · exact lay_more { s with mstep := 3 } 0 (11 + x) c
theorem useCode_more (s : Rd) (x c : Int) : useCode (more8 s c) x = more8 (useCode s x) c := by
  unfold useCode
  rw [give_more]
  dsimp only
  have e1 : (more8 (give s x).1 c).part = (give s x).1.part := rfl
  rw [e1]
  split
  · rfl
  split
  · rfl
  split <;> rfl

theorem use_more {s : Rd} (h0 : 0 ≤ s.have_) (x c : Int) : use (more8 s c) x = more8 (use s x) c := by
  unfold use
  have e1 : (more8 s c).part = s.part := rfl
  rw [e1]
  split
  · exact useWindow_more s x c
  split
  · exact useBlock_more h0 x c
  split
  · exact useSize_more h0 x c
  split
  · exact useByte_more h0 x c
  split
  · exact useCode_more s x c
  split
  · exact useLetter_more h0 x c
  split
  · rfl
  split
  · exact useDistance_more h0 x c
  split
  · exact useCopy_more (s := { s with near := nearAdd s.near (s.least + x) }) h0 (s.least + x) c
  · rfl

/- what is read does not change when more bits come -/
theorem msb_more (h c : Int) (a : Nat) : ∀ l : Nat, l ≤ a → msb (h + c * 2 ^ a) l = msb h l
  | 0, _ => rfl
  | l + 1, hl => by
    have ih := msb_more h c a l (by omega)
    show 2 * msb (h + c * 2 ^ a) l + (h + c * 2 ^ a) / 2 ^ l % 2 = 2 * msb h l + h / 2 ^ l % 2
    rw [ih, (more_div h c a l (by omega)).1, show a - l = (a - l - 1) + 1 by omega, Int.pow_succ]
    have : (h / 2 ^ l + c * (2 ^ (a - l - 1) * 2)) % 2 = h / 2 ^ l % 2 := by
      rw [← Int.mul_assoc, Int.add_mul_emod_self_right]
    rw [this]

theorem find_more {cnt sym : Nat → Int} {S : Int} (hc : Cod cnt sym S) (h have_ c : Int) (h0 : 0 ≤ have_) (l : Nat) (hh : Hit cnt sym h have_ l) :
    find cnt sym (h + c * 2 ^ have_.toNat) (have_ + 8) = find cnt sym h have_ := by
  have hl := hh.lh
  have em : ∀ k, k ≤ l → msb (h + c * 2 ^ have_.toNat) k = msb h k := fun k hk => msb_more h c _ k (by omega)
  rcases find_cases hc (h + c * 2 ^ have_.toNat) (have_ + 8) (by omega) with ⟨l', h'⟩ | hm
  · have e : l' = l := by
      rcases Nat.lt_trichotomy l' l with hlt | heq | hgt
      · have h1 := hh.before l' hlt
        have h2 := h'.lt
        rw [em l' (by omega)] at h2
        omega
      · exact heq
      · have h1 := h'.before l hgt
        have h2 := hh.lt
        rw [em l (Nat.le_refl _)] at h1
        omega
    subst e
    rw [h'.eq, hh.eq, em _ (Nat.le_refl _)]
  · have h1 := hm.none l (by omega)
    have h2 := hh.lt
    rw [em l (Nat.le_refl _)] at h1
    omega

theorem cods {s : Rd} (hP : Part s) (h : s.part = 6 ∨ s.part = 7 ∨ s.part = 8 ∨ s.part = 9) : Cod s.lcnt s.lsym 272 ∧ Cod s.dcnt s.dsym 16 := by
  rcases hP with hc | ⟨hl, hc⟩
  · omega
  · rcases hc with e | ⟨e, m⟩ | ⟨e, m, _⟩ | ⟨cl, cd, _⟩
    · omega
    · omega
    · omega
    · exact ⟨cl, cd⟩

theorem peek_more {s : Rd} (h : Inv s) (hn : ¬ s.have_ < (peek s).2) (hp : s.part ≤ 9) (c : Int) : peek (more8 s c) = peek s := by
  have n0 := h.1.n0
  by_cases h6 : s.part = 6
  · have hc := (cods h.2 (Or.inl h6)).1
    have ep : peek s = find s.lcnt s.lsym s.hold s.have_ := by unfold peek; rw [if_pos h6]
    have ep' : peek (more8 s c) = find s.lcnt s.lsym (s.hold + c * 2 ^ s.have_.toNat) (s.have_ + 8) := by unfold peek; rw [if_pos (show (more8 s c).part = 6 from h6)]; rfl
    rw [ep] at hn
    rw [ep, ep']
    rcases find_cases hc s.hold s.have_ n0 with ⟨l, hh⟩ | hm
    · exact find_more hc _ _ c n0 l hh
    · rw [hm.eq] at hn
      exact absurd (by show s.have_ < s.have_ + 1; omega) hn
  by_cases h8 : s.part = 8
  · have hc := (cods h.2 (Or.inr (Or.inr (Or.inl h8)))).2
    have ep : peek s = find s.dcnt s.dsym s.hold s.have_ := by unfold peek; rw [if_neg h6, if_pos h8]
    have ep' : peek (more8 s c) = find s.dcnt s.dsym (s.hold + c * 2 ^ s.have_.toNat) (s.have_ + 8) := by unfold peek; rw [if_neg (show ¬ (more8 s c).part = 6 from h6), if_pos (show (more8 s c).part = 8 from h8)]; rfl
    rw [ep] at hn
    rw [ep, ep']
    rcases find_cases hc s.hold s.have_ n0 with ⟨l, hh⟩ | hm
    · exact find_more hc _ _ c n0 l hh
    · rw [hm.eq] at hn
      exact absurd (by show s.have_ < s.have_ + 1; omega) hn
  have wb := width_bounds h hp h6 h8
  have hn' : ¬ s.have_ < width s := by rw [peek_number h6 h8] at hn; exact hn
  rw [peek_number h6 h8, peek_number (s := more8 s c) h6 h8]
  have ew : width (more8 s c) = width s := rfl
  rw [ew]
  have := (more_div s.hold c s.have_.toNat (width s).toNat (by omega)).2
  show ((s.hold + c * 2 ^ s.have_.toNat) % 2 ^ (width s).toNat, width s) = _
  rw [this]

theorem step_more {s t : Rd} (h : Inv s) (hs : step s = some t) (c : Int) : step (more8 s c) = some (more8 t c) := by
  obtain ⟨p1, p2, rfl⟩ := step_eq hs
  have pr := part_range h.2
  have hp9 : s.part ≤ 9 := by omega
  have pf := peek_facts h hp9 p2
  have n0 := h.1.n0
  unfold step
  have ep : (more8 s c).part = s.part := rfl
  have eh : (more8 s c).have_ = s.have_ + 8 := rfl
  rw [ep, if_neg p1, peek_more h p2 hp9, eh, if_neg (by have := pf.nh; omega), drop_more n0 _ c pf.n0 pf.nh, use_more (by show 0 ≤ s.have_ - (peek s).2; have := pf.nh; omega)]

theorem drive_more : ∀ (n : Nat) (s : Rd), mu s < n → Inv s → ∀ c : Int, 0 ≤ c → c ≤ 255 → drive (more8 s c) = drive (more8 (drive s) c)
  | 0, s, h, _, _, _, _ => by omega
  | n + 1, s, h, hi, c, c0, c1 => by
    cases hs : step s with
    | none => rw [drive_none hs]
    | some t =>
      obtain ⟨i, l, _, _⟩ := step_goes hi hs
      rw [drive_some hi hs, drive_some (more8_inv hi c c0 c1) (step_more hi hs c)]
      exact drive_more n t (by omega) i c c0 c1

/- bytes -/
def moreAll : Rd → List UInt8 → Rd
  | s, [] => s
  | s, c :: l => moreAll (more8 s c.toNat) l

theorem byte_bounds (c : UInt8) : (0 : Int) ≤ (c.toNat : Int) ∧ (c.toNat : Int) ≤ 255 := by have := c.toNat_lt; omega

theorem moreAll_inv : ∀ (l : List UInt8) (s : Rd), Inv s → Inv (moreAll s l)
  | [], _, h => h
  | c :: l, _s, h => moreAll_inv l _ (more8_inv h _ (byte_bounds c).1 (byte_bounds c).2)

theorem drive_all : ∀ (l : List UInt8) (s : Rd), Inv s → drive (moreAll s l) = drive (moreAll (drive s) l)
  | [], s, h => by
    have := drive_inv (mu s + 1) s (by omega) h
    show drive s = drive (drive s)
    rw [drive_none this.2.1]
  | c :: l, s, h => by
    have hb := byte_bounds c
    have hd := (drive_inv (mu s + 1) s (by omega) h).1
    have h1 := more8_inv h _ hb.1 hb.2
    have h2 := more8_inv hd _ hb.1 hb.2
    show drive (moreAll (more8 s c.toNat) l) = drive (moreAll (more8 (drive s) c.toNat) l)
    rw [drive_all l _ h1, drive_all l _ h2, drive_more (mu s + 1) s (by omega) h _ hb.1 hb.2]

theorem moreAll_keeps : ∀ (l : List UInt8) (s : Rd), (moreAll s l).part = s.part ∧ (moreAll s l).out = s.out ∧ (moreAll s l).have_ = s.have_ + 8 * l.length
  | [], s => ⟨rfl, rfl, by show s.have_ = s.have_ + 8 * ((0 : Nat) : Int); omega⟩
  | c :: l, s => by
    obtain ⟨h1, h2, h3⟩ := moreAll_keeps l (more8 s c.toNat)
    refine ⟨h1, h2, ?_⟩
    show (moreAll (more8 s c.toNat) l).have_ = _
    rw [h3]
    show s.have_ + 8 + 8 * (l.length : Int) = _
    rw [List.length_cons]
    omega

theorem drive_stop {s : Rd} (h : s.part = 10 ∨ s.part = 11) : drive s = s := drive_none (by unfold step; rw [if_pos h])

end Wr

/- FED BYTE BY BYTE, OR ALL BITS AT ONCE. No Go. -/
namespace Wr

structure Keep (s t : Rd) : Prop where
  tr : t.trailing = s.trailing
  le : t.have_ ≤ s.have_
  en : t.part = 10 → t.have_ % 8 = 0

theorem fillTo_keep {s : Rd} (h0 : 0 ≤ s.have_) : (fillTo s).trailing = s.trailing ∧ (fillTo s).have_ ≤ s.have_ ∧ 0 ≤ (fillTo s).have_ ∧ (fillOk s = true → (fillTo s).have_ % 8 = 0) ∧ (fillOk s = false → (fillTo s).part = 11) := by
  unfold fillTo
  cases h : fillOk s
  · exact ⟨rfl, Int.le_refl _, h0, (fun e => by cases e), fun _ => rfl⟩
  · refine ⟨rfl, ?_, ?_, fun _ => ?_, (fun e => by cases e)⟩
    · show s.have_ - s.have_ % 8 ≤ s.have_; omega
    · show 0 ≤ s.have_ - s.have_ % 8; omega
    · show (s.have_ - s.have_ % 8) % 8 = 0; omega
theorem endBlock_keep {s : Rd} (h0 : 0 ≤ s.have_) : Keep s (endBlock s) := by
  obtain ⟨f1, f2, f3, f4, f5⟩ := fillTo_keep h0
  unfold endBlock
  split
  · cases h : fillOk s
    · rw [if_neg (by decide)]
      have := f5 h
      exact ⟨f1, f2, fun e => by omega⟩
    · rw [if_pos rfl]
      exact ⟨f1, f2, fun _ => f4 h⟩
  · exact ⟨rfl, Int.le_refl _, fun e => absurd e (by show ¬ ((1 : Int) = 10); decide)⟩
theorem endCommand_keep {s : Rd} (h0 : 0 ≤ s.have_) : Keep s (endCommand s) := by
  unfold endCommand
  split
  · have := endBlock_keep (s := { s with part := 6 }) h0
    exact ⟨this.tr, this.le, this.en⟩
  · exact ⟨rfl, Int.le_refl _, fun e => absurd e (by show ¬ ((6 : Int) = 10); decide)⟩
theorem copy_tr (d : Int) : ∀ (n : Nat) (s : Rd), (copyGo n s d).trailing = s.trailing
  | 0, _ => rfl
  | n + 1, s => copy_tr d n (put s (agoP s d))
theorem useCopy_keep {s : Rd} (h0 : 0 ≤ s.have_) (d : Int) : Keep s (useCopy s d) := by
  unfold useCopy
  split
  · exact ⟨rfl, Int.le_refl _, fun e => absurd e (by show ¬ ((11 : Int) = 10); decide)⟩
  · have := endCommand_keep (s := copyGo s.length.toNat s d) (by rw [copy_have]; exact h0)
    exact ⟨by rw [this.tr, copy_tr], by have := this.le; rw [copy_have] at this; exact this, this.en⟩
theorem give_keep (s : Rd) (x : Int) : (give s x).1.trailing = s.trailing ∧ (give s x).1.have_ = s.have_ ∧ (give s x).1.part = s.part := by
  have sm := give_same s x
  exact ⟨by rw [sm], by rw [sm], by rw [sm]⟩

theorem use_keep {s : Rd} (h0 : 0 ≤ s.have_) (hp : s.part ≤ 9) (x : Int) : Keep s (use s x) := by
  unfold use
  split
  · unfold useWindow
    split
    · exact ⟨rfl, Int.le_refl _, fun e => absurd e (by show ¬ ((11 : Int) = 10); decide)⟩
    · exact ⟨rfl, Int.le_refl _, fun e => absurd e (by show ¬ ((1 : Int) = 10); decide)⟩
  split
  · unfold useBlock
    dsimp only
    split
    · obtain ⟨f1, f2, f3, f4, f5⟩ := fillTo_keep (s := { s with last := x % 2 == 1, kind := x / 2 }) h0
      cases h : fillOk { s with last := x % 2 == 1, kind := x / 2 }
      · rw [if_neg (by decide)]
        have := f5 h
        exact ⟨f1, f2, fun e => by omega⟩
      · rw [if_pos rfl]
        have := endBlock_keep f3
        exact ⟨this.tr.trans f1, Int.le_trans this.le f2, this.en⟩
    · exact ⟨rfl, Int.le_refl _, fun e => absurd e (by show ¬ ((2 : Int) = 10); decide)⟩
  split
  · have key : ∀ t : Rd, t.have_ = s.have_ → t.trailing = s.trailing → Keep s (if fillOk t then (if ({ fillTo t with part := 3 } : Rd).left = 0 then endBlock { fillTo t with part := 3 } else { fillTo t with part := 3 }) else fillTo t) := by
      intro t e1 e2
      obtain ⟨f1, f2, f3, f4, f5⟩ := fillTo_keep (s := t) (by omega)
      cases h : fillOk t
      · simp only [if_neg (by decide : ¬ (false = true))]
        have := f5 h
        exact ⟨f1.trans e2, by omega, fun e => by omega⟩
      · simp only [if_true]
        split
        · have := endBlock_keep (s := { fillTo t with part := 3 }) f3
          exact ⟨this.tr.trans (f1.trans e2), Int.le_trans this.le (by show (fillTo t).have_ ≤ _; omega), this.en⟩
        · exact ⟨f1.trans e2, by show (fillTo t).have_ ≤ _; omega, fun e => absurd e (by show ¬ ((3 : Int) = 10); decide)⟩
    unfold useSize
    split
    · exact ⟨rfl, Int.le_refl _, fun e => absurd e (by show ¬ ((4 : Int) = 10); decide)⟩
    · exact key { s with left := if s.kind = 1 then x + 1 else x } rfl rfl
  split
  · have key : ∀ t : Rd, t.have_ = s.have_ → t.trailing = s.trailing → t.part = s.part → Keep s (if t.left = 0 then endBlock t else t) := by
      intro t e1 e2 e3
      split
      · have := endBlock_keep (s := t) (by omega)
        exact ⟨this.tr.trans e2, by have := this.le; omega, this.en⟩
      · exact ⟨e2, by omega, fun e => by omega⟩
    unfold useByte
    dsimp only
    by_cases hk : s.kind = 1
    · rw [if_pos hk]
      exact key (put s x) rfl rfl rfl
    · rw [if_neg hk]
      exact key { s with left := s.left - 1 } rfl rfl rfl
  split
  · obtain ⟨g1, g2, g3⟩ := give_keep s x
    unfold useCode
    dsimp only
    split
    · exact ⟨g1, by show (give s x).1.have_ ≤ _; omega, fun e => absurd e (by show ¬ ((11 : Int) = 10); decide)⟩
    split
    · exact ⟨g1, by omega, fun e => by omega⟩
    split
    · exact ⟨g1, by show (give s x).1.have_ ≤ _; omega, fun e => absurd e (by show ¬ ((5 : Int) = 10); decide)⟩
    · exact ⟨g1, by show (give s x).1.have_ ≤ _; omega, fun e => absurd e (by show ¬ ((6 : Int) = 10); decide)⟩
  split
  · unfold useLetter
    split
    · have := endCommand_keep (s := put s x) h0
      exact ⟨this.tr, this.le, this.en⟩
    · exact ⟨rfl, Int.le_refl _, fun e => absurd e (by show ¬ ((7 : Int) = 10); decide)⟩
  split
  · exact ⟨rfl, Int.le_refl _, fun e => absurd e (by show ¬ ((8 : Int) = 10); decide)⟩
  split
  · unfold useDistance
    split
    · split
      · have := useCopy_keep (s := { s with near := nearAdd s.near (s.near x.toNat) }) h0 (s.near x.toNat)
        exact ⟨this.tr, this.le, this.en⟩
      · exact useCopy_keep h0 _
    · exact ⟨rfl, Int.le_refl _, fun e => absurd e (by show ¬ ((9 : Int) = 10); decide)⟩
  split
  · have := useCopy_keep (s := { s with near := nearAdd s.near (s.least + x) }) h0 (s.least + x)
    exact ⟨this.tr, this.le, this.en⟩
  · exact ⟨rfl, Int.le_refl _, fun e => by omega⟩

theorem step_keep {s t : Rd} (h : Inv s) (hs : step s = some t) : t.trailing = s.trailing ∧ t.have_ ≤ s.have_ - (peek s).2 ∧ (t.part = 10 → t.have_ % 8 = 0) := by
  obtain ⟨p1, p2, rfl⟩ := step_eq hs
  have pr := part_range h.2
  have pf := peek_facts h (by omega) p2
  have := use_keep (s := drop s (peek s).2) (by show 0 ≤ s.have_ - (peek s).2; have := pf.nh; omega) (by show s.part ≤ 9; omega) (peek s).1
  exact ⟨this.tr, this.le, this.en⟩

theorem drive_keep : ∀ (n : Nat) (s : Rd), mu s < n → Inv s → (s.part = 10 → s.have_ % 8 = 0) →
    (drive s).trailing = s.trailing ∧ (drive s).have_ ≤ s.have_ ∧ ((drive s).part = 10 → (drive s).have_ % 8 = 0)
  | 0, s, h, _, _ => by omega
  | n + 1, s, h, hi, h10 => by
    cases hs : step s with
    | none => rw [drive_none hs]; exact ⟨rfl, Int.le_refl _, h10⟩
    | some t =>
      obtain ⟨i, l, _, le⟩ := step_goes hi hs
      obtain ⟨k1, _, k3⟩ := step_keep hi hs
      rw [drive_some hi hs]
      obtain ⟨a, b, c⟩ := drive_keep n t (by omega) i k3
      exact ⟨a.trans k1, by omega, c⟩

/-- what is waited for takes all bits that are there, and more -/
theorem peek_eats {s : Rd} (h : Inv s) (hp : s.part ≤ 9) (hs : step s = none) (c : Int) : s.have_ < (peek (more8 s c)).2 := by
  have n0 := h.1.n0
  have hlt : s.have_ < (peek s).2 := by
    by_cases h2 : s.have_ < (peek s).2
    · exact h2
    · unfold step at hs
      rw [if_neg (by omega), if_neg h2] at hs
      cases hs
  have key : ∀ cnt sym : Nat → Int, ∀ S : Int, Cod cnt sym S → s.have_ < (find cnt sym s.hold s.have_).2 → s.have_ < (find cnt sym (s.hold + c * 2 ^ s.have_.toNat) (s.have_ + 8)).2 := by
    intro cnt sym S hc hl
    rcases find_cases hc s.hold s.have_ n0 with ⟨l, hh⟩ | hm
    · rw [hh.eq] at hl
      have := hh.lh
      have hl' : s.have_ < (l : Int) := hl
      omega
    · rcases find_cases hc (s.hold + c * 2 ^ s.have_.toNat) (s.have_ + 8) (by omega) with ⟨l, hh⟩ | hm'
      · rw [hh.eq]
        show s.have_ < (l : Int)
        by_cases hle : (l : Int) ≤ s.have_
        · have h1 := hm.none l hle
          have h2 := hh.lt
          rw [msb_more _ _ _ l (by omega)] at h2
          omega
        · omega
      · rw [hm'.eq]
        show s.have_ < s.have_ + 8 + 1
        omega
  by_cases h6 : s.part = 6
  · have hc := (cods h.2 (Or.inl h6)).1
    have ep : peek s = find s.lcnt s.lsym s.hold s.have_ := by unfold peek; rw [if_pos h6]
    have ep' : peek (more8 s c) = find s.lcnt s.lsym (s.hold + c * 2 ^ s.have_.toNat) (s.have_ + 8) := by unfold peek; rw [if_pos (show (more8 s c).part = 6 from h6)]; rfl
    rw [ep] at hlt
    rw [ep']
    exact key _ _ _ hc hlt
  by_cases h8 : s.part = 8
  · have hc := (cods h.2 (Or.inr (Or.inr (Or.inl h8)))).2
    have ep : peek s = find s.dcnt s.dsym s.hold s.have_ := by unfold peek; rw [if_neg h6, if_pos h8]
    have ep' : peek (more8 s c) = find s.dcnt s.dsym (s.hold + c * 2 ^ s.have_.toNat) (s.have_ + 8) := by unfold peek; rw [if_neg (show ¬ (more8 s c).part = 6 from h6), if_pos (show (more8 s c).part = 8 from h8)]; rfl
    rw [ep] at hlt
    rw [ep']
    exact key _ _ _ hc hlt
  rw [peek_number h6 h8] at hlt
  rw [peek_number (s := more8 s c) h6 h8]
  exact hlt

def errnoBig (s : Rd) : Int := if s.part = 11 then 2 else if s.part ≠ 10 then 1 else if 0 < s.have_ then 3 else 0

/-- between two bytes, nothing behind the end -/
structure Still (s : Rd) : Prop where
  inv : Inv s
  none : step s = none
  tr : s.trailing = false
  end0 : s.part = 10 → s.have_ = 0

theorem take_still {s : Rd} (h : Still s) (hp : s.part ≤ 9) (c : Int) (c0 : 0 ≤ c) (c1 : c ≤ 255) : Still (drive (more8 s c)) := by
  have hi := more8_inv h.inv c c0 c1
  obtain ⟨i1, i2, _⟩ := drive_inv (mu (more8 s c) + 1) _ (by omega) hi
  obtain ⟨k1, k2, k3⟩ := drive_keep (mu (more8 s c) + 1) _ (by omega) hi (fun e => absurd e (by show ¬ s.part = 10; omega))
  refine ⟨i1, i2, k1.trans h.tr, fun e => ?_⟩
  have h8 := k3 e
  have hn := i1.1.n0
  cases hs : step (more8 s c) with
  | none =>
    rw [drive_none hs] at e
    exact absurd e (by show ¬ s.part = 10; omega)
  | some t =>
    obtain ⟨g1, g2, g3, g4⟩ := step_goes hi hs
    obtain ⟨_, q2, q3⟩ := step_keep hi hs
    have pe := peek_eats h.inv hp h.none c
    have q2' : t.have_ ≤ s.have_ + 8 - (peek (more8 s c)).2 := q2
    rw [drive_some hi hs] at e h8 hn ⊢
    obtain ⟨_, r2, _⟩ := drive_keep (mu t + 1) t (by omega) g1 q3
    omega

theorem feed_big : ∀ (l : List UInt8) (s : Rd), Still s → (feed s l).out = (drive (moreAll s l)).out ∧ errno (feed s l) = errnoBig (drive (moreAll s l))
  | [], s, h => by
    show s.out = (drive s).out ∧ errno s = errnoBig (drive s)
    rw [drive_none h.none]
    refine ⟨rfl, ?_⟩
    unfold errno errnoBig
    split
    · rfl
    split
    · rfl
    · rename_i h1 h2
      have e : s.part = 10 := by
        by_cases e : s.part = 10
        · exact e
        · exact absurd e h2
      have h0 := h.end0 e
      rw [h.tr, if_neg (by decide), if_neg (by omega)]
  | c :: l, s, h => by
    have hk := moreAll_keeps (c :: l) s
    by_cases h11 : s.part = 11
    · rw [feed_stop (Or.inl h11), drive_stop (s := moreAll s (c :: l)) (by rw [hk.1]; exact Or.inr h11), hk.2.1]
      refine ⟨rfl, ?_⟩
      unfold errno errnoBig
      rw [hk.1, if_pos h11, if_pos h11]
    · have hgo : ¬ (s.part = 11 ∨ s.trailing = true) := by rw [h.tr]; intro hh; rcases hh with e | e; exact h11 e; cases e
      rw [feed_go hgo]
      by_cases h10 : s.part = 10
      · have et : take s c.toNat = { s with trailing := true } := by unfold take; rw [if_pos h10]
        rw [et, feed_stop (Or.inr rfl), drive_stop (s := moreAll s (c :: l)) (by rw [hk.1]; exact Or.inl h10), hk.2.1]
        have h0 := h.end0 h10
        have hh := hk.2.2
        rw [List.length_cons] at hh
        have e1 : errno { s with trailing := true } = 3 := by
          unfold errno
          rw [if_neg (show ¬ s.part = 11 from h11), if_neg (show ¬ s.part ≠ 10 from fun e => e h10)]
          rfl
        have e2 : errnoBig (moreAll s (c :: l)) = 3 := by
          unfold errnoBig
          rw [hk.1, if_neg h11, if_neg (fun e => e h10), if_pos (by omega)]
        exact ⟨rfl, by rw [e1, e2]⟩
      · have pr := part_range h.inv.2
        have hb := byte_bounds c
        have et : take s c.toNat = drive (more8 s c.toNat) := by unfold take; rw [if_neg h10]
        rw [et]
        have ih := feed_big l _ (take_still h (by omega) _ hb.1 hb.2)
        have e2 : drive (moreAll s (c :: l)) = drive (moreAll (drive (more8 s c.toNat)) l) := drive_all l (more8 s c.toNat) (more8_inv h.inv _ hb.1 hb.2)
        rw [e2]
        exact ih

theorem init_still : Still initRd := ⟨init_rest.1, by decide, rfl, fun e => absurd e (by decide)⟩

/-- all bytes at once -/
def full (l : List UInt8) : Rd := drive (moreAll initRd l)

theorem feed_full (l : List UInt8) : (feed initRd l).out = (full l).out ∧ errno (feed initRd l) = errnoBig (full l) := feed_big l initRd init_still

end Wr

/- BITS AND BYTES. No Go. -/
namespace Wr

def valOf : List Int → Int
  | [] => 0
  | b :: r => b + 2 * valOf r
def isBits (l : List Int) : Prop := ∀ b ∈ l, b = 0 ∨ b = 1

def numBits (v : Int) (n : Nat) : List Int := (List.range n).map fun i => v / 2 ^ i % 2

theorem numBits_length (v : Int) (n : Nat) : (numBits v n).length = n := by simp [numBits]
theorem numBits_isBits (v : Int) (n : Nat) : isBits (numBits v n) := by
  intro b hb
  simp only [numBits, List.mem_map] at hb
  obtain ⟨i, _, rfl⟩ := hb
  omega
theorem numBits_succ (v : Int) (n : Nat) : numBits v (n + 1) = numBits v n ++ [v / 2 ^ n % 2] := by
  simp [numBits, List.range_succ]

theorem valOf_append : ∀ (a b : List Int), valOf (a ++ b) = valOf a + 2 ^ a.length * valOf b
  | [], b => by show valOf b = 0 + 1 * valOf b; omega
  | x :: a, b => by
    show x + 2 * valOf (a ++ b) = x + 2 * valOf a + 2 ^ (a.length + 1) * valOf b
    rw [valOf_append a b, Int.pow_succ, Int.mul_comm (2 ^ a.length) 2, Int.mul_assoc, Int.mul_add]
    omega

theorem valOf_bounds : ∀ (l : List Int), isBits l → 0 ≤ valOf l ∧ valOf l < 2 ^ l.length
  | [], _ => ⟨Int.le_refl _, by show (0 : Int) < 1; omega⟩
  | b :: r, h => by
    have ih := valOf_bounds r (fun x hx => h x (List.mem_cons_of_mem _ hx))
    have hb := h b (List.mem_cons_self ..)
    show 0 ≤ b + 2 * valOf r ∧ b + 2 * valOf r < 2 ^ (r.length + 1)
    rw [Int.pow_succ]
    omega

theorem mod_step (v : Int) (n : Nat) : v % 2 ^ (n + 1) = v % 2 ^ n + 2 ^ n * (v / 2 ^ n % 2) := by
  have hp := pow_pos2 n
  rw [Int.pow_succ]
  have e1 := Int.emod_add_mul_ediv v (2 ^ n)
  have e2 := Int.emod_add_mul_ediv (v / 2 ^ n) 2
  have hr := mod_bounds v n
  have hr2 : 0 ≤ v / 2 ^ n % 2 ∧ v / 2 ^ n % 2 < 2 := by omega
  have e3 : v = (v % 2 ^ n + 2 ^ n * (v / 2 ^ n % 2)) + (2 ^ n * 2) * (v / 2 ^ n / 2) := by
    have : 2 ^ n * (v / 2 ^ n) = 2 ^ n * (v / 2 ^ n % 2) + 2 ^ n * 2 * (v / 2 ^ n / 2) := by
      rw [Int.mul_assoc, ← Int.mul_add, e2]
    omega
  have hb : 0 ≤ v % 2 ^ n + 2 ^ n * (v / 2 ^ n % 2) ∧ v % 2 ^ n + 2 ^ n * (v / 2 ^ n % 2) < 2 ^ n * 2 := by
    have : v / 2 ^ n % 2 = 0 ∨ v / 2 ^ n % 2 = 1 := by omega
    rcases this with e | e <;> rw [e] <;> omega
  conv => lhs; rw [e3]
  rw [Int.add_mul_emod_self_left]
  exact Int.emod_eq_of_lt hb.1 hb.2

theorem valOf_num (v : Int) : ∀ n : Nat, valOf (numBits v n) = v % 2 ^ n
  | 0 => by show (0 : Int) = v % 1; omega
  | n + 1 => by
    rw [numBits_succ, valOf_append, valOf_num v n, numBits_length, mod_step]
    show _ + 2 ^ n * (v / 2 ^ n % 2 + 2 * 0) = _
    rw [Int.mul_zero, Int.add_zero]
theorem valOf_num_lt {v : Int} {n : Nat} (h0 : 0 ≤ v) (h1 : v < 2 ^ n) : valOf (numBits v n) = v := by
  rw [valOf_num, Int.emod_eq_of_lt h0 h1]

/- bytes of a number -/
def valB : List UInt8 → Int
  | [] => 0
  | c :: l => c.toNat + 256 * valB l
def bytesOf (v : Int) (n : Nat) : List UInt8 := (List.range n).map fun j => UInt8.ofNat (v / 2 ^ (8 * j) % 256).toNat

theorem moreAll_eq : ∀ (l : List UInt8) (s : Rd), 0 ≤ s.have_ → moreAll s l = { s with hold := s.hold + 2 ^ s.have_.toNat * valB l, have_ := s.have_ + 8 * l.length }
  | [], s, h => by
    show s = { s with hold := s.hold + 2 ^ s.have_.toNat * 0, have_ := s.have_ + 8 * ((0 : Nat) : Int) }
    rw [Int.mul_zero, Int.add_zero, show s.have_ + 8 * ((0 : Nat) : Int) = s.have_ by omega]
  | c :: l, s, h => by
    have ih := moreAll_eq l (more8 s c.toNat) (by show 0 ≤ s.have_ + 8; omega)
    show moreAll (more8 s c.toNat) l = _
    rw [ih]
    have e1 : s.hold + (c.toNat : Int) * 2 ^ s.have_.toNat + 2 ^ (s.have_ + 8).toNat * valB l = s.hold + 2 ^ s.have_.toNat * ((c.toNat : Int) + 256 * valB l) := by
      rw [show (s.have_ + 8).toNat = s.have_.toNat + 8 by omega, pow_add2, Int.mul_add, Int.mul_comm (c.toNat : Int), Int.mul_assoc]
      have : (2 : Int) ^ 8 = 256 := rfl
      rw [this]
      omega
    have e2 : s.have_ + 8 + 8 * (l.length : Int) = s.have_ + 8 * ((c :: l).length : Int) := by rw [List.length_cons]; omega
    show ({ s with hold := s.hold + (c.toNat : Int) * 2 ^ s.have_.toNat + 2 ^ (s.have_ + 8).toNat * valB l, have_ := s.have_ + 8 + 8 * (l.length : Int) } : Rd) = _
    rw [e1, e2]
    rfl

theorem valB_append : ∀ (a b : List UInt8), valB (a ++ b) = valB a + 2 ^ (8 * a.length) * valB b
  | [], b => by show valB b = 0 + 1 * valB b; omega
  | x :: a, b => by
    show (x.toNat : Int) + 256 * valB (a ++ b) = (x.toNat : Int) + 256 * valB a + 2 ^ (8 * (a.length + 1)) * valB b
    rw [valB_append a b, show 8 * (a.length + 1) = 8 + 8 * a.length by omega, pow_add2, Int.mul_add]
    have : (2 : Int) ^ 8 = 256 := rfl
    rw [this, Int.mul_assoc]
    omega
theorem bytesOf_length (v : Int) (n : Nat) : (bytesOf v n).length = n := by simp [bytesOf]
theorem bytesOf_succ (v : Int) (n : Nat) : bytesOf v (n + 1) = bytesOf v n ++ [UInt8.ofNat (v / 2 ^ (8 * n) % 256).toNat] := by simp [bytesOf, List.range_succ]
theorem byte_back (x : Int) (h0 : 0 ≤ x) (h1 : x < 256) : ((UInt8.ofNat x.toNat).toNat : Int) = x := by
  have : (UInt8.ofNat x.toNat).toNat = x.toNat := by
    rw [UInt8.toNat_ofNat']
    exact Nat.mod_eq_of_lt (by omega)
  omega

theorem valB_bytes (v : Int) (h0 : 0 ≤ v) : ∀ n : Nat, valB (bytesOf v n) = v % 2 ^ (8 * n)
  | 0 => by show (0 : Int) = v % 1; omega
  | n + 1 => by
    rw [bytesOf_succ, valB_append, valB_bytes v h0 n, bytesOf_length]
    have hb : 0 ≤ v / 2 ^ (8 * n) % 256 ∧ v / 2 ^ (8 * n) % 256 < 256 := by omega
    show _ + 2 ^ (8 * n) * (((UInt8.ofNat (v / 2 ^ (8 * n) % 256).toNat).toNat : Int) + 256 * 0) = _
    rw [byte_back _ hb.1 hb.2]
    have hp := pow_pos2 (8 * n)
    have hm := mod_bounds v (8 * n)
    have e : (2 : Int) ^ (8 * (n + 1)) = 2 ^ (8 * n) * 256 := by rw [show 8 * (n + 1) = 8 * n + 8 by omega, pow_add2]; rfl
    have e1 := Int.emod_add_mul_ediv v (2 ^ (8 * n))
    have e2 := Int.emod_add_mul_ediv (v / 2 ^ (8 * n)) 256
    have e3 : v = (v % 2 ^ (8 * n) + 2 ^ (8 * n) * (v / 2 ^ (8 * n) % 256)) + (2 ^ (8 * n) * 256) * (v / 2 ^ (8 * n) / 256) := by
      have : 2 ^ (8 * n) * (v / 2 ^ (8 * n)) = 2 ^ (8 * n) * (v / 2 ^ (8 * n) % 256) + 2 ^ (8 * n) * 256 * (v / 2 ^ (8 * n) / 256) := by
        rw [Int.mul_assoc, ← Int.mul_add, e2]
      omega
    have hb2 : 2 ^ (8 * n) * (v / 2 ^ (8 * n) % 256) ≤ 2 ^ (8 * n) * 255 := Int.mul_le_mul_of_nonneg_left (by omega) (by omega)
    have hb3 : 0 ≤ 2 ^ (8 * n) * (v / 2 ^ (8 * n) % 256) := Int.mul_nonneg (by omega) hb.1
    have e4 : v % (2 ^ (8 * n) * 256) = v % 2 ^ (8 * n) + 2 ^ (8 * n) * (v / 2 ^ (8 * n) % 256) := by
      conv => lhs; rw [e3]
      rw [Int.add_mul_emod_self_left]
      exact Int.emod_eq_of_lt (by omega) (by omega)
    rw [e, e4, Int.mul_zero, Int.add_zero]

/-- the reader over all bits of a number -/
theorem full_bytes (v : Int) (n : Nat) (h0 : 0 ≤ v) (h1 : v < 2 ^ (8 * n)) : full (bytesOf v n) = drive { initRd with hold := v, have_ := 8 * n } := by
  unfold full
  rw [moreAll_eq _ _ (by decide), valB_bytes v h0, bytesOf_length, Int.emod_eq_of_lt h0 h1]
  have e : initRd.hold + 2 ^ initRd.have_.toNat * v = v := by show (0 : Int) + 1 * v = v; omega
  have e2 : initRd.have_ + 8 * (n : Int) = 8 * n := by show (0 : Int) + 8 * n = 8 * n; omega
  rw [e, e2]

/-- a number is read -/
theorem drive_num {s : Rd} (hI : Inv s) (v rest n m : Int) (h6 : s.part ≠ 6) (h8 : s.part ≠ 8) (hp : s.part ≤ 9) (hw : width s = n) (hh : s.hold = v + 2 ^ n.toNat * rest) (v0 : 0 ≤ v) (v1 : v < 2 ^ n.toNat) (hm : s.have_ = n + m) (m0 : 0 ≤ m) :
    drive s = drive (use { s with hold := rest, have_ := m } v) ∧ Inv (use { s with hold := rest, have_ := m } v) := by
  have hpos := pow_pos2 n.toNat
  have e1 : s.hold % 2 ^ n.toNat = v := by rw [hh, Int.add_mul_emod_self_left, Int.emod_eq_of_lt v0 v1]
  have e2 : s.hold / 2 ^ n.toNat = rest := by
    rw [hh, Int.add_mul_ediv_left _ _ (by omega), Int.ediv_eq_zero_of_lt v0 v1]; omega
  have ep : peek s = (v, n) := by rw [peek_number h6 h8, hw, e1]
  have ed : drop s n = { s with hold := rest, have_ := m } := by
    unfold drop
    rw [e2, show s.have_ - n = m by omega]
  have hs : step s = some (use { s with hold := rest, have_ := m } v) := by
    unfold step
    rw [if_neg (by omega), ep, if_neg (by show ¬ s.have_ < n; omega), ed]
  exact ⟨drive_some hI hs, (step_goes hI hs).1⟩

/-- a symbol is read -/
theorem drive_sym {s : Rd} (hI : Inv s) (x : Int) (l : Nat) (rest m : Int) (hpk : peek s = (x, (l : Int))) (hp : s.part ≤ 9) (e2 : s.hold / 2 ^ l = rest) (hm : s.have_ = l + m) (m0 : 0 ≤ m) :
    drive s = drive (use { s with hold := rest, have_ := m } x) ∧ Inv (use { s with hold := rest, have_ := m } x) := by
  have ed : drop s (l : Int) = { s with hold := rest, have_ := m } := by
    unfold drop
    rw [show ((l : Int)).toNat = l by omega, e2, show s.have_ - (l : Int) = m by omega]
  have hs : step s = some (use { s with hold := rest, have_ := m } x) := by
    unfold step
    rw [if_neg (by omega), hpk, if_neg (by show ¬ s.have_ < (l : Int); omega), ed]
  exact ⟨drive_some hI hs, (step_goes hI hs).1⟩

end Wr

/- what 'bits' makes, byte by byte. No Go. -/
namespace Wr

/-- byte j of the first k bits -/
def byteAt (l : List Int) (k j : Nat) : Int := valOf (l.take k) / 2 ^ (8 * j) % 256

theorem isBits_take {l : List Int} (h : isBits l) (k : Nat) : isBits (l.take k) := fun b hb => h b (List.mem_of_mem_take hb)
theorem valOf_take_succ {l : List Int} {k : Nat} (hk : k < l.length) : valOf (l.take (k + 1)) = valOf (l.take k) + 2 ^ k * l[k] := by
  rw [List.take_succ_eq_append_getElem hk, valOf_append, List.length_take, Nat.min_eq_left (by omega)]
  show _ + 2 ^ k * (l[k] + 2 * 0) = _
  rw [Int.mul_zero, Int.add_zero]

theorem byteAt_zero (l : List Int) (j : Nat) : byteAt l 0 j = 0 := by
  show (0 : Int) / 2 ^ (8 * j) % 256 = 0
  rw [Int.zero_ediv]; rfl

theorem byteAt_same {l : List Int} {k : Nat} (hk : k < l.length) (h0 : l[k] = 0) (j : Nat) : byteAt l (k + 1) j = byteAt l k j := by
  unfold byteAt
  rw [valOf_take_succ hk, h0, Int.mul_zero, Int.add_zero]

theorem byteAt_bounds {l : List Int} (hb : isBits l) {k : Nat} (hk : k ≤ l.length) : 0 ≤ byteAt l k (k / 8) ∧ byteAt l k (k / 8) < 2 ^ (k % 8) := by
  have vb := valOf_bounds _ (isBits_take hb k)
  rw [List.length_take, Nat.min_eq_left hk] at vb
  have hp := pow_pos2 (8 * (k / 8))
  have e : (2 : Int) ^ k = 2 ^ (k % 8) * 2 ^ (8 * (k / 8)) := by rw [← pow_add2, show k % 8 + 8 * (k / 8) = k by omega]
  have d1 : 0 ≤ valOf (l.take k) / 2 ^ (8 * (k / 8)) := Int.ediv_nonneg vb.1 (by omega)
  have d2 : valOf (l.take k) / 2 ^ (8 * (k / 8)) < 2 ^ (k % 8) := Int.ediv_lt_of_lt_mul (by omega) (by rw [← e]; exact vb.2)
  have d3 : (2 : Int) ^ (k % 8) ≤ 128 := by
    have : k % 8 = 0 ∨ k % 8 = 1 ∨ k % 8 = 2 ∨ k % 8 = 3 ∨ k % 8 = 4 ∨ k % 8 = 5 ∨ k % 8 = 6 ∨ k % 8 = 7 := by omega
    rcases this with e | e | e | e | e | e | e | e <;> rw [e] <;> decide
  unfold byteAt
  rw [Int.emod_eq_of_lt d1 (by omega)]
  exact ⟨d1, d2⟩

theorem byteAt_set {l : List Int} (hb : isBits l) {k : Nat} (hk : k < l.length) (h1 : l[k] = 1) (j : Nat) :
    byteAt l (k + 1) j = if j = k / 8 then byteAt l k j + 2 ^ (k % 8) else byteAt l k j := by
  have vb := valOf_bounds _ (isBits_take hb k)
  rw [List.length_take, Nat.min_eq_left (by omega)] at vb
  have bb := byteAt_bounds hb (Nat.le_of_lt hk)
  unfold byteAt at *
  rw [valOf_take_succ hk, h1, Int.mul_one]
  have hp := pow_pos2 (8 * j)
  by_cases e : j = k / 8
  · rw [if_pos e]
    subst e
    have e2 : (2 : Int) ^ k = 2 ^ (k % 8) * 2 ^ (8 * (k / 8)) := by rw [← pow_add2, show k % 8 + 8 * (k / 8) = k by omega]
    have d1 : 0 ≤ valOf (l.take k) / 2 ^ (8 * (k / 8)) := Int.ediv_nonneg vb.1 (by omega)
    have d2 : valOf (l.take k) / 2 ^ (8 * (k / 8)) < 2 ^ (k % 8) := Int.ediv_lt_of_lt_mul (by omega) (by rw [← e2]; exact vb.2)
    have d3 : (2 : Int) ^ (k % 8) ≤ 128 := by
      have : k % 8 = 0 ∨ k % 8 = 1 ∨ k % 8 = 2 ∨ k % 8 = 3 ∨ k % 8 = 4 ∨ k % 8 = 5 ∨ k % 8 = 6 ∨ k % 8 = 7 := by omega
      rcases this with e | e | e | e | e | e | e | e <;> rw [e] <;> decide
    rw [e2, Int.add_mul_ediv_right _ _ (by omega), Int.emod_eq_of_lt d1 (by omega), Int.emod_eq_of_lt (by omega) (by omega)]
  · rw [if_neg e]
    rcases Nat.lt_or_gt_of_ne e with hlt | hgt
    · have e2 : (2 : Int) ^ k = (2 ^ (k - 8 * j - 8) * 256) * 2 ^ (8 * j) := by
        have : (256 : Int) = 2 ^ 8 := rfl
        rw [this, ← pow_add2, ← pow_add2, show k - 8 * j - 8 + 8 + 8 * j = k by omega]
      rw [e2, Int.add_mul_ediv_right _ _ (by omega), Int.add_mul_emod_self_right]
    · have hle : (2 : Int) ^ (k + 1) ≤ 2 ^ (8 * j) := by
        have e3 : (2 : Int) ^ (8 * j) = 2 ^ (k + 1) * 2 ^ (8 * j - (k + 1)) := by rw [← pow_add2, show k + 1 + (8 * j - (k + 1)) = 8 * j by omega]
        have m := Int.mul_le_mul_of_nonneg_left (show (1 : Int) ≤ 2 ^ (8 * j - (k + 1)) from pow_pos2 _) (show (0 : Int) ≤ 2 ^ (k + 1) by have := pow_pos2 (k + 1); omega)
        rw [Int.mul_one] at m
        rw [e3]
        exact m
      rw [Int.pow_succ] at hle
      rw [Int.ediv_eq_zero_of_lt (by omega) (by omega), Int.ediv_eq_zero_of_lt vb.1 (by omega)]

theorem outStr_list (l : List Int) : (outStr l).data.toList = l.map fun n => UInt8.ofNat n.toNat := by
  have key : ∀ (l : List Int) (b : ByteArray), (l.foldl (fun r n => r.push (UInt8.ofNat n.toNat)) b).data.toList = b.data.toList ++ l.map fun n => UInt8.ofNat n.toNat := by
    intro l
    induction l with
    | nil => intro b; simp
    | cons x l ih =>
      intro b
      rw [List.foldl_cons, ih, ByteArray.data_push, Array.toList_push, List.map_cons, List.append_assoc]
      rfl
  have := key l ByteArray.empty
  exact this

theorem bytes_of_bits (l : List Int) : (outStr ((List.range ((l.length + 7) / 8)).map (byteAt l l.length))).data.toList = bytesOf (valOf l) ((l.length + 7) / 8) := by
  rw [outStr_list, List.map_map]
  unfold bytesOf byteAt
  rw [List.take_length]
  rfl

end Wr

/- STORED BLOCKS AND NOTES, READ. No Go. -/
namespace Wr

def byteBits : List UInt8 → List Int
  | [] => []
  | c :: l => numBits c.toNat 8 ++ byteBits l
theorem byteBits_length : ∀ l : List UInt8, (byteBits l).length = 8 * l.length
  | [] => rfl
  | c :: l => by
    show (numBits c.toNat 8 ++ byteBits l).length = _
    rw [List.length_append, numBits_length, byteBits_length l, List.length_cons]
    omega
theorem byteBits_append : ∀ a b : List UInt8, byteBits (a ++ b) = byteBits a ++ byteBits b
  | [], b => rfl
  | c :: a, b => by
    show numBits c.toNat 8 ++ byteBits (a ++ b) = numBits c.toNat 8 ++ byteBits a ++ byteBits b
    rw [byteBits_append a b, List.append_assoc]
theorem byteBits_isBits : ∀ l : List UInt8, isBits (byteBits l)
  | [] => fun b hb => by cases hb
  | c :: l => by
    intro b hb
    rcases List.mem_append.1 hb with h | h
    · exact numBits_isBits _ _ b h
    · exact byteBits_isBits l b h

def ints8 (l : List UInt8) : List Int := l.map fun c => (c.toNat : Int)

theorem val_num_head {v : Int} {n : Nat} (r : List Int) (h0 : 0 ≤ v) (h1 : v < 2 ^ n) : valOf (numBits v n ++ r) = v + 2 ^ n * valOf r := by
  rw [valOf_append, valOf_num_lt h0 h1, numBits_length]

/-- the bytes of a block -/
theorem bytes_read : ∀ (c : List UInt8) (s : Rd) (rest : List Int) (m : Int), Inv s → s.part = 3 → s.last = false → s.left = c.length → c ≠ [] → s.hold = valOf (byteBits c ++ rest) → s.have_ = 8 * c.length + m → 0 ≤ m →
    ∃ t, Inv t ∧ drive s = drive t ∧ t.part = 1 ∧ t.hold = valOf rest ∧ t.have_ = m ∧ t.out = (if s.kind = 1 then s.out ++ ints8 c else s.out)
  | [], _, _, _, _, _, _, _, hc, _, _, _ => absurd rfl hc
  | c :: l, s, rest, m, hI, hp, hla, hle, _, hh, hn, hm => by
    have hb := byte_bounds c
    rw [List.length_cons] at hle hn
    have hh2 : s.hold = (c.toNat : Int) + 2 ^ (8 : Int).toNat * valOf (byteBits l ++ rest) := by
      rw [hh]
      show valOf (numBits c.toNat 8 ++ byteBits l ++ rest) = _
      rw [List.append_assoc, val_num_head _ hb.1 (by show (c.toNat : Int) < 256; omega)]
      rfl
    have hw : width s = 8 := by unfold width; rw [if_neg (by omega), if_neg (by omega), if_neg (by omega), if_neg (by omega), if_neg (by omega)]
    obtain ⟨e1, i1⟩ := drive_num hI (c.toNat : Int) (valOf (byteBits l ++ rest)) 8 (8 * l.length + m) (by omega) (by omega) (by omega) hw hh2 hb.1 (by show (c.toNat : Int) < 256; omega) (by omega) (by omega)
    have eu : use { s with hold := valOf (byteBits l ++ rest), have_ := 8 * l.length + m } (c.toNat : Int) = useByte { s with hold := valOf (byteBits l ++ rest), have_ := 8 * l.length + m } (c.toNat : Int) := by
      unfold use
      rw [if_neg (show ¬ s.part = 0 by omega), if_neg (show ¬ s.part = 1 by omega), if_neg (show ¬ s.part = 2 by omega), if_pos (show s.part = 3 from hp)]
    rw [eu] at e1 i1
    obtain ⟨u, hu, hup, hula, hule, huh, hun, huk, huo⟩ : ∃ u : Rd, useByte { s with hold := valOf (byteBits l ++ rest), have_ := 8 * l.length + m } (c.toNat : Int) = (if u.left = 0 then endBlock u else u) ∧ u.part = 3 ∧ u.last = false ∧ u.left = l.length ∧ u.hold = valOf (byteBits l ++ rest) ∧ u.have_ = 8 * l.length + m ∧ u.kind = s.kind ∧ u.out = (if s.kind = 1 then s.out ++ [(c.toNat : Int)] else s.out) := by
      by_cases hk : s.kind = 1
      · refine ⟨put { s with hold := valOf (byteBits l ++ rest), have_ := 8 * l.length + m } (c.toNat : Int), ?_, hp, hla, ?_, rfl, rfl, rfl, ?_⟩
        · unfold useByte
          rw [if_pos (show s.kind = 1 from hk)]
        · show s.left - 1 = _; omega
        · rw [if_pos hk]; rfl
      · refine ⟨{ s with hold := valOf (byteBits l ++ rest), have_ := 8 * l.length + m, left := s.left - 1 }, ?_, hp, hla, ?_, rfl, rfl, rfl, ?_⟩
        · unfold useByte
          rw [if_neg (show ¬ s.kind = 1 from hk)]
        · show s.left - 1 = _; omega
        · rw [if_neg hk]
    rw [hu] at e1 i1
    by_cases hl : l = []
    · subst hl
      rw [if_pos (by rw [hule]; rfl)] at e1 i1
      have eb : endBlock u = { u with part := 1 } := by unfold endBlock; rw [hula]; rfl
      rw [eb] at e1 i1
      refine ⟨_, i1, e1, rfl, ?_, ?_, ?_⟩
      · show u.hold = _; rw [huh]; rfl
      · show u.have_ = _; rw [hun, List.length_nil]; omega
      · show u.out = _; rw [huo]; rfl
    · have hpos : 0 < l.length := List.length_pos_iff.2 hl
      rw [if_neg (by rw [hule]; omega)] at e1 i1
      obtain ⟨t, t1, t2, t3, t4, t5, t6⟩ := bytes_read l u rest m i1 hup hula hule hl huh hun hm
      refine ⟨t, t1, e1.trans t2, t3, t4, t5, ?_⟩
      rw [t6, huk, huo]
      split
      · show s.out ++ [(c.toNat : Int)] ++ ints8 l = s.out ++ ((c.toNat : Int) :: ints8 l)
        rw [List.append_assoc]; rfl
      · rfl

/-- a block that is no last one: its head, one bit of fill, its bytes -/
theorem head_read (kind : Int) (s : Rd) (hI : Inv s) (hp : s.part = 1) (c : List UInt8) (z nb m : Int) (rest : List Int) (hk : (kind = 1 ∧ nb = 12 ∧ z = (c.length : Int) - 1 ∧ c ≠ [] ∧ c.length ≤ 4096) ∨ (kind = 3 ∧ nb = 8 ∧ z = (c.length : Int) ∧ c.length ≤ 255))
    (hh : s.hold = 2 * kind + 2 ^ (3 : Int).toNat * (z + 2 ^ nb.toNat * (0 + 2 ^ (1 : Int).toNat * valOf (byteBits c ++ rest)))) (hn : s.have_ = 3 + nb + 1 + 8 * c.length + m) (m0 : 0 ≤ m) (hm8 : m % 8 = 0) :
    ∃ t, Inv t ∧ drive s = drive t ∧ t.part = 1 ∧ t.hold = valOf rest ∧ t.have_ = m ∧ t.out = (if kind = 1 then s.out ++ ints8 c else s.out) := by
  have hw1 : width s = 3 := by unfold width; rw [if_neg (by omega), if_pos hp]
  have hkb : 0 ≤ 2 * kind ∧ 2 * kind < 8 := by omega
  obtain ⟨e1, i1⟩ := drive_num hI (2 * kind) (z + 2 ^ nb.toNat * (0 + 2 ^ (1 : Int).toNat * valOf (byteBits c ++ rest))) 3 (nb + 1 + 8 * c.length + m) (by omega) (by omega) (by omega) hw1 hh hkb.1 (by show 2 * kind < 8; omega) (by omega) (by omega)
  have u1 : use { s with hold := z + 2 ^ nb.toNat * (0 + 2 ^ (1 : Int).toNat * valOf (byteBits c ++ rest)), have_ := nb + 1 + 8 * c.length + m } (2 * kind) =
      { s with hold := z + 2 ^ nb.toNat * (0 + 2 ^ (1 : Int).toNat * valOf (byteBits c ++ rest)), have_ := nb + 1 + 8 * c.length + m, last := false, kind := kind, part := 2 } := by
    unfold use
    rw [if_neg (show ¬ s.part = 0 by omega), if_pos (show s.part = 1 from hp)]
    unfold useBlock
    have e : 2 * kind / 2 = kind := by omega
    have e2 : (2 * kind % 2 == 1) = false := by rw [show 2 * kind % 2 = 0 by omega]; rfl
    rw [e, e2]
    dsimp only
    rw [if_neg (by omega)]
  rw [u1] at e1 i1
  clear u1
  have hw2 : width { s with hold := z + 2 ^ nb.toNat * (0 + 2 ^ (1 : Int).toNat * valOf (byteBits c ++ rest)), have_ := nb + 1 + 8 * c.length + m, last := false, kind := kind, part := 2 } = nb := by
    show (if kind = 3 then (8 : Int) else 12) = nb
    rcases hk with ⟨a, b, _⟩ | ⟨a, b, _⟩
    · rw [if_neg (by omega), b]
    · rw [if_pos a, b]
  have hz : 0 ≤ z ∧ z < 2 ^ nb.toNat := by
    rcases hk with ⟨a, b, d, e, f⟩ | ⟨a, b, d, f⟩
    · have : 0 < c.length := List.length_pos_iff.2 e
      rw [b]
      show 0 ≤ z ∧ z < 4096
      omega
    · rw [b]
      show 0 ≤ z ∧ z < 256
      omega
  obtain ⟨e2, i2⟩ := drive_num i1 z (0 + 2 ^ (1 : Int).toNat * valOf (byteBits c ++ rest)) nb (1 + 8 * c.length + m) (by show (2 : Int) ≠ 6; omega) (by show (2 : Int) ≠ 8; omega) (by show (2 : Int) ≤ 9; omega) hw2 rfl hz.1 hz.2 (by show nb + 1 + 8 * (c.length : Int) + m = _; omega) (by omega)
  generalize hV : valOf (byteBits c ++ rest) = V at *
  have u2 : use { s with hold := 0 + 2 ^ (1 : Int).toNat * V, have_ := 1 + 8 * c.length + m, last := false, kind := kind, part := 2 } z =
      (if (c.length : Int) = 0 then ({ s with hold := V, have_ := 8 * c.length + m, last := false, kind := kind, part := 1, left := c.length } : Rd) else { s with hold := V, have_ := 8 * c.length + m, last := false, kind := kind, part := 3, left := c.length }) := by
    show useSize _ z = _
    unfold useSize
    rw [if_neg (show ¬ kind = 2 by omega)]
    have hleft : (if kind = 1 then z + 1 else z) = (c.length : Int) := by
      rcases hk with ⟨a, _, d, _⟩ | ⟨a, _, d, _⟩
      · rw [if_pos a]; omega
      · rw [if_neg (by omega)]; omega
    dsimp only
    rw [hleft]
    have hmod : (1 + 8 * (c.length : Int) + m) % 8 = 1 := by omega
    have hf : fillOk { s with hold := 0 + 2 ^ (1 : Int).toNat * V, have_ := 1 + 8 * c.length + m, last := false, kind := kind, part := 2, left := c.length } = true := by
      unfold fillOk
      dsimp only
      rw [hmod]
      show ((0 + 2 * V) % 2 == 0) = true
      rw [show (0 + 2 * V) % 2 = 0 by omega]
      rfl
    have hft : fillTo { s with hold := 0 + 2 ^ (1 : Int).toNat * V, have_ := 1 + 8 * c.length + m, last := false, kind := kind, part := 2, left := c.length } = { s with hold := V, have_ := 8 * c.length + m, last := false, kind := kind, part := 2, left := c.length } := by
      unfold fillTo
      rw [hf]
      dsimp only
      rw [hmod, show (0 + 2 ^ (1 : Int).toNat * V) / 2 ^ (1 : Int).toNat = V by show (0 + 2 * V) / 2 = V; omega, show 1 + 8 * (c.length : Int) + m - 1 = 8 * c.length + m by omega]
      rfl
    rw [hf, hft]
    dsimp only
    rw [if_pos rfl]
    by_cases h0 : (c.length : Int) = 0
    · rw [if_pos h0, if_pos h0]
      unfold endBlock
      rfl
    · rw [if_neg h0, if_neg h0]
  have e2' := e2
  have i2' := i2
  rw [u2] at e2' i2'
  clear e2 i2 u2
  by_cases h0 : (c.length : Int) = 0
  · have hc : c = [] := List.length_eq_zero_iff.1 (by omega)
    rw [if_pos h0] at e2' i2'
    refine ⟨_, i2', e1.trans e2', rfl, ?_, ?_, ?_⟩
    · show V = _; rw [← hV, hc]; rfl
    · show 8 * (c.length : Int) + m = m; omega
    · show s.out = _
      rcases hk with ⟨_, _, _, hne, _⟩ | ⟨a, _⟩
      · exact absurd hc hne
      · rw [if_neg (by omega)]
  · rw [if_neg h0] at e2' i2'
    have hne : c ≠ [] := fun e => h0 (by rw [e]; rfl)
    obtain ⟨t, t1, t2, t3, t4, t5, t6⟩ := bytes_read c _ rest m i2' rfl rfl rfl hne hV.symm rfl m0
    exact ⟨t, t1, (e1.trans e2').trans t2, t3, t4, t5, t6⟩

/-- a stored block -/
def blk (c : List UInt8) : List Int := numBits 2 3 ++ (numBits ((c.length : Int) - 1) 12 ++ ([0] ++ byteBits c))
theorem blk_length (c : List UInt8) : (blk c).length = 16 + 8 * c.length := by
  unfold blk
  simp only [List.length_append, numBits_length, byteBits_length, List.length_singleton]
  omega
theorem blk_val (c : List UInt8) (hc : c ≠ []) (h : c.length ≤ 4096) (rest : List Int) : valOf (blk c ++ rest) = 2 * 1 + 2 ^ (3 : Int).toNat * (((c.length : Int) - 1) + 2 ^ (12 : Int).toNat * (0 + 2 ^ (1 : Int).toNat * valOf (byteBits c ++ rest))) := by
  have hpos : 0 < c.length := List.length_pos_iff.2 hc
  unfold blk
  rw [List.append_assoc, val_num_head _ (by omega) (by decide), List.append_assoc, val_num_head _ (by omega) (by show (c.length : Int) - 1 < 4096; omega), List.append_assoc]
  rfl

def stored : List (List UInt8) → List Int
  | [] => numBits 1 3
  | c :: l => blk c ++ stored l
def good (l : List (List UInt8)) : Prop := ∀ c ∈ l, c ≠ [] ∧ c.length ≤ 4096
theorem stored_length : ∀ l : List (List UInt8), (stored l).length % 8 = 3
  | [] => by show (numBits 1 3).length % 8 = 3; rw [numBits_length]
  | c :: l => by
    show (blk c ++ stored l).length % 8 = 3
    rw [List.length_append, blk_length]
    have := stored_length l
    omega

theorem stored_read : ∀ (l : List (List UInt8)) (s : Rd), good l → Inv s → s.part = 1 → s.hold = valOf (stored l) → s.have_ = (stored l).length + 5 →
    (drive s).out = s.out ++ ints8 l.flatten ∧ errnoBig (drive s) = 0
  | [], s, _, hI, hp, hh, hn => by
    have hv : s.hold = 1 + 2 ^ (3 : Int).toNat * 0 := by rw [hh]; rfl
    have hn' : s.have_ = 3 + 5 := by rw [hn]; show ((numBits 1 3).length : Int) + 5 = _; rw [numBits_length]; rfl
    have hw1 : width s = 3 := by unfold width; rw [if_neg (by omega), if_pos hp]
    obtain ⟨e1, i1⟩ := drive_num hI 1 0 3 5 (by omega) (by omega) (by omega) hw1 hv (by omega) (by decide) hn' (by omega)
    have u1 : use { s with hold := 0, have_ := 5 } 1 = { s with hold := 0, have_ := 0, last := true, kind := 0, part := 10 } := by
      unfold use
      rw [if_neg (show ¬ s.part = 0 by omega), if_pos (show s.part = 1 from hp)]
      simp [useBlock, fillOk, fillTo, endBlock]
    rw [u1] at e1
    rw [e1, drive_stop (Or.inl rfl)]
    exact ⟨by show s.out = s.out ++ []; rw [List.append_nil], rfl⟩
  | c :: l, s, hg, hI, hp, hh, hn => by
    have hc := hg c (List.mem_cons_self ..)
    have hl : good l := fun x hx => hg x (List.mem_cons_of_mem _ hx)
    have hv : s.hold = 2 * 1 + 2 ^ (3 : Int).toNat * (((c.length : Int) - 1) + 2 ^ (12 : Int).toNat * (0 + 2 ^ (1 : Int).toNat * valOf (byteBits c ++ stored l))) := by
      rw [hh]; exact blk_val c hc.1 hc.2 (stored l)
    have hn' : s.have_ = 3 + 12 + 1 + 8 * (c.length : Int) + (((stored l).length : Int) + 5) := by
      rw [hn]; show (((blk c ++ stored l).length : Nat) : Int) + 5 = _; rw [List.length_append, blk_length]; omega
    have hs8 := stored_length l
    obtain ⟨t, t1, t2, t3, t4, t5, t6⟩ := head_read 1 s hI hp c _ 12 _ (stored l) (Or.inl ⟨rfl, rfl, rfl, hc.1, hc.2⟩) hv hn' (by omega) (by omega)
    obtain ⟨r1, r2⟩ := stored_read l t hl t1 t3 t4 t5
    rw [t2]
    refine ⟨?_, r2⟩
    rw [r1, t6, if_pos rfl, List.append_assoc]
    show s.out ++ (ints8 c ++ ints8 l.flatten) = s.out ++ ints8 (c ++ l.flatten)
    unfold ints8
    rw [List.map_append]

/-- the whole stream -/
def plainBits (w : Int) (note : List UInt8) (l : List (List UInt8)) : List Int := numBits w 4 ++ (numBits 6 3 ++ (numBits note.length 8 ++ ([0] ++ (byteBits note ++ stored l))))

theorem plain_read (w : Int) (note : List UInt8) (l : List (List UInt8)) (w0 : 0 ≤ w) (w8 : w ≤ 8) (hn : note.length ≤ 255) (hg : good l) (hb : isBits (plainBits w note l)) :
    (drive { initRd with hold := valOf (plainBits w note l), have_ := (plainBits w note l).length + 5 }).out = ints8 l.flatten ∧ errnoBig (drive { initRd with hold := valOf (plainBits w note l), have_ := (plainBits w note l).length + 5 }) = 0 := by
  have vb := valOf_bounds _ hb
  have hlen : (plainBits w note l).length = 4 + (3 + (8 + (1 + (8 * note.length + (stored l).length)))) := by
    unfold plainBits
    simp only [List.length_append, numBits_length, byteBits_length, List.length_singleton]
  have i0 : Inv { initRd with hold := valOf (plainBits w note l), have_ := (plainBits w note l).length + 5 } := by
    have b := init_rest.1.1
    refine ⟨⟨vb.1, ?_, by show (0 : Int) ≤ ((plainBits w note l).length : Int) + 5; omega, b.at0, b.at1, b.r0, b.r1, b.w1, b.near, b.l0, b.l1⟩, part_end (Or.inl ⟨rfl, rfl⟩)⟩
    show valOf (plainBits w note l) < 2 ^ (((plainBits w note l).length : Int) + 5).toNat
    rw [show (((plainBits w note l).length : Int) + 5).toNat = (plainBits w note l).length + 5 by omega, pow_add2]
    have : (2 : Int) ^ 5 = 32 := rfl
    rw [this]
    have := vb.2
    omega
  have hv : valOf (plainBits w note l) = w + 2 ^ (4 : Int).toNat * (2 * 3 + 2 ^ (3 : Int).toNat * ((note.length : Int) + 2 ^ (8 : Int).toNat * (0 + 2 ^ (1 : Int).toNat * valOf (byteBits note ++ stored l)))) := by
    unfold plainBits
    rw [val_num_head _ w0 (by show w < 16; omega), val_num_head _ (by omega) (by decide), val_num_head _ (by omega) (by show (note.length : Int) < 256; omega)]
    rfl
  generalize hR : (2 * 3 + 2 ^ (3 : Int).toNat * ((note.length : Int) + 2 ^ (8 : Int).toNat * (0 + 2 ^ (1 : Int).toNat * valOf (byteBits note ++ stored l))) : Int) = R at *
  obtain ⟨e1, i1⟩ := drive_num i0 w R 4 (3 + 8 + 1 + 8 * note.length + ((stored l).length + 5)) (by show (0 : Int) ≠ 6; omega) (by show (0 : Int) ≠ 8; omega) (by show (0 : Int) ≤ 9; omega) rfl hv w0 (by show w < 16; omega) (by show ((plainBits w note l).length : Int) + 5 = _; rw [hlen]; omega) (by omega)
  have u1 : use { ({ initRd with hold := valOf (plainBits w note l), have_ := (plainBits w note l).length + 5 } : Rd) with hold := R, have_ := 3 + 8 + 1 + 8 * note.length + ((stored l).length + 5) } w = { initRd with hold := R, have_ := 3 + 8 + 1 + 8 * note.length + ((stored l).length + 5), window := 16 * 2 ^ w.toNat, part := 1 } := by
    show useWindow _ w = _
    unfold useWindow
    rw [if_neg (by omega)]
  rw [u1] at e1 i1
  have hs8 := stored_length l
  obtain ⟨t, t1, t2, t3, t4, t5, t6⟩ := head_read 3 _ i1 rfl note _ 8 _ (stored l) (Or.inr ⟨rfl, rfl, rfl, hn⟩) hR.symm rfl (by omega) (by omega)
  obtain ⟨r1, r2⟩ := stored_read l t hg t1 t3 t4 t5
  rw [e1, t2]
  refine ⟨?_, r2⟩
  rw [r1, t6, if_neg (by omega)]
  rfl

end Wr

namespace Wr
/-- the stream so far -/
def plainHead (w : Int) (note : List UInt8) : List Int := numBits w 4 ++ (numBits 6 3 ++ (numBits note.length 8 ++ ([0] ++ byteBits note)))
def soFar (w : Int) (note : List UInt8) (cs : List (List UInt8)) : List Int := plainHead w note ++ (cs.map blk).flatten

theorem stored_eq : ∀ l : List (List UInt8), stored l = (l.map blk).flatten ++ numBits 1 3
  | [] => rfl
  | c :: l => by
    show blk c ++ stored l = blk c ++ (l.map blk).flatten ++ numBits 1 3
    rw [stored_eq l, List.append_assoc]
theorem soFar_end (w : Int) (note : List UInt8) (cs : List (List UInt8)) : soFar w note cs ++ numBits 1 3 = plainBits w note cs := by
  unfold soFar plainHead plainBits
  rw [stored_eq]
  simp only [List.append_assoc]
theorem head_length (w : Int) (note : List UInt8) : (plainHead w note).length = 16 + 8 * note.length := by
  unfold plainHead
  simp only [List.length_append, numBits_length, byteBits_length, List.length_singleton]
  omega
theorem blks_length : ∀ cs : List (List UInt8), ((cs.map blk).flatten).length = 16 * cs.length + 8 * cs.flatten.length
  | [] => rfl
  | c :: l => by
    show (blk c ++ (l.map blk).flatten).length = 16 * (l.length + 1) + 8 * (c ++ l.flatten).length
    rw [List.length_append, blks_length l, blk_length, List.length_append]
    omega
theorem soFar_length (w : Int) (note : List UInt8) (cs : List (List UInt8)) : (soFar w note cs).length = 16 + 8 * note.length + 16 * cs.length + 8 * cs.flatten.length := by
  unfold soFar
  rw [List.length_append, head_length, blks_length]
  omega
theorem good_count : ∀ cs : List (List UInt8), good cs → cs.length ≤ cs.flatten.length
  | [], _ => Nat.le_refl _
  | c :: l, h => by
    have hc := (h c (List.mem_cons_self ..)).1
    have := List.length_pos_iff.2 hc
    have ih := good_count l (fun x hx => h x (List.mem_cons_of_mem _ hx))
    show l.length + 1 ≤ (c ++ l.flatten).length
    rw [List.length_append]
    omega
theorem soFar_more (w : Int) (note : List UInt8) (cs : List (List UInt8)) (c : List UInt8) : soFar w note (cs ++ [c]) = soFar w note cs ++ blk c := by
  unfold soFar
  rw [List.map_append, List.flatten_append, List.append_assoc]
  show _ ++ (_ ++ (blk c ++ [])) = _
  rw [List.append_nil]
theorem good_more {cs : List (List UInt8)} {c : List UInt8} (h : good cs) (h1 : c ≠ []) (h2 : c.length ≤ 4096) : good (cs ++ [c]) := by
  intro x hx
  rcases List.mem_append.1 hx with h' | h'
  · exact h x h'
  · rw [List.mem_singleton] at h'; subst h'; exact ⟨h1, h2⟩
theorem isBits_cat {a b : List Int} (ha : isBits a) (hb : isBits b) : isBits (a ++ b) := by
  intro x hx
  rcases List.mem_append.1 hx with h | h
  · exact ha x h
  · exact hb x h
theorem isBits_nought : isBits [0] := by
  intro b hb
  rw [List.mem_singleton] at hb
  exact Or.inl hb
theorem blk_bits (c : List UInt8) : isBits (blk c) := isBits_cat (numBits_isBits _ _) (isBits_cat (numBits_isBits _ _) (isBits_cat isBits_nought (byteBits_isBits c)))
theorem stored_bits : ∀ l : List (List UInt8), isBits (stored l)
  | [] => numBits_isBits _ _
  | c :: l => isBits_cat (blk_bits c) (stored_bits l)
theorem plain_bits (w : Int) (note : List UInt8) (cs : List (List UInt8)) : isBits (plainBits w note cs) :=
  isBits_cat (numBits_isBits _ _) (isBits_cat (numBits_isBits _ _) (isBits_cat (numBits_isBits _ _) (isBits_cat isBits_nought (isBits_cat (byteBits_isBits _) (stored_bits _)))))
end Wr

namespace Wr

theorem chunk_list (x : ByteArray) (p n : Nat) : ((x.extract p x.size).extract 0 n).data.toList = ((x.data.toList.drop p).take (x.size - p)).take n := by
  rw [Go.Lib.extract_data, Go.Lib.extract_data, List.drop_zero, Nat.sub_zero]
theorem chunk_list2 {x : ByteArray} {p n : Nat} (h : p + n ≤ x.size) : ((x.extract p x.size).extract 0 n).data.toList = (x.data.toList.drop p).take n := by
  rw [chunk_list, List.take_take, Nat.min_eq_left (by omega)]
theorem chunk_len {x : ByteArray} {p n : Nat} (h : p + n ≤ x.size) : ((x.extract p x.size).extract 0 n).data.toList.length = n := by
  rw [chunk_list2 h, List.length_take, List.length_drop]
  have : x.data.toList.length = x.size := by simp
  omega
theorem chunk_more {x : ByteArray} {p n : Nat} (h : p + n ≤ x.size) {cs : List (List UInt8)} (hf : cs.flatten = x.data.toList.take p) : (cs ++ [((x.extract p x.size).extract 0 n).data.toList]).flatten = x.data.toList.take (p + n) := by
  rw [List.flatten_append, hf, chunk_list2 h, List.take_add]
  simp
theorem tail_more {x : ByteArray} {p n m : Nat} (h : p + n ≤ x.size) (hm : m = x.size - p) : (x.extract p x.size).extract n m = x.extract (p + n) x.size := by
  rw [Go.Lib.extract_eq, Go.Lib.extract_data, Go.Lib.extract_eq, List.drop_take, List.drop_drop, List.take_take, hm]
  congr 3
  omega
theorem outStr_sz (l : List Int) : (outStr l).size = l.length := by
  have := congrArg List.length (outStr_list l)
  rw [List.length_map] at this
  rw [← this]
  simp
theorem str_back (x : ByteArray) : outStr (ints8 x.data.toList) = x := by
  have e : (outStr (ints8 x.data.toList)).data.toList = x.data.toList := by
    rw [outStr_list]
    unfold ints8
    rw [List.map_map]
    have : ∀ c : UInt8, ((fun n : Int => UInt8.ofNat n.toNat) ∘ fun c : UInt8 => (c.toNat : Int)) c = c := by
      intro c
      show UInt8.ofNat ((c.toNat : Int)).toNat = c
      rw [Int.toNat_natCast]
      exact UInt8.ofNat_toNat
    rw [show ((fun n : Int => UInt8.ofNat n.toNat) ∘ fun c : UInt8 => (c.toNat : Int)) = id from funext this, List.map_id]
  have := congrArg List.toArray e
  cases h : outStr (ints8 x.data.toList)
  rw [h] at this
  cases x
  simpa using this

theorem plain_dec (w : Int) (note : List UInt8) (cs : List (List UInt8)) (x S : ByteArray) (w0 : 0 ≤ w) (w8 : w ≤ 8) (hn : note.length ≤ 255) (hg : good cs) (hf : cs.flatten = x.data.toList) (hS : S.data.toList = bytesOf (valOf (plainBits w note cs)) (((plainBits w note cs).length + 7) / 8)) :
    outStr (feed initRd S.data.toList).out = x ∧ errno (feed initRd S.data.toList) = 0 := by
  obtain ⟨f1, f2⟩ := feed_full S.data.toList
  have hb := plain_bits w note cs
  have vb := valOf_bounds _ hb
  have hlen : (plainBits w note cs).length = 16 + 8 * note.length + 16 * cs.length + 8 * cs.flatten.length + 3 := by
    rw [← soFar_end, List.length_append, soFar_length, numBits_length]
  have h8 : ((8 * (((plainBits w note cs).length + 7) / 8) : Nat) : Int) = ((plainBits w note cs).length : Int) + 5 := by omega
  have hv : valOf (plainBits w note cs) < 2 ^ (8 * (((plainBits w note cs).length + 7) / 8)) := by
    rw [show 8 * (((plainBits w note cs).length + 7) / 8) = (plainBits w note cs).length + 5 by omega, pow_add2]
    have : (2 : Int) ^ 5 = 32 := rfl
    rw [this]
    have := vb.2
    omega
  obtain ⟨r1, r2⟩ := plain_read w note cs w0 w8 hn hg hb
  have e : full S.data.toList = drive { initRd with hold := valOf (plainBits w note cs), have_ := (plainBits w note cs).length + 5 } := by
    rw [hS, full_bytes _ _ vb.1 hv, ← h8]
    rfl
  rw [f1, f2, e, r1, r2, hf]
  exact ⟨str_back x, rfl⟩
end Wr

/- THE RING HOLDS WHAT CAME OUT LAST. No Go. -/
namespace Wr

/-- all that came out, as the ring has it -/
structure RingOk (s : Rd) (all : List Int) : Prop where
  at_ : s.at_ = (all.length : Int) % 4096
  ring : ∀ i : Nat, i < all.length → all.length ≤ i + 4096 → s.ring (i % 4096) = all.getD i 0
  reach : s.reach = if (all.length : Int) ≤ s.window then (all.length : Int) else s.window

theorem put_ring {s : Rd} {all : List Int} (h : RingOk s all) (c : Int) (_hw : s.window ≤ 4096) (_hw0 : 0 ≤ s.window) : RingOk (put s c) (all ++ [c]) := by
  have h1 := h.at_
  have h3 := h.reach
  have hl : (all ++ [c]).length = all.length + 1 := by simp
  refine ⟨?_, ?_, ?_⟩
  · show (s.at_ + 1) % 4096 = _
    rw [hl, h1]; omega
  · intro i hi hi2
    rw [hl] at hi hi2
    show upd s.ring s.at_.toNat c (i % 4096) = _
    unfold upd
    by_cases e : i = all.length
    · subst e
      rw [if_pos (by omega)]
      simp [List.getD]
    · rw [if_neg (by omega), h.ring i (by omega) (by omega)]
      simp only [List.getD]
      rw [List.getElem?_append_left (by omega)]
  · show (if s.reach < s.window then s.reach + 1 else s.reach) = if ((all ++ [c]).length : Int) ≤ s.window then ((all ++ [c]).length : Int) else s.window
    rw [hl, h3]
    split <;> split <;> split <;> omega

theorem ago_ring {s : Rd} {all : List Int} (h : RingOk s all) (d : Nat) (h1 : 1 ≤ d) (h2 : (d : Int) ≤ s.reach) (hw : s.window ≤ 4096) : agoP s d = all.getD (all.length - d) 0 := by
  have ha := h.at_
  have hr := h.reach
  have hd : d ≤ all.length ∧ d ≤ 4096 := by
    rw [hr] at h2
    split at h2 <;> omega
  unfold agoP
  have e : ((s.at_ + 4096 - (d : Int)) % 4096).toNat = (all.length - d) % 4096 := by rw [ha]; omega
  rw [e]
  exact h.ring (all.length - d) (by omega) (by omega)

/-- a copy -/
def copyList (d : Nat) : Nat → List Int → List Int
  | 0, l => l
  | n + 1, l => copyList d n (l ++ [l.getD (l.length - d) 0])

theorem copyList_len (d : Nat) : ∀ (n : Nat) (l : List Int), (copyList d n l).length = l.length + n
  | 0, l => rfl
  | n + 1, l => by
    show (copyList d n (l ++ [l.getD (l.length - d) 0])).length = _
    rw [copyList_len d n]
    simp
    omega

theorem copy_ring (d : Nat) (h1 : 1 ≤ d) : ∀ (n : Nat) (s : Rd) (all : List Int), RingOk s all → (d : Int) ≤ s.reach → s.window ≤ 4096 → 0 ≤ s.window →
    RingOk (copyGo n s d) (copyList d n all) ∧ (∀ pre, all = pre ++ s.out → copyList d n all = pre ++ (copyGo n s d).out)
  | 0, s, all, h, _, _, _ => ⟨h, fun _ e => e⟩
  | n + 1, s, all, h, h2, hw, hw0 => by
    have ea := ago_ring h d h1 h2 hw
    have hp := put_ring h (agoP s d) hw hw0
    have hr2 : (d : Int) ≤ (put s (agoP s d)).reach := by
      show (d : Int) ≤ if s.reach < s.window then s.reach + 1 else s.reach
      split <;> omega
    have ih := copy_ring d h1 n (put s (agoP s d)) (all ++ [agoP s d]) hp hr2 hw hw0
    have e1 : copyList d (n + 1) all = copyList d n (all ++ [agoP s d]) := by rw [ea]; rfl
    rw [e1]
    refine ⟨ih.1, fun pre e => ?_⟩
    exact ih.2 pre (by rw [e, List.append_assoc]; rfl)

end Wr
