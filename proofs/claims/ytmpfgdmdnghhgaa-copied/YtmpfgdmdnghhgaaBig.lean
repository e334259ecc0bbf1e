/- ALL BITS AT ONCE: what the reader comes to hangs on no cut. No Go. -/
import Derived.Test.YtmpfgdmdnghhgaaFeed
namespace Wr

theorem more_div (h c : Int) (a n : Nat) (hn : n ≤ a) : (h + c * 2 ^ a) / 2 ^ n = h / 2 ^ n + c * 2 ^ (a - n) ∧ (h + c * 2 ^ a) % 2 ^ n = h % 2 ^ n := by
  have hp := pow_pos2 n
  have e : c * 2 ^ a = (c * 2 ^ (a - n)) * 2 ^ n := by
    rw [Int.mul_assoc, ← pow_add2, show a - n + n = a by omega]
  rw [e]
  exact ⟨Int.add_mul_ediv_right _ _ (by omega), Int.add_mul_emod_self_right _ _ _⟩

theorem drop_more {s : Rd} (h0 : 0 ≤ s.have_) (n c : Int) (n0 : 0 ≤ n) (n1 : n ≤ s.have_) : drop (more8 s c) n = more8 (drop s n) c := by
  unfold drop more8
  have e := (more_div s.hold c s.have_.toNat n.toNat (by omega)).1
  simp only
  rw [e, show s.have_.toNat - n.toNat = (s.have_ - n).toNat by omega, show s.have_ + 8 - n = s.have_ - n + 8 by omega]

theorem fillOk_more {s : Rd} (h0 : 0 ≤ s.have_) (c : Int) : fillOk (more8 s c) = fillOk s := by
  unfold fillOk more8
  simp only
  rw [show (s.have_ + 8) % 8 = s.have_ % 8 by omega, (more_div s.hold c s.have_.toNat (s.have_ % 8).toNat (by omega)).2]
theorem fillTo_more {s : Rd} (h0 : 0 ≤ s.have_) (c : Int) : fillTo (more8 s c) = more8 (fillTo s) c := by
  unfold fillTo
  rw [fillOk_more h0]
  split
  · have e : (more8 s c).have_ % 8 = s.have_ % 8 := by show (s.have_ + 8) % 8 = _; omega
    have := drop_more h0 (s.have_ % 8) c (by omega) (by omega)
    rw [e]
    exact this
  · rfl
theorem endBlock_more {s : Rd} (h0 : 0 ≤ s.have_) (c : Int) : endBlock (more8 s c) = more8 (endBlock s) c := by
  unfold endBlock
  rw [fillOk_more h0, fillTo_more h0]
  have e : (more8 s c).last = s.last := rfl
  rw [e]
  split
  · split <;> rfl
  · rfl
theorem endCommand_more {s : Rd} (h0 : 0 ≤ s.have_) (c : Int) : endCommand (more8 s c) = more8 (endCommand s) c := by
  unfold endCommand
  have e : (more8 s c).left = s.left := rfl
  rw [e]
  split
  · exact endBlock_more (s := { s with part := 6 }) h0 c
  · rfl
theorem copy_more (d c : Int) : ∀ (n : Nat) (s : Rd), copyGo n (more8 s c) d = more8 (copyGo n s d) c
  | 0, _ => rfl
  | n + 1, s => by
    have := copy_more d c n (put s (agoP s d))
    exact this
theorem copy_have (d : Int) : ∀ (n : Nat) (s : Rd), (copyGo n s d).have_ = s.have_
  | 0, _ => rfl
  | n + 1, s => copy_have d n (put s (agoP s d))
theorem useCopy_more {s : Rd} (h0 : 0 ≤ s.have_) (d c : Int) : useCopy (more8 s c) d = more8 (useCopy s d) c := by
  unfold useCopy
  have e1 : (more8 s c).reach = s.reach := rfl
  have e2 : (more8 s c).left = s.left := rfl
  have e3 : (more8 s c).length = s.length := rfl
  rw [e1, e2, e3]
  split
  · rfl
  · rw [copy_more]
    exact endCommand_more (by rw [copy_have]; exact h0) c
theorem useWindow_more (s : Rd) (x c : Int) : useWindow (more8 s c) x = more8 (useWindow s x) c := by
  unfold useWindow
  split <;> rfl
theorem fill_have {s : Rd} (h0 : 0 ≤ s.have_) : 0 ≤ (fillTo s).have_ := by
  unfold fillTo
  split
  · show 0 ≤ s.have_ - s.have_ % 8; omega
  · exact h0
theorem useBlock_more {s : Rd} (h0 : 0 ≤ s.have_) (x c : Int) : useBlock (more8 s c) x = more8 (useBlock s x) c := by
  unfold useBlock
  dsimp only
  have h0' : 0 ≤ ({ s with last := x % 2 == 1, kind := x / 2 } : Rd).have_ := h0
  have e1 := fillOk_more h0' c
  have e2 := fillTo_more h0' c
  have e : ({ more8 s c with last := x % 2 == 1, kind := x / 2 } : Rd) = more8 { s with last := x % 2 == 1, kind := x / 2 } c := rfl
  rw [e, e1, e2]
  split
  · split
    · exact endBlock_more (fill_have h0') c
    · rfl
  · rfl
theorem useSize_more {s : Rd} (h0 : 0 ≤ s.have_) (x c : Int) : useSize (more8 s c) x = more8 (useSize s x) c := by
  have key : ∀ t : Rd, 0 ≤ t.have_ → (if fillOk (more8 t c) then (if ({ fillTo (more8 t c) with part := 3 } : Rd).left = 0 then endBlock { fillTo (more8 t c) with part := 3 } else { fillTo (more8 t c) with part := 3 }) else fillTo (more8 t c)) =
      more8 (if fillOk t then (if ({ fillTo t with part := 3 } : Rd).left = 0 then endBlock { fillTo t with part := 3 } else { fillTo t with part := 3 }) else fillTo t) c := by
    intro t ht
    rw [fillOk_more ht, fillTo_more ht]
    split
    · have e : ({ more8 (fillTo t) c with part := 3 } : Rd).left = ({ fillTo t with part := 3 } : Rd).left := rfl
      rw [e]
      split
      · exact endBlock_more (s := { fillTo t with part := 3 }) (fill_have ht) c
      · rfl
    · rfl
  unfold useSize
  have ek : (more8 s c).kind = s.kind := rfl
  rw [ek]
  by_cases hk : s.kind = 2
  · rw [if_pos hk, if_pos hk]
    rfl
  · rw [if_neg hk, if_neg hk]
    exact key { s with left := if s.kind = 1 then x + 1 else x } h0
theorem useByte_more {s : Rd} (h0 : 0 ≤ s.have_) (x c : Int) : useByte (more8 s c) x = more8 (useByte s x) c := by
  have key : ∀ t : Rd, 0 ≤ t.have_ → (if (more8 t c).left = 0 then endBlock (more8 t c) else more8 t c) = more8 (if t.left = 0 then endBlock t else t) c := by
    intro t ht
    have e : (more8 t c).left = t.left := rfl
    rw [e]
    split
    · exact endBlock_more ht c
    · rfl
  unfold useByte
  dsimp only
  have ek : (more8 s c).kind = s.kind := rfl
  rw [ek]
  by_cases hk : s.kind = 1
  · rw [if_pos hk, if_pos hk]
    exact key (put s x) h0
  · rw [if_neg hk, if_neg hk]
    exact key { s with left := s.left - 1 } h0
theorem useLetter_more {s : Rd} (h0 : 0 ≤ s.have_) (x c : Int) : useLetter (more8 s c) x = more8 (useLetter s x) c := by
  unfold useLetter
  split
  · exact endCommand_more (s := put s x) h0 c
  · rfl
theorem useDistance_more {s : Rd} (h0 : 0 ≤ s.have_) (x c : Int) : useDistance (more8 s c) x = more8 (useDistance s x) c := by
  unfold useDistance
  have en : (more8 s c).near = s.near := rfl
  rw [en]
  split
  · split
    · exact useCopy_more (s := { s with near := nearAdd s.near (s.near x.toNat) }) h0 _ c
    · exact useCopy_more h0 _ c
  · rfl
theorem lay_more (s : Rd) (x n c : Int) : lay (more8 s c) x n = (more8 (lay s x n).1 c, (lay s x n).2) := by
  unfold lay
  have e1 : (more8 s c).msize = s.msize := rfl
  have e2 : (more8 s c).mat = s.mat := rfl
  have e3 : (more8 s c).mlen = s.mlen := rfl
  have e4 : (more8 s c).msym = s.msym := rfl
  rw [e1, e2, e3, e4]
  split
  · rfl
  · dsimp only
    split
    · rfl
    · split <;> rfl
theorem give_more (s : Rd) (x c : Int) : give (more8 s c) x = (more8 (give s x).1 c, (give s x).2) := by
  unfold give
  have e1 : (more8 s c).mstep = s.mstep := rfl
  rw [e1]
  split
  · rfl
  split
  · rfl
  split
  · unfold nameP
    have e2 : (more8 s c).msize = s.msize := rfl
    have e3 : (more8 s c).mat = s.mat := rfl
    have e4 : (more8 s c).msym = s.msym := rfl
    rw [e2, e3, e4]
    split
    · rfl
    split
    · rfl
    · dsimp only
      have e5 : (more8 s c).mwanted = s.mwanted := rfl
      rw [e5]
      split <;> rfl
  split
  · unfold lengthP
    have e3 : (more8 s c).mat = s.mat := rfl
    rw [e3]
    split
    · exact lay_more s x 1 c
    split <;> rfl
  · unfold times
    dsimp only
    have e3 : (more8 s c).mrepeat = s.mrepeat := rfl
    rw [e3]
    split
    · exact lay_more { s with mstep := 3 } (before { s with mstep := 3 }) (3 + x) c
    split
    · exact lay_more { s with mstep := 3 } 0 (3 + x) c
    · exact lay_more { s with mstep := 3 } 0 (11 + x) c
theorem useCode_more (s : Rd) (x c : Int) : useCode (more8 s c) x = more8 (useCode s x) c := by
  unfold useCode
  rw [give_more]
  dsimp only
  have e1 : (more8 (give s x).1 c).part = (give s x).1.part := rfl
  rw [e1]
  split
  · rfl
  split
  · rfl
  split <;> rfl

theorem use_more {s : Rd} (h0 : 0 ≤ s.have_) (x c : Int) : use (more8 s c) x = more8 (use s x) c := by
  unfold use
  have e1 : (more8 s c).part = s.part := rfl
  rw [e1]
  split
  · exact useWindow_more s x c
  split
  · exact useBlock_more h0 x c
  split
  · exact useSize_more h0 x c
  split
  · exact useByte_more h0 x c
  split
  · exact useCode_more s x c
  split
  · exact useLetter_more h0 x c
  split
  · rfl
  split
  · exact useDistance_more h0 x c
  split
  · exact useCopy_more (s := { s with near := nearAdd s.near (s.least + x) }) h0 (s.least + x) c
  · rfl

/- what is read does not change when more bits come -/
theorem msb_more (h c : Int) (a : Nat) : ∀ l : Nat, l ≤ a → msb (h + c * 2 ^ a) l = msb h l
  | 0, _ => rfl
  | l + 1, hl => by
    have ih := msb_more h c a l (by omega)
    show 2 * msb (h + c * 2 ^ a) l + (h + c * 2 ^ a) / 2 ^ l % 2 = 2 * msb h l + h / 2 ^ l % 2
    rw [ih, (more_div h c a l (by omega)).1, show a - l = (a - l - 1) + 1 by omega, Int.pow_succ]
    have : (h / 2 ^ l + c * (2 ^ (a - l - 1) * 2)) % 2 = h / 2 ^ l % 2 := by
      rw [← Int.mul_assoc, Int.add_mul_emod_self_right]
    rw [this]

theorem find_more {cnt sym : Nat → Int} {S : Int} (hc : Cod cnt sym S) (h have_ c : Int) (h0 : 0 ≤ have_) (l : Nat) (hh : Hit cnt sym h have_ l) :
    find cnt sym (h + c * 2 ^ have_.toNat) (have_ + 8) = find cnt sym h have_ := by
  have hl := hh.lh
  have em : ∀ k, k ≤ l → msb (h + c * 2 ^ have_.toNat) k = msb h k := fun k hk => msb_more h c _ k (by omega)
  rcases find_cases hc (h + c * 2 ^ have_.toNat) (have_ + 8) (by omega) with ⟨l', h'⟩ | hm
  · have e : l' = l := by
      rcases Nat.lt_trichotomy l' l with hlt | heq | hgt
      · have h1 := hh.before l' hlt
        have h2 := h'.lt
        rw [em l' (by omega)] at h2
        omega
      · exact heq
      · have h1 := h'.before l hgt
        have h2 := hh.lt
        rw [em l (Nat.le_refl _)] at h1
        omega
    subst e
    rw [h'.eq, hh.eq, em _ (Nat.le_refl _)]
  · have h1 := hm.none l (by omega)
    have h2 := hh.lt
    rw [em l (Nat.le_refl _)] at h1
    omega

theorem cods {s : Rd} (hP : Part s) (h : s.part = 6 ∨ s.part = 7 ∨ s.part = 8 ∨ s.part = 9) : Cod s.lcnt s.lsym 272 ∧ Cod s.dcnt s.dsym 16 := by
  rcases hP with hc | ⟨hl, hc⟩
  · omega
  · rcases hc with e | ⟨e, m⟩ | ⟨e, m, _⟩ | ⟨cl, cd, _⟩
    · omega
    · omega
    · omega
    · exact ⟨cl, cd⟩

theorem peek_more {s : Rd} (h : Inv s) (hn : ¬ s.have_ < (peek s).2) (hp : s.part ≤ 9) (c : Int) : peek (more8 s c) = peek s := by
  have n0 := h.1.n0
  by_cases h6 : s.part = 6
  · have hc := (cods h.2 (Or.inl h6)).1
    have ep : peek s = find s.lcnt s.lsym s.hold s.have_ := by unfold peek; rw [if_pos h6]
    have ep' : peek (more8 s c) = find s.lcnt s.lsym (s.hold + c * 2 ^ s.have_.toNat) (s.have_ + 8) := by unfold peek; rw [if_pos (show (more8 s c).part = 6 from h6)]; rfl
    rw [ep] at hn
    rw [ep, ep']
    rcases find_cases hc s.hold s.have_ n0 with ⟨l, hh⟩ | hm
    · exact find_more hc _ _ c n0 l hh
    · rw [hm.eq] at hn
      exact absurd (by show s.have_ < s.have_ + 1; omega) hn
  by_cases h8 : s.part = 8
  · have hc := (cods h.2 (Or.inr (Or.inr (Or.inl h8)))).2
    have ep : peek s = find s.dcnt s.dsym s.hold s.have_ := by unfold peek; rw [if_neg h6, if_pos h8]
    have ep' : peek (more8 s c) = find s.dcnt s.dsym (s.hold + c * 2 ^ s.have_.toNat) (s.have_ + 8) := by unfold peek; rw [if_neg (show ¬ (more8 s c).part = 6 from h6), if_pos (show (more8 s c).part = 8 from h8)]; rfl
    rw [ep] at hn
    rw [ep, ep']
    rcases find_cases hc s.hold s.have_ n0 with ⟨l, hh⟩ | hm
    · exact find_more hc _ _ c n0 l hh
    · rw [hm.eq] at hn
      exact absurd (by show s.have_ < s.have_ + 1; omega) hn
  have wb := width_bounds h hp h6 h8
  have hn' : ¬ s.have_ < width s := by rw [peek_number h6 h8] at hn; exact hn
  rw [peek_number h6 h8, peek_number (s := more8 s c) h6 h8]
  have ew : width (more8 s c) = width s := rfl
  rw [ew]
  have := (more_div s.hold c s.have_.toNat (width s).toNat (by omega)).2
  show ((s.hold + c * 2 ^ s.have_.toNat) % 2 ^ (width s).toNat, width s) = _
  rw [this]

theorem step_more {s t : Rd} (h : Inv s) (hs : step s = some t) (c : Int) : step (more8 s c) = some (more8 t c) := by
  obtain ⟨p1, p2, rfl⟩ := step_eq hs
  have pr := part_range h.2
  have hp9 : s.part ≤ 9 := by omega
  have pf := peek_facts h hp9 p2
  have n0 := h.1.n0
  unfold step
  have ep : (more8 s c).part = s.part := rfl
  have eh : (more8 s c).have_ = s.have_ + 8 := rfl
  rw [ep, if_neg p1, peek_more h p2 hp9, eh, if_neg (by have := pf.nh; omega), drop_more n0 _ c pf.n0 pf.nh, use_more (by show 0 ≤ s.have_ - (peek s).2; have := pf.nh; omega)]

theorem drive_more : ∀ (n : Nat) (s : Rd), mu s < n → Inv s → ∀ c : Int, 0 ≤ c → c ≤ 255 → drive (more8 s c) = drive (more8 (drive s) c)
  | 0, s, h, _, _, _, _ => by omega
  | n + 1, s, h, hi, c, c0, c1 => by
    cases hs : step s with
    | none => rw [drive_none hs]
    | some t =>
      obtain ⟨i, l, _, _⟩ := step_goes hi hs
      rw [drive_some hi hs, drive_some (more8_inv hi c c0 c1) (step_more hi hs c)]
      exact drive_more n t (by omega) i c c0 c1

/- bytes -/
def moreAll : Rd → List UInt8 → Rd
  | s, [] => s
  | s, c :: l => moreAll (more8 s c.toNat) l

theorem byte_bounds (c : UInt8) : (0 : Int) ≤ (c.toNat : Int) ∧ (c.toNat : Int) ≤ 255 := by have := c.toNat_lt; omega

theorem moreAll_inv : ∀ (l : List UInt8) (s : Rd), Inv s → Inv (moreAll s l)
  | [], _, h => h
  | c :: l, _s, h => moreAll_inv l _ (more8_inv h _ (byte_bounds c).1 (byte_bounds c).2)

theorem drive_all : ∀ (l : List UInt8) (s : Rd), Inv s → drive (moreAll s l) = drive (moreAll (drive s) l)
  | [], s, h => by
    have := drive_inv (mu s + 1) s (by omega) h
    show drive s = drive (drive s)
    rw [drive_none this.2.1]
  | c :: l, s, h => by
    have hb := byte_bounds c
    have hd := (drive_inv (mu s + 1) s (by omega) h).1
    have h1 := more8_inv h _ hb.1 hb.2
    have h2 := more8_inv hd _ hb.1 hb.2
    show drive (moreAll (more8 s c.toNat) l) = drive (moreAll (more8 (drive s) c.toNat) l)
    rw [drive_all l _ h1, drive_all l _ h2, drive_more (mu s + 1) s (by omega) h _ hb.1 hb.2]

theorem moreAll_keeps : ∀ (l : List UInt8) (s : Rd), (moreAll s l).part = s.part ∧ (moreAll s l).out = s.out ∧ (moreAll s l).have_ = s.have_ + 8 * l.length
  | [], s => ⟨rfl, rfl, by show s.have_ = s.have_ + 8 * ((0 : Nat) : Int); omega⟩
  | c :: l, s => by
    obtain ⟨h1, h2, h3⟩ := moreAll_keeps l (more8 s c.toNat)
    refine ⟨h1, h2, ?_⟩
    show (moreAll (more8 s c.toNat) l).have_ = _
    rw [h3]
    show s.have_ + 8 + 8 * (l.length : Int) = _
    rw [List.length_cons]
    omega

theorem drive_stop {s : Rd} (h : s.part = 10 ∨ s.part = 11) : drive s = s := drive_none (by unfold step; rw [if_pos h])

end Wr
