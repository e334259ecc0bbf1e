/- FED BYTE BY BYTE, OR ALL BITS AT ONCE. No Go. -/
import Derived.Test.YtmpfgdmdnghhgaaBig
namespace Wr

structure Keep (s t : Rd) : Prop where
  tr : t.trailing = s.trailing
  le : t.have_ ≤ s.have_
  en : t.part = 10 → t.have_ % 8 = 0

theorem fillTo_keep {s : Rd} (h0 : 0 ≤ s.have_) : (fillTo s).trailing = s.trailing ∧ (fillTo s).have_ ≤ s.have_ ∧ 0 ≤ (fillTo s).have_ ∧ (fillOk s = true → (fillTo s).have_ % 8 = 0) ∧ (fillOk s = false → (fillTo s).part = 11) := by
  unfold fillTo
  cases h : fillOk s
  · exact ⟨rfl, Int.le_refl _, h0, (fun e => by cases e), fun _ => rfl⟩
  · refine ⟨rfl, ?_, ?_, fun _ => ?_, (fun e => by cases e)⟩
    · show s.have_ - s.have_ % 8 ≤ s.have_; omega
    · show 0 ≤ s.have_ - s.have_ % 8; omega
    · show (s.have_ - s.have_ % 8) % 8 = 0; omega
theorem endBlock_keep {s : Rd} (h0 : 0 ≤ s.have_) : Keep s (endBlock s) := by
  obtain ⟨f1, f2, f3, f4, f5⟩ := fillTo_keep h0
  unfold endBlock
  split
  · cases h : fillOk s
    · rw [if_neg (by decide)]
      have := f5 h
      exact ⟨f1, f2, fun e => by omega⟩
    · rw [if_pos rfl]
      exact ⟨f1, f2, fun _ => f4 h⟩
  · exact ⟨rfl, Int.le_refl _, fun e => absurd e (by show ¬ ((1 : Int) = 10); decide)⟩
theorem endCommand_keep {s : Rd} (h0 : 0 ≤ s.have_) : Keep s (endCommand s) := by
  unfold endCommand
  split
  · have := endBlock_keep (s := { s with part := 6 }) h0
    exact ⟨this.tr, this.le, this.en⟩
  · exact ⟨rfl, Int.le_refl _, fun e => absurd e (by show ¬ ((6 : Int) = 10); decide)⟩
theorem copy_tr (d : Int) : ∀ (n : Nat) (s : Rd), (copyGo n s d).trailing = s.trailing
  | 0, _ => rfl
  | n + 1, s => copy_tr d n (put s (agoP s d))
theorem useCopy_keep {s : Rd} (h0 : 0 ≤ s.have_) (d : Int) : Keep s (useCopy s d) := by
  unfold useCopy
  split
  · exact ⟨rfl, Int.le_refl _, fun e => absurd e (by show ¬ ((11 : Int) = 10); decide)⟩
  · have := endCommand_keep (s := copyGo s.length.toNat s d) (by rw [copy_have]; exact h0)
    exact ⟨by rw [this.tr, copy_tr], by have := this.le; rw [copy_have] at this; exact this, this.en⟩
theorem give_keep (s : Rd) (x : Int) : (give s x).1.trailing = s.trailing ∧ (give s x).1.have_ = s.have_ ∧ (give s x).1.part = s.part := by
  have sm := give_same s x
  exact ⟨by rw [sm], by rw [sm], by rw [sm]⟩

theorem use_keep {s : Rd} (h0 : 0 ≤ s.have_) (hp : s.part ≤ 9) (x : Int) : Keep s (use s x) := by
  unfold use
  split
  · unfold useWindow
    split
    · exact ⟨rfl, Int.le_refl _, fun e => absurd e (by show ¬ ((11 : Int) = 10); decide)⟩
    · exact ⟨rfl, Int.le_refl _, fun e => absurd e (by show ¬ ((1 : Int) = 10); decide)⟩
  split
  · unfold useBlock
    dsimp only
    split
    · obtain ⟨f1, f2, f3, f4, f5⟩ := fillTo_keep (s := { s with last := x % 2 == 1, kind := x / 2 }) h0
      cases h : fillOk { s with last := x % 2 == 1, kind := x / 2 }
      · rw [if_neg (by decide)]
        have := f5 h
        exact ⟨f1, f2, fun e => by omega⟩
      · rw [if_pos rfl]
        have := endBlock_keep f3
        exact ⟨this.tr.trans f1, Int.le_trans this.le f2, this.en⟩
    · exact ⟨rfl, Int.le_refl _, fun e => absurd e (by show ¬ ((2 : Int) = 10); decide)⟩
  split
  · have key : ∀ t : Rd, t.have_ = s.have_ → t.trailing = s.trailing → Keep s (if fillOk t then (if ({ fillTo t with part := 3 } : Rd).left = 0 then endBlock { fillTo t with part := 3 } else { fillTo t with part := 3 }) else fillTo t) := by
      intro t e1 e2
      obtain ⟨f1, f2, f3, f4, f5⟩ := fillTo_keep (s := t) (by omega)
      cases h : fillOk t
      · simp only [if_neg (by decide : ¬ (false = true))]
        have := f5 h
        exact ⟨f1.trans e2, by omega, fun e => by omega⟩
      · simp only [if_true]
        split
        · have := endBlock_keep (s := { fillTo t with part := 3 }) f3
          exact ⟨this.tr.trans (f1.trans e2), Int.le_trans this.le (by show (fillTo t).have_ ≤ _; omega), this.en⟩
        · exact ⟨f1.trans e2, by show (fillTo t).have_ ≤ _; omega, fun e => absurd e (by show ¬ ((3 : Int) = 10); decide)⟩
    unfold useSize
    split
    · exact ⟨rfl, Int.le_refl _, fun e => absurd e (by show ¬ ((4 : Int) = 10); decide)⟩
    · exact key { s with left := if s.kind = 1 then x + 1 else x } rfl rfl
  split
  · have key : ∀ t : Rd, t.have_ = s.have_ → t.trailing = s.trailing → t.part = s.part → Keep s (if t.left = 0 then endBlock t else t) := by
      intro t e1 e2 e3
      split
      · have := endBlock_keep (s := t) (by omega)
        exact ⟨this.tr.trans e2, by have := this.le; omega, this.en⟩
      · exact ⟨e2, by omega, fun e => by omega⟩
    unfold useByte
    dsimp only
    by_cases hk : s.kind = 1
    · rw [if_pos hk]
      exact key (put s x) rfl rfl rfl
    · rw [if_neg hk]
      exact key { s with left := s.left - 1 } rfl rfl rfl
  split
  · obtain ⟨g1, g2, g3⟩ := give_keep s x
    unfold useCode
    dsimp only
    split
    · exact ⟨g1, by show (give s x).1.have_ ≤ _; omega, fun e => absurd e (by show ¬ ((11 : Int) = 10); decide)⟩
    split
    · exact ⟨g1, by omega, fun e => by omega⟩
    split
    · exact ⟨g1, by show (give s x).1.have_ ≤ _; omega, fun e => absurd e (by show ¬ ((5 : Int) = 10); decide)⟩
    · exact ⟨g1, by show (give s x).1.have_ ≤ _; omega, fun e => absurd e (by show ¬ ((6 : Int) = 10); decide)⟩
  split
  · unfold useLetter
    split
    · have := endCommand_keep (s := put s x) h0
      exact ⟨this.tr, this.le, this.en⟩
    · exact ⟨rfl, Int.le_refl _, fun e => absurd e (by show ¬ ((7 : Int) = 10); decide)⟩
  split
  · exact ⟨rfl, Int.le_refl _, fun e => absurd e (by show ¬ ((8 : Int) = 10); decide)⟩
  split
  · unfold useDistance
    split
    · split
      · have := useCopy_keep (s := { s with near := nearAdd s.near (s.near x.toNat) }) h0 (s.near x.toNat)
        exact ⟨this.tr, this.le, this.en⟩
      · exact useCopy_keep h0 _
    · exact ⟨rfl, Int.le_refl _, fun e => absurd e (by show ¬ ((9 : Int) = 10); decide)⟩
  split
  · have := useCopy_keep (s := { s with near := nearAdd s.near (s.least + x) }) h0 (s.least + x)
    exact ⟨this.tr, this.le, this.en⟩
  · exact ⟨rfl, Int.le_refl _, fun e => by omega⟩

theorem step_keep {s t : Rd} (h : Inv s) (hs : step s = some t) : t.trailing = s.trailing ∧ t.have_ ≤ s.have_ - (peek s).2 ∧ (t.part = 10 → t.have_ % 8 = 0) := by
  obtain ⟨p1, p2, rfl⟩ := step_eq hs
  have pr := part_range h.2
  have pf := peek_facts h (by omega) p2
  have := use_keep (s := drop s (peek s).2) (by show 0 ≤ s.have_ - (peek s).2; have := pf.nh; omega) (by show s.part ≤ 9; omega) (peek s).1
  exact ⟨this.tr, this.le, this.en⟩

theorem drive_keep : ∀ (n : Nat) (s : Rd), mu s < n → Inv s → (s.part = 10 → s.have_ % 8 = 0) →
    (drive s).trailing = s.trailing ∧ (drive s).have_ ≤ s.have_ ∧ ((drive s).part = 10 → (drive s).have_ % 8 = 0)
  | 0, s, h, _, _ => by omega
  | n + 1, s, h, hi, h10 => by
    cases hs : step s with
    | none => rw [drive_none hs]; exact ⟨rfl, Int.le_refl _, h10⟩
    | some t =>
      obtain ⟨i, l, _, le⟩ := step_goes hi hs
      obtain ⟨k1, _, k3⟩ := step_keep hi hs
      rw [drive_some hi hs]
      obtain ⟨a, b, c⟩ := drive_keep n t (by omega) i k3
      exact ⟨a.trans k1, by omega, c⟩

/-- what is waited for takes all bits that are there, and more -/
theorem peek_eats {s : Rd} (h : Inv s) (hp : s.part ≤ 9) (hs : step s = none) (c : Int) : s.have_ < (peek (more8 s c)).2 := by
  have n0 := h.1.n0
  have hlt : s.have_ < (peek s).2 := by
    by_cases h2 : s.have_ < (peek s).2
    · exact h2
    · unfold step at hs
      rw [if_neg (by omega), if_neg h2] at hs
      cases hs
  have key : ∀ cnt sym : Nat → Int, ∀ S : Int, Cod cnt sym S → s.have_ < (find cnt sym s.hold s.have_).2 → s.have_ < (find cnt sym (s.hold + c * 2 ^ s.have_.toNat) (s.have_ + 8)).2 := by
    intro cnt sym S hc hl
    rcases find_cases hc s.hold s.have_ n0 with ⟨l, hh⟩ | hm
    · rw [hh.eq] at hl
      have := hh.lh
      have hl' : s.have_ < (l : Int) := hl
      omega
    · rcases find_cases hc (s.hold + c * 2 ^ s.have_.toNat) (s.have_ + 8) (by omega) with ⟨l, hh⟩ | hm'
      · rw [hh.eq]
        show s.have_ < (l : Int)
        by_cases hle : (l : Int) ≤ s.have_
        · have h1 := hm.none l hle
          have h2 := hh.lt
          rw [msb_more _ _ _ l (by omega)] at h2
          omega
        · omega
      · rw [hm'.eq]
        show s.have_ < s.have_ + 8 + 1
        omega
  by_cases h6 : s.part = 6
  · have hc := (cods h.2 (Or.inl h6)).1
    have ep : peek s = find s.lcnt s.lsym s.hold s.have_ := by unfold peek; rw [if_pos h6]
    have ep' : peek (more8 s c) = find s.lcnt s.lsym (s.hold + c * 2 ^ s.have_.toNat) (s.have_ + 8) := by unfold peek; rw [if_pos (show (more8 s c).part = 6 from h6)]; rfl
    rw [ep] at hlt
    rw [ep']
    exact key _ _ _ hc hlt
  by_cases h8 : s.part = 8
  · have hc := (cods h.2 (Or.inr (Or.inr (Or.inl h8)))).2
    have ep : peek s = find s.dcnt s.dsym s.hold s.have_ := by unfold peek; rw [if_neg h6, if_pos h8]
    have ep' : peek (more8 s c) = find s.dcnt s.dsym (s.hold + c * 2 ^ s.have_.toNat) (s.have_ + 8) := by unfold peek; rw [if_neg (show ¬ (more8 s c).part = 6 from h6), if_pos (show (more8 s c).part = 8 from h8)]; rfl
    rw [ep] at hlt
    rw [ep']
    exact key _ _ _ hc hlt
  rw [peek_number h6 h8] at hlt
  rw [peek_number (s := more8 s c) h6 h8]
  exact hlt

def errnoBig (s : Rd) : Int := if s.part = 11 then 2 else if s.part ≠ 10 then 1 else if 0 < s.have_ then 3 else 0

/-- between two bytes, nothing behind the end -/
structure Still (s : Rd) : Prop where
  inv : Inv s
  none : step s = none
  tr : s.trailing = false
  end0 : s.part = 10 → s.have_ = 0

theorem take_still {s : Rd} (h : Still s) (hp : s.part ≤ 9) (c : Int) (c0 : 0 ≤ c) (c1 : c ≤ 255) : Still (drive (more8 s c)) := by
  have hi := more8_inv h.inv c c0 c1
  obtain ⟨i1, i2, _⟩ := drive_inv (mu (more8 s c) + 1) _ (by omega) hi
  obtain ⟨k1, k2, k3⟩ := drive_keep (mu (more8 s c) + 1) _ (by omega) hi (fun e => absurd e (by show ¬ s.part = 10; omega))
  refine ⟨i1, i2, k1.trans h.tr, fun e => ?_⟩
  have h8 := k3 e
  have hn := i1.1.n0
  cases hs : step (more8 s c) with
  | none =>
    rw [drive_none hs] at e
    exact absurd e (by show ¬ s.part = 10; omega)
  | some t =>
    obtain ⟨g1, g2, g3, g4⟩ := step_goes hi hs
    obtain ⟨_, q2, q3⟩ := step_keep hi hs
    have pe := peek_eats h.inv hp h.none c
    have q2' : t.have_ ≤ s.have_ + 8 - (peek (more8 s c)).2 := q2
    rw [drive_some hi hs] at e h8 hn ⊢
    obtain ⟨_, r2, _⟩ := drive_keep (mu t + 1) t (by omega) g1 q3
    omega

theorem feed_big : ∀ (l : List UInt8) (s : Rd), Still s → (feed s l).out = (drive (moreAll s l)).out ∧ errno (feed s l) = errnoBig (drive (moreAll s l))
  | [], s, h => by
    show s.out = (drive s).out ∧ errno s = errnoBig (drive s)
    rw [drive_none h.none]
    refine ⟨rfl, ?_⟩
    unfold errno errnoBig
    split
    · rfl
    split
    · rfl
    · rename_i h1 h2
      have e : s.part = 10 := by
        by_cases e : s.part = 10
        · exact e
        · exact absurd e h2
      have h0 := h.end0 e
      rw [h.tr, if_neg (by decide), if_neg (by omega)]
  | c :: l, s, h => by
    have hk := moreAll_keeps (c :: l) s
    by_cases h11 : s.part = 11
    · rw [feed_stop (Or.inl h11), drive_stop (s := moreAll s (c :: l)) (by rw [hk.1]; exact Or.inr h11), hk.2.1]
      refine ⟨rfl, ?_⟩
      unfold errno errnoBig
      rw [hk.1, if_pos h11, if_pos h11]
    · have hgo : ¬ (s.part = 11 ∨ s.trailing = true) := by rw [h.tr]; intro hh; rcases hh with e | e; exact h11 e; cases e
      rw [feed_go hgo]
      by_cases h10 : s.part = 10
      · have et : take s c.toNat = { s with trailing := true } := by unfold take; rw [if_pos h10]
        rw [et, feed_stop (Or.inr rfl), drive_stop (s := moreAll s (c :: l)) (by rw [hk.1]; exact Or.inl h10), hk.2.1]
        have h0 := h.end0 h10
        have hh := hk.2.2
        rw [List.length_cons] at hh
        have e1 : errno { s with trailing := true } = 3 := by
          unfold errno
          rw [if_neg (show ¬ s.part = 11 from h11), if_neg (show ¬ s.part ≠ 10 from fun e => e h10)]
          rfl
        have e2 : errnoBig (moreAll s (c :: l)) = 3 := by
          unfold errnoBig
          rw [hk.1, if_neg h11, if_neg (fun e => e h10), if_pos (by omega)]
        exact ⟨rfl, by rw [e1, e2]⟩
      · have pr := part_range h.inv.2
        have hb := byte_bounds c
        have et : take s c.toNat = drive (more8 s c.toNat) := by unfold take; rw [if_neg h10]
        rw [et]
        have ih := feed_big l _ (take_still h (by omega) _ hb.1 hb.2)
        have e2 : drive (moreAll s (c :: l)) = drive (moreAll (drive (more8 s c.toNat)) l) := drive_all l (more8 s c.toNat) (more8_inv h.inv _ hb.1 hb.2)
        rw [e2]
        exact ih

theorem init_still : Still initRd := ⟨init_rest.1, by decide, rfl, fun e => absurd e (by decide)⟩

/-- all bytes at once -/
def full (l : List UInt8) : Rd := drive (moreAll initRd l)

theorem feed_full (l : List UInt8) : (feed initRd l).out = (full l).out ∧ errno (feed initRd l) = errnoBig (full l) := feed_big l initRd init_still

end Wr
