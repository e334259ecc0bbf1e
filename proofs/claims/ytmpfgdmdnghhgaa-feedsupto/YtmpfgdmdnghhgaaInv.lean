/- WHAT HOLDS OF THE READER's STATE ALL ALONG. No Go. -/
import Derived.Test.YtmpfgdmdnghhgaaCod
namespace Wr

structure Base (s : Rd) : Prop where
  b0 : 0 ≤ s.hold
  b1 : s.hold < 2 ^ s.have_.toNat
  n0 : 0 ≤ s.have_
  at0 : 0 ≤ s.at_
  at1 : s.at_ < 4096
  r0 : 0 ≤ s.reach
  r1 : s.reach ≤ s.window
  w1 : s.window ≤ 4096
  near : ∀ i, i < 4 → 1 ≤ s.near i ∧ s.near i ≤ 4095
  l0 : 0 ≤ s.left
  l1 : s.left ≤ 4096

theorem Base.of {s t : Rd} (h : Base s) (e1 : t.hold = s.hold) (e2 : t.have_ = s.have_) (e3 : t.at_ = s.at_) (e4 : t.reach = s.reach) (e5 : t.window = s.window) (e6 : t.near = s.near) (e7 : 0 ≤ t.left ∧ t.left ≤ 4096) : Base t :=
  ⟨by rw [e1]; exact h.b0, by rw [e1, e2]; exact h.b1, by rw [e2]; exact h.n0, by rw [e3]; exact h.at0, by rw [e3]; exact h.at1, by rw [e4]; exact h.r0,
   by rw [e4, e5]; exact h.r1, by rw [e5]; exact h.w1, by rw [e6]; exact h.near, e7.1, e7.2⟩

/-- the maker of a code of S symbols -/
structure MOk (s : Rd) (S W : Int) : Prop where
  size : s.msize = S
  width : s.mwidth = W
  at0 : 0 ≤ s.mat
  step : (s.mstep = 0 ∧ s.mat = 0) ∨ (s.mstep = 1 ∧ s.mat = 0) ∨
    (s.mstep = 2 ∧ 1 ≤ s.mwanted ∧ s.mwanted ≤ 4 ∧ s.mat < s.mwanted ∧ ∀ p : Nat, (p : Int) < s.mat → 0 ≤ s.msym p ∧ s.msym p < S) ∨
    (s.mstep = 3 ∧ s.mat < S ∧ ∀ p : Nat, (p : Int) < s.mat → 0 ≤ s.mlen p ∧ s.mlen p ≤ 12) ∨
    (s.mstep = 4 ∧ s.mat < S ∧ (∀ p : Nat, (p : Int) < s.mat → 0 ≤ s.mlen p ∧ s.mlen p ≤ 12) ∧ 13 ≤ s.mrepeat ∧ s.mrepeat ≤ 15 ∧ (s.mrepeat = 13 → 1 ≤ s.mat))

def Part (s : Rd) : Prop :=
  ((s.part = 0 ∧ s.window = 0) ∨ s.part = 1 ∨ s.part = 2 ∨ s.part = 10 ∨ s.part = 11) ∨
  (1 ≤ s.left ∧ (s.part = 3 ∨ (s.part = 4 ∧ MOk s 272 9) ∨ (s.part = 5 ∧ MOk s 16 4 ∧ Cod s.lcnt s.lsym 272) ∨
    (Cod s.lcnt s.lsym 272 ∧ Cod s.dcnt s.dsym 16 ∧ (s.part = 6 ∨ (s.part = 7 ∧ 3 ≤ s.least ∧ s.least ≤ 265 ∧ 0 ≤ s.more ∧ s.more ≤ 8) ∨ (s.part = 8 ∧ 3 ≤ s.length ∧ s.length ≤ 520) ∨
      (s.part = 9 ∧ 3 ≤ s.length ∧ s.length ≤ 520 ∧ 0 ≤ s.more ∧ s.more ≤ 11 ∧ s.least = 2 ^ s.more.toNat)))))

def Inv (s : Rd) : Prop := Base s ∧ Part s

def rank (s : Rd) : Int := if s.part = 6 then 4 else if s.part = 7 then 3 else if s.part = 8 then 2 else if s.part = 9 then 1 else 0
theorem rank_bounds (s : Rd) : 0 ≤ rank s ∧ rank s ≤ 4 := by unfold rank; repeat' split
                                                             all_goals omega

/-- what becomes of a state: where nothing new is begun -/
structure Goes (s t : Rd) : Prop where
  base : Base t
  part : Part t
  less : t.have_ ≤ s.have_
  out : (t.out.length : Int) + t.left ≤ s.out.length + s.left

theorem pow_add2 (a b : Nat) : (2 : Int) ^ (a + b) = 2 ^ a * 2 ^ b := Int.pow_add 2 a b

theorem div_lt (x : Int) (a n : Nat) (hn : n ≤ a) (h0 : 0 ≤ x) (h : x < 2 ^ a) : 0 ≤ x / 2 ^ n ∧ x / 2 ^ n < 2 ^ (a - n) := by
  have hp := pow_pos2 n
  refine ⟨Int.ediv_nonneg h0 (by omega), ?_⟩
  refine Int.ediv_lt_of_lt_mul (by omega) ?_
  rw [← pow_add2, show a - n + n = a by omega]
  exact h

theorem drop_Base {s : Rd} (h : Base s) (n : Int) (h0 : 0 ≤ n) (h1 : n ≤ s.have_) : Base (drop s n) := by
  have hd := div_lt s.hold s.have_.toNat n.toNat (by omega) h.b0 h.b1
  refine ⟨hd.1, ?_, ?_, h.at0, h.at1, h.r0, h.r1, h.w1, h.near, h.l0, h.l1⟩
  · show s.hold / 2 ^ n.toNat < 2 ^ (s.have_ - n).toNat
    rw [show (s.have_ - n).toNat = s.have_.toNat - n.toNat by omega]
    exact hd.2
  · show 0 ≤ s.have_ - n; omega

theorem fill_Base {s : Rd} (h : Base s) : Base (fillTo s) ∧ (fillTo s).have_ ≤ s.have_ ∧ (fillTo s).left = s.left ∧ (fillTo s).out = s.out ∧ (fillTo s).last = s.last := by
  have n0 := h.n0
  unfold fillTo
  split
  · exact ⟨drop_Base h (s.have_ % 8) (by omega) (by omega), by show s.have_ - s.have_ % 8 ≤ s.have_; omega, rfl, rfl, rfl⟩
  · exact ⟨h.of rfl rfl rfl rfl rfl rfl ⟨h.l0, h.l1⟩, Int.le_refl _, rfl, rfl, rfl⟩
theorem fill_fault {s : Rd} (h : fillOk s = false) : (fillTo s).part = 11 := by unfold fillTo; rw [h]; rfl

theorem part_end {s : Rd} (h : (s.part = 0 ∧ s.window = 0) ∨ s.part = 1 ∨ s.part = 2 ∨ s.part = 10 ∨ s.part = 11) : Part s := Or.inl h

theorem endBlock_goes {s : Rd} (h : Base s) : Goes s (endBlock s) ∧ ((endBlock s).part = 1 ∨ (endBlock s).part = 10 ∨ (endBlock s).part = 11) ∧ (endBlock s).left = s.left ∧ (endBlock s).out = s.out := by
  obtain ⟨f1, f2, f3, f4, _⟩ := fill_Base h
  unfold endBlock
  split
  · cases hk : fillOk s
    · have hp := fill_fault hk
      rw [if_neg (by decide)]
      exact ⟨⟨f1, part_end (by omega), f2, by rw [f3, f4]; omega⟩, by omega, f3, f4⟩
    · rw [if_pos rfl]
      exact ⟨⟨f1.of rfl rfl rfl rfl rfl rfl ⟨f1.l0, f1.l1⟩, part_end (Or.inr (Or.inr (Or.inr (Or.inl rfl)))), f2, by show ((fillTo s).out.length : Int) + (fillTo s).left ≤ _; rw [f3, f4]; omega⟩, Or.inr (Or.inl rfl), f3, f4⟩
  · exact ⟨⟨h.of rfl rfl rfl rfl rfl rfl ⟨h.l0, h.l1⟩, part_end (Or.inr (Or.inl rfl)), Int.le_refl _, Int.le_refl _⟩, Or.inl rfl, rfl, rfl⟩

theorem rank_zero {s : Rd} (h : s.part = 1 ∨ s.part = 10 ∨ s.part = 11) : rank s = 0 := by
  unfold rank
  rw [if_neg (by omega), if_neg (by omega), if_neg (by omega), if_neg (by omega)]

theorem endCommand_goes {s : Rd} (h : Base s) (hl : Cod s.lcnt s.lsym 272) (hd : Cod s.dcnt s.dsym 16) :
    Goes s (endCommand s) ∧ 8 * (endCommand s).left + rank (endCommand s) ≤ 8 * s.left + 4 := by
  unfold endCommand
  by_cases h0 : s.left = 0
  · rw [if_pos h0]
    have hb : Base { s with part := 6 } := h.of rfl rfl rfl rfl rfl rfl ⟨h.l0, h.l1⟩
    obtain ⟨g, p, l, _⟩ := endBlock_goes hb
    refine ⟨⟨g.base, g.part, g.less, g.out⟩, ?_⟩
    rw [rank_zero p, l]
    show 8 * s.left + 0 ≤ _
    omega
  · rw [if_neg h0]
    have := h.l0
    refine ⟨⟨h.of rfl rfl rfl rfl rfl rfl ⟨h.l0, h.l1⟩, Or.inr ⟨by show 1 ≤ s.left; omega, Or.inr (Or.inr (Or.inr ⟨hl, hd, Or.inl rfl⟩))⟩, Int.le_refl _, Int.le_refl _⟩, ?_⟩
    show 8 * s.left + rank _ ≤ _
    have := rank_bounds { s with part := 6 }
    omega

theorem put_Base {s : Rd} (h : Base s) (c : Int) (hl : 1 ≤ s.left) : Base (put s c) := by
  have := h.at0; have := h.r0; have := h.r1; have := h.l1
  refine ⟨h.b0, h.b1, h.n0, ?_, ?_, ?_, ?_, h.w1, h.near, ?_, ?_⟩
  · show 0 ≤ (s.at_ + 1) % 4096; omega
  · show (s.at_ + 1) % 4096 < 4096; omega
  · show 0 ≤ if s.reach < s.window then s.reach + 1 else s.reach; split <;> omega
  · show (if s.reach < s.window then s.reach + 1 else s.reach) ≤ s.window; split <;> omega
  · show 0 ≤ s.left - 1; omega
  · show s.left - 1 ≤ 4096; omega
theorem put_out (s : Rd) (c : Int) : ((put s c).out.length : Int) + (put s c).left = s.out.length + s.left := by
  show (((s.out ++ [c]).length : Nat) : Int) + (s.left - 1) = _
  rw [List.length_append]
  simp only [List.length_singleton]
  omega

theorem copy_goes (d : Int) : ∀ (n : Nat) (s : Rd), Base s → (n : Int) ≤ s.left →
    Base (copyGo n s d) ∧ (copyGo n s d).left = s.left - n ∧ ((copyGo n s d).out.length : Int) + (copyGo n s d).left = s.out.length + s.left ∧
    (copyGo n s d).have_ = s.have_ ∧ (copyGo n s d).lcnt = s.lcnt ∧ (copyGo n s d).lsym = s.lsym ∧ (copyGo n s d).dcnt = s.dcnt ∧ (copyGo n s d).dsym = s.dsym
  | 0, s, h, _ => ⟨h, by show s.left = _; omega, rfl, rfl, rfl, rfl, rfl, rfl⟩
  | n + 1, s, h, hn => by
    have ih := copy_goes d n (put s (agoP s d)) (put_Base h _ (by omega)) (by show (n : Int) ≤ s.left - 1; omega)
    obtain ⟨i1, i2, i3, i4, i5, i6, i7, i8⟩ := ih
    refine ⟨i1, ?_, ?_, i4, i5, i6, i7, i8⟩
    · show (copyGo n (put s (agoP s d)) d).left = _
      rw [i2]; show s.left - 1 - n = _; omega
    · show ((copyGo n (put s (agoP s d)) d).out.length : Int) + (copyGo n (put s (agoP s d)) d).left = _
      rw [i3, put_out]

theorem useCopy_goes {s : Rd} (d : Int) (h : Base s) (hl : Cod s.lcnt s.lsym 272) (hd : Cod s.dcnt s.dsym 16) (h3 : 3 ≤ s.length) :
    Goes s (useCopy s d) ∧ 8 * (useCopy s d).left + rank (useCopy s d) ≤ 8 * s.left := by
  unfold useCopy
  split
  · refine ⟨⟨h.of rfl rfl rfl rfl rfl rfl ⟨h.l0, h.l1⟩, part_end (by right; right; right; right; rfl), Int.le_refl _, Int.le_refl _⟩, ?_⟩
    have : rank (fault s) = 0 := rank_zero (Or.inr (Or.inr rfl))
    rw [this]
    show 8 * s.left + 0 ≤ _
    omega
  · rename_i hn
    obtain ⟨c1, c2, c3, c4, c5, c6, c7, c8⟩ := copy_goes d s.length.toNat s h (by omega)
    obtain ⟨g, r⟩ := endCommand_goes c1 (by rw [c5, c6]; exact hl) (by rw [c7, c8]; exact hd)
    refine ⟨⟨g.base, g.part, by have := g.less; omega, by have := g.out; omega⟩, ?_⟩
    omega

/- the numbers -/
theorem useWindow_goes {s : Rd} (x : Int) (h : Base s) (hx : 0 ≤ x) (hw : s.window = 0) : Goes s (useWindow s x) := by
  unfold useWindow
  split
  · exact ⟨h.of rfl rfl rfl rfl rfl rfl ⟨h.l0, h.l1⟩, part_end (by right; right; right; right; rfl), Int.le_refl _, Int.le_refl _⟩
  · rename_i h8
    have h1 : (2 : Int) ^ x.toNat ≤ 256 := by
      have : x.toNat = 0 ∨ x.toNat = 1 ∨ x.toNat = 2 ∨ x.toNat = 3 ∨ x.toNat = 4 ∨ x.toNat = 5 ∨ x.toNat = 6 ∨ x.toNat = 7 ∨ x.toNat = 8 := by omega
      rcases this with e | e | e | e | e | e | e | e | e <;> rw [e] <;> decide
    have h2 := pow_pos2 x.toNat
    have := h.r1
    refine ⟨⟨h.b0, h.b1, h.n0, h.at0, h.at1, h.r0, ?_, ?_, h.near, h.l0, h.l1⟩, part_end (by right; left; rfl), Int.le_refl _, Int.le_refl _⟩
    · show s.reach ≤ 16 * 2 ^ x.toNat; omega
    · show 16 * 2 ^ x.toNat ≤ 4096; omega

theorem useBlock_goes {s : Rd} (x : Int) (h : Base s) : Goes s (useBlock s x) := by
  have hb : Base { s with last := x % 2 == 1, kind := x / 2 } := h.of rfl rfl rfl rfl rfl rfl ⟨h.l0, h.l1⟩
  obtain ⟨f1, f2, f3, f4, _⟩ := fill_Base hb
  unfold useBlock
  dsimp only
  split
  · cases hk : fillOk { s with last := x % 2 == 1, kind := x / 2 }
    · rw [if_neg (by decide)]
      have hp := fill_fault hk
      exact ⟨f1, part_end (by omega), f2, by rw [f3, f4]; exact Int.le_refl _⟩
    · rw [if_pos rfl]
      obtain ⟨g, _, _, _⟩ := endBlock_goes f1
      exact ⟨g.base, g.part, Int.le_trans g.less f2, Int.le_trans g.out (by rw [f3, f4]; exact Int.le_refl _)⟩
  · exact ⟨h.of rfl rfl rfl rfl rfl rfl ⟨h.l0, h.l1⟩, part_end (by right; right; left; rfl), Int.le_refl _, Int.le_refl _⟩

/-- a size: something new is begun -/
theorem useSize_goes {s : Rd} (x : Int) (h : Base s) (h0 : 0 ≤ x) (h1 : x ≤ 4095) :
    Base (useSize s x) ∧ Part (useSize s x) ∧ (useSize s x).have_ ≤ s.have_ ∧ (useSize s x).out = s.out := by
  unfold useSize
  by_cases hk : s.kind = 2
  · rw [if_pos hk]
    refine ⟨h.of rfl rfl rfl rfl rfl rfl ⟨by show 0 ≤ x + 1; omega, by show x + 1 ≤ 4096; omega⟩, Or.inr ⟨by show 1 ≤ x + 1; omega, Or.inr (Or.inl ⟨rfl, ?_⟩)⟩, Int.le_refl _, rfl⟩
    exact ⟨rfl, rfl, Int.le_refl _, Or.inl ⟨rfl, rfl⟩⟩
  · rw [if_neg hk]
    have key : ∀ t : Rd, Base t → t.have_ = s.have_ → t.out = s.out → (Base (if fillOk t then (if ({ fillTo t with part := 3 } : Rd).left = 0 then endBlock { fillTo t with part := 3 } else { fillTo t with part := 3 }) else fillTo t) ∧
        Part (if fillOk t then (if ({ fillTo t with part := 3 } : Rd).left = 0 then endBlock { fillTo t with part := 3 } else { fillTo t with part := 3 }) else fillTo t) ∧
        (if fillOk t then (if ({ fillTo t with part := 3 } : Rd).left = 0 then endBlock { fillTo t with part := 3 } else { fillTo t with part := 3 }) else fillTo t).have_ ≤ s.have_ ∧
        (if fillOk t then (if ({ fillTo t with part := 3 } : Rd).left = 0 then endBlock { fillTo t with part := 3 } else { fillTo t with part := 3 }) else fillTo t).out = s.out) := by
      intro t ht e1 e2
      obtain ⟨f1, f2, f3, f4, _⟩ := fill_Base ht
      have hb : Base { fillTo t with part := 3 } := f1.of rfl rfl rfl rfl rfl rfl ⟨f1.l0, f1.l1⟩
      cases hok : fillOk t
      · simp only [if_neg (by decide : ¬ (false = true))]
        have hp := fill_fault hok
        exact ⟨f1, part_end (by omega), by omega, by rw [f4, e2]⟩
      · simp only [if_true]
        by_cases hl : (fillTo t).left = 0
        · rw [if_pos hl]
          obtain ⟨g, _, _, o⟩ := endBlock_goes hb
          exact ⟨g.base, g.part, by have := g.less; exact Int.le_trans this (by show (fillTo t).have_ ≤ _; omega), by rw [o]; show (fillTo t).out = _; rw [f4, e2]⟩
        · rw [if_neg hl]
          have := f1.l0
          exact ⟨hb, Or.inr ⟨by show 1 ≤ (fillTo t).left; omega, Or.inl rfl⟩, by show (fillTo t).have_ ≤ _; omega, by show (fillTo t).out = _; rw [f4, e2]⟩
    refine key { s with left := if s.kind = 1 then x + 1 else x } (h.of rfl rfl rfl rfl rfl rfl ?_) rfl rfl
    show 0 ≤ (if s.kind = 1 then x + 1 else x) ∧ (if s.kind = 1 then x + 1 else x) ≤ 4096
    split <;> omega

theorem useByte_goes {s : Rd} (x : Int) (h : Base s) (hl : 1 ≤ s.left) (hp : s.part = 3) : Goes s (useByte s x) := by
  have key : ∀ t : Rd, Base t → t.have_ ≤ s.have_ → t.part = 3 → (t.out.length : Int) + t.left ≤ s.out.length + s.left → Goes s (if t.left = 0 then endBlock t else t) := by
    intro t ht e1 e2 e3
    split
    · obtain ⟨g, _, _, _⟩ := endBlock_goes ht
      exact ⟨g.base, g.part, Int.le_trans g.less e1, Int.le_trans g.out e3⟩
    · have := ht.l0
      exact ⟨ht, Or.inr ⟨by omega, Or.inl e2⟩, e1, e3⟩
  unfold useByte
  dsimp only
  have l1 := h.l1
  by_cases hk : s.kind = 1
  · rw [if_pos hk]
    exact key _ (put_Base h x hl) (Int.le_refl _) hp (by rw [put_out]; exact Int.le_refl _)
  · rw [if_neg hk]
    exact key { s with left := s.left - 1 } (h.of rfl rfl rfl rfl rfl rfl ⟨by show 0 ≤ s.left - 1; omega, by show s.left - 1 ≤ 4096; omega⟩) (Int.le_refl _) hp (by show (s.out.length : Int) + (s.left - 1) ≤ _; omega)

end Wr
