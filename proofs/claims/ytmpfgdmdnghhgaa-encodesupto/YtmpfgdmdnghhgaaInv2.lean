import Derived.Test.YtmpfgdmdnghhgaaC1
/- WHAT HOLDS OF THE READER's STATE ALL ALONG. No Go. -/
namespace Wr

structure Base (s : Rd) : Prop where
  b0 : 0 ≤ s.hold
  b1 : s.hold < 2 ^ s.have_.toNat
  n0 : 0 ≤ s.have_
  at0 : 0 ≤ s.at_
  at1 : s.at_ < 4096
  r0 : 0 ≤ s.reach
  r1 : s.reach ≤ s.window
  w1 : s.window ≤ 4096
  near : ∀ i, i < 4 → 1 ≤ s.near i ∧ s.near i ≤ 4095
  l0 : 0 ≤ s.left
  l1 : s.left ≤ 4096

theorem Base.of {s t : Rd} (h : Base s) (e1 : t.hold = s.hold) (e2 : t.have_ = s.have_) (e3 : t.at_ = s.at_) (e4 : t.reach = s.reach) (e5 : t.window = s.window) (e6 : t.near = s.near) (e7 : 0 ≤ t.left ∧ t.left ≤ 4096) : Base t :=
  ⟨by rw [e1]; exact h.b0, by rw [e1, e2]; exact h.b1, by rw [e2]; exact h.n0, by rw [e3]; exact h.at0, by rw [e3]; exact h.at1, by rw [e4]; exact h.r0,
   by rw [e4, e5]; exact h.r1, by rw [e5]; exact h.w1, by rw [e6]; exact h.near, e7.1, e7.2⟩

/-- the maker of a code of S symbols -/
structure MOk (s : Rd) (S W : Int) : Prop where
  size : s.msize = S
  width : s.mwidth = W
  at0 : 0 ≤ s.mat
  step : (s.mstep = 0 ∧ s.mat = 0) ∨ (s.mstep = 1 ∧ s.mat = 0) ∨
    (s.mstep = 2 ∧ 1 ≤ s.mwanted ∧ s.mwanted ≤ 4 ∧ s.mat < s.mwanted ∧ ∀ p : Nat, (p : Int) < s.mat → 0 ≤ s.msym p ∧ s.msym p < S) ∨
    (s.mstep = 3 ∧ s.mat < S ∧ ∀ p : Nat, (p : Int) < s.mat → 0 ≤ s.mlen p ∧ s.mlen p ≤ 12) ∨
    (s.mstep = 4 ∧ s.mat < S ∧ (∀ p : Nat, (p : Int) < s.mat → 0 ≤ s.mlen p ∧ s.mlen p ≤ 12) ∧ 13 ≤ s.mrepeat ∧ s.mrepeat ≤ 15 ∧ (s.mrepeat = 13 → 1 ≤ s.mat))

def Part (s : Rd) : Prop :=
  ((s.part = 0 ∧ s.window = 0) ∨ s.part = 1 ∨ s.part = 2 ∨ s.part = 10 ∨ s.part = 11) ∨
  (1 ≤ s.left ∧ (s.part = 3 ∨ (s.part = 4 ∧ MOk s 272 9) ∨ (s.part = 5 ∧ MOk s 16 4 ∧ Cod s.lcnt s.lsym 272) ∨
    (Cod s.lcnt s.lsym 272 ∧ Cod s.dcnt s.dsym 16 ∧ (s.part = 6 ∨ (s.part = 7 ∧ 3 ≤ s.least ∧ s.least ≤ 265 ∧ 0 ≤ s.more ∧ s.more ≤ 8) ∨ (s.part = 8 ∧ 3 ≤ s.length ∧ s.length ≤ 520) ∨
      (s.part = 9 ∧ 3 ≤ s.length ∧ s.length ≤ 520 ∧ 0 ≤ s.more ∧ s.more ≤ 11 ∧ s.least = 2 ^ s.more.toNat)))))

def Inv (s : Rd) : Prop := Base s ∧ Part s

def rank (s : Rd) : Int := if s.part = 6 then 4 else if s.part = 7 then 3 else if s.part = 8 then 2 else if s.part = 9 then 1 else 0
theorem rank_bounds (s : Rd) : 0 ≤ rank s ∧ rank s ≤ 4 := by unfold rank; repeat' split
                                                             all_goals omega

/-- what becomes of a state: where nothing new is begun -/
structure Goes (s t : Rd) : Prop where
  base : Base t
  part : Part t
  less : t.have_ ≤ s.have_
  out : (t.out.length : Int) + t.left ≤ s.out.length + s.left

theorem pow_add2 (a b : Nat) : (2 : Int) ^ (a + b) = 2 ^ a * 2 ^ b := Int.pow_add 2 a b

theorem div_lt (x : Int) (a n : Nat) (hn : n ≤ a) (h0 : 0 ≤ x) (h : x < 2 ^ a) : 0 ≤ x / 2 ^ n ∧ x / 2 ^ n < 2 ^ (a - n) := by
  have hp := pow_pos2 n
  refine ⟨Int.ediv_nonneg h0 (by omega), ?_⟩
  refine Int.ediv_lt_of_lt_mul (by omega) ?_
  rw [← pow_add2, show a - n + n = a by omega]
  exact h

theorem drop_Base {s : Rd} (h : Base s) (n : Int) (h0 : 0 ≤ n) (h1 : n ≤ s.have_) : Base (drop s n) := by
  have hd := div_lt s.hold s.have_.toNat n.toNat (by omega) h.b0 h.b1
  refine ⟨hd.1, ?_, ?_, h.at0, h.at1, h.r0, h.r1, h.w1, h.near, h.l0, h.l1⟩
  · show s.hold / 2 ^ n.toNat < 2 ^ (s.have_ - n).toNat
    rw [show (s.have_ - n).toNat = s.have_.toNat - n.toNat by omega]
    exact hd.2
  · show 0 ≤ s.have_ - n; omega

theorem fill_Base {s : Rd} (h : Base s) : Base (fillTo s) ∧ (fillTo s).have_ ≤ s.have_ ∧ (fillTo s).left = s.left ∧ (fillTo s).out = s.out ∧ (fillTo s).last = s.last := by
  have n0 := h.n0
  unfold fillTo
  split
  · exact ⟨drop_Base h (s.have_ % 8) (by omega) (by omega), by show s.have_ - s.have_ % 8 ≤ s.have_; omega, rfl, rfl, rfl⟩
  · exact ⟨h.of rfl rfl rfl rfl rfl rfl ⟨h.l0, h.l1⟩, Int.le_refl _, rfl, rfl, rfl⟩
theorem fill_fault {s : Rd} (h : fillOk s = false) : (fillTo s).part = 11 := by unfold fillTo; rw [h]; rfl

theorem part_end {s : Rd} (h : (s.part = 0 ∧ s.window = 0) ∨ s.part = 1 ∨ s.part = 2 ∨ s.part = 10 ∨ s.part = 11) : Part s := Or.inl h

theorem endBlock_goes {s : Rd} (h : Base s) : Goes s (endBlock s) ∧ ((endBlock s).part = 1 ∨ (endBlock s).part = 10 ∨ (endBlock s).part = 11) ∧ (endBlock s).left = s.left ∧ (endBlock s).out = s.out := by
  obtain ⟨f1, f2, f3, f4, _⟩ := fill_Base h
  unfold endBlock
  split
  · cases hk : fillOk s
    · have hp := fill_fault hk
      rw [if_neg (by decide)]
      exact ⟨⟨f1, part_end (by omega), f2, by rw [f3, f4]; omega⟩, by omega, f3, f4⟩
    · rw [if_pos rfl]
      exact ⟨⟨f1.of rfl rfl rfl rfl rfl rfl ⟨f1.l0, f1.l1⟩, part_end (Or.inr (Or.inr (Or.inr (Or.inl rfl)))), f2, by show ((fillTo s).out.length : Int) + (fillTo s).left ≤ _; rw [f3, f4]; omega⟩, Or.inr (Or.inl rfl), f3, f4⟩
  · exact ⟨⟨h.of rfl rfl rfl rfl rfl rfl ⟨h.l0, h.l1⟩, part_end (Or.inr (Or.inl rfl)), Int.le_refl _, Int.le_refl _⟩, Or.inl rfl, rfl, rfl⟩

theorem rank_zero {s : Rd} (h : s.part = 1 ∨ s.part = 10 ∨ s.part = 11) : rank s = 0 := by
  unfold rank
  rw [if_neg (by omega), if_neg (by omega), if_neg (by omega), if_neg (by omega)]

theorem endCommand_goes {s : Rd} (h : Base s) (hl : Cod s.lcnt s.lsym 272) (hd : Cod s.dcnt s.dsym 16) :
    Goes s (endCommand s) ∧ 8 * (endCommand s).left + rank (endCommand s) ≤ 8 * s.left + 4 := by
  unfold endCommand
  by_cases h0 : s.left = 0
  · rw [if_pos h0]
    have hb : Base { s with part := 6 } := h.of rfl rfl rfl rfl rfl rfl ⟨h.l0, h.l1⟩
    obtain ⟨g, p, l, _⟩ := endBlock_goes hb
    refine ⟨⟨g.base, g.part, g.less, g.out⟩, ?_⟩
    rw [rank_zero p, l]
    show 8 * s.left + 0 ≤ _
    omega
  · rw [if_neg h0]
    have := h.l0
    refine ⟨⟨h.of rfl rfl rfl rfl rfl rfl ⟨h.l0, h.l1⟩, Or.inr ⟨by show 1 ≤ s.left; omega, Or.inr (Or.inr (Or.inr ⟨hl, hd, Or.inl rfl⟩))⟩, Int.le_refl _, Int.le_refl _⟩, ?_⟩
    show 8 * s.left + rank _ ≤ _
    have := rank_bounds { s with part := 6 }
    omega

theorem put_Base {s : Rd} (h : Base s) (c : Int) (hl : 1 ≤ s.left) : Base (put s c) := by
  have := h.at0; have := h.r0; have := h.r1; have := h.l1
  refine ⟨h.b0, h.b1, h.n0, ?_, ?_, ?_, ?_, h.w1, h.near, ?_, ?_⟩
  · show 0 ≤ (s.at_ + 1) % 4096; omega
  · show (s.at_ + 1) % 4096 < 4096; omega
  · show 0 ≤ if s.reach < s.window then s.reach + 1 else s.reach; split <;> omega
  · show (if s.reach < s.window then s.reach + 1 else s.reach) ≤ s.window; split <;> omega
  · show 0 ≤ s.left - 1; omega
  · show s.left - 1 ≤ 4096; omega
theorem put_out (s : Rd) (c : Int) : ((put s c).out.length : Int) + (put s c).left = s.out.length + s.left := by
  show (((s.out ++ [c]).length : Nat) : Int) + (s.left - 1) = _
  rw [List.length_append]
  simp only [List.length_singleton]
  omega

theorem copy_goes (d : Int) : ∀ (n : Nat) (s : Rd), Base s → (n : Int) ≤ s.left →
    Base (copyGo n s d) ∧ (copyGo n s d).left = s.left - n ∧ ((copyGo n s d).out.length : Int) + (copyGo n s d).left = s.out.length + s.left ∧
    (copyGo n s d).have_ = s.have_ ∧ (copyGo n s d).lcnt = s.lcnt ∧ (copyGo n s d).lsym = s.lsym ∧ (copyGo n s d).dcnt = s.dcnt ∧ (copyGo n s d).dsym = s.dsym
  | 0, s, h, _ => ⟨h, by show s.left = _; omega, rfl, rfl, rfl, rfl, rfl, rfl⟩
  | n + 1, s, h, hn => by
    have ih := copy_goes d n (put s (agoP s d)) (put_Base h _ (by omega)) (by show (n : Int) ≤ s.left - 1; omega)
    obtain ⟨i1, i2, i3, i4, i5, i6, i7, i8⟩ := ih
    refine ⟨i1, ?_, ?_, i4, i5, i6, i7, i8⟩
    · show (copyGo n (put s (agoP s d)) d).left = _
      rw [i2]; show s.left - 1 - n = _; omega
    · show ((copyGo n (put s (agoP s d)) d).out.length : Int) + (copyGo n (put s (agoP s d)) d).left = _
      rw [i3, put_out]

theorem useCopy_goes {s : Rd} (d : Int) (h : Base s) (hl : Cod s.lcnt s.lsym 272) (hd : Cod s.dcnt s.dsym 16) (h3 : 3 ≤ s.length) :
    Goes s (useCopy s d) ∧ 8 * (useCopy s d).left + rank (useCopy s d) ≤ 8 * s.left := by
  unfold useCopy
  split
  · refine ⟨⟨h.of rfl rfl rfl rfl rfl rfl ⟨h.l0, h.l1⟩, part_end (by right; right; right; right; rfl), Int.le_refl _, Int.le_refl _⟩, ?_⟩
    have : rank (fault s) = 0 := rank_zero (Or.inr (Or.inr rfl))
    rw [this]
    show 8 * s.left + 0 ≤ _
    omega
  · rename_i hn
    obtain ⟨c1, c2, c3, c4, c5, c6, c7, c8⟩ := copy_goes d s.length.toNat s h (by omega)
    obtain ⟨g, r⟩ := endCommand_goes c1 (by rw [c5, c6]; exact hl) (by rw [c7, c8]; exact hd)
    refine ⟨⟨g.base, g.part, by have := g.less; omega, by have := g.out; omega⟩, ?_⟩
    omega

/- the numbers -/
theorem useWindow_goes {s : Rd} (x : Int) (h : Base s) (hx : 0 ≤ x) (hw : s.window = 0) : Goes s (useWindow s x) := by
  unfold useWindow
  split
  · exact ⟨h.of rfl rfl rfl rfl rfl rfl ⟨h.l0, h.l1⟩, part_end (by right; right; right; right; rfl), Int.le_refl _, Int.le_refl _⟩
  · rename_i h8
    have h1 : (2 : Int) ^ x.toNat ≤ 256 := by
      have : x.toNat = 0 ∨ x.toNat = 1 ∨ x.toNat = 2 ∨ x.toNat = 3 ∨ x.toNat = 4 ∨ x.toNat = 5 ∨ x.toNat = 6 ∨ x.toNat = 7 ∨ x.toNat = 8 := by omega
      rcases this with e | e | e | e | e | e | e | e | e <;> rw [e] <;> decide
    have h2 := pow_pos2 x.toNat
    have := h.r1
    refine ⟨⟨h.b0, h.b1, h.n0, h.at0, h.at1, h.r0, ?_, ?_, h.near, h.l0, h.l1⟩, part_end (by right; left; rfl), Int.le_refl _, Int.le_refl _⟩
    · show s.reach ≤ 16 * 2 ^ x.toNat; omega
    · show 16 * 2 ^ x.toNat ≤ 4096; omega

theorem useBlock_goes {s : Rd} (x : Int) (h : Base s) : Goes s (useBlock s x) := by
  have hb : Base { s with last := x % 2 == 1, kind := x / 2 } := h.of rfl rfl rfl rfl rfl rfl ⟨h.l0, h.l1⟩
  obtain ⟨f1, f2, f3, f4, _⟩ := fill_Base hb
  unfold useBlock
  dsimp only
  split
  · cases hk : fillOk { s with last := x % 2 == 1, kind := x / 2 }
    · rw [if_neg (by decide)]
      have hp := fill_fault hk
      exact ⟨f1, part_end (by omega), f2, by rw [f3, f4]; exact Int.le_refl _⟩
    · rw [if_pos rfl]
      obtain ⟨g, _, _, _⟩ := endBlock_goes f1
      exact ⟨g.base, g.part, Int.le_trans g.less f2, Int.le_trans g.out (by rw [f3, f4]; exact Int.le_refl _)⟩
  · exact ⟨h.of rfl rfl rfl rfl rfl rfl ⟨h.l0, h.l1⟩, part_end (by right; right; left; rfl), Int.le_refl _, Int.le_refl _⟩

/-- a size: something new is begun -/
theorem useSize_goes {s : Rd} (x : Int) (h : Base s) (h0 : 0 ≤ x) (h1 : x ≤ 4095) :
    Base (useSize s x) ∧ Part (useSize s x) ∧ (useSize s x).have_ ≤ s.have_ ∧ (useSize s x).out = s.out := by
  unfold useSize
  by_cases hk : s.kind = 2
  · rw [if_pos hk]
    refine ⟨h.of rfl rfl rfl rfl rfl rfl ⟨by show 0 ≤ x + 1; omega, by show x + 1 ≤ 4096; omega⟩, Or.inr ⟨by show 1 ≤ x + 1; omega, Or.inr (Or.inl ⟨rfl, ?_⟩)⟩, Int.le_refl _, rfl⟩
    exact ⟨rfl, rfl, Int.le_refl _, Or.inl ⟨rfl, rfl⟩⟩
  · rw [if_neg hk]
    have key : ∀ t : Rd, Base t → t.have_ = s.have_ → t.out = s.out → (Base (if fillOk t then (if ({ fillTo t with part := 3 } : Rd).left = 0 then endBlock { fillTo t with part := 3 } else { fillTo t with part := 3 }) else fillTo t) ∧
        Part (if fillOk t then (if ({ fillTo t with part := 3 } : Rd).left = 0 then endBlock { fillTo t with part := 3 } else { fillTo t with part := 3 }) else fillTo t) ∧
        (if fillOk t then (if ({ fillTo t with part := 3 } : Rd).left = 0 then endBlock { fillTo t with part := 3 } else { fillTo t with part := 3 }) else fillTo t).have_ ≤ s.have_ ∧
        (if fillOk t then (if ({ fillTo t with part := 3 } : Rd).left = 0 then endBlock { fillTo t with part := 3 } else { fillTo t with part := 3 }) else fillTo t).out = s.out) := by
      intro t ht e1 e2
      obtain ⟨f1, f2, f3, f4, _⟩ := fill_Base ht
      have hb : Base { fillTo t with part := 3 } := f1.of rfl rfl rfl rfl rfl rfl ⟨f1.l0, f1.l1⟩
      cases hok : fillOk t
      · simp only [if_neg (by decide : ¬ (false = true))]
        have hp := fill_fault hok
        exact ⟨f1, part_end (by omega), by omega, by rw [f4, e2]⟩
      · simp only [if_true]
        by_cases hl : (fillTo t).left = 0
        · rw [if_pos hl]
          obtain ⟨g, _, _, o⟩ := endBlock_goes hb
          exact ⟨g.base, g.part, by have := g.less; exact Int.le_trans this (by show (fillTo t).have_ ≤ _; omega), by rw [o]; show (fillTo t).out = _; rw [f4, e2]⟩
        · rw [if_neg hl]
          have := f1.l0
          exact ⟨hb, Or.inr ⟨by show 1 ≤ (fillTo t).left; omega, Or.inl rfl⟩, by show (fillTo t).have_ ≤ _; omega, by show (fillTo t).out = _; rw [f4, e2]⟩
    refine key { s with left := if s.kind = 1 then x + 1 else x } (h.of rfl rfl rfl rfl rfl rfl ?_) rfl rfl
    show 0 ≤ (if s.kind = 1 then x + 1 else x) ∧ (if s.kind = 1 then x + 1 else x) ≤ 4096
    split <;> omega

theorem useByte_goes {s : Rd} (x : Int) (h : Base s) (hl : 1 ≤ s.left) (hp : s.part = 3) : Goes s (useByte s x) := by
  have key : ∀ t : Rd, Base t → t.have_ ≤ s.have_ → t.part = 3 → (t.out.length : Int) + t.left ≤ s.out.length + s.left → Goes s (if t.left = 0 then endBlock t else t) := by
    intro t ht e1 e2 e3
    split
    · obtain ⟨g, _, _, _⟩ := endBlock_goes ht
      exact ⟨g.base, g.part, Int.le_trans g.less e1, Int.le_trans g.out e3⟩
    · have := ht.l0
      exact ⟨ht, Or.inr ⟨by omega, Or.inl e2⟩, e1, e3⟩
  unfold useByte
  dsimp only
  have l1 := h.l1
  by_cases hk : s.kind = 1
  · rw [if_pos hk]
    exact key _ (put_Base h x hl) (Int.le_refl _) hp (by rw [put_out]; exact Int.le_refl _)
  · rw [if_neg hk]
    exact key { s with left := s.left - 1 } (h.of rfl rfl rfl rfl rfl rfl ⟨by show 0 ≤ s.left - 1; omega, by show s.left - 1 ≤ 4096; omega⟩) (Int.le_refl _) hp (by show (s.out.length : Int) + (s.left - 1) ≤ _; omega)

end Wr

namespace Wr

def Same (s t : Rd) : Prop := t = { s with msize := t.msize, mwidth := t.mwidth, mstep := t.mstep, mwanted := t.mwanted, mat := t.mat, mrepeat := t.mrepeat, mlen := t.mlen, mcnt := t.mcnt, msym := t.msym }

theorem lay_same (s : Rd) (x n : Int) : Same s (lay s x n).1 := by
  unfold lay
  split
  · rfl
  · dsimp only
    split
    · rfl
    · split <;> rfl
theorem same_of {s t u : Rd} (h : Same s t) (k : Same t u) : Same s u := by
  unfold Same at *
  rw [k, h]
theorem give_same (s : Rd) (x : Int) : Same s (give s x).1 := by
  unfold give
  split
  · rfl
  split
  · rfl
  split
  · unfold nameP
    split
    · rfl
    split
    · rfl
    · dsimp only; split <;> rfl
  split
  · unfold lengthP
    split
    · exact lay_same _ _ _
    split <;> rfl
  · unfold times
    dsimp only
    have e : Same s { s with mstep := 3 } := rfl
    split
    · exact same_of e (lay_same _ _ _)
    split
    · exact same_of e (lay_same _ _ _)
    · exact same_of e (lay_same _ _ _)

theorem said_lay (s : Rd) (x n : Int) : (lay s x n).2 = 0 ∨ (lay s x n).2 = 1 ∨ (lay s x n).2 = 2 := by
  unfold lay
  split
  · exact Or.inr (Or.inr rfl)
  · dsimp only
    split
    · exact Or.inl rfl
    · split
      · exact Or.inr (Or.inl rfl)
      · exact Or.inr (Or.inr rfl)
theorem said_give (s : Rd) (x : Int) : (give s x).2 = 0 ∨ (give s x).2 = 1 ∨ (give s x).2 = 2 := by
  unfold give
  split
  · exact Or.inl rfl
  split
  · exact Or.inl rfl
  split
  · unfold nameP
    split
    · exact Or.inr (Or.inr rfl)
    split
    · exact Or.inr (Or.inr rfl)
    · dsimp only
      split
      · exact Or.inl rfl
      · exact Or.inr (Or.inl rfl)
  split
  · unfold lengthP
    split
    · exact said_lay _ _ _
    split
    · exact Or.inr (Or.inr rfl)
    · exact Or.inl rfl
  · unfold times
    dsimp only
    split
    · exact said_lay _ _ _
    split
    · exact said_lay _ _ _
    · exact said_lay _ _ _


theorem lay_goes {s : Rd} {S W : Int} (x n : Int) (h1 : s.msize = S) (h2 : s.mwidth = W) (h3 : 0 ≤ s.mat) (h4 : s.mat < S) (h5 : S ≤ 272) (h6 : ∀ p : Nat, (p : Int) < s.mat → 0 ≤ s.mlen p ∧ s.mlen p ≤ 12) (h7 : s.mstep = 3)
    (x0 : 0 ≤ x) (x1 : x ≤ 12) (n1 : 1 ≤ n) :
    ((lay s x n).2 = 0 → MOk (lay s x n).1 S W) ∧ ((lay s x n).2 = 1 → Cod (lay s x n).1.mcnt (lay s x n).1.msym S) := by
  unfold lay
  by_cases hb : s.msize < s.mat + n ∨ 272 < s.mat + n
  · rw [if_pos hb]
    exact ⟨fun h => absurd h (by show ¬ ((2 : Int) = 0); decide), fun h => absurd h (by show ¬ ((2 : Int) = 1); decide)⟩
  · rw [if_neg hb]
    dsimp only
    by_cases hf : s.mat + n < s.msize
    · rw [if_pos hf]
      refine ⟨fun _ => ⟨h1, h2, by show 0 ≤ s.mat + n; omega, Or.inr (Or.inr (Or.inr (Or.inl ⟨h7, by show s.mat + n < S; omega, ?_⟩)))⟩, fun h => absurd h (by show ¬ ((0 : Int) = 1); decide)⟩
      intro p hp
      show 0 ≤ fillLen s.mlen s.mat.toNat x n.toNat p ∧ fillLen s.mlen s.mat.toNat x n.toNat p ≤ 12
      have hp' : (p : Int) < s.mat + n := hp
      unfold fillLen
      split
      · exact ⟨x0, x1⟩
      · exact h6 p (by omega)
    · rw [if_neg hf]
      split
      · rename_i hc
        refine ⟨fun h => absurd h (by show ¬ ((1 : Int) = 0); decide), fun _ => ?_⟩
        have := order_cod (fillLen s.mlen s.mat.toNat x n.toNat) s.msym (s.mat + n).toNat (by omega) hc
        rw [show (((s.mat + n).toNat : Nat) : Int) = S by omega] at this
        exact this
      · exact ⟨fun h => absurd h (by show ¬ ((2 : Int) = 0); decide), fun h => absurd h (by show ¬ ((2 : Int) = 1); decide)⟩

theorem name_goes {s : Rd} {S W : Int} (x : Int) (x0 : 0 ≤ x) (h : MOk s S W) (h2 : s.mstep = 2) :
    ((nameP s x).2 = 0 → MOk (nameP s x).1 S W) ∧ ((nameP s x).2 = 1 → Cod (nameP s x).1.mcnt (nameP s x).1.msym S) := by
  obtain ⟨w1, w4, wm, hs⟩ : 1 ≤ s.mwanted ∧ s.mwanted ≤ 4 ∧ s.mat < s.mwanted ∧ ∀ p : Nat, (p : Int) < s.mat → 0 ≤ s.msym p ∧ s.msym p < S := by
    rcases h.step with e | e | e | e | e
    · omega
    · omega
    · exact e.2
    · omega
    · omega
  have h0 := h.at0
  have hsz := h.size
  unfold nameP
  by_cases hb : s.msize ≤ x ∨ 272 ≤ s.mat
  · rw [if_pos hb]
    exact ⟨fun h => absurd h (by show ¬ ((2 : Int) = 0); decide), fun h => absurd h (by show ¬ ((2 : Int) = 1); decide)⟩
  rw [if_neg hb]
  by_cases hc : 0 < s.mat ∧ x ≤ s.msym (s.mat - 1).toNat
  · rw [if_pos hc]
    exact ⟨fun h => absurd h (by show ¬ ((2 : Int) = 0); decide), fun h => absurd h (by show ¬ ((2 : Int) = 1); decide)⟩
  rw [if_neg hc]
  have hs' : ∀ p : Nat, (p : Int) < s.mat + 1 → 0 ≤ upd s.msym s.mat.toNat x p ∧ upd s.msym s.mat.toNat x p < S := by
    intro p hp
    unfold upd
    split
    · omega
    · exact hs p (by omega)
  dsimp only
  by_cases hw : s.mat + 1 < s.mwanted
  · rw [if_pos hw]
    exact ⟨fun _ => ⟨hsz, h.width, by show 0 ≤ s.mat + 1; omega, Or.inr (Or.inr (Or.inl ⟨h2, w1, w4, hw, hs'⟩))⟩, fun h => absurd h (by show ¬ ((0 : Int) = 1); decide)⟩
  · rw [if_neg hw]
    refine ⟨fun h => absurd h (by show ¬ ((1 : Int) = 0); decide), fun _ => ?_⟩
    exact simple_cod s.mwanted w1 w4 _ S (fun p hp => hs' p (by omega))

theorem give_goes {s : Rd} {S W : Int} (x : Int) (x0 : 0 ≤ x) (h5 : S ≤ 272) (h : MOk s S W) (h4 : 4 ≤ S) (hx1 : s.mstep = 1 → x ≤ 3) (hx3 : s.mstep = 3 → x ≤ 15) :
    ((give s x).2 = 0 → MOk (give s x).1 S W) ∧ ((give s x).2 = 1 → Cod (give s x).1.mcnt (give s x).1.msym S) := by
  have hsz := h.size
  have hwd := h.width
  have h0 := h.at0
  unfold give
  by_cases e0 : s.mstep = 0
  · rw [if_pos e0]
    have hm : s.mat = 0 := by rcases h.step with e | e | e | e | e <;> omega
    refine ⟨fun _ => ⟨hsz, hwd, h0, ?_⟩, fun h => absurd h (by show ¬ ((0 : Int) = 1); decide)⟩
    dsimp only
    by_cases hx : x = 1
    · rw [if_pos hx]
      exact Or.inr (Or.inr (Or.inr (Or.inl ⟨rfl, by omega, fun p hp => absurd hp (by omega)⟩)))
    · rw [if_neg hx]
      exact Or.inr (Or.inl ⟨rfl, hm⟩)
  rw [if_neg e0]
  by_cases e1 : s.mstep = 1
  · rw [if_pos e1]
    have hm : s.mat = 0 := by rcases h.step with e | e | e | e | e <;> omega
    have := hx1 e1
    refine ⟨fun _ => ⟨hsz, hwd, h0, ?_⟩, fun h => absurd h (by show ¬ ((0 : Int) = 1); decide)⟩
    exact Or.inr (Or.inr (Or.inl ⟨rfl, by show 1 ≤ x + 1; omega, by show x + 1 ≤ 4; omega, by show s.mat < x + 1; omega, fun p hp => absurd hp (by show ¬ (p : Int) < s.mat; omega)⟩))
  rw [if_neg e1]
  by_cases e2 : s.mstep = 2
  · rw [if_pos e2]
    exact name_goes x x0 h e2
  rw [if_neg e2]
  by_cases e3 : s.mstep = 3
  · rw [if_pos e3]
    obtain ⟨hmS, hlen⟩ : s.mat < S ∧ ∀ p : Nat, (p : Int) < s.mat → 0 ≤ s.mlen p ∧ s.mlen p ≤ 12 := by
      rcases h.step with e | e | e | e | e
      · omega
      · omega
      · omega
      · exact e.2
      · omega
    have := hx3 e3
    unfold lengthP
    by_cases h12 : x ≤ 12
    · rw [if_pos h12]
      exact lay_goes x 1 hsz hwd h0 hmS h5 hlen e3 x0 h12 (by omega)
    rw [if_neg h12]
    by_cases h13 : x = 13 ∧ s.mat = 0
    · rw [if_pos h13]
      exact ⟨fun h => absurd h (by show ¬ ((2 : Int) = 0); decide), fun h => absurd h (by show ¬ ((2 : Int) = 1); decide)⟩
    · rw [if_neg h13]
      refine ⟨fun _ => ⟨hsz, hwd, h0, Or.inr (Or.inr (Or.inr (Or.inr ⟨rfl, hmS, hlen, by show 13 ≤ x; omega, by show x ≤ 15; omega, fun hx => ?_⟩)))⟩, fun h => absurd h (by show ¬ ((0 : Int) = 1); decide)⟩
      have hx' : x = 13 := hx
      show 1 ≤ s.mat
      omega
  rw [if_neg e3]
  obtain ⟨_, hmS, hlen, r1, r2, r3⟩ : s.mstep = 4 ∧ s.mat < S ∧ (∀ p : Nat, (p : Int) < s.mat → 0 ≤ s.mlen p ∧ s.mlen p ≤ 12) ∧ 13 ≤ s.mrepeat ∧ s.mrepeat ≤ 15 ∧ (s.mrepeat = 13 → 1 ≤ s.mat) := by
    rcases h.step with e | e | e | e | e
    · omega
    · omega
    · omega
    · omega
    · exact e
  unfold times
  dsimp only
  by_cases e13 : s.mrepeat = 13
  · rw [if_pos e13]
    have r3' := r3 e13
    have hbf : before { s with mstep := 3 } = s.mlen (s.mat - 1).toNat := by
      unfold before
      rw [if_neg (by show ¬ (s.mat < 1 ∨ 272 < s.mat); omega)]
    have hb := hlen (s.mat - 1).toNat (by omega)
    rw [hbf]
    exact lay_goes (s := { s with mstep := 3 }) _ (3 + x) hsz hwd h0 hmS h5 hlen rfl hb.1 hb.2 (by omega)
  rw [if_neg e13]
  by_cases e14 : s.mrepeat = 14
  · rw [if_pos e14]
    exact lay_goes (s := { s with mstep := 3 }) 0 (3 + x) hsz hwd h0 hmS h5 hlen rfl (by omega) (by omega) (by omega)
  · rw [if_neg e14]
    exact lay_goes (s := { s with mstep := 3 }) 0 (11 + x) hsz hwd h0 hmS h5 hlen rfl (by omega) (by omega) (by omega)

theorem useCode_goes {s : Rd} (x : Int) (hb : Base s) (hl : 1 ≤ s.left) (x0 : 0 ≤ x) (hx1 : s.mstep = 1 → x ≤ 3) (hx3 : s.mstep = 3 → x ≤ 15)
    (hp : (s.part = 4 ∧ MOk s 272 9) ∨ (s.part = 5 ∧ MOk s 16 4 ∧ Cod s.lcnt s.lsym 272)) : Goes s (useCode s x) := by
  have sm := give_same s x
  have hsaid := said_give s x
  obtain ⟨S, W, h4, h5, hM, hg⟩ : ∃ S W, 4 ≤ S ∧ S ≤ 272 ∧ MOk s S W ∧ ((S = 272 ∧ W = 9 ∧ s.part = 4) ∨ (S = 16 ∧ W = 4 ∧ s.part = 5 ∧ Cod s.lcnt s.lsym 272)) := by
    rcases hp with ⟨p, m⟩ | ⟨p, m, c⟩
    · exact ⟨272, 9, by omega, by omega, m, Or.inl ⟨rfl, rfl, p⟩⟩
    · exact ⟨16, 4, by omega, by omega, m, Or.inr ⟨rfl, rfl, p, c⟩⟩
  obtain ⟨g0, g1⟩ := give_goes x x0 h5 hM h4 hx1 hx3
  unfold useCode
  dsimp only
  generalize give s x = r at *
  obtain ⟨t, c⟩ := r
  dsimp only at *
  have e1 : t.hold = s.hold := by rw [sm]
  have e2 : t.have_ = s.have_ := by rw [sm]
  have e3 : t.at_ = s.at_ := by rw [sm]
  have e4 : t.reach = s.reach := by rw [sm]
  have e5 : t.window = s.window := by rw [sm]
  have e6 : t.near = s.near := by rw [sm]
  have e7 : t.left = s.left := by rw [sm]
  have e8 : t.out = s.out := by rw [sm]
  have e9 : t.part = s.part := by rw [sm]
  have e10 : t.lcnt = s.lcnt := by rw [sm]
  have e11 : t.lsym = s.lsym := by rw [sm]
  clear sm
  have hbt : Base t := hb.of e1 e2 e3 e4 e5 e6 ⟨by rw [e7]; exact hb.l0, by rw [e7]; exact hb.l1⟩
  have ho : (t.out.length : Int) + t.left ≤ s.out.length + s.left := by rw [e7, e8]; exact Int.le_refl _
  have hh : t.have_ ≤ s.have_ := by omega
  by_cases c2 : c = 2
  · rw [if_pos c2]
    exact ⟨hbt.of rfl rfl rfl rfl rfl rfl ⟨hbt.l0, hbt.l1⟩, part_end (by right; right; right; right; rfl), hh, ho⟩
  rw [if_neg c2]
  by_cases c0 : c = 0
  · rw [if_pos c0]
    have hm := g0 c0
    rcases hg with ⟨rfl, rfl, p⟩ | ⟨rfl, rfl, p, cl⟩
    · exact ⟨hbt, Or.inr ⟨by omega, Or.inr (Or.inl ⟨by omega, hm⟩)⟩, hh, ho⟩
    · exact ⟨hbt, Or.inr ⟨by omega, Or.inr (Or.inr (Or.inl ⟨by omega, hm, by rw [e10, e11]; exact cl⟩))⟩, hh, ho⟩
  rw [if_neg c0]
  by_cases c1 : c = 1
  · have hc := g1 c1
    rcases hg with ⟨rfl, rfl, p⟩ | ⟨rfl, rfl, p, cl⟩
    · rw [if_pos (by omega)]
      refine ⟨hbt.of rfl rfl rfl rfl rfl rfl ⟨hbt.l0, hbt.l1⟩, Or.inr ⟨by show 1 ≤ t.left; omega, Or.inr (Or.inr (Or.inl ⟨rfl, ⟨rfl, rfl, Int.le_refl _, Or.inl ⟨rfl, rfl⟩⟩, hc⟩))⟩, hh, ho⟩
    · rw [if_neg (by omega)]
      exact ⟨hbt.of rfl rfl rfl rfl rfl rfl ⟨hbt.l0, hbt.l1⟩, Or.inr ⟨by show 1 ≤ t.left; omega, Or.inr (Or.inr (Or.inr ⟨by show Cod t.lcnt t.lsym 272; rw [e10, e11]; exact cl, hc, Or.inl rfl⟩))⟩, hh, ho⟩
  · omega

theorem pow_bound (n : Nat) (h : n ≤ 12) : (2 : Int) ^ n ≤ 4096 := by
  have : n = 0 ∨ n = 1 ∨ n = 2 ∨ n = 3 ∨ n = 4 ∨ n = 5 ∨ n = 6 ∨ n = 7 ∨ n = 8 ∨ n = 9 ∨ n = 10 ∨ n = 11 ∨ n = 12 := by omega
  rcases this with e | e | e | e | e | e | e | e | e | e | e | e | e <;> rw [e] <;> decide

theorem lens_bounds (k : Int) (h0 : 0 ≤ k) (h1 : k < 16) : 3 ≤ lenLeast k ∧ lenLeast k ≤ 265 ∧ 0 ≤ lenMore k ∧ lenMore k ≤ 8 := by
  have : k = 0 ∨ k = 1 ∨ k = 2 ∨ k = 3 ∨ k = 4 ∨ k = 5 ∨ k = 6 ∨ k = 7 ∨ k = 8 ∨ k = 9 ∨ k = 10 ∨ k = 11 ∨ k = 12 ∨ k = 13 ∨ k = 14 ∨ k = 15 := by omega
  rcases this with e | e | e | e | e | e | e | e | e | e | e | e | e | e | e | e <;> subst e <;> decide

theorem near_add {f : Nat → Int} (h : ∀ i, i < 4 → 1 ≤ f i ∧ f i ≤ 4095) (d : Int) (h1 : 1 ≤ d) (h2 : d ≤ 4095) : ∀ i, i < 4 → 1 ≤ nearAdd f d i ∧ nearAdd f d i ≤ 4095 := by
  intro i hi
  unfold nearAdd
  split
  · exact ⟨h1, h2⟩
  · exact h (i - 1) (by omega)

theorem near_Base {s : Rd} (h : Base s) (d : Int) (h1 : 1 ≤ d) (h2 : d ≤ 4095) : Base { s with near := nearAdd s.near d } :=
  ⟨h.b0, h.b1, h.n0, h.at0, h.at1, h.r0, h.r1, h.w1, near_add h.near d h1 h2, h.l0, h.l1⟩

theorem useLetter_goes {s : Rd} (x : Int) (h : Base s) (hl : 1 ≤ s.left) (cl : Cod s.lcnt s.lsym 272) (cd : Cod s.dcnt s.dsym 16) (x0 : 0 ≤ x) (x1 : x < 272) (hp : s.part = 6) :
    Goes s (useLetter s x) ∧ 8 * (useLetter s x).left + rank (useLetter s x) < 8 * s.left + rank s := by
  have hr : rank s = 4 := by unfold rank; rw [if_pos hp]
  unfold useLetter
  split
  · have hb := put_Base h x hl
    have ho := put_out s x
    obtain ⟨g, r⟩ := endCommand_goes hb cl cd
    refine ⟨⟨g.base, g.part, g.less, by have := g.out; omega⟩, ?_⟩
    have e : (put s x).left = s.left - 1 := rfl
    omega
  · have lb := lens_bounds (x - 256) (by omega) (by omega)
    refine ⟨⟨h.of rfl rfl rfl rfl rfl rfl ⟨h.l0, h.l1⟩, Or.inr ⟨hl, Or.inr (Or.inr (Or.inr ⟨cl, cd, Or.inr (Or.inl ⟨rfl, lb⟩)⟩))⟩, Int.le_refl _, Int.le_refl _⟩, ?_⟩
    rw [hr]
    show 8 * s.left + 3 < 8 * s.left + 4
    omega

theorem useDistance_goes {s : Rd} (x : Int) (h : Base s) (hl : 1 ≤ s.left) (cl : Cod s.lcnt s.lsym 272) (cd : Cod s.dcnt s.dsym 16) (x0 : 0 ≤ x) (x1 : x < 16) (hp : s.part = 8) (h3 : 3 ≤ s.length) (h5 : s.length ≤ 520) :
    Goes s (useDistance s x) ∧ 8 * (useDistance s x).left + rank (useDistance s x) < 8 * s.left + rank s := by
  have hr : rank s = 2 := by unfold rank; rw [if_neg (by omega), if_neg (by omega), if_pos hp]
  unfold useDistance
  by_cases hx : x < 4
  · rw [if_pos hx]
    have hn := h.near x.toNat (by omega)
    by_cases h0 : 0 < x
    · rw [if_pos h0]
      obtain ⟨g, r⟩ := useCopy_goes (s := { s with near := nearAdd s.near (s.near x.toNat) }) (s.near x.toNat) (near_Base h _ hn.1 hn.2) cl cd h3
      refine ⟨⟨g.base, g.part, g.less, g.out⟩, ?_⟩
      have r' : _ ≤ 8 * s.left := r
      omega
    · rw [if_neg h0]
      obtain ⟨g, r⟩ := useCopy_goes (s.near x.toNat) h cl cd h3
      refine ⟨⟨g.base, g.part, g.less, g.out⟩, ?_⟩
      omega
  · rw [if_neg hx]
    have e1 : distLeast x = 2 ^ (x - 4).toNat := by unfold distLeast; rw [if_neg hx]
    have e2 : distMore x = x - 4 := by unfold distMore; rw [if_neg hx]
    refine ⟨⟨h.of rfl rfl rfl rfl rfl rfl ⟨h.l0, h.l1⟩, Or.inr ⟨hl, Or.inr (Or.inr (Or.inr ⟨cl, cd, Or.inr (Or.inr (Or.inr ⟨rfl, h3, h5, ?_⟩))⟩))⟩, Int.le_refl _, Int.le_refl _⟩, ?_⟩
    · show 0 ≤ distMore x ∧ distMore x ≤ 11 ∧ distLeast x = 2 ^ (distMore x).toNat
      rw [e1, e2]
      exact ⟨by omega, by omega, rfl⟩
    · rw [hr]
      show 8 * s.left + 1 < 8 * s.left + 2
      omega

/-- how many bits the parts take, and what the values are -/
theorem mod_bounds (x : Int) (n : Nat) : 0 ≤ x % 2 ^ n ∧ x % 2 ^ n < 2 ^ n := by
  have hp := pow_pos2 n
  exact ⟨Int.emod_nonneg _ (by omega), Int.emod_lt_of_pos _ (by omega)⟩

def mu (s : Rd) : Nat := (40000 * s.have_ + 8 * s.left + rank s).toNat
def psi (s : Rd) : Int := s.out.length + s.left + 512 * s.have_

theorem mWidth_bounds {s : Rd} {S W : Int} (h : MOk s S W) (h1 : 1 ≤ W) (h12 : W ≤ 9) : 1 ≤ mWidth s ∧ mWidth s ≤ 9 ∧ (s.mstep = 1 → mWidth s = 2) ∧ (s.mstep = 3 → mWidth s = 4) ∧ (s.mstep = 4 → mWidth s ≤ 6) ∧ (0 ≤ s.mstep ∧ s.mstep ≤ 4) := by
  have hw := h.width
  have hs : 0 ≤ s.mstep ∧ s.mstep ≤ 4 := by rcases h.step with e | e | e | e | e <;> omega
  unfold mWidth
  have hc : s.mstep = 0 ∨ s.mstep = 1 ∨ s.mstep = 2 ∨ s.mstep = 3 ∨ s.mstep = 4 := by omega
  rcases hc with e | e | e | e | e
  · rw [if_pos e]; omega
  · rw [if_neg (by omega), if_pos e]; omega
  · rw [if_neg (by omega), if_neg (by omega), if_pos e]; omega
  · rw [if_neg (by omega), if_neg (by omega), if_neg (by omega), if_pos e]; omega
  · rw [if_neg (by omega), if_neg (by omega), if_neg (by omega), if_neg (by omega)]
    split
    · omega
    · split <;> omega

theorem fillTo_left (t : Rd) : (fillTo t).left = t.left := by unfold fillTo; split <;> rfl
theorem endBlock_left (t : Rd) : (endBlock t).left = t.left := by
  unfold endBlock
  split
  · split
    · exact fillTo_left t
    · exact fillTo_left t
  · rfl
/-- a note's size -/
theorem size_note (s : Rd) (x : Int) (hk : s.kind = 3) (hx : x ≤ 255) (_x0 : 0 ≤ x) : (useSize s x).left ≤ 255 := by
  have key : ∀ t : Rd, t.left ≤ 255 → (if fillOk t then (if ({ fillTo t with part := 3 } : Rd).left = 0 then endBlock { fillTo t with part := 3 } else { fillTo t with part := 3 }) else fillTo t).left ≤ 255 := by
    intro t ht
    have e : (fillTo t).left = t.left := by unfold fillTo; split <;> rfl
    split
    · split
      · rw [endBlock_left]
        show (fillTo t).left ≤ 255
        omega
      · show (fillTo t).left ≤ 255; omega
    · omega
  unfold useSize
  rw [if_neg (by omega)]
  exact key { s with left := if s.kind = 1 then x + 1 else x } (by show (if s.kind = 1 then x + 1 else x) ≤ 255; rw [if_neg (by omega)]; exact hx)

structure PF (s : Rd) (x n : Int) : Prop where
  n0 : 0 ≤ n
  nh : n ≤ s.have_
  x0 : 0 ≤ x
  x1 : x ≤ 4095
  n1 : s.part ≤ 5 → 1 ≤ n
  f2 : s.part = 2 → (s.kind = 3 → n = 8 ∧ x ≤ 255) ∧ (s.kind ≠ 3 → n = 12)
  f3 : s.part = 3 → x ≤ 255 ∧ n = 8
  f4 : s.part = 4 ∨ s.part = 5 → (s.mstep = 1 → x ≤ 3) ∧ (s.mstep = 3 → x ≤ 15) ∧ (s.mstep = 4 → x ≤ 63)
  f6 : s.part = 6 → x < 272
  f8 : s.part = 8 → x < 16
  f9 : s.part = 7 ∨ s.part = 9 → x < 2 ^ s.more.toNat

theorem peek_number {s : Rd} (h6 : s.part ≠ 6) (h8 : s.part ≠ 8) : peek s = (s.hold % 2 ^ (width s).toNat, width s) := by
  unfold peek
  rw [if_neg h6, if_neg h8]

theorem width_bounds {s : Rd} (h : Inv s) (hp : s.part ≤ 9) (h6 : s.part ≠ 6) (h8 : s.part ≠ 8) : 0 ≤ width s ∧ width s ≤ 12 := by
  obtain ⟨hb, hP⟩ := h
  have e0 : s.part = 0 → width s = 4 := fun e => by unfold width; rw [if_pos e]
  have e1 : s.part = 1 → width s = 3 := fun e => by unfold width; rw [if_neg (by omega), if_pos e]
  have e2 : s.part = 2 → width s = if s.kind = 3 then 8 else 12 := fun e => by unfold width; rw [if_neg (by omega), if_neg (by omega), if_pos e]
  have e3 : s.part = 3 → width s = 8 := fun e => by unfold width; rw [if_neg (by omega), if_neg (by omega), if_neg (by omega), if_neg (by omega), if_neg (by omega)]
  have e4 : s.part = 4 ∨ s.part = 5 → width s = mWidth s := fun e => by unfold width; rw [if_neg (by omega), if_neg (by omega), if_neg (by omega), if_pos e]
  have e7 : s.part = 7 ∨ s.part = 9 → width s = s.more := fun e => by unfold width; rw [if_neg (by omega), if_neg (by omega), if_neg (by omega), if_neg (by omega), if_pos e]
  rcases hP with hc | ⟨hl, hc⟩
  · rcases hc with ⟨e, _⟩ | e | e | e | e
    · rw [e0 e]; omega
    · rw [e1 e]; omega
    · rw [e2 e]; split <;> omega
    · omega
    · omega
  · rcases hc with e | ⟨e, m⟩ | ⟨e, m, _⟩ | ⟨cl, cd, e | ⟨e, k1, k2, k3, k4⟩ | ⟨e, _⟩ | ⟨e, k1, k2, k3, k4, k5⟩⟩
    · rw [e3 e]; omega
    · rw [e4 (Or.inl e)]; have := mWidth_bounds m (by omega) (by omega); omega
    · rw [e4 (Or.inr e)]; have := mWidth_bounds m (by omega) (by omega); omega
    · exact absurd e h6
    · rw [e7 (Or.inl e)]; omega
    · exact absurd e h8
    · rw [e7 (Or.inr e)]; omega

theorem peek_facts {s : Rd} (h : Inv s) (hp : s.part ≤ 9) (hn : ¬ s.have_ < (peek s).2) : PF s (peek s).1 (peek s).2 := by
  have hI := h
  obtain ⟨hb, hP⟩ := h
  have n0 := hb.n0
  by_cases h6 : s.part = 6
  · have hc : Cod s.lcnt s.lsym 272 := by
      rcases hP with hc | ⟨hl, hc⟩
      · omega
      · rcases hc with e | ⟨e, m⟩ | ⟨e, m, _⟩ | ⟨cl, cd, _⟩
        · omega
        · omega
        · omega
        · exact cl
    have ep : peek s = find s.lcnt s.lsym s.hold s.have_ := by unfold peek; rw [if_pos h6]
    rw [ep] at hn ⊢
    rcases find_cases hc s.hold s.have_ n0 with ⟨l, hh⟩ | hm
    · have hs := hit_sym hc hh
      rw [hh.eq] at hs hn ⊢
      have := hh.lh
      exact ⟨by show (0 : Int) ≤ (l : Int); omega, this, hs.1, by have := hs.2; omega, fun _ => by omega, fun _ => by omega, fun _ => by omega, fun _ => by omega, fun _ => hs.2, fun _ => by omega, fun _ => by omega⟩
    · rw [hm.eq] at hn
      exact absurd (by show s.have_ < s.have_ + 1; omega) hn
  by_cases h8 : s.part = 8
  · have hc : Cod s.dcnt s.dsym 16 := by
      rcases hP with hc | ⟨hl, hc⟩
      · omega
      · rcases hc with e | ⟨e, m⟩ | ⟨e, m, _⟩ | ⟨cl, cd, _⟩
        · omega
        · omega
        · omega
        · exact cd
    have ep : peek s = find s.dcnt s.dsym s.hold s.have_ := by unfold peek; rw [if_neg h6, if_pos h8]
    rw [ep] at hn ⊢
    rcases find_cases hc s.hold s.have_ n0 with ⟨l, hh⟩ | hm
    · have hs := hit_sym hc hh
      rw [hh.eq] at hs hn ⊢
      have := hh.lh
      exact ⟨by show (0 : Int) ≤ (l : Int); omega, this, hs.1, by have := hs.2; omega, fun _ => by omega, fun _ => by omega, fun _ => by omega, fun _ => by omega, fun _ => by omega, fun _ => hs.2, fun _ => by omega⟩
    · rw [hm.eq] at hn
      exact absurd (by show s.have_ < s.have_ + 1; omega) hn
  rw [peek_number h6 h8] at hn ⊢
  have wb := width_bounds hI hp h6 h8
  have mb := mod_bounds s.hold (width s).toNat
  have pb := pow_bound (width s).toNat (by omega)
  have hn' : ¬ s.have_ < width s := hn
  have e0 : s.part = 0 → width s = 4 := fun e => by unfold width; rw [if_pos e]
  have e1 : s.part = 1 → width s = 3 := fun e => by unfold width; rw [if_neg (by omega), if_pos e]
  have e2 : s.part = 2 → width s = if s.kind = 3 then 8 else 12 := fun e => by unfold width; rw [if_neg (by omega), if_neg (by omega), if_pos e]
  have e3 : s.part = 3 → width s = 8 := fun e => by unfold width; rw [if_neg (by omega), if_neg (by omega), if_neg (by omega), if_neg (by omega), if_neg (by omega)]
  have e4 : s.part = 4 ∨ s.part = 5 → width s = mWidth s := fun e => by unfold width; rw [if_neg (by omega), if_neg (by omega), if_neg (by omega), if_pos e]
  have e7 : s.part = 7 ∨ s.part = 9 → width s = s.more := fun e => by unfold width; rw [if_neg (by omega), if_neg (by omega), if_neg (by omega), if_neg (by omega), if_pos e]
  have em : s.part = 4 ∨ s.part = 5 → 1 ≤ mWidth s ∧ (s.mstep = 1 → mWidth s = 2) ∧ (s.mstep = 3 → mWidth s = 4) ∧ (s.mstep = 4 → mWidth s ≤ 6) := by
    intro e
    rcases hP with hc | ⟨hl, hc⟩
    · omega
    · rcases hc with e' | ⟨e', m⟩ | ⟨e', m, _⟩ | ⟨cl, cd, hc⟩
      · omega
      · have := mWidth_bounds m (by omega) (by omega); exact ⟨this.1, this.2.2.1, this.2.2.2.1, this.2.2.2.2.1⟩
      · have := mWidth_bounds m (by omega) (by omega); exact ⟨this.1, this.2.2.1, this.2.2.2.1, this.2.2.2.2.1⟩
      · omega
  refine ⟨wb.1, by show width s ≤ s.have_; omega, mb.1, by show s.hold % 2 ^ (width s).toNat ≤ 4095; omega, fun e => ?_, fun e => ⟨fun k => ?_, fun k => ?_⟩, fun e => ⟨?_, e3 e⟩, fun e => ⟨fun k => ?_, fun k => ?_, fun k => ?_⟩, fun e => absurd e h6, fun e => absurd e h8, fun e => ?_⟩
  · show 1 ≤ width s
    have hc : s.part = 0 ∨ s.part = 1 ∨ s.part = 2 ∨ s.part = 3 ∨ (s.part = 4 ∨ s.part = 5) := by
      rcases hP with hc | ⟨hl, hc⟩ <;> omega
    rcases hc with q | q | q | q | q
    · rw [e0 q]; omega
    · rw [e1 q]; omega
    · rw [e2 q]; split <;> omega
    · rw [e3 q]; omega
    · rw [e4 q]; exact (em q).1
  · have := e2 e
    rw [if_pos k] at this
    rw [this] at mb ⊢
    exact ⟨rfl, by have := mb.2; exact Int.le_of_lt_add_one this⟩
  · have := e2 e
    rw [if_neg k] at this
    exact this
  · rw [e3 e] at mb ⊢
    exact Int.le_of_lt_add_one mb.2
  · have q := (em e).2.1 k
    rw [e4 e, q] at mb ⊢
    exact Int.le_of_lt_add_one mb.2
  · have q := (em e).2.2.1 k
    rw [e4 e, q] at mb ⊢
    exact Int.le_of_lt_add_one mb.2
  · have q := (em e).2.2.2 k
    have q1 := (em e).1
    rw [e4 e] at mb ⊢
    have : (2 : Int) ^ (mWidth s).toNat ≤ 64 := by
      have : (mWidth s).toNat = 1 ∨ (mWidth s).toNat = 2 ∨ (mWidth s).toNat = 3 ∨ (mWidth s).toNat = 4 ∨ (mWidth s).toNat = 5 ∨ (mWidth s).toNat = 6 := by omega
      rcases this with e | e | e | e | e | e <;> rw [e] <;> decide
    show s.hold % 2 ^ (mWidth s).toNat ≤ 63
    omega
  · rw [e7 e] at mb ⊢
    exact mb.2

theorem step_eq {s t : Rd} (h : step s = some t) : ¬ (s.part = 10 ∨ s.part = 11) ∧ ¬ s.have_ < (peek s).2 ∧ t = use (drop s (peek s).2) (peek s).1 := by
  unfold step at h
  by_cases h1 : s.part = 10 ∨ s.part = 11
  · rw [if_pos h1] at h; cases h
  · rw [if_neg h1] at h
    by_cases h2 : s.have_ < (peek s).2
    · rw [if_pos h2] at h; cases h
    · rw [if_neg h2] at h
      injection h with h
      exact ⟨h1, h2, h.symm⟩

theorem part_range {s : Rd} (h : Part s) : 0 ≤ s.part ∧ s.part ≤ 11 := by
  rcases h with hc | ⟨hl, hc⟩
  · omega
  · rcases hc with e | ⟨e, m⟩ | ⟨e, m, _⟩ | ⟨cl, cd, e | ⟨e, _⟩ | ⟨e, _⟩ | ⟨e, _⟩⟩ <;> omega

/-- what a step does to the measure, out of what it does to the state -/
theorem less_bits {s t : Rd} {n : Int} (hs : Base s) (ht : Base t) (h : t.have_ ≤ s.have_ - n) (hn : 1 ≤ n) : mu t < mu s := by
  have h1 := ht.l1; have h2 := hs.l0; have h3 := rank_bounds t; have h4 := rank_bounds s; have h5 := ht.l0; have h6 := ht.n0
  unfold mu
  omega
theorem less_rank {s t : Rd} {n : Int} (hs : Base s) (ht : Base t) (h : t.have_ ≤ s.have_ - n) (hn : 0 ≤ n) (hr : 8 * t.left + rank t < 8 * s.left + rank s) : mu t < mu s := by
  have h2 := hs.l0; have h4 := rank_bounds s; have h7 := hs.n0; have h8 := ht.l0; have h9 := rank_bounds t; have h10 := ht.n0
  unfold mu
  omega
theorem psi_goes {s t u : Rd} {n : Int} (hu : u.have_ = s.have_ - n) (hl : u.left = s.left) (ho : u.out = s.out) (hn : 0 ≤ n) (g : Goes u t) : psi t ≤ psi s := by
  have h1 := g.less; have h2 := g.out
  rw [hl, ho] at h2
  unfold psi
  omega

theorem step_goes {s t : Rd} (h : Inv s) (hs : step s = some t) : Inv t ∧ mu t < mu s ∧ psi t ≤ psi s ∧ t.have_ ≤ s.have_ := by
  obtain ⟨p1, p2, rfl⟩ := step_eq hs
  have hI := h
  obtain ⟨hb, hP⟩ := h
  have pr := part_range hP
  have pf := peek_facts hI (by omega) p2
  generalize (peek s).1 = x at *
  generalize (peek s).2 = n at *
  have hd := drop_Base hb n pf.n0 pf.nh
  have eu : (drop s n).have_ = s.have_ - n := rfl
  have el : (drop s n).left = s.left := rfl
  have eo : (drop s n).out = s.out := rfl
  have er : rank (drop s n) = rank s := rfl
  have fin1 : ∀ t, 1 ≤ n → Goes (drop s n) t → Inv t ∧ mu t < mu s ∧ psi t ≤ psi s ∧ t.have_ ≤ s.have_ := fun t hn g => ⟨⟨g.base, g.part⟩, less_bits hb g.base g.less hn, psi_goes eu el eo pf.n0 g, by have := g.less; have := pf.n0; omega⟩
  have fin0 : ∀ t, Goes (drop s n) t → 8 * t.left + rank t < 8 * s.left + rank s → Inv t ∧ mu t < mu s ∧ psi t ≤ psi s ∧ t.have_ ≤ s.have_ := fun t g hr => ⟨⟨g.base, g.part⟩, less_rank hb g.base g.less pf.n0 hr, psi_goes eu el eo pf.n0 g, by have := g.less; have := pf.n0; omega⟩
  have ep : (drop s n).part = s.part := rfl
  rcases hP with hc | ⟨hl, hc⟩
  · rcases hc with ⟨e, hw⟩ | e | e | e | e
    · have eq : use (drop s n) x = useWindow (drop s n) x := by unfold use; rw [if_pos (by rw [ep]; exact e)]
      rw [eq]
      exact fin1 _ (pf.n1 (by omega)) (useWindow_goes x hd pf.x0 hw)
    · have eq : use (drop s n) x = useBlock (drop s n) x := by unfold use; rw [if_neg (by rw [ep]; omega), if_pos (by rw [ep]; exact e)]
      rw [eq]
      exact fin1 _ (pf.n1 (by omega)) (useBlock_goes x hd)
    · have eq : use (drop s n) x = useSize (drop s n) x := by unfold use; rw [if_neg (by rw [ep]; omega), if_neg (by rw [ep]; omega), if_pos (by rw [ep]; exact e)]
      rw [eq]
      obtain ⟨g1, g2, g3, g4⟩ := useSize_goes x hd pf.x0 pf.x1
      refine ⟨⟨g1, g2⟩, less_bits hb g1 g3 (pf.n1 (by omega)), ?_, by have := pf.n0; have g3' : (useSize (drop s n) x).have_ ≤ s.have_ - n := g3; omega⟩
      have f2 := pf.f2 e
      have hl0 := hb.l0
      have hk : (drop s n).kind = s.kind := rfl
      have hle : (useSize (drop s n) x).left ≤ 512 * n := by
        by_cases k : s.kind = 3
        · have f := f2.1 k
          have := size_note (drop s n) x (by omega) (by omega) pf.x0
          omega
        · have f := f2.2 k
          have := g1.l1
          omega
      have g3' : (useSize (drop s n) x).have_ ≤ s.have_ - n := g3
      unfold psi
      rw [g4, eo]
      omega
    · omega
    · omega
  · rcases hc with e | ⟨e, m⟩ | ⟨e, m, c⟩ | ⟨cl, cd, e | ⟨e, k1, k2, k3, k4⟩ | ⟨e, k1, k2⟩ | ⟨e, k1, k2, k3, k4, k5⟩⟩
    · have eq : use (drop s n) x = useByte (drop s n) x := by unfold use; rw [if_neg (by rw [ep]; omega), if_neg (by rw [ep]; omega), if_neg (by rw [ep]; omega), if_pos (by rw [ep]; exact e)]
      rw [eq]
      exact fin1 _ (pf.n1 (by omega)) (useByte_goes x hd hl e)
    · have eq : use (drop s n) x = useCode (drop s n) x := by unfold use; rw [if_neg (by rw [ep]; omega), if_neg (by rw [ep]; omega), if_neg (by rw [ep]; omega), if_neg (by rw [ep]; omega), if_pos (by rw [ep]; omega)]
      rw [eq]
      have f4 := pf.f4 (Or.inl e)
      exact fin1 _ (pf.n1 (by omega)) (useCode_goes x hd hl pf.x0 f4.1 f4.2.1 (Or.inl ⟨e, m.size, m.width, m.at0, m.step⟩))
    · have eq : use (drop s n) x = useCode (drop s n) x := by unfold use; rw [if_neg (by rw [ep]; omega), if_neg (by rw [ep]; omega), if_neg (by rw [ep]; omega), if_neg (by rw [ep]; omega), if_pos (by rw [ep]; omega)]
      rw [eq]
      have f4 := pf.f4 (Or.inr e)
      exact fin1 _ (pf.n1 (by omega)) (useCode_goes x hd hl pf.x0 f4.1 f4.2.1 (Or.inr ⟨e, ⟨m.size, m.width, m.at0, m.step⟩, c⟩))
    · have eq : use (drop s n) x = useLetter (drop s n) x := by unfold use; rw [if_neg (by rw [ep]; omega), if_neg (by rw [ep]; omega), if_neg (by rw [ep]; omega), if_neg (by rw [ep]; omega), if_neg (by rw [ep]; omega), if_pos (by rw [ep]; exact e)]
      rw [eq]
      obtain ⟨g, r⟩ := useLetter_goes x hd hl cl cd pf.x0 (pf.f6 e) e
      exact fin0 _ g (by rw [el, er] at r; exact r)
    · have eq : use (drop s n) x = { drop s n with length := s.least + x, part := 8 } := by unfold use; rw [if_neg (by rw [ep]; omega), if_neg (by rw [ep]; omega), if_neg (by rw [ep]; omega), if_neg (by rw [ep]; omega), if_neg (by rw [ep]; omega), if_neg (by rw [ep]; omega), if_pos (by rw [ep]; exact e)]; rfl
      rw [eq]
      have f9 := pf.f9 (Or.inl e)
      have pb : (2 : Int) ^ s.more.toNat ≤ 256 := by
        have : s.more.toNat = 0 ∨ s.more.toNat = 1 ∨ s.more.toNat = 2 ∨ s.more.toNat = 3 ∨ s.more.toNat = 4 ∨ s.more.toNat = 5 ∨ s.more.toNat = 6 ∨ s.more.toNat = 7 ∨ s.more.toNat = 8 := by omega
        rcases this with e | e | e | e | e | e | e | e | e <;> rw [e] <;> decide
      have x0 := pf.x0
      refine fin0 _ ⟨hd.of rfl rfl rfl rfl rfl rfl ⟨hd.l0, hd.l1⟩, Or.inr ⟨hl, Or.inr (Or.inr (Or.inr ⟨cl, cd, Or.inr (Or.inr (Or.inl ⟨rfl, by show 3 ≤ s.least + x; omega, by show s.least + x ≤ 520; omega⟩))⟩))⟩, Int.le_refl _, Int.le_refl _⟩ ?_
      have r7 : rank s = 3 := by unfold rank; rw [if_neg (by omega), if_pos e]
      rw [r7]
      show 8 * s.left + 2 < 8 * s.left + 3
      omega
    · have eq : use (drop s n) x = useDistance (drop s n) x := by unfold use; rw [if_neg (by rw [ep]; omega), if_neg (by rw [ep]; omega), if_neg (by rw [ep]; omega), if_neg (by rw [ep]; omega), if_neg (by rw [ep]; omega), if_neg (by rw [ep]; omega), if_neg (by rw [ep]; omega), if_pos (by rw [ep]; exact e)]
      rw [eq]
      obtain ⟨g, r⟩ := useDistance_goes x hd hl cl cd pf.x0 (pf.f8 e) e k1 k2
      exact fin0 _ g (by rw [el, er] at r; exact r)
    · have eq : use (drop s n) x = useCopy { drop s n with near := nearAdd s.near (s.least + x) } (s.least + x) := by unfold use; rw [if_neg (by rw [ep]; omega), if_neg (by rw [ep]; omega), if_neg (by rw [ep]; omega), if_neg (by rw [ep]; omega), if_neg (by rw [ep]; omega), if_neg (by rw [ep]; omega), if_neg (by rw [ep]; omega), if_neg (by rw [ep]; omega), if_pos (by rw [ep]; exact e)]; rfl
      rw [eq]
      have f9 := pf.f9 (Or.inr e)
      have x0 := pf.x0
      have pb : (2 : Int) ^ s.more.toNat ≤ 2048 := by
        have : s.more.toNat = 0 ∨ s.more.toNat = 1 ∨ s.more.toNat = 2 ∨ s.more.toNat = 3 ∨ s.more.toNat = 4 ∨ s.more.toNat = 5 ∨ s.more.toNat = 6 ∨ s.more.toNat = 7 ∨ s.more.toNat = 8 ∨ s.more.toNat = 9 ∨ s.more.toNat = 10 ∨ s.more.toNat = 11 := by omega
        rcases this with e | e | e | e | e | e | e | e | e | e | e | e <;> rw [e] <;> decide
      have pp := pow_pos2 s.more.toNat
      obtain ⟨g, r⟩ := useCopy_goes (s := { drop s n with near := nearAdd s.near (s.least + x) }) (s.least + x) (near_Base hd _ (by omega) (by omega)) cl cd k1
      refine fin0 _ ⟨g.base, g.part, g.less, g.out⟩ ?_
      have r9 : rank s = 1 := by unfold rank; rw [if_neg (by omega), if_neg (by omega), if_neg (by omega), if_pos e]
      have r' : _ ≤ 8 * s.left := r
      omega

theorem step_none {s : Rd} (h : Inv s) (hp : s.part ≤ 9) (hs : step s = none) : s.have_ ≤ 11 := by
  have hI := h
  obtain ⟨hb, hP⟩ := h
  have hlt : s.have_ < (peek s).2 := by
    by_cases h2 : s.have_ < (peek s).2
    · exact h2
    · unfold step at hs
      rw [if_neg (by omega), if_neg h2] at hs
      cases hs
  by_cases h6 : s.part = 6
  · have hc : Cod s.lcnt s.lsym 272 := by
      rcases hP with hc | ⟨hl, hc⟩
      · omega
      · rcases hc with e | ⟨e, m⟩ | ⟨e, m, _⟩ | ⟨cl, cd, _⟩
        · omega
        · omega
        · omega
        · exact cl
    have ep : peek s = find s.lcnt s.lsym s.hold s.have_ := by unfold peek; rw [if_pos h6]
    rw [ep] at hlt
    rcases find_cases hc s.hold s.have_ hb.n0 with ⟨l, hh⟩ | hm
    · rw [hh.eq] at hlt
      have := hh.lh
      have hlt' : s.have_ < (l : Int) := hlt
      omega
    · exact hm.h11
  by_cases h8 : s.part = 8
  · have hc : Cod s.dcnt s.dsym 16 := by
      rcases hP with hc | ⟨hl, hc⟩
      · omega
      · rcases hc with e | ⟨e, m⟩ | ⟨e, m, _⟩ | ⟨cl, cd, _⟩
        · omega
        · omega
        · omega
        · exact cd
    have ep : peek s = find s.dcnt s.dsym s.hold s.have_ := by unfold peek; rw [if_neg h6, if_pos h8]
    rw [ep] at hlt
    rcases find_cases hc s.hold s.have_ hb.n0 with ⟨l, hh⟩ | hm
    · rw [hh.eq] at hlt
      have := hh.lh
      have hlt' : s.have_ < (l : Int) := hlt
      omega
    · exact hm.h11
  · rw [peek_number h6 h8] at hlt
    have hlt' : s.have_ < width s := hlt
    have := width_bounds hI hp h6 h8
    omega

/- all steps that can be taken -/
def drive (s : Rd) : Rd := steps (mu s + 1) s

theorem steps_more : ∀ (n m : Nat) (s : Rd), Inv s → mu s < n → n ≤ m → steps n s = steps m s
  | 0, m, s, h, h1, h2 => by omega
  | n + 1, 0, s, h, h1, h2 => by omega
  | n + 1, m + 1, s, h, h1, h2 => by
    unfold steps
    cases hs : step s with
    | none => rfl
    | some t =>
      obtain ⟨i, l, _, _⟩ := step_goes h hs
      exact steps_more n m t i (by omega) (by omega)

theorem drive_some {s t : Rd} (h : Inv s) (hs : step s = some t) : drive s = drive t := by
  obtain ⟨i, l, _, _⟩ := step_goes h hs
  unfold drive
  have e : steps (mu s + 1) s = steps (mu s) t := by
    conv => lhs; unfold steps
    rw [hs]
  rw [e]
  exact (steps_more (mu t + 1) (mu s) t i (by omega) (by omega)).symm
theorem drive_none {s : Rd} (hs : step s = none) : drive s = s := by
  unfold drive steps
  rw [hs]

theorem drive_inv : ∀ (n : Nat) (s : Rd), mu s < n → Inv s → Inv (drive s) ∧ step (drive s) = none ∧ psi (drive s) ≤ psi s
  | 0, s, h, _ => by omega
  | n + 1, s, h, hi => by
    cases hs : step s with
    | none => rw [drive_none hs]; exact ⟨hi, hs, Int.le_refl _⟩
    | some t =>
      obtain ⟨i, l, p, _⟩ := step_goes hi hs
      rw [drive_some hi hs]
      obtain ⟨a, b, c⟩ := drive_inv n t (by omega) i
      exact ⟨a, b, by omega⟩

def more8 (s : Rd) (c : Int) : Rd := { s with hold := s.hold + c * 2 ^ s.have_.toNat, have_ := s.have_ + 8 }
def take (s : Rd) (c : Int) : Rd := if s.part = 10 then { s with trailing := true } else drive (more8 s c)

theorem more8_inv {s : Rd} (h : Inv s) (c : Int) (c0 : 0 ≤ c) (c1 : c ≤ 255) : Inv (more8 s c) := by
  obtain ⟨hb, hP⟩ := h
  have hp := pow_pos2 s.have_.toNat
  have n0 := hb.n0
  have b0 := hb.b0
  have b1 := hb.b1
  have e : (2 : Int) ^ (s.have_ + 8).toNat = 2 ^ s.have_.toNat * 256 := by
    rw [show (s.have_ + 8).toNat = s.have_.toNat + 8 by omega, pow_add2]
    rfl
  have hm : 0 ≤ c * 2 ^ s.have_.toNat := Int.mul_nonneg c0 (by omega)
  have hm2 : c * 2 ^ s.have_.toNat ≤ 255 * 2 ^ s.have_.toNat := Int.mul_le_mul_of_nonneg_right c1 (by omega)
  refine ⟨⟨?_, ?_, ?_, hb.at0, hb.at1, hb.r0, hb.r1, hb.w1, hb.near, hb.l0, hb.l1⟩, ?_⟩
  · show 0 ≤ s.hold + c * 2 ^ s.have_.toNat; omega
  · show s.hold + c * 2 ^ s.have_.toNat < 2 ^ (s.have_ + 8).toNat; rw [e]; omega
  · show 0 ≤ s.have_ + 8; omega
  · rcases hP with hc | ⟨hl, hc⟩
    · exact Or.inl hc
    · refine Or.inr ⟨hl, ?_⟩
      rcases hc with e | ⟨e, m⟩ | ⟨e, m, c⟩ | hc
      · exact Or.inl e
      · exact Or.inr (Or.inl ⟨e, m.size, m.width, m.at0, m.step⟩)
      · exact Or.inr (Or.inr (Or.inl ⟨e, ⟨m.size, m.width, m.at0, m.step⟩, c⟩))
      · exact Or.inr (Or.inr (Or.inr hc))

end Wr
