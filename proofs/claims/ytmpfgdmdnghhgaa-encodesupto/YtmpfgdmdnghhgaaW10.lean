import Derived.Test.YtmpfgdmdnghhgaaW7
namespace Go.Proofs.Ytmpfgdmdnghhgaa
open Go.RowKit Wr

section
variable {w : World} {b : Nat} {s : Rd} {v : Value}

theorem Row.lets (hr : Row w b s v) (f g : Nat → Int) : Row (w.setCells b 569 (codeCells f g)) b { s with lcnt := f, lsym := g } v := by
  refine hr.cells _ _ _ fun j _ => ?_
  rw [codeCells_length]
  by_cases h : 569 ≤ j ∧ j < 569 + 285
  · rw [if_pos h, codeCells_get _ _ _ (by omega)]
    by_cases h13 : j < 582
    · rw [if_pos (by omega)]
      unfold cellsOf
      repeat rw [if_neg (by omega)]
      rw [if_pos (by omega)]
      rfl
    · rw [if_neg (by omega)]
      unfold cellsOf
      repeat rw [if_neg (by omega)]
      rw [if_pos (by omega), show j - 569 - 13 = j - 582 by omega]
      rfl
  · rw [if_neg h]
    have h1 : ¬ (569 ≤ j ∧ j < 569 + 13) := by omega
    have h2 : ¬ (582 ≤ j ∧ j < 582 + 272) := by omega
    simp only [cellsOf, if_neg h1, if_neg h2]

theorem Row.dists (hr : Row w b s v) (f g : Nat → Int) : Row (w.setCells b 854 (codeCells f g)) b { s with dcnt := f, dsym := g } v := by
  refine hr.cells _ _ _ fun j _ => ?_
  rw [codeCells_length]
  by_cases h : 854 ≤ j ∧ j < 854 + 285
  · rw [if_pos h, codeCells_get _ _ _ (by omega)]
    by_cases h13 : j < 867
    · rw [if_pos (by omega)]
      unfold cellsOf
      repeat rw [if_neg (by omega)]
      rw [if_pos (by omega)]
      rfl
    · rw [if_neg (by omega)]
      unfold cellsOf
      repeat rw [if_neg (by omega)]
      rw [if_pos (by omega), show j - 854 - 13 = j - 867 by omega]
      rfl
  · rw [if_neg h]
    have h1 : ¬ (854 ≤ j ∧ j < 854 + 13) := by omega
    have h2 : ¬ (867 ≤ j ∧ j < 867 + 272) := by omega
    simp only [cellsOf, if_neg h1, if_neg h2]

set_option maxHeartbeats 400000 in
theorem useSize_any (hr : Row w b s v) (x : Int) (g1 : 0 ≤ x) (g2 : x ≤ 4095) (h1 : 0 ≤ s.hold) (h2 : s.hold < 1099511627776) (h3 : 0 ≤ s.have_) (h4 : s.have_ ≤ 40) :
    Calls Try.prog 71 #[.pointer (some ⟨b, 0, none⟩), .int .i64 x] w fun e w' => e = .returned (.tuple #[]) ∧ Row w' b (useSize s x) v ∧ On b w w' := by
  have c2 := hr.c_part
  have c4 := hr.c_kind
  have c5 := hr.c_left
  have hfz := hr.free
  by_cases hk : s.kind = 2
  · have HE : Hid (useSize s x = { Wr.begin { s with left := x + 1 } 272 9 with part := 4 }) := by simp only [Hid, useSize, if_pos hk]
    have hN := Letters_any (hr.left (x + 1))
    rw [hk] at c4
    clear hk
    go_enter Try.func71, Try.ntmps71
    go_wp2_with (go_at_call 88; refine hN.mono ?_; rintro e w2 ⟨rfl, hr3, hon3⟩; have d2 := hr3.c_part; have df := hr3.free)
    refine bodyPost_ret (results_none rfl _ _ _) rfl ?_
    rw [HE.out]
    exact ⟨rfl, hr3.part 4, (((On.refl b w).set _ _).trans hon3).set _ _⟩
  · have hkb : (s.kind == 2) = false := beq_eq_false_iff_ne.2 hk
    obtain ⟨t, HT⟩ : ∃ t : Rd, Hid (t = { s with left := if s.kind = 1 then x + 1 else x }) := ⟨_, rfl⟩
    have HE : Hid (useSize s x = if fillOk t then (if ({ fillTo t with part := 3 } : Rd).left = 0 then endBlock { fillTo t with part := 3 } else { fillTo t with part := 3 }) else fillTo t) := by
      simp only [Hid, useSize, if_neg hk, ← HT.out]
    have hrt : ∀ W, Row W b { s with left := if s.kind = 1 then x + 1 else x } v → Row W b t v := fun W h => by rw [HT.out]; exact h
    have hF := fun (W : World) (h : Row W b t v) => fill_any h (by rw [HT.out]; exact h1) (by rw [HT.out]; exact h2) (by rw [HT.out]; exact h3) (by rw [HT.out]; exact h4)
    have hft : 0 ≤ (fillTo t).hold ∧ (fillTo t).hold < 1099511627776 ∧ 0 ≤ (fillTo t).have_ ∧ (fillTo t).have_ ≤ 40 := by
      rw [HT.out]; exact fillTo_bounds _ h1 h2 h3 h4
    have hE := fun (W : World) (h : Row W b { fillTo t with part := 3 } v) => endBlock_any h hft.1 hft.2.1 hft.2.2.1 hft.2.2.2
    have htl : (fillTo t).left = t.left := by unfold fillTo; split <;> rfl
    clear hk hft
    by_cases hk1 : s.kind = 1
    · have hr1 : Row _ b t v := hrt _ (by rw [if_pos hk1]; exact (hr.left x).left (x + 1))
      rw [hk1] at c4
      have htl2 : t.left = x + 1 := by rw [HT.out, if_pos hk1]
      clear hk1 hrt HT hkb
      have HE' : Hid (useSize s x = if fillOk t then { fillTo t with part := 3 } else fillTo t) := by
        rw [Hid, HE.out]
        have : ¬ ({ fillTo t with part := 3 } : Rd).left = 0 := by show ¬ (fillTo t).left = 0; omega
        rw [if_neg this]
      clear HE
      cases hok : fillOk t
      · rw [hok] at hF HE'
        go_enter Try.func71, Try.ntmps71
        go_wp2_with (go_at_call 86; refine (hF _ hr1).mono ?_; rintro e w2 ⟨rfl, hr3, hon3⟩)
        refine bodyPost_ret (results_none rfl _ _ _) rfl ?_
        rw [HE'.out]
        exact ⟨rfl, hr3, (((On.refl b w).set _ _).set _ _).trans hon3⟩
      · rw [hok] at hF HE'
        have Hl : Hid ((fillTo t).left = x + 1) := by rw [Hid, htl, htl2]
        clear htl htl2 hok
        go_enter Try.func71, Try.ntmps71
        go_wp2_with (go_at_call 86; refine (hF _ hr1).mono ?_; rintro e w2 ⟨rfl, hr3, hon3⟩; have d2 := hr3.c_part; have d5 := hr3.c_left; rw [Hl.out] at d5; have df := hr3.free)
        go_end0
        rw [HE'.out]
        exact ⟨rfl, hr3.part 3, ((((On.refl b w).set _ _).set _ _).trans hon3).set _ _⟩
    · have hr1 : Row _ b t v := hrt _ (by rw [if_neg hk1]; exact hr.left x)
      have hkb1 : (s.kind == 1) = false := beq_eq_false_iff_ne.2 hk1
      have htl2 : t.left = x := by rw [HT.out, if_neg hk1]
      clear hk1 hrt HT
      cases hok : fillOk t
      · rw [hok] at hF HE
        go_enter Try.func71, Try.ntmps71
        go_wp2_with (go_at_call 86; refine (hF _ hr1).mono ?_; rintro e w2 ⟨rfl, hr3, hon3⟩)
        refine bodyPost_ret (results_none rfl _ _ _) rfl ?_
        rw [HE.out]
        exact ⟨rfl, hr3, ((On.refl b w).set _ _).trans hon3⟩
      · rw [hok] at hF HE
        have Hl : Hid ((fillTo t).left = x) := by rw [Hid, htl, htl2]
        clear htl htl2 hok
        by_cases hx0 : x = 0
        · subst hx0
          have HE' : Hid (useSize s 0 = endBlock { fillTo t with part := 3 }) := by rw [Hid, HE.out, if_pos rfl, if_pos Hl.out]
          clear HE
          go_enter Try.func71, Try.ntmps71
          go_wp2_with (first
            | (go_at_call 86; refine (hF _ hr1).mono ?_; rintro e w2 ⟨rfl, hr3, hon3⟩; have d2 := hr3.c_part; have d5 := hr3.c_left; rw [Hl.out] at d5; have df := hr3.free; have hr4 := hr3.part 3)
            | (go_at_call 87; refine (hE _ hr4).mono ?_; rintro e w5 ⟨rfl, hr5, hon5⟩))
          go_end0
          rw [HE'.out]
          exact ⟨rfl, hr5, ((((On.refl b w).set _ _).trans hon3).set _ _).trans hon5⟩
        · have HE' : Hid (useSize s x = { fillTo t with part := 3 }) := by rw [Hid, HE.out, if_pos rfl, if_neg (by show ¬ (fillTo t).left = 0; rw [Hl.out]; exact hx0)]
          have hxb : (x == 0) = false := beq_eq_false_iff_ne.2 hx0
          clear HE hx0
          go_enter Try.func71, Try.ntmps71
          go_wp2_with (go_at_call 86; refine (hF _ hr1).mono ?_; rintro e w2 ⟨rfl, hr3, hon3⟩; have d2 := hr3.c_part; have d5 := hr3.c_left; rw [Hl.out] at d5; have df := hr3.free)
          go_end0
          rw [HE'.out]
          exact ⟨rfl, hr3.part 3, (((On.refl b w).set _ _).trans hon3).set _ _⟩
end
end Go.Proofs.Ytmpfgdmdnghhgaa

namespace Go.Proofs.Ytmpfgdmdnghhgaa
open Go.RowKit Wr

theorem info_u8 : (Try.prog.info? 5).map (fun i => (i.zero, i.size, i.bytes)) = some (some (.int .u8 0), 1, 1) := by kernel_rfl

theorem owns_shape {w : World} {B : Nat} {e : TypeId} {v : Value} {n : Nat} {xs : List Value} (h : w.ownsRow B e 1 v (n + 1) xs) : ∃ g cap, v = .slice (some ⟨g, 0, none⟩) (n + 1) cap := by
  obtain ⟨_, h2⟩ := h
  rcases h2 with ⟨_, h3⟩ | ⟨g, cap, cur, hv, _⟩
  · omega
  · exact ⟨g, cap, hv⟩
theorem owns_block {w : World} {B b : Nat} {e : TypeId} {v : Value} {n : Nat} {xs : List Value} (h : w.ownsRow B e 1 v n xs) (hb : b < B) : some b ≠ v.ownBlock := by
  obtain ⟨_, h2⟩ := h
  rcases h2 with ⟨h3, _⟩ | ⟨g, cap, cur, hv, hg, _⟩
  · rw [h3]; intro h; cases h
  · rw [hv]; intro h
    have : b = g := by simpa [Value.ownBlock] using h
    omega
theorem owns_above {w : World} {B : Nat} {e : TypeId} {v : Value} {n : Nat} {xs : List Value} (h : w.ownsRow B e 1 v n xs) : ∀ k, v.ownBlock = some k → B ≤ k := by
  obtain ⟨_, h2⟩ := h
  intro k hk
  rcases h2 with ⟨h3, _⟩ | ⟨g, cap, cur, hv, hg, _⟩
  · rw [h3] at hk; cases hk
  · rw [hv] at hk
    have : g = k := by simpa [Value.ownBlock] using hk
    omega

section
variable {w : World} {B b : Nat} {s : Rd}

set_option maxHeartbeats 1000000 in
theorem put_any (hR : Rep w B b s) (c : Int) (h1 : 0 ≤ s.at_) (h2 : s.at_ < 4096) (h3 : 0 ≤ s.reach) (h4 : s.window ≤ 4096) (h5 : s.reach ≤ 4096)
    (h6 : -1000000 ≤ s.left) (h7 : s.left ≤ 1000000) (h8 : s.out.length ≤ 17592186044416) :
    Calls Try.prog 89 #[.pointer (some ⟨b, 0, none⟩), .int .u8 c] w fun e w' => e = .returned (.tuple #[]) ∧ Rep w' B b (put s c) ∧ Fr B b w w' := by
  obtain ⟨hbB, hBw, v, hr, hown⟩ := hR
  obtain ⟨i0, hi, hz0, hz1, hz2⟩ := info_parts info_u8
  have HI : Hid (Try.prog.info? 5 = some i0 ∧ i0.zero = some (.int .u8 0) ∧ i0.size = 1 ∧ i0.bytes = 1) := ⟨hi, hz0, hz1, hz2⟩
  clear hi hz0 hz1 hz2
  have c0 := hr.c_out
  have hA := fun (W : World) (t : Rd) (u : Value) (h : Row W b t u) (e1 : t.at_ = s.at_) (e2 : t.reach = s.reach) (e3 : t.window = s.window) => add_any h c (by omega) (by omega) (by omega) (by omega) (by omega)
  go_enter Try.func89, Try.ntmps89
  go_wp2_with (at_builtin; refine wpList_append_own _ rfl _ _ 37 rfl B 5 i0 (.int .u8 0) 1 1 Try.underlying37 HI.out.1 HI.out.2.1 HI.out.2.2.1 HI.out.2.2.2 rfl (by decide) _ _ _ rfl (hown.alloc _) ⟨w.heap.size, 0, none⟩ 1 1 [.int .u8 c] rfl rfl ?c1 ?c2 ?c3 ?c4 ?c5 ?_)
  case c1 =>
    intro j u hj
    match j, hj with
    | 0, hj => simp at hj; subst hj; simp [Addr.add]
  case c2 => intro u hu; simp at hu; subst hu; rfl
  case c3 => unfold maxLen; omega
  case c4 => omega
  case c5 => simp; omega
  · intro v' w1 hown' hgrow _
    obtain ⟨g, cap, hv⟩ := owns_shape hown'
    subst hv
    have hr1 : Row w1 b s v := (hr.alloc _).of_block (hgrow.block b (by have := hr.lt; simp; omega) (owns_block hown hbB))
    have hfr1 : Fr B b w w1 := ((Fr.refl B b w).alloc hBw _).grown hgrow (by simp; omega) (owns_above hown)
    have d0 := hr1.c_out
    have df := hr1.free
    have hr2 := hr1.out (.slice (some ⟨g, 0, none⟩) (s.out.length + 1) cap) (s.out ++ [c])
    have hA1 := hA _ _ _ hr2 rfl rfl rfl
    clear hgrow c0 hA
    go_wp2_with (go_at_call 111; refine hA1.mono ?_; rintro e w2 ⟨rfl, hr3, hon3⟩; have d5 := hr3.c_left; have d6 : w2.cell? ⟨b, 5, none⟩ = some (.int .i64 s.left) := d5; clear d5; have df2 := hr3.free)
    go_end0
    have hon4 := (((On.refl b w1).set _ _).trans hon3).set 5 (.int .i64 (s.left - 1))
    refine ⟨rfl, ?_, ?_⟩
    · refine ⟨hbB, Nat.le_trans (Nat.le_trans hBw hfr1.size) hon4.size, _, hr3.left _, ?_⟩
      have := hon4.owns hbB hown'
      simpa [put, addRing] using this
    · exact hfr1.trans (hon4.fr (Nat.le_trans hBw hfr1.size))
end
end Go.Proofs.Ytmpfgdmdnghhgaa

namespace Go.Proofs.Ytmpfgdmdnghhgaa
open Go.RowKit Wr

/-- the bounds that the ring and the bits keep -/
structure PB (s : Rd) : Prop where
  at0 : 0 ≤ s.at_
  at1 : s.at_ < 4096
  r0 : 0 ≤ s.reach
  r1 : s.reach ≤ 4096
  w1 : s.window ≤ 4096
  b0 : 0 ≤ s.hold
  b1 : s.hold < 1099511627776
  n0 : 0 ≤ s.have_
  n1 : s.have_ ≤ 40

theorem put_PB {s : Rd} (h : PB s) (c : Int) : PB (put s c) := by
  have h1 := h.at0; have h2 := h.r0; have h3 := h.r1; have h4 := h.w1
  refine ⟨?_, ?_, ?_, ?_, h.w1, h.b0, h.b1, h.n0, h.n1⟩
  · show 0 ≤ (s.at_ + 1) % 4096; omega
  · show (s.at_ + 1) % 4096 < 4096; omega
  · show 0 ≤ if s.reach < s.window then s.reach + 1 else s.reach; split <;> omega
  · show (if s.reach < s.window then s.reach + 1 else s.reach) ≤ 4096; split <;> omega

theorem put_left (s : Rd) (c : Int) : (put s c).left = s.left - 1 := rfl
theorem put_len (s : Rd) (c : Int) : (put s c).out.length = s.out.length + 1 := by simp [put, addRing]

theorem copy_succ : ∀ (n : Nat) (s : Rd) (d : Int), copyGo (n + 1) s d = put (copyGo n s d) (agoP (copyGo n s d) d)
  | 0, _, _ => rfl
  | n + 1, s, d => by
    have := copy_succ n (put s (agoP s d)) d
    exact this
theorem copy_keeps (d : Int) (s : Rd) (h : PB s) : ∀ n : Nat, PB (copyGo n s d) ∧ (copyGo n s d).left = s.left - n ∧ (copyGo n s d).out.length = s.out.length + n ∧ (copyGo n s d).length = s.length ∧ (copyGo n s d).last = s.last
  | 0 => ⟨h, by show s.left = _; omega, rfl, rfl, rfl⟩
  | n + 1 => by
    obtain ⟨h1, h2, h3, h4, h5⟩ := copy_keeps d s h n
    rw [copy_succ]
    exact ⟨put_PB h1 _, by rw [put_left, h2]; omega, by rw [put_len, h3]; omega, by rw [← h4]; rfl, by rw [← h5]; rfl⟩

section
variable {w : World} {B b : Nat} {s : Rd}
theorem Rep.next {w' : World} {t : Rd} {v : Value} (hbB : b < B) (hB : B ≤ w.heap.size) (hown : w.ownsRow B 5 1 v s.out.length (s.out.map (Value.int .u8))) (hr : Row w' b t v) (hon : On b w w') (ho : t.out = s.out) :
    Rep w' B b t ∧ Fr B b w w' := ⟨Rep.on hbB hB hon hr hown ho, hon.fr hB⟩

theorem fillTo_out (s : Rd) : (fillTo s).out = s.out := by unfold fillTo; split <;> rfl
theorem endBlock_out (s : Rd) : (endBlock s).out = s.out := by
  unfold endBlock
  split
  · split
    · exact fillTo_out s
    · exact fillTo_out s
  · rfl
theorem endCommand_out (s : Rd) : (endCommand s).out = s.out := by
  unfold endCommand
  split
  · exact endBlock_out _
  · rfl

theorem endBlock_rep (hR : Rep w B b s) (h : PB s) :
    Calls Try.prog 87 #[.pointer (some ⟨b, 0, none⟩)] w fun e w' => e = .returned (.tuple #[]) ∧ Rep w' B b (endBlock s) ∧ Fr B b w w' := by
  obtain ⟨hbB, hB, v, hr, hown⟩ := hR
  refine (endBlock_any hr h.b0 h.b1 h.n0 h.n1).mono ?_
  rintro e w' ⟨rfl, hr', hon⟩
  exact ⟨rfl, Rep.next hbB hB hown hr' hon (endBlock_out s)⟩
theorem endCommand_rep (hR : Rep w B b s) (h : PB s) :
    Calls Try.prog 93 #[.pointer (some ⟨b, 0, none⟩)] w fun e w' => e = .returned (.tuple #[]) ∧ Rep w' B b (endCommand s) ∧ Fr B b w w' := by
  obtain ⟨hbB, hB, v, hr, hown⟩ := hR
  refine (endCommand_any hr h.b0 h.b1 h.n0 h.n1).mono ?_
  rintro e w' ⟨rfl, hr', hon⟩
  exact ⟨rfl, Rep.next hbB hB hown hr' hon (endCommand_out s)⟩

set_option maxHeartbeats 400000 in
theorem useByte_any (hR : Rep w B b s) (x : Int) (h : PB s) (h1 : 0 ≤ x) (h2 : x ≤ 255) (h6 : 0 ≤ s.left) (h7 : s.left ≤ 4096) (h8 : s.out.length ≤ 17592186044416) :
    Calls Try.prog 72 #[.pointer (some ⟨b, 0, none⟩), .int .i64 x] w fun e w' => e = .returned (.tuple #[]) ∧ Rep w' B b (useByte s x) ∧ Fr B b w w' := by
  by_cases hk : s.kind = 1
  · have hP := put_any hR x h.at0 h.at1 h.r0 h.w1 h.r1 (by omega) (by omega) h8
    have HE : Hid (useByte s x = if (put s x).left = 0 then endBlock (put s x) else put s x) := by simp only [Hid, useByte, if_pos hk]
    have hpb := put_PB h x
    obtain ⟨hbB, hB, v, hr, hown⟩ := hR
    have c4 := hr.c_kind
    rw [hk] at c4
    clear hk
    by_cases hl : (put s x).left = 0
    · rw [if_pos hl] at HE
      have Hl : Hid ((put s x).left = 0) := hl
      clear hl
      go_enter Try.func72, Try.ntmps72
      go_wp2_with (first
        | (go_at_call 89; refine hP.mono ?_; rintro e w1 ⟨rfl, hR1, hfr1⟩; have hR1' := hR1; obtain ⟨_, hB1, v1, hr1, hown1⟩ := hR1'; have d5 := hr1.c_left; rw [Hl.out] at d5)
        | (go_at_call 87; refine (endBlock_rep hR1 hpb).mono ?_; rintro e w2 ⟨rfl, hR2, hfr2⟩))
      go_end0
      rw [HE.out]
      exact ⟨rfl, hR2, hfr1.trans hfr2⟩
    · rw [if_neg hl] at HE
      have hlb : ((put s x).left == 0) = false := beq_eq_false_iff_ne.2 hl
      clear hl
      go_enter Try.func72, Try.ntmps72
      go_wp2_with (go_at_call 89; refine hP.mono ?_; rintro e w1 ⟨rfl, hR1, hfr1⟩; have hR1' := hR1; obtain ⟨_, hB1, v1, hr1, hown1⟩ := hR1'; have d5 := hr1.c_left)
      go_end0
      rw [HE.out]
      exact ⟨rfl, hR1, hfr1⟩
  · have hkb : (s.kind == 1) = false := beq_eq_false_iff_ne.2 hk
    have HE : Hid (useByte s x = if ({ s with left := s.left - 1 } : Rd).left = 0 then endBlock { s with left := s.left - 1 } else { s with left := s.left - 1 }) := by simp only [Hid, useByte, if_neg hk]
    obtain ⟨hbB, hB, v, hr, hown⟩ := hR
    have c4 := hr.c_kind
    have c5 := hr.c_left
    have hfz := hr.free
    have hr1 := hr.left (s.left - 1)
    clear hk
    by_cases hl : s.left - 1 = 0
    · rw [if_pos hl] at HE
      have hE := endBlock_any hr1 h.b0 h.b1 h.n0 h.n1
      have hlb : (s.left - 1 == 0) = true := beq_iff_eq.2 hl
      clear hl
      go_enter Try.func72, Try.ntmps72
      go_wp2_with (go_at_call 87; refine hE.mono ?_; rintro e w2 ⟨rfl, hr2, hon2⟩)
      go_end0
      rw [HE.out]
      exact ⟨rfl, Rep.next hbB hB hown hr2 (((On.refl b w).set _ _).trans hon2) (endBlock_out _)⟩
    · rw [if_neg hl] at HE
      have hlb : (s.left - 1 == 0) = false := beq_eq_false_iff_ne.2 hl
      clear hl
      go_enter Try.func72, Try.ntmps72
      go_wp2
      go_end0
      rw [HE.out]
      exact ⟨rfl, Rep.next hbB hB hown hr1 ((On.refl b w).set _ _) rfl⟩
end
end Go.Proofs.Ytmpfgdmdnghhgaa
