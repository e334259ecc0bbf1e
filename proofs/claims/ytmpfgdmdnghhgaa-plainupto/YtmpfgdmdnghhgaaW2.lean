import Derived.Test.YtmpfgdmdnghhgaaW1
namespace Go.Proofs.Ytmpfgdmdnghhgaa
open Go.RowKit Wr

theorem pow_mono {n m : Nat} (h : n ≤ m) : (2 : Int) ^ n ≤ 2 ^ m := by
  have h1 := Nat.pow_le_pow_right (n := 2) (by omega) h
  have e : ∀ k : Nat, ((2 ^ k : Nat) : Int) = (2 : Int) ^ k := fun k => by rw [Int.natCast_pow]; rfl
  rw [← e, ← e]
  exact Int.ofNat_le.2 h1

theorem ret2_int {a b c d : Int} (h : a = c) (k : b = d) : Ending.returned (.tuple #[.int .i64 a, .int .i64 b]) = .returned (.tuple #[.int .i64 c, .int .i64 d]) := by rw [h, k]

theorem find_step {cnt sym : Nat → Int} {hold have_ : Int} {f len : Nat} {bits first ahead : Int} (h1 : len ≤ 12) (h2 : (len : Int) ≤ have_)
    (h : ¬ (bits - first < cnt len ∧ 0 ≤ ahead + bits - first ∧ ahead + bits - first < 272)) :
    findGo cnt sym hold have_ (f + 1) len bits first ahead =
      findGo cnt sym hold have_ f (len + 1) (2 * bits + hold / 2 ^ len % 2) (2 * (first + cnt len)) (ahead + cnt len) := by
  conv => lhs; unfold findGo
  rw [if_pos ⟨h1, h2⟩, if_neg h]
theorem find_hit {cnt sym : Nat → Int} {hold have_ : Int} {f len : Nat} {bits first ahead : Int} (h1 : len ≤ 12) (h2 : (len : Int) ≤ have_)
    (h : bits - first < cnt len ∧ 0 ≤ ahead + bits - first ∧ ahead + bits - first < 272) :
    findGo cnt sym hold have_ (f + 1) len bits first ahead = (sym (ahead + bits - first).toNat, (len : Int)) := by
  conv => lhs; unfold findGo
  rw [if_pos ⟨h1, h2⟩, if_pos h]
theorem find_end {cnt sym : Nat → Int} {hold have_ : Int} {f len : Nat} {bits first ahead : Int} (h : ¬ (len ≤ 12 ∧ (len : Int) ≤ have_)) :
    findGo cnt sym hold have_ f len bits first ahead = (0, have_ + 1) := by
  cases f with
  | zero => rfl
  | succ f => conv => lhs; unfold findGo
              rw [if_neg h]

set_option maxHeartbeats 1000000 in
theorem Find_any (w : World) (b o : Nat) (cnt sym : Nat → Int) (hold have_ : Int)
    (hc : ∀ i : Nat, i < 13 → w.cell? ⟨b, o + i, none⟩ = some (.int .i64 (cnt i))) (hs : ∀ i : Nat, i < 272 → w.cell? ⟨b, o + 13 + i, none⟩ = some (.int .i64 (sym i)))
    (hb : ∀ i : Nat, i < 13 → 0 ≤ cnt i ∧ cnt i ≤ 300) (h1 : 0 ≤ hold) (h2 : hold < 1099511627776) (h3 : 0 ≤ have_) (h4 : have_ ≤ 40) :
    Calls Try.prog 67 #[.pointer (some ⟨b, o, none⟩), .int .i64 hold, .int .i64 have_] w fun e w' =>
      e = .returned (.tuple #[.int .i64 (find cnt sym hold have_).1, .int .i64 (find cnt sym hold have_).2]) ∧ w' = w := by
  go_enter Try.func67, Try.ntmps67
  go_wp2
  go_loop [8, 9, 10, 11] (fun vb vf va vl => ∃ (len : Nat) (bits first ahead : Int), len ≤ 13 ∧ (len : Int) ≤ have_ + 1 ∧ vb = .int .i64 bits ∧ vf = .int .i64 first ∧ va = .int .i64 ahead ∧ vl = .int .i64 len ∧
      0 ≤ bits ∧ bits < 2 ^ len ∧ 0 ≤ first ∧ first ≤ 600 * 2 ^ len - 600 ∧ 0 ≤ ahead ∧ ahead ≤ 300 * len ∧ Hid (findGo cnt sym hold have_ (14 - len) len bits first ahead = find cnt sym hold have_)) (fun _ _ _ vl => 14 - (intOf vl).toNat)
  case atStart => exact ⟨0, 0, 0, 0, by omega, by omega, rfl, rfl, rfl, rfl, by omega, by decide, by omega, by decide, by omega, by omega, rfl⟩
  case round =>
    obtain ⟨len, bts, first, ahead, hl1, hl2, rfl, rfl, rfl, rfl, hb1, hb2, hf1, hf2, ha1, ha2, HF⟩ := hrel
    have hp := pow_lt64 len (by omega)
    have hp13 : (2 : Int) ^ len ≤ 8192 := pow_mono hl1
    by_cases hlt : len ≤ 12 ∧ (len : Int) ≤ have_
    · obtain ⟨hlt1, hlt2⟩ := hlt
      have hcl := hc len (by omega)
      have hbl := hb len (by omega)
      have hq : 0 ≤ hold / 2 ^ len := Int.ediv_nonneg h1 (by omega)
      have hq2 : hold / 2 ^ len ≤ hold := Int.ediv_le_self _ h1
      have hm := bits_mask (hold / 2 ^ len) 1 hq (by omega) (by omega)
      have hm1 : bits BinOp.and IntKind.i64 (hold / 2 ^ len) 1 = hold / 2 ^ len % 2 := hm
      clear hm
      by_cases hit : bts - first < cnt len ∧ 0 ≤ ahead + bts - first ∧ ahead + bts - first < 272
      · have HE : Hid (find cnt sym hold have_ = (sym (ahead + bts - first).toNat, (len : Int))) := by
          have := HF.out
          rw [show 14 - len = (13 - len) + 1 by omega, find_hit hlt1 hlt2 hit] at this
          exact this.symm
        obtain ⟨hit1, hit2, hit3⟩ := hit
        have hsl := hs (ahead + bts - first).toNat (by omega)
        clear hs hc hb HF
        go_wp2
        go_ret2
        rw [HE.out]
        exact ⟨rfl, rfl⟩
      · have HE : Hid (findGo cnt sym hold have_ (13 - len) (len + 1) (2 * bts + hold / 2 ^ len % 2) (2 * (first + cnt len)) (ahead + cnt len) = find cnt sym hold have_) := by
          have := HF.out
          rw [show 14 - len = (13 - len) + 1 by omega, find_step hlt1 hlt2 hit] at this
          exact this
        have hp2 : (2 : Int) ^ (len + 1) = 2 * 2 ^ len := by rw [Int.pow_succ]; omega
        clear hs hc HF
        go_wp2
        all_goals
          go_round
          case rel =>
            refine ⟨len + 1, _, _, _, by omega, by omega, rfl, rfl, rfl, by go_num, by omega, by omega, by omega, by omega, by omega, by omega, ?_⟩
            rw [show 14 - (len + 1) = 13 - len by omega]
            exact HE
          case measure => simp [intOf]; omega
    · have HE : Hid (find cnt sym hold have_ = (0, have_ + 1)) := by
        have := HF.out
        rw [find_end hlt] at this
        exact this.symm
      clear hs hc hb HF
      by_cases hlt1 : len ≤ 12
      · have hlt2 : ¬ (len : Int) ≤ have_ := fun h => hlt ⟨hlt1, h⟩
        clear hlt
        go_wp2
        go_ret2
        rw [HE.out]
        exact ⟨rfl, rfl⟩
      · clear hlt
        go_wp2
        go_ret2
        rw [HE.out]
        exact ⟨rfl, rfl⟩

section
variable {w : World} {b : Nat} {s : Rd} {v : Value}

set_option maxHeartbeats 400000 in
theorem begin_any (hr : Row w b s v) (size width : Int) :
    Calls Try.prog 110 #[.pointer (some ⟨b, 6, none⟩), .int .i64 size, .int .i64 width] w fun e w' =>
      e = .returned (.tuple #[]) ∧ Row w' b (Wr.begin s size width) v ∧ On b w w' := by
  have c0 := hr.c_msize
  have c1 := hr.c_mwidth
  have c2 := hr.c_mstep
  have c3 := hr.c_mat
  have hfz := hr.free
  go_enter Try.func110, Try.ntmps110
  go_wp2
  go_end0
  exact ⟨rfl, (((hr.msize _).mwidth _).mstep _).mat _, ((((On.refl b w).set _ _).set _ _).set _ _).set _ _⟩

set_option maxHeartbeats 400000 in
theorem Letters_any (hr : Row w b s v) :
    Calls Try.prog 88 #[.pointer (some ⟨b, 6, none⟩)] w fun e w' =>
      e = .returned (.tuple #[]) ∧ Row w' b (Wr.begin s 272 9) v ∧ On b w w' := by
  go_enter Try.func88, Try.ntmps88
  go_wp2_with (go_at_call 110; refine (begin_any hr _ _).mono ?_; rintro e w' ⟨rfl, hr1, hon⟩)
  go_end0
  exact ⟨rfl, hr1, hon⟩

set_option maxHeartbeats 400000 in
theorem Distances_any (hr : Row w b s v) :
    Calls Try.prog 92 #[.pointer (some ⟨b, 6, none⟩)] w fun e w' =>
      e = .returned (.tuple #[]) ∧ Row w' b (Wr.begin s 16 4) v ∧ On b w w' := by
  go_enter Try.func92, Try.ntmps92
  go_wp2_with (go_at_call 110; refine (begin_any hr _ _).mono ?_; rintro e w' ⟨rfl, hr1, hon⟩)
  go_end0
  exact ⟨rfl, hr1, hon⟩

def timesW (r : Int) : Int := if r = 13 then 2 else if r = 14 then 3 else 6
set_option maxHeartbeats 400000 in
theorem timesWidth_any (w : World) (r : Int) :
    Calls Try.prog 109 #[.int .i64 r] w fun e w' => e = .returned (.int .i64 (timesW r)) ∧ w' = w := by
  by_cases e13 : r = 13
  · have Hf : Hid (timesW r = 2) := by simp [Hid, timesW, e13]
    subst e13
    go_enter Try.func109, Try.ntmps109
    go_wp2
    go_ret
    rw [Hf.out]
    exact ⟨rfl, rfl⟩
  · by_cases e14 : r = 14
    · have Hf : Hid (timesW r = 3) := by simp [Hid, timesW, e14]
      subst e14
      go_enter Try.func109, Try.ntmps109
      go_wp2
      go_ret
      rw [Hf.out]
      exact ⟨rfl, rfl⟩
    · have Hf : Hid (timesW r = 6) := by simp [Hid, timesW, e13, e14]
      have b13 : (r == 13) = false := beq_eq_false_iff_ne.2 e13
      have b14 : (r == 14) = false := beq_eq_false_iff_ne.2 e14
      clear e13 e14
      go_enter Try.func109, Try.ntmps109
      go_wp2
      go_ret
      rw [Hf.out]
      exact ⟨rfl, rfl⟩

set_option maxHeartbeats 400000 in
theorem Width_any (hr : Row w b s v) (h0 : 0 ≤ s.mstep) (h4 : s.mstep ≤ 4) :
    Calls Try.prog 85 #[.pointer (some ⟨b, 6, none⟩)] w fun e w' => e = .returned (.int .i64 (mWidth s)) ∧ w' = w := by
  have c0 := hr.c_mstep
  have c1 := hr.c_mwidth
  have c2 := hr.c_mrepeat
  have hc : s.mstep = 0 ∨ s.mstep = 1 ∨ s.mstep = 2 ∨ s.mstep = 3 ∨ s.mstep = 4 := by omega
  rcases hc with e | e | e | e | e
  · have Hf : Hid (mWidth s = 1) := by simp [Hid, mWidth, e]
    rw [e] at c0
    clear e
    go_enter Try.func85, Try.ntmps85
    go_wp2
    go_ret
    rw [Hf.out]
    exact ⟨rfl, rfl⟩
  · have Hf : Hid (mWidth s = 2) := by simp [Hid, mWidth, e]
    rw [e] at c0
    clear e
    go_enter Try.func85, Try.ntmps85
    go_wp2
    go_ret
    rw [Hf.out]
    exact ⟨rfl, rfl⟩
  · have Hf : Hid (mWidth s = s.mwidth) := by simp [Hid, mWidth, e]
    rw [e] at c0
    clear e
    go_enter Try.func85, Try.ntmps85
    go_wp2
    go_ret
    rw [Hf.out]
    exact ⟨rfl, rfl⟩
  · have Hf : Hid (mWidth s = 4) := by simp [Hid, mWidth, e]
    rw [e] at c0
    clear e
    go_enter Try.func85, Try.ntmps85
    go_wp2
    go_ret
    rw [Hf.out]
    exact ⟨rfl, rfl⟩
  · have Hf : Hid (mWidth s = timesW s.mrepeat) := by simp [Hid, mWidth, e, timesW]
    rw [e] at c0
    clear e
    go_enter Try.func85, Try.ntmps85
    go_wp2_with (go_at_call 109; refine (timesWidth_any _ _).mono ?_; rintro e w1 ⟨rfl, rfl⟩)
    go_ret
    rw [Hf.out]
    exact ⟨rfl, rfl⟩

set_option maxHeartbeats 400000 in
theorem before_any (hr : Row w b s v) (h1 : 1 ≤ s.mat) (h2 : s.mat ≤ 272) :
    Calls Try.prog 128 #[.pointer (some ⟨b, 6, none⟩)] w fun e w' => e = .returned (.int .i64 (before s)) ∧ Row w' b s v ∧ On b w w' := by
  have c0 := hr.c_mat
  have c1 := hr.c_mlen (s.mat.toNat - 1) (by omega)
  have Hf : Hid (before s = s.mlen (s.mat.toNat - 1)) := by rw [Hid, before, if_neg (by omega), show (s.mat - 1).toNat = s.mat.toNat - 1 by omega]
  go_enter Try.func128, Try.ntmps128
  go_wp2
  go_region
  go_wp2
  go_ret
  rw [Hf.out]
  exact ⟨rfl, hr.drew, (On.refl b w).drew⟩
end
end Go.Proofs.Ytmpfgdmdnghhgaa
