import Derived.Test.YtmpfgdmdnghhgaaHeap
import Derived.Deep.QuietTactic
import Derived.BigQuiet
namespace Go.Proofs.Ytmpfgdmdnghhgaa
open Go.RowKit Wr

theorem pow_lt64 (n : Nat) (h : n ≤ 40) : (2 : Int) ^ n ≤ 1099511627776 ∧ 1 ≤ (2 : Int) ^ n := by
  have h1 : (2 : Nat) ^ n ≤ 2 ^ 40 := Nat.pow_le_pow_right (by omega) h
  have h2 : 1 ≤ (2 : Nat) ^ n := Nat.one_le_two_pow
  have e : ((2 ^ n : Nat) : Int) = (2 : Int) ^ n := by simp
  have : (2 : Nat) ^ 40 = 1099511627776 := by decide
  omega

set_option maxHeartbeats 400000 in
theorem length_any (k : Int) (w : World) (h0 : 0 ≤ k) (h : k < 16) :
    Calls Try.prog 94 #[.int .i64 k] w fun e w' => e = .returned (.tuple #[.int .i64 (lenLeast k), .int .i64 (lenMore k)]) ∧ w' = w := by
  by_cases h8 : k < 8
  · have Hf : Hid (lenLeast k = 3 + k ∧ lenMore k = 0) := by simp [Hid, lenLeast, lenMore, h8]
    go_enter Try.func94, Try.ntmps94
    go_wp2
    go_ret2
    rw [Hf.out.1, Hf.out.2]
    exact ⟨rfl, rfl⟩
  · have Hf : Hid (lenLeast k = 9 + 2 ^ (k - 7).toNat ∧ lenMore k = k - 7) := by simp [Hid, lenLeast, lenMore, h8]
    have hp := pow_lt64 (k - 7).toNat (by omega)
    go_enter Try.func94, Try.ntmps94
    go_wp2
    go_ret2
    rw [Hf.out.1, Hf.out.2]
    exact ⟨rfl, rfl⟩

set_option maxHeartbeats 400000 in
theorem distance_any (d : Int) (w : World) (h0 : 4 ≤ d) (h : d < 16) :
    Calls Try.prog 96 #[.int .i64 d] w fun e w' => e = .returned (.tuple #[.int .i64 (distLeast d), .int .i64 (distMore d)]) ∧ w' = w := by
  have Hf : Hid (distLeast d = 2 ^ (d - 4).toNat ∧ distMore d = d - 4) := by simp [Hid, distLeast, distMore, show ¬ d < 4 by omega]
  have hp := pow_lt64 (d - 4).toNat (by omega)
  go_enter Try.func96, Try.ntmps96
  go_wp2
  go_ret2
  rw [Hf.out.1, Hf.out.2]
  exact ⟨rfl, rfl⟩

theorem near_eq (f : Nat → Int) (d : Int) : upd (upd (upd (upd f 3 (f 2)) 2 (f 1)) 1 (f 0)) 0 d = nearAdd f d := by
  funext j
  unfold upd nearAdd
  match j with
  | 0 => rfl
  | 1 => rfl
  | 2 => rfl
  | 3 => rfl
  | j + 4 => rw [if_neg (by omega), if_neg (by omega), if_neg (by omega), if_neg (by omega), if_neg (by omega), if_neg (by omega)]

section
variable {w : World} {b : Nat} {s : Rd} {v : Value}

set_option maxHeartbeats 400000 in
theorem ago_any (hr : Row w b s v) (d : Int) (h1 : 0 ≤ s.at_) (h2 : s.at_ < 4096) (h3 : 0 ≤ d) (h4 : d ≤ 4096) :
    Calls Try.prog 97 #[.pointer (some ⟨b, 1146, none⟩), .int .i64 d] w fun e w' => e = .returned (.int .u8 (agoP s d)) ∧ w' = w := by
  have hat := hr.c_at_
  have hc := hr.c_ring ((s.at_ + 4096 - d) % 4096).toNat (by omega)
  clear hr
  go_enter Try.func97, Try.ntmps97
  go_wp2
  go_ret
  exact ⟨rfl, rfl⟩

set_option maxHeartbeats 400000 in
theorem add_any (hr : Row w b s v) (c : Int) (h1 : 0 ≤ s.at_) (h2 : s.at_ < 4096) (h3 : 0 ≤ s.reach) (_h4 : s.window ≤ 4096) (h5 : s.reach ≤ 4096) :
    Calls Try.prog 111 #[.pointer (some ⟨b, 1146, none⟩), .int .u8 c] w fun e w' =>
      e = .returned (.tuple #[]) ∧ Row w' b (addRing s c) v ∧ On b w w' := by
  have hat := hr.c_at_
  have hwin := hr.c_window
  have hreach := hr.c_reach
  have hc := hr.c_ring s.at_.toNat (by omega)
  have hfz := hr.free
  by_cases hlt : s.reach < s.window
  · have Hf : Hid (addRing s c = { s with ring := upd s.ring s.at_.toNat c, at_ := (s.at_ + 1) % 4096, reach := s.reach + 1 }) := by simp [Hid, addRing, hlt]
    have HR : Hid (Row w b s v) := hr
    clear hr
    go_enter Try.func111, Try.ntmps111
    go_wp2
    go_region
    go_wp2
    go_region
    go_wp2
    go_end0
    rw [Hf.out]
    exact ⟨rfl, (((HR.out.ring _ (by omega) _).at_ _).reach _).drew.drew, ((((On.refl b w).set _ _).set _ _).set _ _).drew.drew⟩
  · have Hf : Hid (addRing s c = { s with ring := upd s.ring s.at_.toNat c, at_ := (s.at_ + 1) % 4096 }) := by simp [Hid, addRing, hlt]
    have HR : Hid (Row w b s v) := hr
    clear hr
    go_enter Try.func111, Try.ntmps111
    go_wp2
    go_region
    go_wp2
    go_region
    go_wp2
    go_end0
    rw [Hf.out]
    exact ⟨rfl, ((HR.out.ring _ (by omega) _).at_ _).drew.drew, (((On.refl b w).set _ _).set _ _).drew.drew⟩

set_option maxHeartbeats 400000 in
theorem nearAdd_any (hr : Row w b s v) (d : Int) :
    Calls Try.prog 76 #[.pointer (some ⟨b, 1142, none⟩), .int .i64 d] w fun e w' =>
      e = .returned (.tuple #[]) ∧ Row w' b { s with near := nearAdd s.near d } v ∧ On b w w' := by
  have h0 := hr.c_near 0 (by omega)
  have h1 := hr.c_near 1 (by omega)
  have h2 := hr.c_near 2 (by omega)
  have h3 := hr.c_near 3 (by omega)
  have hfz := hr.free
  have HR : Hid (Row w b s v) := hr
  clear hr
  go_enter Try.func76, Try.ntmps76
  go_wp2
  refine wp_loop_rounds 4 ?_
  rw [rounds_succ]
  go_wp2
  go_region
  go_wp2
  rw [rounds_succ]
  go_wp2
  go_region
  go_wp2
  rw [rounds_succ]
  go_wp2
  go_region
  go_wp2
  rw [rounds_succ]
  go_wp2
  go_end0
  refine ⟨rfl, ?_, (((((On.refl b w).set _ _).set _ _).set _ _).set _ _).drew.drew.drew⟩
  have R := ((((HR.out.near 3 (by omega) (s.near 2)).near 2 (by omega) (s.near 1)).near 1 (by omega) (s.near 0)).near 0 (by omega) d)
  rw [← near_eq]
  exact R.drew.drew.drew

theorem bits_mask (x : Int) (n : Nat) (h0 : 0 ≤ x) (h1 : x < 4611686018427387904) (hn : n ≤ 40) : bits BinOp.and IntKind.i64 x (2 ^ n - 1) = x % 2 ^ n := by
  obtain ⟨X, rfl⟩ := Int.eq_ofNat_of_zero_le h0
  have e : (2 : Int) ^ n - 1 = ((2 ^ n - 1 : Nat) : Int) := by
    have : 1 ≤ 2 ^ n := Nat.one_le_two_pow
    rw [Int.natCast_sub this, Int.natCast_pow]; rfl
  rw [e]
  have hp2 : (2 : Nat) ^ n ≤ 2 ^ 40 := Nat.pow_le_pow_right (by omega) hn
  have hX : X < 2 ^ 64 := by omega
  have hY : 2 ^ n - 1 < 2 ^ 64 := by omega
  show IntKind.i64.wrap (((BitVec.ofInt 64 (X : Int)) &&& (BitVec.ofInt 64 ((2 ^ n - 1 : Nat) : Int))).toNat : Int) = _
  rw [BitVec.toNat_and, BitVec.ofInt_natCast, BitVec.ofInt_natCast, BitVec.toNat_ofNat, BitVec.toNat_ofNat, Nat.mod_eq_of_lt hX, Nat.mod_eq_of_lt hY, Nat.and_two_pow_sub_one_eq_mod]
  have h3 : X % 2 ^ n ≤ X := Nat.mod_le _ _
  rw [IntKind.wrap_i64]
  have e2 : ((X : Int) % 2 ^ n) = ((X % 2 ^ n : Nat) : Int) := by simp
  rw [e2]
  generalize X % 2 ^ n = Y at *
  omega

set_option maxHeartbeats 400000 in
theorem nearUse_any (hr : Row w b s v) (k : Int) (h0 : 0 ≤ k) (h4 : k < 4) :
    Calls Try.prog 95 #[.pointer (some ⟨b, 1142, none⟩), .int .i64 k] w fun e w' =>
      e = .returned (.int .i64 (s.near k.toNat)) ∧ Row w' b (if 0 < k then { s with near := nearAdd s.near (s.near k.toNat) } else s) v ∧ On b w w' := by
  have hc := hr.c_near k.toNat (by omega)
  by_cases hk : 0 < k
  · rw [if_pos hk]
    go_enter Try.func95, Try.ntmps95
    go_wp2_with (go_at_call 76; refine (nearAdd_any hr _).mono ?_; rintro e w' ⟨rfl, hr1, hon⟩)
    go_ret
    exact ⟨rfl, hr1, hon⟩
  · rw [if_neg hk]
    go_enter Try.func95, Try.ntmps95
    go_wp2
    go_ret
    exact ⟨rfl, hr, On.refl _ _⟩

set_option maxHeartbeats 400000 in
theorem fill_any (hr : Row w b s v) (h1 : 0 ≤ s.hold) (h2 : s.hold < 1099511627776) (h3 : 0 ≤ s.have_) (h4 : s.have_ ≤ 40) :
    Calls Try.prog 86 #[.pointer (some ⟨b, 0, none⟩)] w fun e w' => e = .returned (.bool (fillOk s)) ∧ Row w' b (fillTo s) v ∧ On b w w' := by
  have c0 := hr.c_hold
  have c1 := hr.c_have_
  have c2 := hr.c_part
  have hfz := hr.free
  have hp := pow_lt64 (s.have_ % 8).toNat (by omega)
  have hm := bits_mask s.hold (s.have_ % 8).toNat h1 (by omega) (by omega)
  cases hk : fillOk s
  · have ht : (s.hold % 2 ^ (s.have_ % 8).toNat != 0) = true := by
      unfold fillOk at hk; rw [bne, hk]; rfl
    have Hf : Hid (fillTo s = fault s) := by simp [Hid, fillTo, hk]
    clear hk
    go_enter Try.func86, Try.ntmps86
    go_wp2
    go_ret
    rw [Hf.out]
    exact ⟨rfl, hr.part _, (On.refl b w).set _ _⟩
  · have ht : (s.hold % 2 ^ (s.have_ % 8).toNat != 0) = false := by
      unfold fillOk at hk; rw [bne, hk]; rfl
    have Hf : Hid (fillTo s = { s with hold := s.hold / 2 ^ (s.have_ % 8).toNat, have_ := s.have_ - s.have_ % 8 }) := by simp [Hid, fillTo, hk]
    clear hk
    go_enter Try.func86, Try.ntmps86
    go_wp2
    go_ret
    rw [Hf.out]
    exact ⟨rfl, (hr.hold _).have_ _, ((On.refl b w).set _ _).set _ _⟩

set_option maxHeartbeats 400000 in
theorem endBlock_any (hr : Row w b s v) (h1 : 0 ≤ s.hold) (h2 : s.hold < 1099511627776) (h3 : 0 ≤ s.have_) (h4 : s.have_ ≤ 40) :
    Calls Try.prog 87 #[.pointer (some ⟨b, 0, none⟩)] w fun e w' => e = .returned (.tuple #[]) ∧ Row w' b (endBlock s) v ∧ On b w w' := by
  have c3 := hr.c_last
  cases hl : s.last
  · rw [hl] at c3
    have c2 := hr.c_part
    have hfz := hr.free
    have Hf : Hid (endBlock s = { s with part := 1 }) := by simp [Hid, endBlock, hl]
    clear hl
    go_enter Try.func87, Try.ntmps87
    go_wp2
    refine bodyPost_ret (results_none rfl _ _ _) rfl ?_
    rw [Hf.out]
    exact ⟨rfl, hr.part _, (On.refl b w).set _ _⟩
  · rw [hl] at c3
    have hF := fill_any hr h1 h2 h3 h4
    cases hk : fillOk s
    · rw [hk] at hF
      have Hf : Hid (endBlock s = fillTo s) := by simp [Hid, endBlock, hl, hk]
      clear hl hk
      go_enter Try.func87, Try.ntmps87
      go_wp2_with (go_at_call 86; refine hF.mono ?_; rintro e w' ⟨rfl, hr1, hon⟩)
      go_end0
      rw [Hf.out]
      exact ⟨rfl, hr1, hon⟩
    · rw [hk] at hF
      have Hf : Hid (endBlock s = { fillTo s with part := 10 }) := by simp [Hid, endBlock, hl, hk]
      clear hl hk
      go_enter Try.func87, Try.ntmps87
      go_wp2_with (go_at_call 86; refine hF.mono ?_; rintro e w' ⟨rfl, hr1, hon⟩; have d2 := hr1.c_part; have df := hr1.free)
      go_end0
      rw [Hf.out]
      exact ⟨rfl, hr1.part _, hon.set _ _⟩
end
end Go.Proofs.Ytmpfgdmdnghhgaa

namespace Go.Proofs.Ytmpfgdmdnghhgaa
open Go.RowKit Wr

theorem pow_mono {n m : Nat} (h : n ≤ m) : (2 : Int) ^ n ≤ 2 ^ m := by
  have h1 := Nat.pow_le_pow_right (n := 2) (by omega) h
  have e : ∀ k : Nat, ((2 ^ k : Nat) : Int) = (2 : Int) ^ k := fun k => by rw [Int.natCast_pow]; rfl
  rw [← e, ← e]
  exact Int.ofNat_le.2 h1

theorem ret2_int {a b c d : Int} (h : a = c) (k : b = d) : Ending.returned (.tuple #[.int .i64 a, .int .i64 b]) = .returned (.tuple #[.int .i64 c, .int .i64 d]) := by rw [h, k]

theorem find_step {cnt sym : Nat → Int} {hold have_ : Int} {f len : Nat} {bits first ahead : Int} (h1 : len ≤ 12) (h2 : (len : Int) ≤ have_)
    (h : ¬ (bits - first < cnt len ∧ 0 ≤ ahead + bits - first ∧ ahead + bits - first < 272)) :
    findGo cnt sym hold have_ (f + 1) len bits first ahead =
      findGo cnt sym hold have_ f (len + 1) (2 * bits + hold / 2 ^ len % 2) (2 * (first + cnt len)) (ahead + cnt len) := by
  conv => lhs; unfold findGo
  rw [if_pos ⟨h1, h2⟩, if_neg h]
theorem find_hit {cnt sym : Nat → Int} {hold have_ : Int} {f len : Nat} {bits first ahead : Int} (h1 : len ≤ 12) (h2 : (len : Int) ≤ have_)
    (h : bits - first < cnt len ∧ 0 ≤ ahead + bits - first ∧ ahead + bits - first < 272) :
    findGo cnt sym hold have_ (f + 1) len bits first ahead = (sym (ahead + bits - first).toNat, (len : Int)) := by
  conv => lhs; unfold findGo
  rw [if_pos ⟨h1, h2⟩, if_pos h]
theorem find_end {cnt sym : Nat → Int} {hold have_ : Int} {f len : Nat} {bits first ahead : Int} (h : ¬ (len ≤ 12 ∧ (len : Int) ≤ have_)) :
    findGo cnt sym hold have_ f len bits first ahead = (0, have_ + 1) := by
  cases f with
  | zero => rfl
  | succ f => conv => lhs; unfold findGo
              rw [if_neg h]

set_option maxHeartbeats 1000000 in
theorem Find_any (w : World) (b o : Nat) (cnt sym : Nat → Int) (hold have_ : Int)
    (hc : ∀ i : Nat, i < 13 → w.cell? ⟨b, o + i, none⟩ = some (.int .i64 (cnt i))) (hs : ∀ i : Nat, i < 272 → w.cell? ⟨b, o + 13 + i, none⟩ = some (.int .i64 (sym i)))
    (hb : ∀ i : Nat, i < 13 → 0 ≤ cnt i ∧ cnt i ≤ 300) (h1 : 0 ≤ hold) (h2 : hold < 1099511627776) (h3 : 0 ≤ have_) (h4 : have_ ≤ 40) :
    Calls Try.prog 67 #[.pointer (some ⟨b, o, none⟩), .int .i64 hold, .int .i64 have_] w fun e w' =>
      e = .returned (.tuple #[.int .i64 (find cnt sym hold have_).1, .int .i64 (find cnt sym hold have_).2]) ∧ w' = w := by
  go_enter Try.func67, Try.ntmps67
  go_wp2
  go_loop [8, 9, 10, 11] (fun vb vf va vl => ∃ (len : Nat) (bits first ahead : Int), len ≤ 13 ∧ (len : Int) ≤ have_ + 1 ∧ vb = .int .i64 bits ∧ vf = .int .i64 first ∧ va = .int .i64 ahead ∧ vl = .int .i64 len ∧
      0 ≤ bits ∧ bits < 2 ^ len ∧ 0 ≤ first ∧ first ≤ 600 * 2 ^ len - 600 ∧ 0 ≤ ahead ∧ ahead ≤ 300 * len ∧ Hid (findGo cnt sym hold have_ (14 - len) len bits first ahead = find cnt sym hold have_)) (fun _ _ _ vl => 14 - (intOf vl).toNat)
  case atStart => exact ⟨0, 0, 0, 0, by omega, by omega, rfl, rfl, rfl, rfl, by omega, by decide, by omega, by decide, by omega, by omega, rfl⟩
  case round =>
    obtain ⟨len, bts, first, ahead, hl1, hl2, rfl, rfl, rfl, rfl, hb1, hb2, hf1, hf2, ha1, ha2, HF⟩ := hrel
    have hp := pow_lt64 len (by omega)
    have hp13 : (2 : Int) ^ len ≤ 8192 := pow_mono hl1
    by_cases hlt : len ≤ 12 ∧ (len : Int) ≤ have_
    · obtain ⟨hlt1, hlt2⟩ := hlt
      have hcl := hc len (by omega)
      have hbl := hb len (by omega)
      have hq : 0 ≤ hold / 2 ^ len := Int.ediv_nonneg h1 (by omega)
      have hq2 : hold / 2 ^ len ≤ hold := Int.ediv_le_self _ h1
      have hm := bits_mask (hold / 2 ^ len) 1 hq (by omega) (by omega)
      have hm1 : bits BinOp.and IntKind.i64 (hold / 2 ^ len) 1 = hold / 2 ^ len % 2 := hm
      clear hm
      by_cases hit : bts - first < cnt len ∧ 0 ≤ ahead + bts - first ∧ ahead + bts - first < 272
      · have HE : Hid (find cnt sym hold have_ = (sym (ahead + bts - first).toNat, (len : Int))) := by
          have := HF.out
          rw [show 14 - len = (13 - len) + 1 by omega, find_hit hlt1 hlt2 hit] at this
          exact this.symm
        obtain ⟨hit1, hit2, hit3⟩ := hit
        have hsl := hs (ahead + bts - first).toNat (by omega)
        clear hs hc hb HF
        go_wp2
        go_ret2
        rw [HE.out]
        exact ⟨rfl, rfl⟩
      · have HE : Hid (findGo cnt sym hold have_ (13 - len) (len + 1) (2 * bts + hold / 2 ^ len % 2) (2 * (first + cnt len)) (ahead + cnt len) = find cnt sym hold have_) := by
          have := HF.out
          rw [show 14 - len = (13 - len) + 1 by omega, find_step hlt1 hlt2 hit] at this
          exact this
        have hp2 : (2 : Int) ^ (len + 1) = 2 * 2 ^ len := by rw [Int.pow_succ]; omega
        clear hs hc HF
        go_wp2
        all_goals
          go_round
          case rel =>
            refine ⟨len + 1, _, _, _, by omega, by omega, rfl, rfl, rfl, by go_num, by omega, by omega, by omega, by omega, by omega, by omega, ?_⟩
            rw [show 14 - (len + 1) = 13 - len by omega]
            exact HE
          case measure => simp [intOf]; omega
    · have HE : Hid (find cnt sym hold have_ = (0, have_ + 1)) := by
        have := HF.out
        rw [find_end hlt] at this
        exact this.symm
      clear hs hc hb HF
      by_cases hlt1 : len ≤ 12
      · have hlt2 : ¬ (len : Int) ≤ have_ := fun h => hlt ⟨hlt1, h⟩
        clear hlt
        go_wp2
        go_ret2
        rw [HE.out]
        exact ⟨rfl, rfl⟩
      · clear hlt
        go_wp2
        go_ret2
        rw [HE.out]
        exact ⟨rfl, rfl⟩

section
variable {w : World} {b : Nat} {s : Rd} {v : Value}

set_option maxHeartbeats 400000 in
theorem begin_any (hr : Row w b s v) (size width : Int) :
    Calls Try.prog 110 #[.pointer (some ⟨b, 6, none⟩), .int .i64 size, .int .i64 width] w fun e w' =>
      e = .returned (.tuple #[]) ∧ Row w' b (Wr.begin s size width) v ∧ On b w w' := by
  have c0 := hr.c_msize
  have c1 := hr.c_mwidth
  have c2 := hr.c_mstep
  have c3 := hr.c_mat
  have hfz := hr.free
  go_enter Try.func110, Try.ntmps110
  go_wp2
  go_end0
  exact ⟨rfl, (((hr.msize _).mwidth _).mstep _).mat _, ((((On.refl b w).set _ _).set _ _).set _ _).set _ _⟩

set_option maxHeartbeats 400000 in
theorem Letters_any (hr : Row w b s v) :
    Calls Try.prog 88 #[.pointer (some ⟨b, 6, none⟩)] w fun e w' =>
      e = .returned (.tuple #[]) ∧ Row w' b (Wr.begin s 272 9) v ∧ On b w w' := by
  go_enter Try.func88, Try.ntmps88
  go_wp2_with (go_at_call 110; refine (begin_any hr _ _).mono ?_; rintro e w' ⟨rfl, hr1, hon⟩)
  go_end0
  exact ⟨rfl, hr1, hon⟩

set_option maxHeartbeats 400000 in
theorem Distances_any (hr : Row w b s v) :
    Calls Try.prog 92 #[.pointer (some ⟨b, 6, none⟩)] w fun e w' =>
      e = .returned (.tuple #[]) ∧ Row w' b (Wr.begin s 16 4) v ∧ On b w w' := by
  go_enter Try.func92, Try.ntmps92
  go_wp2_with (go_at_call 110; refine (begin_any hr _ _).mono ?_; rintro e w' ⟨rfl, hr1, hon⟩)
  go_end0
  exact ⟨rfl, hr1, hon⟩

def timesW (r : Int) : Int := if r = 13 then 2 else if r = 14 then 3 else 6
set_option maxHeartbeats 400000 in
theorem timesWidth_any (w : World) (r : Int) :
    Calls Try.prog 109 #[.int .i64 r] w fun e w' => e = .returned (.int .i64 (timesW r)) ∧ w' = w := by
  by_cases e13 : r = 13
  · have Hf : Hid (timesW r = 2) := by simp [Hid, timesW, e13]
    subst e13
    go_enter Try.func109, Try.ntmps109
    go_wp2
    go_ret
    rw [Hf.out]
    exact ⟨rfl, rfl⟩
  · by_cases e14 : r = 14
    · have Hf : Hid (timesW r = 3) := by simp [Hid, timesW, e14]
      subst e14
      go_enter Try.func109, Try.ntmps109
      go_wp2
      go_ret
      rw [Hf.out]
      exact ⟨rfl, rfl⟩
    · have Hf : Hid (timesW r = 6) := by simp [Hid, timesW, e13, e14]
      have b13 : (r == 13) = false := beq_eq_false_iff_ne.2 e13
      have b14 : (r == 14) = false := beq_eq_false_iff_ne.2 e14
      clear e13 e14
      go_enter Try.func109, Try.ntmps109
      go_wp2
      go_ret
      rw [Hf.out]
      exact ⟨rfl, rfl⟩

set_option maxHeartbeats 400000 in
theorem Width_any (hr : Row w b s v) (h0 : 0 ≤ s.mstep) (h4 : s.mstep ≤ 4) :
    Calls Try.prog 85 #[.pointer (some ⟨b, 6, none⟩)] w fun e w' => e = .returned (.int .i64 (mWidth s)) ∧ w' = w := by
  have c0 := hr.c_mstep
  have c1 := hr.c_mwidth
  have c2 := hr.c_mrepeat
  have hc : s.mstep = 0 ∨ s.mstep = 1 ∨ s.mstep = 2 ∨ s.mstep = 3 ∨ s.mstep = 4 := by omega
  rcases hc with e | e | e | e | e
  · have Hf : Hid (mWidth s = 1) := by simp [Hid, mWidth, e]
    rw [e] at c0
    clear e
    go_enter Try.func85, Try.ntmps85
    go_wp2
    go_ret
    rw [Hf.out]
    exact ⟨rfl, rfl⟩
  · have Hf : Hid (mWidth s = 2) := by simp [Hid, mWidth, e]
    rw [e] at c0
    clear e
    go_enter Try.func85, Try.ntmps85
    go_wp2
    go_ret
    rw [Hf.out]
    exact ⟨rfl, rfl⟩
  · have Hf : Hid (mWidth s = s.mwidth) := by simp [Hid, mWidth, e]
    rw [e] at c0
    clear e
    go_enter Try.func85, Try.ntmps85
    go_wp2
    go_ret
    rw [Hf.out]
    exact ⟨rfl, rfl⟩
  · have Hf : Hid (mWidth s = 4) := by simp [Hid, mWidth, e]
    rw [e] at c0
    clear e
    go_enter Try.func85, Try.ntmps85
    go_wp2
    go_ret
    rw [Hf.out]
    exact ⟨rfl, rfl⟩
  · have Hf : Hid (mWidth s = timesW s.mrepeat) := by simp [Hid, mWidth, e, timesW]
    rw [e] at c0
    clear e
    go_enter Try.func85, Try.ntmps85
    go_wp2_with (go_at_call 109; refine (timesWidth_any _ _).mono ?_; rintro e w1 ⟨rfl, rfl⟩)
    go_ret
    rw [Hf.out]
    exact ⟨rfl, rfl⟩

set_option maxHeartbeats 400000 in
theorem before_any (hr : Row w b s v) (h1 : 1 ≤ s.mat) (h2 : s.mat ≤ 272) :
    Calls Try.prog 128 #[.pointer (some ⟨b, 6, none⟩)] w fun e w' => e = .returned (.int .i64 (before s)) ∧ Row w' b s v ∧ On b w w' := by
  have c0 := hr.c_mat
  have c1 := hr.c_mlen (s.mat.toNat - 1) (by omega)
  have Hf : Hid (before s = s.mlen (s.mat.toNat - 1)) := by rw [Hid, before, if_neg (by omega), show (s.mat - 1).toNat = s.mat.toNat - 1 by omega]
  go_enter Try.func128, Try.ntmps128
  go_wp2
  go_region
  go_wp2
  go_ret
  rw [Hf.out]
  exact ⟨rfl, hr.drew, (On.refl b w).drew⟩
end
end Go.Proofs.Ytmpfgdmdnghhgaa
