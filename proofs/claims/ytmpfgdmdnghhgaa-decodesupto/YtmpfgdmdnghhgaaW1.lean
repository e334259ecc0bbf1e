import Derived.Test.YtmpfgdmdnghhgaaHeap
import Derived.Deep.QuietTactic
import Derived.BigQuiet
namespace Go.Proofs.Ytmpfgdmdnghhgaa
open Go.RowKit Wr

theorem pow_lt64 (n : Nat) (h : n ≤ 40) : (2 : Int) ^ n ≤ 1099511627776 ∧ 1 ≤ (2 : Int) ^ n := by
  have h1 : (2 : Nat) ^ n ≤ 2 ^ 40 := Nat.pow_le_pow_right (by omega) h
  have h2 : 1 ≤ (2 : Nat) ^ n := Nat.one_le_two_pow
  have e : ((2 ^ n : Nat) : Int) = (2 : Int) ^ n := by simp
  have : (2 : Nat) ^ 40 = 1099511627776 := by decide
  omega

set_option maxHeartbeats 400000 in
theorem length_any (k : Int) (w : World) (h0 : 0 ≤ k) (h : k < 16) :
    Calls Try.prog 94 #[.int .i64 k] w fun e w' => e = .returned (.tuple #[.int .i64 (lenLeast k), .int .i64 (lenMore k)]) ∧ w' = w := by
  by_cases h8 : k < 8
  · have Hf : Hid (lenLeast k = 3 + k ∧ lenMore k = 0) := by simp [Hid, lenLeast, lenMore, h8]
    go_enter Try.func94, Try.ntmps94
    go_wp2
    go_ret2
    rw [Hf.out.1, Hf.out.2]
    exact ⟨rfl, rfl⟩
  · have Hf : Hid (lenLeast k = 9 + 2 ^ (k - 7).toNat ∧ lenMore k = k - 7) := by simp [Hid, lenLeast, lenMore, h8]
    have hp := pow_lt64 (k - 7).toNat (by omega)
    go_enter Try.func94, Try.ntmps94
    go_wp2
    go_ret2
    rw [Hf.out.1, Hf.out.2]
    exact ⟨rfl, rfl⟩

set_option maxHeartbeats 400000 in
theorem distance_any (d : Int) (w : World) (h0 : 4 ≤ d) (h : d < 16) :
    Calls Try.prog 96 #[.int .i64 d] w fun e w' => e = .returned (.tuple #[.int .i64 (distLeast d), .int .i64 (distMore d)]) ∧ w' = w := by
  have Hf : Hid (distLeast d = 2 ^ (d - 4).toNat ∧ distMore d = d - 4) := by simp [Hid, distLeast, distMore, show ¬ d < 4 by omega]
  have hp := pow_lt64 (d - 4).toNat (by omega)
  go_enter Try.func96, Try.ntmps96
  go_wp2
  go_ret2
  rw [Hf.out.1, Hf.out.2]
  exact ⟨rfl, rfl⟩

theorem near_eq (f : Nat → Int) (d : Int) : upd (upd (upd (upd f 3 (f 2)) 2 (f 1)) 1 (f 0)) 0 d = nearAdd f d := by
  funext j
  unfold upd nearAdd
  match j with
  | 0 => rfl
  | 1 => rfl
  | 2 => rfl
  | 3 => rfl
  | j + 4 => rw [if_neg (by omega), if_neg (by omega), if_neg (by omega), if_neg (by omega), if_neg (by omega), if_neg (by omega)]

section
variable {w : World} {b : Nat} {s : Rd} {v : Value}

set_option maxHeartbeats 400000 in
theorem ago_any (hr : Row w b s v) (d : Int) (h1 : 0 ≤ s.at_) (h2 : s.at_ < 4096) (h3 : 0 ≤ d) (h4 : d ≤ 4096) :
    Calls Try.prog 97 #[.pointer (some ⟨b, 1146, none⟩), .int .i64 d] w fun e w' => e = .returned (.int .u8 (agoP s d)) ∧ w' = w := by
  have hat := hr.c_at_
  have hc := hr.c_ring ((s.at_ + 4096 - d) % 4096).toNat (by omega)
  clear hr
  go_enter Try.func97, Try.ntmps97
  go_wp2
  go_ret
  exact ⟨rfl, rfl⟩

set_option maxHeartbeats 400000 in
theorem add_any (hr : Row w b s v) (c : Int) (h1 : 0 ≤ s.at_) (h2 : s.at_ < 4096) (h3 : 0 ≤ s.reach) (_h4 : s.window ≤ 4096) (h5 : s.reach ≤ 4096) :
    Calls Try.prog 111 #[.pointer (some ⟨b, 1146, none⟩), .int .u8 c] w fun e w' =>
      e = .returned (.tuple #[]) ∧ Row w' b (addRing s c) v ∧ On b w w' := by
  have hat := hr.c_at_
  have hwin := hr.c_window
  have hreach := hr.c_reach
  have hc := hr.c_ring s.at_.toNat (by omega)
  have hfz := hr.free
  by_cases hlt : s.reach < s.window
  · have Hf : Hid (addRing s c = { s with ring := upd s.ring s.at_.toNat c, at_ := (s.at_ + 1) % 4096, reach := s.reach + 1 }) := by simp [Hid, addRing, hlt]
    have HR : Hid (Row w b s v) := hr
    clear hr
    go_enter Try.func111, Try.ntmps111
    go_wp2
    go_region
    go_wp2
    go_region
    go_wp2
    go_end0
    rw [Hf.out]
    exact ⟨rfl, (((HR.out.ring _ (by omega) _).at_ _).reach _).drew.drew, ((((On.refl b w).set _ _).set _ _).set _ _).drew.drew⟩
  · have Hf : Hid (addRing s c = { s with ring := upd s.ring s.at_.toNat c, at_ := (s.at_ + 1) % 4096 }) := by simp [Hid, addRing, hlt]
    have HR : Hid (Row w b s v) := hr
    clear hr
    go_enter Try.func111, Try.ntmps111
    go_wp2
    go_region
    go_wp2
    go_region
    go_wp2
    go_end0
    rw [Hf.out]
    exact ⟨rfl, ((HR.out.ring _ (by omega) _).at_ _).drew.drew, (((On.refl b w).set _ _).set _ _).drew.drew⟩

set_option maxHeartbeats 400000 in
theorem nearAdd_any (hr : Row w b s v) (d : Int) :
    Calls Try.prog 76 #[.pointer (some ⟨b, 1142, none⟩), .int .i64 d] w fun e w' =>
      e = .returned (.tuple #[]) ∧ Row w' b { s with near := nearAdd s.near d } v ∧ On b w w' := by
  have h0 := hr.c_near 0 (by omega)
  have h1 := hr.c_near 1 (by omega)
  have h2 := hr.c_near 2 (by omega)
  have h3 := hr.c_near 3 (by omega)
  have hfz := hr.free
  have HR : Hid (Row w b s v) := hr
  clear hr
  go_enter Try.func76, Try.ntmps76
  go_wp2
  refine wp_loop_rounds 4 ?_
  rw [rounds_succ]
  go_wp2
  go_region
  go_wp2
  rw [rounds_succ]
  go_wp2
  go_region
  go_wp2
  rw [rounds_succ]
  go_wp2
  go_region
  go_wp2
  rw [rounds_succ]
  go_wp2
  go_end0
  refine ⟨rfl, ?_, (((((On.refl b w).set _ _).set _ _).set _ _).set _ _).drew.drew.drew⟩
  have R := ((((HR.out.near 3 (by omega) (s.near 2)).near 2 (by omega) (s.near 1)).near 1 (by omega) (s.near 0)).near 0 (by omega) d)
  rw [← near_eq]
  exact R.drew.drew.drew

theorem bits_mask (x : Int) (n : Nat) (h0 : 0 ≤ x) (h1 : x < 4611686018427387904) (hn : n ≤ 40) : bits BinOp.and IntKind.i64 x (2 ^ n - 1) = x % 2 ^ n := by
  obtain ⟨X, rfl⟩ := Int.eq_ofNat_of_zero_le h0
  have e : (2 : Int) ^ n - 1 = ((2 ^ n - 1 : Nat) : Int) := by
    have : 1 ≤ 2 ^ n := Nat.one_le_two_pow
    rw [Int.natCast_sub this, Int.natCast_pow]; rfl
  rw [e]
  have hp2 : (2 : Nat) ^ n ≤ 2 ^ 40 := Nat.pow_le_pow_right (by omega) hn
  have hX : X < 2 ^ 64 := by omega
  have hY : 2 ^ n - 1 < 2 ^ 64 := by omega
  show IntKind.i64.wrap (((BitVec.ofInt 64 (X : Int)) &&& (BitVec.ofInt 64 ((2 ^ n - 1 : Nat) : Int))).toNat : Int) = _
  rw [BitVec.toNat_and, BitVec.ofInt_natCast, BitVec.ofInt_natCast, BitVec.toNat_ofNat, BitVec.toNat_ofNat, Nat.mod_eq_of_lt hX, Nat.mod_eq_of_lt hY, Nat.and_two_pow_sub_one_eq_mod]
  have h3 : X % 2 ^ n ≤ X := Nat.mod_le _ _
  rw [IntKind.wrap_i64]
  have e2 : ((X : Int) % 2 ^ n) = ((X % 2 ^ n : Nat) : Int) := by simp
  rw [e2]
  generalize X % 2 ^ n = Y at *
  omega

set_option maxHeartbeats 400000 in
theorem nearUse_any (hr : Row w b s v) (k : Int) (h0 : 0 ≤ k) (h4 : k < 4) :
    Calls Try.prog 95 #[.pointer (some ⟨b, 1142, none⟩), .int .i64 k] w fun e w' =>
      e = .returned (.int .i64 (s.near k.toNat)) ∧ Row w' b (if 0 < k then { s with near := nearAdd s.near (s.near k.toNat) } else s) v ∧ On b w w' := by
  have hc := hr.c_near k.toNat (by omega)
  by_cases hk : 0 < k
  · rw [if_pos hk]
    go_enter Try.func95, Try.ntmps95
    go_wp2_with (go_at_call 76; refine (nearAdd_any hr _).mono ?_; rintro e w' ⟨rfl, hr1, hon⟩)
    go_ret
    exact ⟨rfl, hr1, hon⟩
  · rw [if_neg hk]
    go_enter Try.func95, Try.ntmps95
    go_wp2
    go_ret
    exact ⟨rfl, hr, On.refl _ _⟩

set_option maxHeartbeats 400000 in
theorem fill_any (hr : Row w b s v) (h1 : 0 ≤ s.hold) (h2 : s.hold < 1099511627776) (h3 : 0 ≤ s.have_) (h4 : s.have_ ≤ 40) :
    Calls Try.prog 86 #[.pointer (some ⟨b, 0, none⟩)] w fun e w' => e = .returned (.bool (fillOk s)) ∧ Row w' b (fillTo s) v ∧ On b w w' := by
  have c0 := hr.c_hold
  have c1 := hr.c_have_
  have c2 := hr.c_part
  have hfz := hr.free
  have hp := pow_lt64 (s.have_ % 8).toNat (by omega)
  have hm := bits_mask s.hold (s.have_ % 8).toNat h1 (by omega) (by omega)
  cases hk : fillOk s
  · have ht : (s.hold % 2 ^ (s.have_ % 8).toNat != 0) = true := by
      unfold fillOk at hk; rw [bne, hk]; rfl
    have Hf : Hid (fillTo s = fault s) := by simp [Hid, fillTo, hk]
    clear hk
    go_enter Try.func86, Try.ntmps86
    go_wp2
    go_ret
    rw [Hf.out]
    exact ⟨rfl, hr.part _, (On.refl b w).set _ _⟩
  · have ht : (s.hold % 2 ^ (s.have_ % 8).toNat != 0) = false := by
      unfold fillOk at hk; rw [bne, hk]; rfl
    have Hf : Hid (fillTo s = { s with hold := s.hold / 2 ^ (s.have_ % 8).toNat, have_ := s.have_ - s.have_ % 8 }) := by simp [Hid, fillTo, hk]
    clear hk
    go_enter Try.func86, Try.ntmps86
    go_wp2
    go_ret
    rw [Hf.out]
    exact ⟨rfl, (hr.hold _).have_ _, ((On.refl b w).set _ _).set _ _⟩

set_option maxHeartbeats 400000 in
theorem endBlock_any (hr : Row w b s v) (h1 : 0 ≤ s.hold) (h2 : s.hold < 1099511627776) (h3 : 0 ≤ s.have_) (h4 : s.have_ ≤ 40) :
    Calls Try.prog 87 #[.pointer (some ⟨b, 0, none⟩)] w fun e w' => e = .returned (.tuple #[]) ∧ Row w' b (endBlock s) v ∧ On b w w' := by
  have c3 := hr.c_last
  cases hl : s.last
  · rw [hl] at c3
    have c2 := hr.c_part
    have hfz := hr.free
    have Hf : Hid (endBlock s = { s with part := 1 }) := by simp [Hid, endBlock, hl]
    clear hl
    go_enter Try.func87, Try.ntmps87
    go_wp2
    refine bodyPost_ret (results_none rfl _ _ _) rfl ?_
    rw [Hf.out]
    exact ⟨rfl, hr.part _, (On.refl b w).set _ _⟩
  · rw [hl] at c3
    have hF := fill_any hr h1 h2 h3 h4
    cases hk : fillOk s
    · rw [hk] at hF
      have Hf : Hid (endBlock s = fillTo s) := by simp [Hid, endBlock, hl, hk]
      clear hl hk
      go_enter Try.func87, Try.ntmps87
      go_wp2_with (go_at_call 86; refine hF.mono ?_; rintro e w' ⟨rfl, hr1, hon⟩)
      go_end0
      rw [Hf.out]
      exact ⟨rfl, hr1, hon⟩
    · rw [hk] at hF
      have Hf : Hid (endBlock s = { fillTo s with part := 10 }) := by simp [Hid, endBlock, hl, hk]
      clear hl hk
      go_enter Try.func87, Try.ntmps87
      go_wp2_with (go_at_call 86; refine hF.mono ?_; rintro e w' ⟨rfl, hr1, hon⟩; have d2 := hr1.c_part; have df := hr1.free)
      go_end0
      rw [Hf.out]
      exact ⟨rfl, hr1.part _, hon.set _ _⟩
end
end Go.Proofs.Ytmpfgdmdnghhgaa
