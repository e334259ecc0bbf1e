import Derived.Test.YtmpfgdmdnghhgaaR1
import Derived.Test.YtmpfgdmdnghhgaaRefP2
namespace Go.Proofs.Ytmpfgdmdnghhgaa
open Go.RowKit Wr

set_option maxHeartbeats 1000000 in
theorem Rmore_any (w : World) (n : Nat) (c : Int) (h0 : 0 ≤ c) (h1 : c + 1 < 2 ^ n) (hn : n ≤ 12) :
    Calls Try.prog 115 #[.string (bstr n c)] w fun e w' => e = .returned (.string (bstr n (c + 1))) ∧ w' = w := by
  have hsz := bstr_size n c
  go_enter Try.func115, Try.ntmps115
  go_wp2
  go_loopw [3, 4] (fun vi vt wr => ∃ q j : Nat, q + j + 1 = n ∧ vi = .int .i64 q ∧ vt = .string (noughts j) ∧ Hid (c % 2 ^ j = 2 ^ j - 1) ∧ wr = w) (fun vi _ _ => (intOf vi).toNat)
  case atStart =>
    have hn0 : 0 < n := by
      rcases Nat.eq_zero_or_pos n with e | e
      · rw [e] at h1
        have : (2 : Int) ^ 0 = 1 := rfl
        omega
      · exact e
    exact ⟨n - 1, 0, by omega, by congr 1; omega, rfl, by show c % 1 = 1 - 1; omega, rfl⟩
  case round =>
    obtain ⟨q, j, hq, rfl, rfl, HM, rfl⟩ := hrel
    have hns := noughts_succ j
    have hqs : q < (bstr n c).size := by omega
    have hat := bstr_at hqs
    have hnj := noughts_size j
    rw [show n - 1 - q = j by omega] at hat
    have HE := fun (hz : c / 2 ^ j % 2 = 0) => more_eq (n := n) h0 (by omega) HM.out hz ⟨#[49]⟩ rfl
    rw [show n - 1 - j = q by omega] at HE
    generalize noughts j = NJ at *
    by_cases h2 : c / 2 ^ j % 2 = 1
    · have hd : digit c j = 49 := by unfold digit; rw [if_pos h2]
      rw [hd] at hat
      have hm2 : c % 2 ^ (j + 1) = 2 ^ (j + 1) - 1 := by
        rw [mod_step, HM.out, h2, Int.pow_succ]
        omega
      have hq1 : 1 ≤ q := by
        rcases Nat.eq_zero_or_pos q with e | e
        · exfalso
          rw [show j + 1 = n by omega, Int.emod_eq_of_lt h0 (by omega)] at hm2
          omega
        · exact e
      have HM2 : Hid (c % 2 ^ (j + 1) = 2 ^ (j + 1) - 1) := hm2
      clear hm2 hd HE HM h2 h0 h1
      generalize bstr n c = T at *
      go_wp2
      go_roundw
      case rel => exact ⟨q - 1, j + 1, by omega, by go_num, by rw [← hns]; rfl, HM2, trivial⟩
      case measure => simp [intOf]; omega
    · have hd : digit c j = 48 := by unfold digit; rw [if_neg h2]
      rw [hd] at hat
      have HE2 : Hid ((bstr n c).extract 0 q ++ ⟨#[49]⟩ ++ NJ = bstr n (c + 1)) := HE (by omega)
      clear HE HM h2 hd
      generalize bstr n c = T at *
      go_wp2
      go_ret
      rw [HE2.out]
      exact ⟨rfl, rfl⟩
end Go.Proofs.Ytmpfgdmdnghhgaa
