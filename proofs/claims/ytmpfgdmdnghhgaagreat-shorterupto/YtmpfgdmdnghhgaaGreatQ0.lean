import Derived.Test.YtmpfgdmdnghhgaaGreatW17
namespace Go.Proofs.YtmpfgdmdnghhgaaGreat
open Go.RowKit Wr

def pickP (c n : Int) : Int := if c < 0 then (-(c + 1)) % n else c % n
theorem pickP_bounds (c n : Int) (hn : 1 ≤ n) : 0 ≤ pickP c n ∧ pickP c n < n := by
  unfold pickP
  split
  · exact ⟨Int.emod_nonneg _ (by omega), Int.emod_lt_of_pos _ (by omega)⟩
  · exact ⟨Int.emod_nonneg _ (by omega), Int.emod_lt_of_pos _ (by omega)⟩
def windowP (w : Int) : Int := if 0 ≤ w ∧ w ≤ 8 then w else pickP w 9
theorem windowP_bounds (w : Int) : 0 ≤ windowP w ∧ windowP w ≤ 8 := by
  unfold windowP
  split
  · assumption
  · have := pickP_bounds w 9 (by omega); omega

set_option maxHeartbeats 400000 in
theorem pick_any (w : World) (c n : Int) (h1 : -9223372036854775808 ≤ c) (h2 : c ≤ 9223372036854775807) (h3 : 1 ≤ n) (h4 : n ≤ 1000000) :
    Calls Tryz.prog 12 #[.int .i64 c, .int .i64 n] w fun e w' => e = .returned (.int .i64 (pickP c n)) ∧ w' = w := by
  by_cases hc : c < 0
  · have HE : Hid (pickP c n = -((c + 1).tmod n)) := by
      rw [Hid, pickP, if_pos hc, ← Int.neg_tmod, Int.tmod_eq_emod_of_nonneg (by omega)]
    go_enter Tryz.func12, Tryz.ntmps12
    go_wp2
    go_ret
    rw [HE.out]
    exact ⟨rfl, rfl⟩
  · have HE : Hid (pickP c n = c % n) := by rw [Hid, pickP, if_neg hc]
    go_enter Tryz.func12, Tryz.ntmps12
    go_wp2
    go_ret
    rw [HE.out]
    exact ⟨rfl, rfl⟩
set_option maxHeartbeats 400000 in
theorem window_any (w : World) (c : Int) (h1 : -9223372036854775808 ≤ c) (h2 : c ≤ 9223372036854775807) :
    Calls Tryz.prog 26 #[.int .i64 c] w fun e w' => e = .returned (.int .i64 (windowP c)) ∧ w' = w := by
  by_cases h0 : 0 ≤ c
  · by_cases h8 : c ≤ 8
    · have HE : Hid (windowP c = c) := by rw [Hid, windowP, if_pos ⟨h0, h8⟩]
      go_enter Tryz.func26, Tryz.ntmps26
      go_wp2
      go_ret
      rw [HE.out]
      exact ⟨rfl, rfl⟩
    · have HE : Hid (windowP c = pickP c 9) := by rw [Hid, windowP, if_neg (by omega)]
      have hP := pick_any w c 9 h1 h2 (by omega) (by omega)
      go_enter Tryz.func26, Tryz.ntmps26
      go_wp2_with (go_at_call 12; refine hP.mono ?_; rintro e w' ⟨rfl, rfl⟩)
      go_ret
      rw [HE.out]
      exact ⟨rfl, rfl⟩
  · have HE : Hid (windowP c = pickP c 9) := by rw [Hid, windowP, if_neg (by omega)]
    have hP := pick_any w c 9 h1 h2 (by omega) (by omega)
    go_enter Tryz.func26, Tryz.ntmps26
    go_wp2_with (go_at_call 12; refine hP.mono ?_; rintro e w' ⟨rfl, rfl⟩)
    go_ret
    rw [HE.out]
    exact ⟨rfl, rfl⟩
end Go.Proofs.YtmpfgdmdnghhgaaGreat
