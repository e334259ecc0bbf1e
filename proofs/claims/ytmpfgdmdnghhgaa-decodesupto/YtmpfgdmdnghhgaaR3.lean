import Derived.Test.YtmpfgdmdnghhgaaR2
namespace Go.Proofs.Ytmpfgdmdnghhgaa
open Go.RowKit Wr

/-- a row of numbers -/
def Ints (w : World) (a : Option Addr) (n : Nat) (f : Nat → Int) : Prop :=
  n ≤ 272 ∧ (0 < n → ∃ ad, a = some ad ∧ ad.block < w.heap.size ∧ ∀ i, i < n → w.cell? (ad.add i) = some (.int .i64 (f i)))

theorem ad_block (ad : Addr) (k : Nat) : (ad.add k).block = ad.block := by
  unfold Addr.add
  split <;> rfl

theorem owns_slice {w : World} {B : Nat} {e : TypeId} {size : Nat} {v : Value} {n : Nat} {xs : List Value} (h : w.ownsRow B e size v n xs) : ∃ a c, v = .slice a n c := by
  rcases h.2 with ⟨h3, h4⟩ | ⟨g, cap, cur, hv, _⟩
  · exact ⟨none, 0, by rw [h3, h4]⟩
  · exact ⟨_, _, hv⟩

theorem parts_bound (f : Nat → Int) : ∀ n : Nat, 0 ≤ (countGo f n).2 ∧ (countGo f n).2 ≤ 4096 * n
  | 0 => ⟨Int.le_refl _, Int.le_refl _⟩
  | n + 1 => by
    obtain ⟨h1, h2⟩ := parts_bound f n
    unfold countGo
    dsimp only
    split
    · have hp : (2 : Int) ^ (12 - f n).toNat ≤ 4096 := pow_mono2 (show (12 - f n).toNat ≤ 12 by omega)
      have hq := pow_pos2 (12 - f n).toNat
      dsimp only
      omega
    · omega
theorem parts_succ {f : Nat → Int} {n : Nat} (h0 : 0 ≤ f n) (h1 : f n ≤ 12) : (countGo f (n + 1)).2 = (countGo f n).2 + if 0 < f n then 4096 / 2 ^ (f n).toNat else 0 := by
  conv => lhs; unfold countGo
  dsimp only
  split
  · rename_i h
    rw [if_pos h.1]
    dsimp only
    congr 1
    have e : (4096 : Int) = 2 ^ (f n).toNat * 2 ^ (12 - f n).toNat := by
      rw [← pow_add2, show (f n).toNat + (12 - f n).toNat = 12 by omega]
      rfl
    rw [e, Int.mul_ediv_cancel_left _ (by have := pow_pos2 (f n).toNat; omega)]
  · rw [if_neg (by omega), Int.add_zero]

set_option maxHeartbeats 1000000 in
theorem Rparts_any (w : World) (a : Option Addr) (n cap : Nat) (f : Nat → Int) (hI : Ints w a n f) (hf : ∀ i, i < n → 0 ≤ f i ∧ f i ≤ 12) :
    Calls Try.prog 99 #[.slice a n cap] w fun e w' => e = .returned (.int .i64 (countGo f n).2) ∧ w' = w := by
  obtain ⟨hn, hrow⟩ := hI
  go_enter Try.func99, Try.ntmps99
  go_wp2
  go_loopw [3, 4] (fun v vi wr => ∃ k : Nat, k ≤ n ∧ v = .int .i64 (countGo f k).2 ∧ vi = .int .i64 k ∧ wr = w) (fun _ vi _ => n - (intOf vi).toNat)
  case atStart => exact ⟨0, by omega, rfl, rfl, rfl⟩
  case round =>
    obtain ⟨k, hk, rfl, rfl, rfl⟩ := hrel
    by_cases hlt : k < n
    · obtain ⟨ad, rfl, hbb, hcell⟩ := hrow (by omega)
      have hck := hcell k hlt
      obtain ⟨f0, f1⟩ := hf k hlt
      have pb := parts_bound f k
      have HS : Hid ((countGo f (k + 1)).2 = (countGo f k).2 + if 0 < f k then 4096 / 2 ^ (f k).toNat else 0) := parts_succ f0 f1
      clear hcell hrow hf
      generalize (countGo f k).2 = V at *
      generalize f k = F at *
      go_wp2
      go_loopw [5, 6] (fun vp vm wq => ∃ j m : Nat, (j : Int) + m = F ∧ vp = .int .i64 (4096 / 2 ^ j) ∧ vm = .int .i64 m ∧ wq = wr) (fun _ vm _ => (intOf vm).toNat)
      case atStart => exact ⟨0, F.toNat, by omega, by rfl, by congr 1; omega, rfl⟩
      case round =>
        obtain ⟨j, m, hjm, rfl, rfl, rfl⟩ := hrel
        have e := half_pow 4096 j
        have hle : 0 ≤ (4096 : Int) / 2 ^ j ∧ (4096 : Int) / 2 ^ j ≤ 4096 := ⟨Int.ediv_nonneg (by omega) (by have := pow_pos2 j; omega), Int.ediv_le_self _ (by omega)⟩
        by_cases hm : 0 < m
        · generalize (4096 : Int) / 2 ^ j = Q at *
          go_wp2
          go_roundw
          case rel => exact ⟨j + 1, m - 1, by omega, by rw [← e], by go_num, trivial⟩
          case measure => simp [intOf]; omega
        · have hj : j = F.toNat := by omega
          have hS := HS.out
          rw [← hj] at hS
          clear HS e
          by_cases hF : 0 < F
          · rw [if_pos hF] at hS
            generalize (4096 : Int) / 2 ^ j = Q at *
            go_wp2
            go_roundw
            case rel => exact ⟨k + 1, by omega, by rw [hS], by go_num, trivial⟩
            case measure => simp [intOf]; omega
          · rw [if_neg hF, Int.add_zero] at hS
            generalize (4096 : Int) / 2 ^ j = Q at *
            go_wp2
            go_roundw
            case rel => exact ⟨k + 1, by omega, by rw [hS], by go_num, trivial⟩
            case measure => simp [intOf]; omega
    · have hkn : k = n := by omega
      subst hkn
      go_wp2
      go_ret
      exact ⟨rfl, rfl⟩
end Go.Proofs.Ytmpfgdmdnghhgaa
