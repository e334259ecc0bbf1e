import Derived.Test.YtmpfgdmdnghhgaaR5
namespace Go.Proofs.Ytmpfgdmdnghhgaa
open Go.RowKit Wr

set_option maxRecDepth 100000 in
set_option maxHeartbeats 1000000 in
theorem Rlength_any {w : World} {b : Nat} {S : ByteArray} {x : Sr} {vo vn vf : Value} (h : SRow w b S x vo vn vf) (hs : S.size ≤ 268435456) (ha : okAt S x) (k : Nat) (hk : k ≤ 15) :
    Calls Try.prog 80 #[.pointer (some ⟨b, 0, none⟩), .int .i64 k] w fun e w' => e = .returned (.int .i64 (lenLeast k + numV S x (k - 7))) ∧ SRow w' b S (numS S x (k - 7)) vo vn vf ∧ On b w w' := by
  by_cases h8 : k < 8
  · have e1 : lenLeast k + numV S x (k - 7) = 3 + k := by
      rw [show k - 7 = 0 by omega, numV_zero]
      unfold lenLeast
      rw [if_pos (by omega)]
      omega
    have e2 : numS S x (k - 7) = x := by rw [show k - 7 = 0 by omega, numS_zero ha]
    rw [e1, e2]
    clear e1 e2
    go_enter Try.func80, Try.ntmps80
    go_wp2
    go_ret
    exact ⟨rfl, h, On.refl b w⟩
  · have hC := fun (W : World) (hW : SRow W b S x vo vn vf) => Rnumber_any hW hs ha (k - 7) (by omega)
    rw [show ((k - 7 : Nat) : Int) = (k : Int) - 7 by omega] at hC
    have hv := numV_bounds S x (k - 7)
    have hp : (2 : Int) ^ (k - 7) ≤ 256 := pow_mono2 (show k - 7 ≤ 8 by omega)
    have e1 : lenLeast k = 9 + 2 ^ (k - 7) := by
      unfold lenLeast
      rw [if_neg (by omega), show ((k : Int) - 7).toNat = k - 7 by omega]
    rw [e1]
    clear e1
    generalize numV S x (k - 7) = V at *
    generalize numS S x (k - 7) = y at *
    go_enter Try.func80, Try.ntmps80
    go_wp2
    go_loopw [5, 6, 7] (fun vf' vm vi wr => ∃ i : Nat, 8 ≤ i ∧ i ≤ k ∧ vf' = .int .i64 (9 + 2 ^ (i - 7)) ∧ vm = .int .i64 (2 ^ (i - 7)) ∧ vi = .int .i64 i ∧ wr = w) (fun _ _ vi _ => k - (intOf vi).toNat)
    case atStart => exact ⟨8, by omega, by omega, rfl, rfl, rfl, rfl⟩
    case round =>
      obtain ⟨i, hi8, hik, rfl, rfl, rfl, rfl⟩ := hrel
      have hpi : (2 : Int) ^ (i - 7) ≤ 256 := pow_mono2 (show i - 7 ≤ 8 by omega)
      have hp1 := pow_pos2 (i - 7)
      by_cases hlt : i < k
      · have e : (2 : Int) ^ (i + 1 - 7) = 2 * 2 ^ (i - 7) := by
          rw [show i + 1 - 7 = i - 7 + 1 by omega, Int.pow_succ]
          omega
        generalize (2 : Int) ^ (i - 7) = P at *
        go_wp2
        go_roundw
        case rel => exact ⟨i + 1, by omega, by omega, by rw [e]; congr 1; omega, by rw [e], by go_num, by first | rfl | trivial⟩
        case measure => simp [intOf]; omega
      · have hki : i = k := by omega
        subst hki
        generalize hP : (2 : Int) ^ (i - 7) = P at *
        go_wp2_with (go_at_call 39; refine (hC _ h).mono ?_; rintro e w1 ⟨rfl, hr1, hon1⟩)
        go_ret
        rw [hP]
        exact ⟨rfl, hr1, hon1⟩
end Go.Proofs.Ytmpfgdmdnghhgaa
