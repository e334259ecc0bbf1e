import Derived.Test.YtmpfgdmdnghhgaaR8
namespace Go.Proofs.Ytmpfgdmdnghhgaa
open Go.RowKit Wr

set_option maxRecDepth 100000 in
set_option maxHeartbeats 1000000 in
theorem Rcode_any {w : World} {b : Nat} {S : ByteArray} {x : Sr} {vo vn vf : Value} (h : SRow w b S x vo vn vf) (hs : S.size ≤ 268435456) (ha : okAt S x) (N sz : Nat) (hN : N ≤ 272) (hsz : sz ≤ 9) :
    Calls Try.prog 61 #[.pointer (some ⟨b, 0, none⟩), .int .i64 N, .int .i64 sz] w fun e w' => ∃ v, e = .returned v ∧ SRow w' b S (codeS S N sz x) vo vn vf ∧ On b w w' ∧ Words w' v (wsIf (codeS S N sz x) (codeC S N sz x)) ∧ (∀ g, v.ownBlock = some g → w.heap.size ≤ g) := by
  have hB := Rbit_any h hs ha
  have hb := bitV_bounds S x
  have hok := bitS_ok ha
  by_cases h0 : bitV S x = 0
  · have HS : Hid (codeS S N sz x = (simpR S N sz (bitS S x)).2 ∧ codeC S N sz x = simpC S N sz (bitS S x)) := by
      unfold codeS codeC
      rw [if_pos h0, if_pos h0]
      exact ⟨rfl, rfl⟩
    have hC := fun (W : World) (hW : SRow W b S (bitS S x) vo vn vf) => Rsimple_any hW hs hok N sz hN hsz
    rw [h0] at hB
    clear h0 hb
    go_enter Try.func61, Try.ntmps61
    go_wp2_with (first
      | (go_at_call 78; refine (hC _ hr1).mono ?_; rintro e w2 ⟨v, rfl, hr2, hon2, hw2, hf2⟩)
      | (go_at_call 50; refine hB.mono ?_; rintro e w1 ⟨rfl, hr1, hon1⟩))
    go_ret
    rw [HS.out.1, HS.out.2]
    exact ⟨_, rfl, hr2, hon1.trans hon2, hw2, fun g hg => Nat.le_trans hon1.size (hf2 g hg)⟩
  · have HS : Hid (codeS S N sz x = fullS S N (bitS S x) ∧ codeC S N sz x = fullC S N (bitS S x)) := by
      unfold codeS codeC
      rw [if_neg h0, if_neg h0]
      exact ⟨rfl, rfl⟩
    have hC := fun (W : World) (hW : SRow W b S (bitS S x) vo vn vf) => Rfull_any hW hs hok N hN
    rw [show bitV S x = 1 by omega] at hB
    clear h0 hb
    go_enter Try.func61, Try.ntmps61
    go_wp2_with (first
      | (go_at_call 79; refine (hC _ hr1).mono ?_; rintro e w2 ⟨v, rfl, hr2, hon2, hw2, hf2⟩)
      | (go_at_call 50; refine hB.mono ?_; rintro e w1 ⟨rfl, hr1, hon1⟩))
    go_ret
    rw [HS.out.1, HS.out.2]
    exact ⟨_, rfl, hr2, hon1.trans hon2, hw2, fun g hg => Nat.le_trans hon1.size (hf2 g hg)⟩
end Go.Proofs.Ytmpfgdmdnghhgaa
