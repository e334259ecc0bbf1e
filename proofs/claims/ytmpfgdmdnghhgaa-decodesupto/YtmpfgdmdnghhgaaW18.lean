import Derived.Test.YtmpfgdmdnghhgaaW17
import Derived.Test.YtmpfgdmdnghhgaaCopP
namespace Go.Proofs.Ytmpfgdmdnghhgaa
open Go.RowKit Wr

def pickP (c n : Int) : Int := if c < 0 then (-(c + 1)) % n else c % n
theorem pickP_bounds (c n : Int) (hn : 1 ≤ n) : 0 ≤ pickP c n ∧ pickP c n < n := by
  unfold pickP
  split
  · exact ⟨Int.emod_nonneg _ (by omega), Int.emod_lt_of_pos _ (by omega)⟩
  · exact ⟨Int.emod_nonneg _ (by omega), Int.emod_lt_of_pos _ (by omega)⟩
def windowP (w : Int) : Int := if 0 ≤ w ∧ w ≤ 8 then w else pickP w 9
theorem windowP_bounds (w : Int) : 0 ≤ windowP w ∧ windowP w ≤ 8 := by
  unfold windowP
  split
  · assumption
  · have := pickP_bounds w 9 (by omega); omega

set_option maxHeartbeats 400000 in
theorem pick_any (w : World) (c n : Int) (h1 : -9223372036854775808 ≤ c) (h2 : c ≤ 9223372036854775807) (h3 : 1 ≤ n) (h4 : n ≤ 1000000) :
    Calls Try.prog 14 #[.int .i64 c, .int .i64 n] w fun e w' => e = .returned (.int .i64 (pickP c n)) ∧ w' = w := by
  by_cases hc : c < 0
  · have HE : Hid (pickP c n = -((c + 1).tmod n)) := by
      rw [Hid, pickP, if_pos hc, ← Int.neg_tmod, Int.tmod_eq_emod_of_nonneg (by omega)]
    go_enter Try.func14, Try.ntmps14
    go_wp2
    go_ret
    rw [HE.out]
    exact ⟨rfl, rfl⟩
  · have HE : Hid (pickP c n = c % n) := by rw [Hid, pickP, if_neg hc]
    go_enter Try.func14, Try.ntmps14
    go_wp2
    go_ret
    rw [HE.out]
    exact ⟨rfl, rfl⟩

theorem info_int : (Try.prog.info? 3).map (fun i => (i.zero, i.size, i.bytes)) = some (some (.int .i64 0), 1, 8) := by kernel_rfl

theorem bit_one (x : Int) (h0 : 0 ≤ x) (h1 : x < 4611686018427387904) : bits BinOp.and IntKind.i64 x 1 = x % 2 := bits_mask x 1 h0 h1 (by omega)

set_option maxHeartbeats 1000000 in
theorem put_bits (w : World) (B : Nat) (v : Value) (l : List Int) (x : Int) (n : Nat) (hown : w.ownsRow B 3 1 v l.length (l.map (Value.int .i64))) (hB : B ≤ w.heap.size)
    (x0 : 0 ≤ x) (x1 : x < 1099511627776) (hn : n ≤ 40) (hl : l.length ≤ 1099511627776) :
    Calls Try.prog 11 #[v, .int .i64 x, .int .i64 n] w fun e w' => ∃ v', e = .returned v' ∧ w'.ownsRow B 3 1 v' (l ++ numBits x n).length ((l ++ numBits x n).map (Value.int .i64)) ∧ Below B w w' := by
  obtain ⟨i0, hi, hz0, hz1, hz2⟩ := info_parts info_int
  have HI : Hid (Try.prog.info? 3 = some i0 ∧ i0.zero = some (.int .i64 0) ∧ i0.size = 1 ∧ i0.bytes = 8) := ⟨hi, hz0, hz1, hz2⟩
  clear hi hz0 hz1 hz2
  go_enter Try.func11, Try.ntmps11
  go_wp2
  go_loopw [0, 7] (fun u vi wr => ∃ k : Nat, k ≤ n ∧ vi = .int .i64 k ∧ wr.ownsRow B 3 1 u (l ++ numBits x k).length ((l ++ numBits x k).map (Value.int .i64)) ∧ Below B w wr) (fun _ vi _ => n - (intOf vi).toNat)
  case atStart =>
    refine ⟨0, by omega, rfl, ?_, Below.refl _ _⟩
    have e : l ++ numBits x 0 = l := by simp [numBits]
    rw [e]
    exact hown
  case round =>
    obtain ⟨k, hk, rfl, hownk, hbk⟩ := hrel
    clear hown
    by_cases hlt : k < n
    · have hp := pow_lt64 k (by omega)
      have q0 : 0 ≤ x / 2 ^ k := Int.ediv_nonneg x0 (by omega)
      have q1 : x / 2 ^ k ≤ x := Int.ediv_le_self _ x0
      have hm := bit_one (x / 2 ^ k) q0 (by omega)
      have e1 : (l ++ numBits x k) ++ [x / 2 ^ k % 2] = l ++ numBits x (k + 1) := by rw [numBits_succ, List.append_assoc]
      have hlen : (l ++ numBits x k).length = l.length + k := by rw [List.length_append, numBits_length]
      have HL : Hid ((l ++ numBits x k).length = l.length + k) := hlen
      have HE : Hid ((l ++ numBits x k) ++ [x / 2 ^ k % 2] = l ++ numBits x (k + 1)) := e1
      have hBr := hbk.size
      clear e1 hlen
      generalize l ++ numBits x k = L at *
      go_wp2_with (at_builtin; refine wpList_append_own _ rfl _ _ 29 rfl B 3 i0 (.int .i64 0) 1 8 Try.underlying29 HI.out.1 HI.out.2.1 HI.out.2.2.1 HI.out.2.2.2 rfl (by decide) _ _ _ rfl (hownk.alloc _) ⟨wr.heap.size, 0, none⟩ 1 1 [.int .i64 (x / 2 ^ k % 2)] rfl rfl ?c1 ?c2 ?c3 ?c4 ?c5 ?_)
      case c1 =>
        intro j u hj
        match j, hj with
        | 0, hj => simp at hj; subst hj; simp [Addr.add]
      case c2 => intro u hu; simp at hu; subst hu; rfl
      case c3 => rw [HL.out]; unfold maxLen; omega
      case c4 => rw [HL.out]; omega
      case c5 => simp; omega
      · intro v' w1 hown' hgrow _
        have hb1 : Below B w w1 := (hbk.alloc (by omega) _).grown hgrow (by simp; omega) (owns_above hownk)
        have ho2 : w1.ownsRow B 3 1 v' (l ++ numBits x (k + 1)).length ((l ++ numBits x (k + 1)).map (Value.int .i64)) := by
          rw [← HE.out, List.length_append, List.map_append]
          exact hown'
        clear hown' hgrow hownk
        go_wp2
        go_roundw
        case rel => exact ⟨k + 1, by omega, by go_num, ho2, hb1⟩
        case measure => simp [intOf]; omega
    · have hkn : k = n := by omega
      subst hkn
      go_wp2
      go_ret
      exact ⟨_, rfl, hownk, hbk⟩
end Go.Proofs.Ytmpfgdmdnghhgaa
