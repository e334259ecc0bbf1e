import Derived.Test.YtmpfgdmdnghhgaaGreatQ4
import Derived.Test.YtmpfgdmdnghhgaaGreatX2
import Derived.Deep.RegionHeld3
import Derived.Deep.DeepCutAuto
namespace Go.Proofs.YtmpfgdmdnghhgaaGreat
open Go.RowKit Wr

set_option maxHeartbeats 1000000 in
theorem again_any (w : World) (t : ByteArray) (n : Nat) (ht : 1 ≤ t.size) (ht2 : t.size ≤ 1099511627776) (hn : n ≤ 1099511627776) :
    Calls Tryz.prog 19 #[.string t, .int .i64 n] w fun e w' => e = .returned (.string (outStr (againP t n))) ∧ Below w.heap.size w w' := by
  obtain ⟨i0, hi, hz0, hz1, hz2⟩ := info_parts info_u8
  have HI : Hid (Tryz.prog.info? 5 = some i0 ∧ i0.zero = some (.int .u8 0) ∧ i0.size = 1 ∧ i0.bytes = 1) := ⟨hi, hz0, hz1, hz2⟩
  clear hi hz0 hz1 hz2
  go_enter Tryz.func19, Tryz.ntmps19
  go_wp2
  go_loopw [5, 6] (fun u vi wr => ∃ k : Nat, k ≤ n ∧ vi = .int .i64 k ∧ wr.ownsRow w.heap.size 5 1 u (againP t k).length ((againP t k).map (Value.int .u8)) ∧ Below w.heap.size w wr) (fun _ vi _ => n - (intOf vi).toNat)
  case atStart => exact ⟨0, by omega, rfl, World.ownsRow_nil _ _ _ _, Below.refl _ _⟩
  case round =>
    obtain ⟨k, hk, rfl, hownk, hbk⟩ := hrel
    have hsz := hbk.size
    by_cases hlt : k < n
    · have hmod : k % t.size < t.size := Nat.mod_lt _ (by omega)
      have hlen : (againP t k).length = k := againP_length t k
      have hsu := againP_succ t k
      have hgd : t.data.toList.getD (k % t.size) 0 = t[k % t.size] := by
        rw [List.getD_eq_getElem?_getD, List.getElem?_eq_getElem (by simpa using hmod)]; rfl
      rw [hgd] at hsu
      have HL : Hid ((againP t k).length = k) := hlen
      have HS : Hid (againP t (k + 1) = againP t k ++ [(t[k % t.size].toNat : Int)]) := hsu
      clear hlen hsu hgd
      generalize againP t k = L at *
      go_wp2_with (at_builtin; refine wpList_append_own _ rfl _ _ 34 rfl w.heap.size 5 i0 (.int .u8 0) 1 1 Tryz.underlying34 HI.out.1 HI.out.2.1 HI.out.2.2.1 HI.out.2.2.2 rfl (by decide) _ _ _ rfl (hownk.alloc _) ⟨wr.heap.size, 0, none⟩ 1 1 [.int .u8 (t[k % t.size].toNat : Int)] rfl rfl ?c1 ?c2 ?c3 ?c4 ?c5 ?_)
      case c1 =>
        intro j u hj
        match j, hj with
        | 0, hj => simp at hj; subst hj; simp [Addr.add]
      case c2 => intro u hu; simp at hu; subst hu; rfl
      case c3 => rw [HL.out]; unfold maxLen; omega
      case c4 => rw [HL.out]; omega
      case c5 => simp; omega
      · intro v' w1 hown' hgrow _
        have hb1 : Below w.heap.size w w1 := (hbk.alloc (by omega) _).grown hgrow (by simp; omega) (owns_above hownk)
        have ho2 : w1.ownsRow w.heap.size 5 1 v' (againP t (k + 1)).length ((againP t (k + 1)).map (Value.int .u8)) := by
          rw [HS.out, List.length_append, List.map_append]
          exact hown'
        clear hown' hgrow hownk
        go_wp2
        go_roundw
        case rel => exact ⟨k + 1, by omega, by go_num, ho2, hb1⟩
        case measure => simp [intOf]; omega
    · have hkn : k = n := by omega
      subst hkn
      have hcv := run_out hownk
      have hv : ∃ a n c, u5 = .slice a n c := by
        rcases hownk.2 with ⟨h3, _⟩ | ⟨g, cap, cur, hv, _⟩
        · exact ⟨_, _, _, h3⟩
        · exact ⟨_, _, _, hv⟩
      obtain ⟨va, vn, vc, rfl⟩ := hv
      go_wp2
      go_ret
      exact ⟨rfl, hbk⟩
end Go.Proofs.YtmpfgdmdnghhgaaGreat
