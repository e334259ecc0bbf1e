import Derived.Test.YtmjigodhncjfjaaE11
import Derived.Test.YtmjigodhncjfjaaRows
import Derived.WalkKit
import Derived.ProofKit
import Derived.OpenShut
import Derived.ShutString
import Derived.ChangeOld
import Derived.Below
import Derived.JoinedCond
import Derived.Deep.SlicePairs
namespace Go.Proofs.Ytmjigodhncjfjaa
open Go.RowKit Wr
open Go.ChangeShapes Go.WideShapes Go.ChangeAt Go.Deep

theorem cells_call : Try.prog.cellsOf 79 = 2 := by kernel_rfl
theorem cells_int : Try.prog.cellsOf 3 = 1 := by kernel_rfl
theorem cells_string : Try.prog.cellsOf 9 = 1 := by kernel_rfl
theorem int_bounds {n : Int} (h : (Lit.int .i64 n).wf = true) : -9223372036854775808 ≤ n ∧ n ≤ 9223372036854775807 := by
  have := bounds_i64 h
  omega
theorem bulk_append {H : Type} : ∀ (a b : List (DataW H)), Rows.uptoBulkAll (a ++ b) = Rows.uptoBulkAll a + Rows.uptoBulkAll b
  | [], b => by simp [Rows.uptoBulkAll]
  | d :: a, b => by
    show Rows.uptoBulk d + Rows.uptoBulkAll (a ++ b) = Rows.uptoBulk d + Rows.uptoBulkAll a + Rows.uptoBulkAll b
    rw [bulk_append a b]
    omega
theorem bulk_sum {H : Type} (D : Nat → DataW H) (c : Nat → Int × ByteArray) : ∀ n : Nat, (∀ i, i < n → (c i).2.size + 3 ≤ Rows.uptoBulk (D i)) → bulk c n ≤ 2 * Rows.uptoBulkAll ((List.range n).map D)
  | 0, _ => Nat.zero_le _
  | n + 1, h => by
    rw [List.range_succ, List.map_append, bulk_append]
    have h1 := bulk_sum D c n (fun i hi => h i (by omega))
    have h2 := h n (by omega)
    show bulk c n + ((c n).2.size + 4) ≤ 2 * (_ + (Rows.uptoBulk (D n) + 0))
    omega

theorem cell_lt {w : World} {p : Addr} {v : Value} (h : w.cell? p = some v) : p.block < w.heap.size := by
  by_cases hp : p.block < w.heap.size
  · exact hp
  · exfalso
    rw [World.cell?] at h
    simp [hp] at h
theorem open_calls {H : Type} {enc : TypeId × Value → H} {W : World} {a : Option Addr} {len cap : Nat} {d : DataW H} {p : List MemPlace}
    (h : DataW.Trod enc Try.prog W 0 (fun _ => true) true 67 (.slice a len cap) d p) : ∃ c, IsCalls W a len c ∧ bulk c len ≤ 2 * Rows.uptoBulk d := by
  obtain ⟨fuel, hf⟩ := h
  rcases open_slice_pairs Try.underlying67 Try.underlying79 cells_call rfl rfl cells_int cells_string hf with ⟨hcs, _⟩ | ⟨x, l, cp, m, n, V0, V1, D0, D1, P0, P1, hcs, _, hl, hm, hmm, hx, hall⟩
  · simp [Value.cells] at hcs
    obtain ⟨rfl, rfl, rfl⟩ := hcs
    exact ⟨fun _ => (0, ByteArray.empty), ⟨by omega, fun h => absurd h (by omega)⟩, Nat.zero_le _⟩
  · simp [Value.cells] at hcs
    obtain ⟨rfl, rfl, rfl⟩ := hcs
    simp only [if_true] at hmm
    subst hmm
    have each : ∀ i, i < len → ∃ q : Int × ByteArray, V0 i = .int .i64 q.1 ∧ V1 i = .string q.2 ∧ D1 i = .lit (.string q.2.data.toList) ∧ D0 i = .lit (.int .i64 q.1) := by
      intro i hi
      obtain ⟨_, _, t0, t1⟩ := hall i (by omega)
      obtain ⟨z, e1, e2, _⟩ := DataW.trod_int Try.underlying3 t0
      obtain ⟨s, e3, e4, _⟩ := DataW.trod_string Try.underlying9 t1
      simp only [List.cons.injEq, and_true] at e1 e3
      simp only [Prod.mk.injEq] at e2 e4
      exact ⟨(z, s), e1, e3, e4.1, e2.1⟩
    obtain ⟨q, hq⟩ := choose_lt each
    simp only [Prod.mk.injEq] at hx
    obtain ⟨rfl, _⟩ := hx
    refine ⟨q, ⟨by unfold maxLen at hm; omega, fun h0 => ?_⟩, ?_⟩
    · obtain ⟨xb, xo, xs⟩ := x
      have hspot : xs = none := by simpa [Addr.add] using World.cell?_spot (hall 0 (by omega)).1
      subst hspot
      refine ⟨xb, xo, rfl, ?_, fun i hi => ?_⟩
      · have h1 := (hall 0 (by omega)).1
        rw [Addr.add_lit] at h1
        exact cell_lt h1
      · obtain ⟨c0, c1, _, _⟩ := hall i (by omega)
        rw [Addr.add_lit] at c0 c1
        rw [(hq i hi).1] at c0
        rw [(hq i hi).2.1] at c1
        exact ⟨c0, c1⟩
    · have hs := bulk_sum (fun i => .agg [D0 i, D1 i]) q len (fun i hi => by
        rw [(hq i hi).2.2.1, (hq i hi).2.2.2]
        show _ ≤ (1 + (_ + 1 + 0)) + 1
        have e : (q i).2.data.toList.length = (q i).2.size := by simp
        omega)
      show _ ≤ 2 * (Rows.uptoBulkAll _ + Rows.uptoBulkAll _ + 1)
      omega
end Go.Proofs.Ytmjigodhncjfjaa
