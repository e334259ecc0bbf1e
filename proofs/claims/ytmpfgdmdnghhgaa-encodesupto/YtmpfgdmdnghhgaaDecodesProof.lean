import Derived.Test.YtmpfgdmdnghhgaaR15
import Derived.Test.YtmpfgdmdnghhgaaRefT
import Derived.Test.YtmpfgdmdnghhgaaW17
import Derived.Deep.RegionWith
import Derived.Test.YtmpfgdmdnghhgaaRows
import Derived.WalkKit
import Derived.ProofKit
import Derived.OpenShut
import Derived.ShutString
import Derived.ChangeOld
import Derived.Below
import Derived.JoinedCond
namespace Go.Proofs.Ytmpfgdmdnghhgaa
open Go.RowKit Wr

set_option maxRecDepth 100000 in
set_option maxHeartbeats 1000000 in
theorem Rdecode_any (w : World) (S : ByteArray) (hs : S.size ≤ 268435456) :
    Calls Try.prog 9 #[.string S] w fun e w' => e = .returned (.tuple #[.string (outStr (readD S).out), .int .i64 (readV S)]) ∧ Below w.heap.size w w' := by
  have hR := fun (W : World) => Rread_any W S hs
  generalize outStr (readD S).out = T at *
  generalize readV S = V at *
  generalize (readD S).x.w = ww at *
  generalize ((readR S).1 && ((readD S).x.state == 1)) = eb at *
  go_enter Try.func9, Try.ntmps9
  go_wp2_with (first
    | (go_at_call 30; refine (hR _).mono ?_; rintro e w1 ⟨vn, rfl, hown, hb1⟩; obtain ⟨na, nc, rfl⟩ := owns_slice hown))
  go_region
  all_goals
    go_wp2
    go_ret2
    refine ⟨rfl, ?_⟩
    first
      | exact (hb1.alloc hb1.size _).drew
      | exact ((below_alloc w _).trans (hb1.mono (by simp))).drew

set_option maxHeartbeats 400000 in
theorem num_any (w : World) (n : Int) (_h0 : 0 ≤ n) (_h1 : n ≤ 6) : Calls Try.prog 10 #[.int .i64 n] w fun e w' => e = .returned (.int .i64 n) ∧ w' = w := by
  go_enter Try.func10, Try.ntmps10
  go_wp2
  go_ret
  exact ⟨rfl, rfl⟩

def exBytes : ByteArray := ⟨#[208, 3, 96, 24, 49, 3, 17, 26]⟩
theorem ex_read : outStr (feed initRd exBytes.data.toList).out = ⟨#[97, 98, 97, 98, 97, 98, 97, 98]⟩ ∧ errno (feed initRd exBytes.data.toList) = 0 := by
  constructor
  · kernel_rfl
  · kernel_rfl
theorem dec_doc (S : ByteArray) : outStr (feed initRd S.data.toList).out = outStr (readD S).out ∧ errno (feed initRd S.data.toList) = readV S := by
  have h1 := feed_full S.data.toList
  have h2 := doc_eq S
  rw [h1.1, h1.2, h2.1, h2.2]
  exact ⟨rfl, rfl⟩
theorem readV_bounds (S : ByteArray) : 0 ≤ readV S ∧ readV S ≤ 3 := by
  rw [← (doc_eq S).2]
  unfold errnoBig
  repeat' split
  all_goals omega

set_option maxRecDepth 100000 in
set_option maxHeartbeats 1000000 in
theorem Decodes_any (w : World) (S : ByteArray) (hs : S.size ≤ 268435456) :
    Calls Try.prog 3 #[.string S] w fun e w' => e = .returned (.bool true) ∧ Below w.heap.size w w' := by
  have hE := fun (W : World) => Decode_any W exBytes (by decide)
  rw [ex_read.1, ex_read.2] at hE
  have hD := fun (W : World) => Decode_any W S hs
  rw [(dec_doc S).1, (dec_doc S).2] at hD
  have hR := fun (W : World) => Rdecode_any W S hs
  have vb := readV_bounds S
  have hN := fun (W : World) => num_any W (readV S) vb.1 (by omega)
  generalize outStr (readD S).out = T at *
  generalize readV S = V at *
  go_enter Try.func3, Try.ntmps3
  go_wp2_with (first
    | (go_at_call 10; refine (hN _).mono ?_; rintro e w4 ⟨rfl, rfl⟩)
    | (go_at_call 9; refine (hR _).mono ?_; rintro e w3 ⟨rfl, b3⟩)
    | (go_at_call_of 8 (Value.string S); refine (hD _).mono ?_; rintro e w2 ⟨rfl, b2⟩)
    | (go_at_call 8; refine (hE _).mono ?_; rintro e w1 ⟨rfl, b1⟩))
  go_ret
  exact ⟨rfl, (b1.trans (b2.mono b1.size)).trans (b3.mono (Nat.le_trans b1.size b2.size))⟩
end Go.Proofs.Ytmpfgdmdnghhgaa
/- THE STATEMENT 'Rows.DecodesUptoSaid'. -/
namespace Go.Proofs.Ytmpfgdmdnghhgaa.decodes
open Go.ChangeShapes Go.WideShapes Go.ChangeAt Go.RowKit
open Go.ChangeMaps (open_string shut_string)

theorem own : ownKnob Try.prog.godebug = none := by kernel_rfl
theorem laidOut : laidOutB Try.prog = true := by kernel_rfl

theorem small {H : Type} {s : ByteArray} (hk : Rows.uptoSmall H [.lit (.string s.data.toList)] = true) : s.size ≤ 1048576 := by
  have h : Rows.uptoBulkAll [(.lit (.string s.data.toList) : DataW H)] ≤ 1048576 := of_decide_eq_true hk
  simp only [Rows.uptoBulkAll, Rows.uptoBulk] at h
  have e : s.data.toList.length = s.size := by rw [Array.length_toList]; rfl
  omega

set_option maxRecDepth 100000 in
theorem contract (H : Type) (enc : TypeId × Value → H) (W : World) (base : Nat) (args : Array Value) (ds gs : List (DataW H)) (before : List MemPlace)
    (hval0 : ∀ (j : Nat) t v, Try.f3.params[j]? = some t → args[j]? = some v → Value.okWide Try.prog W .any base t v)
    (hW : DataW.Whole enc Try.prog Try.f3.params.toList Rows.decodesSpec.vars false W args.toList ds gs before) (hk : Rows.uptoSmall H (ds ++ gs) = true) :
    Calls Try.prog 3 args W fun e W' => ∃ v, e = .returned v ∧ Rows.decodesSpec.post enc Try.prog Try.f3 false true false false W args v W' := by
  have hval : ∀ (j : Nat) t v, Try.f3.params[j]? = some t → args[j]? = some v → Value.okWide Try.prog W .any base t v := hval0
  have hW' := hW
  obtain ⟨p, q, hA0, hV, rfl, hfz, hnd⟩ := hW
  have hA : DataW.TrodAll enc Try.prog W 0 (fun _ => true) true Try.f3.params.toList args.toList ds p := hA0
  rw [Try.params3] at hA hval
  obtain ⟨v0, vs0, d0, ds0, p0, q0, hargs, rfl, rfl, h0, r0⟩ := trodAll_cons hA
  obtain ⟨rfl, rfl, rfl⟩ := trodAll_nil r0
  obtain rfl : args = #[v0] := by cases args; simp_all
  obtain ⟨rfl, rfl⟩ := trodVars_none hV
  obtain ⟨a0, rfl, rfl, rfl, w0⟩ := open_string Try.underlying9 (hval 0 9 v0 rfl rfl) h0
  clear hA0 hval0
  simp only [List.append_nil] at hW' hk
  have hs := small hk
  refine (Decodes_any W a0 (by omega)).mono fun e W' ⟨he, bel⟩ => ?_
  subst he
  exact ⟨_, rfl, _, _, _, [], _, [], hW', trodAll_mk1 (shut_bool Try.underlying4 _), (trodAll_cons_mk (shut_string Try.underlying9 w0) trodAll_mk0), rfl, bel.frame _, fun h => by cases h⟩

set_option maxRecDepth 100000 in
theorem lifted (os : Os) (started : os.Started) (H : Type) (enc : TypeId × Value → H) (F : Stop.Interp) :
    ReturnsInHanded {} Try.checked os 3 .any ((Rows.OpenSpec.upto Rows.decodesSpec).pre6 enc Try.prog Try.f3 Rows.decodesUptoRow.domain false) (((Rows.OpenSpec.upto Rows.decodesSpec).at F).post enc Try.prog Try.f3 false true false false) := by
  refine returnsInHanded_of_cond (C := Try.checked) (s := Rows.OpenSpec.upto Rows.decodesSpec) (k := Rows.uptoSmall) rfl own started (by kernel_rfl) Try.func3
    (OpenSpec.witness (enc := enc) (C := Try.checked) (s := Rows.OpenSpec.upto Rows.decodesSpec) (k := Rows.uptoSmall) rfl false ⟨#[], #[.string .empty], []⟩ 8 (by kernel_rfl) (by kernel_rfl) (by kernel_rfl)
      (x := ([.lit (.string [])], [], [])) (by kernel_rfl) rfl (by kernel_rfl)) ?_
  intro W base args ds gs before hval hW _ hk _
  exact contract H enc W base args ds gs before hval hW hk

theorem proved : Rows.DecodesUptoSaid :=
  OpenClaim.holds_of_cond 3 Try.f3 rfl rfl rfl rfl rfl rfl rfl ⟨rfl, rfl, rfl, rfl, rfl⟩ rfl rfl rfl rfl rfl (by kernel_rfl) Try.func3 (by kernel_rfl)
    (of_decide_eq_true (by kernel_rfl)) (by unfold Func.isWrapper; first | (rw [if_pos (by decide +kernel)]; kernel_rfl) | (rw [if_neg (by decide +kernel)]; exact ⟨rfl, rfl⟩))
    (fun os started H enc _ F => lifted os started H enc F)
end Go.Proofs.Ytmpfgdmdnghhgaa.decodes
