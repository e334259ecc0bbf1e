import Derived.Test.YtmjigodhncjfjaaW17
import Derived.Test.YtmjigodhncjfjaaFeedP
namespace Go.Proofs.Ytmjigodhncjfjaa
open Go.RowKit Wr

/-- a decoder: its reader, or none, and what Close said -/
def decCells (r : Option Nat) (said : Int) (o : Nat) : Value := if o = 0 then .pointer (r.map fun b => ⟨b, 0, none⟩) else .int .i64 said
def DecAt (w : World) (q : Nat) (r : Option Nat) (said : Int) : Prop := w.rowIs q 87 2 (decCells r said)

theorem On.decAt {b q : Nat} {w w' : World} {r : Option Nat} {said : Int} (h : On b w w') (hq : q ≠ b) (hd : DecAt w q r said) : DecAt w' q r said := World.rowIs.of_block hd (h.block q (World.rowIs.lt hd) hq)

set_option maxHeartbeats 400000 in
theorem NewDecoder_any (w : World) : Calls Try.prog 23 #[] w fun e w' => ∃ q b, e = .returned (.pointer (some ⟨q, 0, none⟩)) ∧ w.heap.size ≤ b ∧ b < q ∧ Row w' b initRd (.slice none 0 0) ∧ DecAt w' q (some b) 0 ∧ Below w.heap.size w w' := by
  go_enter Try.func23, Try.ntmps23
  go_wp2_with (first
    | (go_at_call 38; refine (New_any _).mono ?_; rintro e w1 ⟨b, rfl, hb0, hr1, hb1⟩))
  go_ret
  refine ⟨w1.heap.size, b, rfl, hb0, hr1.lt, hr1.alloc _, ?_, hb1.alloc hb1.size _⟩
  exact World.rowIs_alloc w1 _ 87 (decCells (some b) 0) (fun i hi => by
    match i, hi with
    | 0, _ => rfl
    | 1, _ => rfl)

set_option maxHeartbeats 400000 in
theorem Feed_open {w : World} {q b : Nat} {s : Rd} {said : Int} (hd : DecAt w q (some b) said) (hqb : q ≠ b) (hr : Row w b s (.slice none 0 0)) (ho : s.out = []) (h : Wr.Rest s) (x : ByteArray) (hx : x.size ≤ 268435456) (hp : psi s ≤ 1099511627776) :
    Calls Try.prog 26 #[.pointer (some ⟨q, 0, none⟩), .string x] w fun e w' => e = .returned (.string (outStr (feed s x.data.toList).out)) ∧ Row w' b (emptied (feed s x.data.toList)) (.slice none 0 0) ∧ DecAt w' q (some b) said ∧ On b w w' := by
  have c0 : w.cell? ⟨q, 0, none⟩ = some (.pointer (some ⟨b, 0, none⟩)) := World.rowIs.cell hd (by omega)
  have hfz := World.rowIs.frozen hd
  have hR := Read_any hr ho h x hx hp
  generalize feed s x.data.toList = t at *
  go_enter Try.func26, Try.ntmps26
  go_wp2_with (first
    | (go_at_call 39; refine hR.mono ?_; rintro e w1 ⟨rfl, hr1, hon1⟩))
  go_ret
  exact ⟨rfl, hr1, hon1.decAt hqb hd, hon1⟩

set_option maxHeartbeats 400000 in
theorem Feed_closed {w : World} {q : Nat} {said : Int} (hd : DecAt w q none said) (x : ByteArray) :
    Calls Try.prog 26 #[.pointer (some ⟨q, 0, none⟩), .string x] w fun e w' => e = .returned (.string ByteArray.empty) ∧ w' = w := by
  have c0 : w.cell? ⟨q, 0, none⟩ = some (.pointer none) := World.rowIs.cell hd (by omega)
  have hfz := World.rowIs.frozen hd
  go_enter Try.func26, Try.ntmps26
  go_wp2
  go_ret
  exact ⟨rfl, rfl⟩

set_option maxHeartbeats 400000 in
theorem Close_open {w : World} {q b : Nat} {s : Rd} {said : Int} {v : Value} (hd : DecAt w q (some b) said) (hr : Row w b s v) :
    Calls Try.prog 27 #[.pointer (some ⟨q, 0, none⟩)] w fun e w' => e = .returned (.int .i64 (errno s)) ∧ DecAt w' q none (errno s) ∧ On q w w' := by
  have c0 : w.cell? ⟨q, 0, none⟩ = some (.pointer (some ⟨b, 0, none⟩)) := World.rowIs.cell hd (by omega)
  have c1 : w.cell? ⟨q, 1, none⟩ = some (.int .i64 said) := World.rowIs.cell hd (by omega)
  have hfz := World.rowIs.frozen hd
  have hE := Errno_any hr
  generalize errno s = er at *
  go_enter Try.func27, Try.ntmps27
  go_wp2_with (first
    | (go_at_call 40; refine hE.mono ?_; rintro e w1 ⟨rfl, rfl⟩))
  go_ret
  refine ⟨rfl, ?_, ((On.refl q _).set _ _).set _ _⟩
  refine (World.rowIs.set (World.rowIs.set hd 1 (.int .i64 er)) 0 (.pointer none)).congr fun i hi => ?_
  match i, hi with
  | 0, _ => rfl
  | 1, _ => rfl

set_option maxHeartbeats 400000 in
theorem Close_closed {w : World} {q : Nat} {said : Int} (hd : DecAt w q none said) :
    Calls Try.prog 27 #[.pointer (some ⟨q, 0, none⟩)] w fun e w' => e = .returned (.int .i64 said) ∧ w' = w := by
  have c0 : w.cell? ⟨q, 0, none⟩ = some (.pointer none) := World.rowIs.cell hd (by omega)
  have c1 : w.cell? ⟨q, 1, none⟩ = some (.int .i64 said) := World.rowIs.cell hd (by omega)
  have hfz := World.rowIs.frozen hd
  go_enter Try.func27, Try.ntmps27
  go_wp2
  go_ret
  exact ⟨rfl, rfl⟩
end Go.Proofs.Ytmjigodhncjfjaa
