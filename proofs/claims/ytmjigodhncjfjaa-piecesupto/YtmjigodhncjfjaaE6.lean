import Derived.Test.YtmjigodhncjfjaaE5
namespace Go.Proofs.Ytmjigodhncjfjaa
open Go.RowKit Wr

def EncAt (w : World) (q : Nat) (r : Option Nat) : Prop := w.rowIs q 91 1 (fun _ => .pointer (r.map fun b => ⟨b, 0, none⟩))
theorem On.encAt {b q : Nat} {w w' : World} {r : Option Nat} (h : On b w w') (hq : q ≠ b) (hd : EncAt w q r) : EncAt w' q r := World.rowIs.of_block hd (h.block q (World.rowIs.lt hd) hq)
theorem W0.lt {w : World} {b : Nat} {L : List Int} {P : List UInt8} (h : W0 w b L P) : b < w.heap.size := by
  obtain ⟨s, hr, _⟩ := h
  exact hr.lt
theorem W0.of_block {w w' : World} {b : Nat} {L : List Int} {P : List UInt8} (h : W0 w b L P) (e : w'.heap[b]? = w.heap[b]?) : W0 w' b L P := by
  obtain ⟨s, hr, hl⟩ := h
  exact ⟨s, hr.of_block e, hl⟩
theorem W0.alloc {w : World} {b : Nat} {L : List Int} {P : List UInt8} (h : W0 w b L P) (o : Obj) : W0 (w.alloc o) b L P := by
  obtain ⟨s, hr, hl⟩ := h
  exact ⟨s, hr.alloc o, hl⟩
theorem W0.plen {w : World} {b : Nat} {L : List Int} {P : List UInt8} (h : W0 w b L P) : P.length ≤ 4096 := by
  obtain ⟨s, hr, hl⟩ := h
  exact hl.plen
theorem W0.bits {w : World} {b : Nat} {L : List Int} {P : List UInt8} (h : W0 w b L P) : isBits L := by
  obtain ⟨s, hr, hl⟩ := h
  exact hl.bits

set_option maxHeartbeats 400000 in
theorem NewEncoder_good (w : World) (x l : Int) (h0 : 0 ≤ x) (h8 : x ≤ 8) (l0 : 0 ≤ l) (l2 : l ≤ 2) :
    Calls Try.prog 29 #[.int .i64 x, .int .i64 l] w fun e w' => ∃ q b, e = .returned (.tuple #[.pointer (some ⟨q, 0, none⟩), .int .i64 0]) ∧ w.heap.size ≤ b ∧ b < q ∧ W0 w' b (numBits x 4) [] ∧ EncAt w' q (some b) ∧ Below w.heap.size w w' := by
  have hN := fun W => wNew_any W x h0 h8
  go_enter Try.func29, Try.ntmps29
  go_wp2_with (first
    | (go_at_call 42; refine (hN _).mono ?_; rintro e w1 ⟨b, rfl, hb0, hr1, hb1⟩))
  go_ret2
  refine ⟨w1.heap.size, b, rfl, hb0, hr1.lt, hr1.alloc _, ?_, hb1.alloc hb1.size _⟩
  exact World.rowIs_alloc w1 _ 91 (fun _ => .pointer (some ⟨b, 0, none⟩)) (fun i hi => by
    match i, hi with
    | 0, _ => rfl)

set_option maxHeartbeats 400000 in
theorem NewEncoder_bad (w : World) (x l : Int) (h : ¬ (0 ≤ x ∧ x ≤ 8 ∧ 0 ≤ l ∧ l ≤ 2)) :
    Calls Try.prog 29 #[.int .i64 x, .int .i64 l] w fun e w' => e = .returned (.tuple #[.pointer none, .int .i64 4]) ∧ w' = w := by
  by_cases h1 : x < 0
  · go_enter Try.func29, Try.ntmps29
    go_wp2
    go_ret2
    exact ⟨rfl, rfl⟩
  by_cases h2 : 8 < x
  · go_enter Try.func29, Try.ntmps29
    go_wp2
    go_ret2
    exact ⟨rfl, rfl⟩
  by_cases h3 : l < 0
  · go_enter Try.func29, Try.ntmps29
    go_wp2
    go_ret2
    exact ⟨rfl, rfl⟩
  have h4 : 2 < l := by omega
  clear h
  go_enter Try.func29, Try.ntmps29
  go_wp2
  go_ret2
  exact ⟨rfl, rfl⟩

section
variable {w : World} {q b : Nat} {L : List Int} {P : List UInt8}

set_option maxHeartbeats 400000 in
theorem EncWrite_open (hd : EncAt w q (some b)) (h : W0 w b L P) (x : ByteArray) (hL : L.length + 8 * P.length + 30 * x.size ≤ 800000000000) :
    Calls Try.prog 43 #[.pointer (some ⟨q, 0, none⟩), .string x] w fun e w' => e = .returned (.tuple #[.string (outStr (outFrom (writeE (L, P) x.data.toList).1 (L.length / 8))), .int .i64 0]) ∧ W0 w' b (writeE (L, P) x.data.toList).1 (writeE (L, P) x.data.toList).2 ∧ On b w w' := by
  have c0 : w.cell? ⟨q, 0, none⟩ = some (.pointer (some ⟨b, 0, none⟩)) := World.rowIs.cell hd (by omega)
  have hW := Write_W h x hL
  generalize writeE (L, P) x.data.toList = r at *
  go_enter Try.func43, Try.ntmps43
  go_wp2_with (first
    | (go_at_call 58; refine hW.mono ?_; rintro e w1 ⟨rfl, hr1, hon1⟩))
  go_ret2
  exact ⟨rfl, hr1, hon1⟩

set_option maxHeartbeats 400000 in
theorem EncFlush_open (hd : EncAt w q (some b)) (h : W0 w b L P) (hL : L.length ≤ 800000000000) :
    Calls Try.prog 44 #[.pointer (some ⟨q, 0, none⟩)] w fun e w' => e = .returned (.tuple #[.string (outStr (outFrom (flushL L P) (L.length / 8))), .int .i64 0]) ∧ W0 w' b (flushL L P) [] ∧ On b w w' := by
  have c0 : w.cell? ⟨q, 0, none⟩ = some (.pointer (some ⟨b, 0, none⟩)) := World.rowIs.cell hd (by omega)
  have hW := Flush_W h hL
  generalize flushL L P = r at *
  go_enter Try.func44, Try.ntmps44
  go_wp2_with (first
    | (go_at_call 59; refine hW.mono ?_; rintro e w1 ⟨rfl, hr1, hon1⟩))
  go_ret2
  exact ⟨rfl, hr1, hon1⟩

set_option maxHeartbeats 400000 in
theorem EncNote_open (hd : EncAt w q (some b)) (h : W0 w b L P) (x : ByteArray) (hx : x.size ≤ 255) (hL : L.length ≤ 800000000000) :
    Calls Try.prog 45 #[.pointer (some ⟨q, 0, none⟩), .string x] w fun e w' => e = .returned (.tuple #[.string (outStr (outFrom (noteL (letL L P) x.data.toList) (L.length / 8))), .int .i64 0]) ∧ W0 w' b (noteL (letL L P) x.data.toList) [] ∧ On b w w' := by
  have c0 : w.cell? ⟨q, 0, none⟩ = some (.pointer (some ⟨b, 0, none⟩)) := World.rowIs.cell hd (by omega)
  have hW := Note_W h x hx hL
  generalize noteL (letL L P) x.data.toList = r at *
  go_enter Try.func45, Try.ntmps45
  go_wp2_with (first
    | (go_at_call 60; refine hW.mono ?_; rintro e w1 ⟨rfl, hr1, hon1⟩))
  go_ret2
  exact ⟨rfl, hr1, hon1⟩

set_option maxHeartbeats 400000 in
theorem EncNote_long (hd : EncAt w q (some b)) (x : ByteArray) (hx : 255 < x.size) :
    Calls Try.prog 45 #[.pointer (some ⟨q, 0, none⟩), .string x] w fun e w' => e = .returned (.tuple #[.string ByteArray.empty, .int .i64 5]) ∧ w' = w := by
  have c0 : w.cell? ⟨q, 0, none⟩ = some (.pointer (some ⟨b, 0, none⟩)) := World.rowIs.cell hd (by omega)
  go_enter Try.func45, Try.ntmps45
  go_wp2
  go_ret2
  exact ⟨rfl, rfl⟩

set_option maxHeartbeats 400000 in
theorem EncFinish_open (hd : EncAt w q (some b)) (hqb : q ≠ b) (h : W0 w b L P) (hL : L.length ≤ 800000000000) :
    Calls Try.prog 46 #[.pointer (some ⟨q, 0, none⟩)] w fun e w' => e = .returned (.tuple #[.string (outStr (outFrom (finL L P) (L.length / 8))), .int .i64 0]) ∧ EncAt w' q none ∧ ∃ w1, On b w w1 ∧ On q w1 w' := by
  have c0 : w.cell? ⟨q, 0, none⟩ = some (.pointer (some ⟨b, 0, none⟩)) := World.rowIs.cell hd (by omega)
  have hW := Finish_W h hL
  generalize finL L P = r at *
  go_enter Try.func46, Try.ntmps46
  go_wp2_with (first
    | (go_at_call 61; refine hW.mono ?_; rintro e w1 ⟨rfl, hon1⟩; have hd1 := hon1.encAt hqb hd; have c1 : w1.cell? ⟨q, 0, none⟩ = some (.pointer (some ⟨b, 0, none⟩)) := World.rowIs.cell hd1 (by omega); have hfz := World.rowIs.frozen hd1))
  go_ret2
  refine ⟨rfl, ?_, w1, hon1, (On.refl q w1).set _ _⟩
  refine (World.rowIs.set hd1 0 (.pointer none)).congr fun i hi => ?_
  match i, hi with
  | 0, _ => rfl

set_option maxHeartbeats 400000 in
theorem EncWrite_done (hd : EncAt w q none) (x : ByteArray) : Calls Try.prog 43 #[.pointer (some ⟨q, 0, none⟩), .string x] w fun e w' => e = .returned (.tuple #[.string ByteArray.empty, .int .i64 6]) ∧ w' = w := by
  have c0 : w.cell? ⟨q, 0, none⟩ = some (.pointer none) := World.rowIs.cell hd (by omega)
  go_enter Try.func43, Try.ntmps43
  go_wp2
  go_ret2
  exact ⟨rfl, rfl⟩
set_option maxHeartbeats 400000 in
theorem EncNote_done (hd : EncAt w q none) (x : ByteArray) : Calls Try.prog 45 #[.pointer (some ⟨q, 0, none⟩), .string x] w fun e w' => e = .returned (.tuple #[.string ByteArray.empty, .int .i64 6]) ∧ w' = w := by
  have c0 : w.cell? ⟨q, 0, none⟩ = some (.pointer none) := World.rowIs.cell hd (by omega)
  go_enter Try.func45, Try.ntmps45
  go_wp2
  go_ret2
  exact ⟨rfl, rfl⟩
set_option maxHeartbeats 400000 in
theorem EncFlush_done (hd : EncAt w q none) : Calls Try.prog 44 #[.pointer (some ⟨q, 0, none⟩)] w fun e w' => e = .returned (.tuple #[.string ByteArray.empty, .int .i64 6]) ∧ w' = w := by
  have c0 : w.cell? ⟨q, 0, none⟩ = some (.pointer none) := World.rowIs.cell hd (by omega)
  go_enter Try.func44, Try.ntmps44
  go_wp2
  go_ret2
  exact ⟨rfl, rfl⟩
set_option maxHeartbeats 400000 in
theorem EncFinish_done (hd : EncAt w q none) : Calls Try.prog 46 #[.pointer (some ⟨q, 0, none⟩)] w fun e w' => e = .returned (.tuple #[.string ByteArray.empty, .int .i64 6]) ∧ w' = w := by
  have c0 : w.cell? ⟨q, 0, none⟩ = some (.pointer none) := World.rowIs.cell hd (by omega)
  go_enter Try.func46, Try.ntmps46
  go_wp2
  go_ret2
  exact ⟨rfl, rfl⟩
end
end Go.Proofs.Ytmjigodhncjfjaa
