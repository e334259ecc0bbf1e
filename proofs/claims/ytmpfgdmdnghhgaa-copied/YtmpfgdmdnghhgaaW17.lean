import Derived.Test.YtmpfgdmdnghhgaaW16
namespace Go.Proofs.Ytmpfgdmdnghhgaa
open Go.RowKit Wr

def readerCells : Array Value := ((List.range 5247).map (cellsOf initRd (.slice none 0 0))).toArray

theorem reader_cells : (((Try.zeroCells94.setIfInBounds 1142 (Value.int IntKind.i64 1)).setIfInBounds 1143 (Value.int IntKind.i64 2)).setIfInBounds 1144 (Value.int IntKind.i64 3)).setIfInBounds 1145 (Value.int IntKind.i64 4) = readerCells := by kernel_rfl

theorem readerCells_size : readerCells.size = 5247 := by simp [readerCells]
theorem reader_row (w : World) : Row (w.alloc (.cells readerCells 94)) w.heap.size initRd (.slice none 0 0) := by
  have h := World.rowIs_alloc w readerCells 94 (cellsOf initRd (.slice none 0 0)) (fun i hi => by
    rw [readerCells_size] at hi
    unfold readerCells
    simp [hi])
  rw [readerCells_size] at h
  exact h

set_option maxHeartbeats 400000 in
theorem NewRecent_any (w : World) : Calls Try.prog 37 #[] w fun e w' => e = .returned (.agg #[.int .i64 1, .int .i64 2, .int .i64 3, .int .i64 4]) ∧ Below w.heap.size w w' := by
  go_enter Try.func37, Try.ntmps37
  go_wp2
  exact bodyPost_ret (v := .agg #[.int .i64 1, .int .i64 2, .int .i64 3, .int .i64 4]) (by simp [results, Try.results37, go_sem]) rfl ⟨rfl, below_alloc _ _⟩

set_option maxHeartbeats 400000 in
theorem New_any (w : World) : Calls Try.prog 27 #[] w fun e w' => ∃ b, e = .returned (.pointer (some ⟨b, 0, none⟩)) ∧ w.heap.size ≤ b ∧ Row w' b initRd (.slice none 0 0) ∧ Below w.heap.size w w' := by
  go_enter Try.func27, Try.ntmps27
  go_wp2_with (go_at_call 37; refine (NewRecent_any _).mono ?_; rintro e w1 ⟨rfl, hb1⟩)
  go_ret
  refine ⟨w1.heap.size, rfl, hb1.size, ?_, ?_⟩
  · rw [reader_cells]
    exact reader_row w1
  · exact hb1.trans ((below_alloc w1 _).mono hb1.size)

set_option maxHeartbeats 400000 in
theorem Decode_any (w : World) (x : ByteArray) (hx : x.size ≤ 268435456) :
    Calls Try.prog 8 #[.string x] w fun e w' =>
      e = .returned (.tuple #[.string (outStr (feed initRd x.data.toList).out), .int .i64 (errno (feed initRd x.data.toList))]) ∧ Below w.heap.size w w' := by
  have he : errno { feed initRd x.data.toList with out := [] } = errno (feed initRd x.data.toList) := rfl
  have hR := fun (W : World) (b : Nat) (h : Row W b initRd (.slice none 0 0)) => Read_any h rfl init_rest x hx (by decide)
  generalize feed initRd x.data.toList = t at *
  have HE : Hid (errno { t with out := [] } = errno t) := he
  clear he
  go_enter Try.func8, Try.ntmps8
  go_wp2_with (first
    | (go_at_call 27; refine (New_any _).mono ?_; rintro e w1 ⟨b, rfl, hb0, hr1, hb1⟩)
    | (go_at_call 28; refine (hR _ _ hr1).mono ?_; rintro e w2 ⟨rfl, hr2, hon2⟩)
    | (go_at_call 29; refine (Errno_any hr2).mono ?_; rintro e w3 ⟨rfl, rfl⟩; rw [HE.out]))
  go_ret2
  exact ⟨rfl, hb1.trans ⟨hon2.os, hon2.tape, hon2.output, hon2.size, fun k hk => hon2.block k (by have := hb1.size; omega) (by omega)⟩⟩

end Go.Proofs.Ytmpfgdmdnghhgaa
