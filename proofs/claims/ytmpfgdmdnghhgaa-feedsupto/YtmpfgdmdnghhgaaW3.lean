import Derived.Test.YtmpfgdmdnghhgaaW2
import Derived.Deep.MidRow
import Derived.Deep.WholeRow
import Derived.Lib.LazyBuf
namespace Go.Proofs.Ytmpfgdmdnghhgaa
open Go.RowKit Wr

def ints (n : Nat) (f : Nat → Int) : List Value := (List.range n).map fun i => .int .i64 (f i)
theorem ints_length (n : Nat) (f : Nat → Int) : (ints n f).length = n := by simp [ints]
theorem ints_get (n : Nat) (f : Nat → Int) (j : Nat) : (ints n f)[j]? = if j < n then some (.int .i64 (f j)) else none := by
  unfold ints
  rw [List.getElem?_map]
  split <;> simp_all
theorem ints_one (n : Nat) (f : Nat → Int) : ∀ v ∈ ints n f, v.oneCell' = true := by
  intro v hv
  simp only [ints, List.mem_map] at hv
  obtain ⟨i, _, rfl⟩ := hv
  rfl

theorem below_alloc (w : World) (o : Obj) : Below w.heap.size w (w.alloc o) := (Below.refl _ _).alloc (Nat.le_refl _) o

set_option maxHeartbeats 400000 in
theorem simpleCounts_any (w : World) (n : Int) (h1 : 1 ≤ n) (h4 : n ≤ 4) :
    Calls Try.prog 126 #[.int .i64 n] w fun e w' => e = .returned (.agg (ints 13 (simpleCnt n)).toArray) ∧ Below w.heap.size w w' := by
  have hc : n = 1 ∨ n = 2 ∨ n = 3 ∨ n = 4 := by omega
  rcases hc with rfl | rfl | rfl | rfl
  all_goals
    clear h1 h4
    go_enter Try.func126, Try.ntmps126
    go_wp2
    exact bodyPost_ret (v := .agg (ints 13 (simpleCnt _)).toArray) (by simp [results, Try.results126, go_sem]; rfl) rfl ⟨rfl, below_alloc _ _⟩

theorem wpList_store_new {P : Program} {ops : Array Oper} {rest : List Oper} {op : Oper} {a : Act} {w : World} {Q : Exit → Act → World → Prop} (hgd : op.guard = none) (ty : TypeId) (x y : Operand) (ho : op.op = .store ty x y)
    (c c' : Array Value) (hx : a.eval x = .pointer (some ⟨w.heap.size, 0, none⟩)) (hy : a.eval y = .agg c')
    (hi : (P.info? ty).map (·.size) = some c'.size) (hs : c.size = c'.size) (h1 : c'.all (·.oneCell') = true)
    (h : wpList P ops Q rest (a.put op.dst undef) (w.alloc (.cells c' ty))) : wpList P ops Q (op :: rest) a (w.alloc (.cells c ty)) :=
  wpList_plain hgd fun _ hK => by
    unfold Oper.wp execOp
    simp only [ho, hx, hy, Instr.storeAt, Instr.sureAddr, Sem.run_bind, Sem.run_pure, Result.andThen_ok, run_storeVar_new w ty c c' hi hs h1]
    exact hK _ _ h

theorem wpList_alloc_zero {P : Program} {ops : Array Oper} {rest : List Oper} {op : Oper} {a : Act} {w : World} {Q : Exit → Act → World → Prop} (hgd : op.guard = none) (ty : TypeId) (ho : op.op = .alloc ty)
    (z : Value) (hz : (P.info? ty).bind (·.zero) = some z)
    (h : wpList P ops Q rest (a.put op.dst (.pointer (some ⟨w.heap.size, 0, none⟩))) (w.alloc (.cells z.cells ty))) : wpList P ops Q (op :: rest) a w :=
  wpList_plain hgd fun _ hK => by
    cases hq : P.info? ty with
    | none => rw [hq] at hz; cases hz
    | some i =>
      rw [hq] at hz
      have hz' : i.zero = some z := hz
      unfold Oper.wp execOp
      simp only [ho]
      have e : (Instr.alloc ty true (.tuple #[])).run P w = .ok (.pointer (some ⟨w.heap.size, 0, none⟩)) (w.alloc (.cells z.cells ty)) := by
        simp [Instr.alloc, zeroValue, typeInfo, hq, hz', newVar, newRow]
      simp only [Sem.run_bind, e, Result.andThen_ok, Sem.run_pure]
      exact hK _ _ h

def codeCells (cnt sym : Nat → Int) : List Value := ints 13 cnt ++ ints 272 sym
theorem codeCells_length (cnt sym : Nat → Int) : (codeCells cnt sym).length = 285 := by simp [codeCells, ints_length]
theorem codeCells_one (cnt sym : Nat → Int) : ∀ v ∈ codeCells cnt sym, v.oneCell' = true := by
  intro v hv
  rcases List.mem_append.1 hv with h | h
  · exact ints_one _ _ v h
  · exact ints_one _ _ v h
theorem codeCells_get (cnt sym : Nat → Int) (j : Nat) (hj : j < 285) : (codeCells cnt sym)[j]? = some (.int .i64 (if j < 13 then cnt j else sym (j - 13))) := by
  unfold codeCells
  by_cases h : j < 13
  · rw [List.getElem?_append_left (by rw [ints_length]; exact h), ints_get, if_pos h, if_pos h]
  · rw [List.getElem?_append_right (by rw [ints_length]; omega), ints_length, ints_get, if_pos (by omega), if_neg h]

theorem info_code : (Try.prog.info? 87).map (·.size) = some 285 := by kernel_rfl
theorem info_13 : (Try.prog.info? 85).map (·.size) = some 13 := by kernel_rfl
theorem zero_code : ((Try.prog.info? 87).bind (·.zero)).map (fun z => z.cells.size) = some 285 := by kernel_rfl
theorem under_code : (Try.prog.underlying 87).map TypeDesc.isRow = some true := by kernel_rfl

section
variable {w : World} {b : Nat} {s : Rd} {v : Value}

theorem Row.range_code (hr : Row w b s v) : w.rangeAt b 284 (codeCells s.mcnt s.msym) := by
  intro j x hx
  have hj : j < 285 := by
    have := (List.getElem?_eq_some_iff.1 hx).1
    rwa [codeCells_length] at this
  rw [codeCells_get _ _ _ hj] at hx
  injection hx with hx
  subst hx
  by_cases h : j < 13
  · rw [if_pos h]; exact hr.c_mcnt j h
  · rw [if_neg h]
    have := hr.c_msym (j - 13) (by omega)
    rw [show 297 + (j - 13) = 284 + j by omega] at this
    exact this

set_option maxHeartbeats 400000 in
theorem Code_any (hr : Row w b s v) :
    Calls Try.prog 91 #[.pointer (some ⟨b, 6, none⟩)] w fun e w' =>
      e = .returned (.agg (codeCells s.mcnt s.msym).toArray) ∧ Row w' b s v ∧ On b w w' := by
  obtain ⟨d, hd, hrow⟩ : ∃ d, Try.prog.underlying 87 = some d ∧ d.isRow = true := by
    have := under_code
    cases h : Try.prog.underlying 87 with
    | none => rw [h] at this; cases this
    | some d => rw [h] at this; injection this with this; exact ⟨d, rfl, this⟩
  obtain ⟨z, hz, hsz⟩ : ∃ z, (Try.prog.info? 87).bind (·.zero) = some z ∧ z.cells.size = 285 := by
    have := zero_code
    cases h : (Try.prog.info? 87).bind (·.zero) with
    | none => rw [h] at this; cases this
    | some z => rw [h] at this; injection this with this; exact ⟨z, rfl, this⟩
  have hrg := (hr.alloc (.cells z.cells 87)).range_code
  have HI := info_code
  have HL := codeCells_length s.mcnt s.msym
  have H1 := all_oneCell_toArray (codeCells_one s.mcnt s.msym)
  generalize codeCells s.mcnt s.msym = C at *
  have HD : Hid (Try.prog.underlying 87 = some d) := hd
  have HZ : Hid ((Try.prog.info? 87).bind (·.zero) = some z ∧ z.cells.size = 285) := ⟨hz, hsz⟩
  have HI' : Hid ((Try.prog.info? 87).map (·.size) = some C.length) := by rw [HL]; exact HI
  have HI2 : Hid ((Try.prog.info? 87).map (·.size) = some C.toArray.size) := by rw [List.size_toArray, HL]; exact HI
  have HL2 : Hid (z.cells.size = C.toArray.size) := by show z.cells.size = C.toArray.size; rw [hsz, List.size_toArray, HL]
  have H1' : Hid (C.toArray.all (·.oneCell') = true) := H1
  clear hd hz hsz HI HL H1
  go_enter Try.func91, Try.ntmps91
  go_wp2_with (first
    | (refine wpList_alloc_zero rfl 87 rfl z HZ.out.1 ?_)
    | (refine wpList_load_mid rfl 87 _ rfl b 284 rfl C d hrg HD.out hrow HI'.out ?_)
    | (refine wpList_store_new rfl 87 _ _ rfl z.cells C.toArray rfl rfl HI2.out HL2.out H1'.out ?_))
  refine bodyPost_ret (results_cell_row rfl _ _ w.heap.size 87 C.toArray (0, 0) d rfl (heap_alloc_last _ _) HD.out (by cases d <;> first | rfl | cases hrow) HI2.out) rfl ?_
  exact ⟨rfl, hr.alloc _, (On.refl b w).alloc _⟩
end
end Go.Proofs.Ytmpfgdmdnghhgaa
