import Derived.Test.YtmpfgdmdnghhgaaW2
import Derived.Deep.MidRow
import Derived.Deep.WholeRow
import Derived.Lib.LazyBuf
namespace Go.Proofs.Ytmpfgdmdnghhgaa
open Go.RowKit Wr

def ints (n : Nat) (f : Nat → Int) : List Value := (List.range n).map fun i => .int .i64 (f i)
theorem ints_length (n : Nat) (f : Nat → Int) : (ints n f).length = n := by simp [ints]
theorem ints_get (n : Nat) (f : Nat → Int) (j : Nat) : (ints n f)[j]? = if j < n then some (.int .i64 (f j)) else none := by
  unfold ints
  rw [List.getElem?_map]
  split <;> simp_all
theorem ints_one (n : Nat) (f : Nat → Int) : ∀ v ∈ ints n f, v.oneCell' = true := by
  intro v hv
  simp only [ints, List.mem_map] at hv
  obtain ⟨i, _, rfl⟩ := hv
  rfl

theorem below_alloc (w : World) (o : Obj) : Below w.heap.size w (w.alloc o) := (Below.refl _ _).alloc (Nat.le_refl _) o

set_option maxHeartbeats 400000 in
theorem simpleCounts_any (w : World) (n : Int) (h1 : 1 ≤ n) (h4 : n ≤ 4) :
    Calls Try.prog 126 #[.int .i64 n] w fun e w' => e = .returned (.agg (ints 13 (simpleCnt n)).toArray) ∧ Below w.heap.size w w' := by
  have hc : n = 1 ∨ n = 2 ∨ n = 3 ∨ n = 4 := by omega
  rcases hc with rfl | rfl | rfl | rfl
  all_goals
    clear h1 h4
    go_enter Try.func126, Try.ntmps126
    go_wp2
    exact bodyPost_ret (v := .agg (ints 13 (simpleCnt _)).toArray) (by simp [results, Try.results126, go_sem]; rfl) rfl ⟨rfl, below_alloc _ _⟩

theorem wpList_store_new {P : Program} {ops : Array Oper} {rest : List Oper} {op : Oper} {a : Act} {w : World} {Q : Exit → Act → World → Prop} (hgd : op.guard = none) (ty : TypeId) (x y : Operand) (ho : op.op = .store ty x y)
    (c c' : Array Value) (hx : a.eval x = .pointer (some ⟨w.heap.size, 0, none⟩)) (hy : a.eval y = .agg c')
    (hi : (P.info? ty).map (·.size) = some c'.size) (hs : c.size = c'.size) (h1 : c'.all (·.oneCell') = true)
    (h : wpList P ops Q rest (a.put op.dst undef) (w.alloc (.cells c' ty))) : wpList P ops Q (op :: rest) a (w.alloc (.cells c ty)) :=
  wpList_plain hgd fun _ hK => by
    unfold Oper.wp execOp
    simp only [ho, hx, hy, Instr.storeAt, Instr.sureAddr, Sem.run_bind, Sem.run_pure, Result.andThen_ok, run_storeVar_new w ty c c' hi hs h1]
    exact hK _ _ h

theorem wpList_alloc_zero {P : Program} {ops : Array Oper} {rest : List Oper} {op : Oper} {a : Act} {w : World} {Q : Exit → Act → World → Prop} (hgd : op.guard = none) (ty : TypeId) (ho : op.op = .alloc ty)
    (z : Value) (hz : (P.info? ty).bind (·.zero) = some z)
    (h : wpList P ops Q rest (a.put op.dst (.pointer (some ⟨w.heap.size, 0, none⟩))) (w.alloc (.cells z.cells ty))) : wpList P ops Q (op :: rest) a w :=
  wpList_plain hgd fun _ hK => by
    cases hq : P.info? ty with
    | none => rw [hq] at hz; cases hz
    | some i =>
      rw [hq] at hz
      have hz' : i.zero = some z := hz
      unfold Oper.wp execOp
      simp only [ho]
      have e : (Instr.alloc ty true (.tuple #[])).run P w = .ok (.pointer (some ⟨w.heap.size, 0, none⟩)) (w.alloc (.cells z.cells ty)) := by
        simp [Instr.alloc, zeroValue, typeInfo, hq, hz', newVar, newRow]
      simp only [Sem.run_bind, e, Result.andThen_ok, Sem.run_pure]
      exact hK _ _ h

def codeCells (cnt sym : Nat → Int) : List Value := ints 13 cnt ++ ints 272 sym
theorem codeCells_length (cnt sym : Nat → Int) : (codeCells cnt sym).length = 285 := by simp [codeCells, ints_length]
theorem codeCells_one (cnt sym : Nat → Int) : ∀ v ∈ codeCells cnt sym, v.oneCell' = true := by
  intro v hv
  rcases List.mem_append.1 hv with h | h
  · exact ints_one _ _ v h
  · exact ints_one _ _ v h
theorem codeCells_get (cnt sym : Nat → Int) (j : Nat) (hj : j < 285) : (codeCells cnt sym)[j]? = some (.int .i64 (if j < 13 then cnt j else sym (j - 13))) := by
  unfold codeCells
  by_cases h : j < 13
  · rw [List.getElem?_append_left (by rw [ints_length]; exact h), ints_get, if_pos h, if_pos h]
  · rw [List.getElem?_append_right (by rw [ints_length]; omega), ints_length, ints_get, if_pos (by omega), if_neg h]

theorem info_code : (Try.prog.info? 87).map (·.size) = some 285 := by kernel_rfl
theorem info_13 : (Try.prog.info? 85).map (·.size) = some 13 := by kernel_rfl
theorem zero_code : ((Try.prog.info? 87).bind (·.zero)).map (fun z => z.cells.size) = some 285 := by kernel_rfl
theorem under_code : (Try.prog.underlying 87).map TypeDesc.isRow = some true := by kernel_rfl

section
variable {w : World} {b : Nat} {s : Rd} {v : Value}

theorem Row.range_code (hr : Row w b s v) : w.rangeAt b 284 (codeCells s.mcnt s.msym) := by
  intro j x hx
  have hj : j < 285 := by
    have := (List.getElem?_eq_some_iff.1 hx).1
    rwa [codeCells_length] at this
  rw [codeCells_get _ _ _ hj] at hx
  injection hx with hx
  subst hx
  by_cases h : j < 13
  · rw [if_pos h]; exact hr.c_mcnt j h
  · rw [if_neg h]
    have := hr.c_msym (j - 13) (by omega)
    rw [show 297 + (j - 13) = 284 + j by omega] at this
    exact this

set_option maxHeartbeats 400000 in
theorem Code_any (hr : Row w b s v) :
    Calls Try.prog 91 #[.pointer (some ⟨b, 6, none⟩)] w fun e w' =>
      e = .returned (.agg (codeCells s.mcnt s.msym).toArray) ∧ Row w' b s v ∧ On b w w' := by
  obtain ⟨d, hd, hrow⟩ : ∃ d, Try.prog.underlying 87 = some d ∧ d.isRow = true := by
    have := under_code
    cases h : Try.prog.underlying 87 with
    | none => rw [h] at this; cases this
    | some d => rw [h] at this; injection this with this; exact ⟨d, rfl, this⟩
  obtain ⟨z, hz, hsz⟩ : ∃ z, (Try.prog.info? 87).bind (·.zero) = some z ∧ z.cells.size = 285 := by
    have := zero_code
    cases h : (Try.prog.info? 87).bind (·.zero) with
    | none => rw [h] at this; cases this
    | some z => rw [h] at this; injection this with this; exact ⟨z, rfl, this⟩
  have hrg := (hr.alloc (.cells z.cells 87)).range_code
  have HI := info_code
  have HL := codeCells_length s.mcnt s.msym
  have H1 := all_oneCell_toArray (codeCells_one s.mcnt s.msym)
  generalize codeCells s.mcnt s.msym = C at *
  have HD : Hid (Try.prog.underlying 87 = some d) := hd
  have HZ : Hid ((Try.prog.info? 87).bind (·.zero) = some z ∧ z.cells.size = 285) := ⟨hz, hsz⟩
  have HI' : Hid ((Try.prog.info? 87).map (·.size) = some C.length) := by rw [HL]; exact HI
  have HI2 : Hid ((Try.prog.info? 87).map (·.size) = some C.toArray.size) := by rw [List.size_toArray, HL]; exact HI
  have HL2 : Hid (z.cells.size = C.toArray.size) := by show z.cells.size = C.toArray.size; rw [hsz, List.size_toArray, HL]
  have H1' : Hid (C.toArray.all (·.oneCell') = true) := H1
  clear hd hz hsz HI HL H1
  go_enter Try.func91, Try.ntmps91
  go_wp2_with (first
    | (refine wpList_alloc_zero rfl 87 rfl z HZ.out.1 ?_)
    | (refine wpList_load_mid rfl 87 _ rfl b 284 rfl C d hrg HD.out hrow HI'.out ?_)
    | (refine wpList_store_new rfl 87 _ _ rfl z.cells C.toArray rfl rfl HI2.out HL2.out H1'.out ?_))
  refine bodyPost_ret (results_cell_row rfl _ _ w.heap.size 87 C.toArray (0, 0) d rfl (heap_alloc_last _ _) HD.out (by cases d <;> first | rfl | cases hrow) HI2.out) rfl ?_
  exact ⟨rfl, hr.alloc _, (On.refl b w).alloc _⟩
end
end Go.Proofs.Ytmpfgdmdnghhgaa

namespace Go.Proofs.Ytmpfgdmdnghhgaa
open Go.RowKit Wr

section
variable {w : World} {b : Nat} {s : Rd} {v : Value}

theorem Row.cells (hr : Row w b s v) (o : Nat) (vs : List Value) (t : Rd)
    (e : ∀ j, j < 5247 → (if o ≤ j ∧ j < o + vs.length then vs[j - o]?.getD default else cellsOf s v j) = cellsOf t v j) : Row (w.setCells b o vs) b t v :=
  (Go.rowIs_setCells vs o w _ hr).congr e

theorem Row.cnts (hr : Row w b s v) (f : Nat → Int) : Row (w.setCells b 284 (ints 13 f)) b { s with mcnt := f } v := by
  refine hr.cells _ _ _ fun j _ => ?_
  rw [ints_length]
  by_cases h : 284 ≤ j ∧ j < 284 + 13
  · rw [if_pos h, ints_get, if_pos (by omega)]
    unfold cellsOf
    repeat rw [if_neg (by omega)]
    rw [if_pos h]
    rfl
  · rw [if_neg h]
    simp only [cellsOf, if_neg h]

theorem On.cells (b : Nat) {w w' : World} (h : On b w w') (vs : List Value) (o : Nat) : On b w (w'.setCells b o vs) := by
  induction vs generalizing o w' with
  | nil => exact h
  | cons x r ih => exact ih (h.set o x) (o + 1)

theorem Row.there (hr : Row w b s v) (o n : Nat) (h : o + n ≤ 5247) : w.there b o n := by
  intro j hj
  refine ⟨?_, hr.free _⟩
  rw [hr.at (o + j) (by omega) rfl]
  rfl

theorem count_bounds (f : Nat → Int) : ∀ n : Nat, (∀ j, 0 ≤ (countGo f n).1 j ∧ (countGo f n).1 j ≤ n) ∧ 0 ≤ (countGo f n).2 ∧ (countGo f n).2 ≤ 4096 * n
  | 0 => ⟨fun j => by simp [countGo], by simp [countGo], by simp [countGo]⟩
  | n + 1 => by
    obtain ⟨h1, h2, h3⟩ := count_bounds f n
    unfold countGo
    by_cases h : 0 < f n ∧ f n ≤ 12
    · simp only [if_pos h]
      refine ⟨fun j => ?_, ?_, ?_⟩
      · have a := h1 j
        have c := h1 (f n).toNat
        simp only [upd]
        split
        · omega
        · omega
      · have := pow_lt64 (12 - f n).toNat (by omega); omega
      · have h4 : (2 : Int) ^ (12 - f n).toNat ≤ 4096 := pow_mono (show (12 - f n).toNat ≤ 12 by omega)
        omega
    · simp only [if_neg h]
      exact ⟨fun j => by have := h1 j; omega, h2, by omega⟩

theorem count_yes {f : Nat → Int} {n : Nat} (h : 0 < f n ∧ f n ≤ 12) :
    (countGo f (n + 1)) = (upd (countGo f n).1 (f n).toNat ((countGo f n).1 (f n).toNat + 1), (countGo f n).2 + 2 ^ (12 - f n).toNat) := by
  conv => lhs; unfold countGo
  simp only [if_pos h]
theorem count_no {f : Nat → Int} {n : Nat} (h : ¬ (0 < f n ∧ f n ≤ 12)) : countGo f (n + 1) = countGo f n := by
  conv => lhs; unfold countGo
  simp only [if_neg h]

set_option maxHeartbeats 1000000 in
theorem count_any (hr : Row w b s v) (n : Nat) (hn : n ≤ 272) :
    Calls Try.prog 136 #[.pointer (some ⟨b, 284, none⟩), .slice (some ⟨b, 12, none⟩) n 272] w fun e w' =>
      e = .returned (.bool ((countGo s.mlen n).2 == 4096)) ∧ Row w' b { s with mcnt := (countGo s.mlen n).1 } v ∧ On b w w' := by
  have ht := hr.there 284 13 (by omega)
  have HI : Hid ((Try.prog.info? 85).map (·.size) = some (ints 13 (fun _ => 0)).toArray.size) := info_13
  have H1 : Hid ((ints 13 (fun _ => 0)).toArray.all (·.oneCell') = true) := all_oneCell_toArray (ints_one 13 _)
  have hr0 := hr.cnts (fun _ => 0)
  have hon0 : On b w (w.setCells b 284 (ints 13 (fun _ => 0))) := (On.refl b w).cells b _ _
  clear hr
  go_enter Try.func136, Try.ntmps136
  go_wp2_with (refine wpList_store_mid rfl 85 _ _ rfl b 284 (ints 13 (fun _ => 0)).toArray rfl rfl ht HI.out H1.out ?_)
  go_loopw [5, 6] (fun vs vi wr => ∃ k : Nat, k ≤ n ∧ vi = .int .i64 k ∧ vs = .int .i64 (countGo s.mlen k).2 ∧ Row wr b { s with mcnt := (countGo s.mlen k).1 } v ∧ On b w wr) (fun _ vi _ => n - (intOf vi).toNat)
  case atStart => exact ⟨0, by omega, rfl, rfl, hr0, hon0⟩
  case round =>
    obtain ⟨k, hk, rfl, rfl, hrk, honk⟩ := hrel
    clear hr0 hon0 ht
    have cb := count_bounds s.mlen k
    by_cases hlt : k < n
    · have hlk := hrk.c_mlen k (by omega)
      have hfz := hrk.free
      have hlk' : wr.cell? ⟨b, 12 + k, none⟩ = some (.int .i64 (s.mlen k)) := hlk
      clear hlk
      by_cases hy : 0 < s.mlen k ∧ s.mlen k ≤ 12
      · have HE : Hid (countGo s.mlen (k + 1) = (upd (countGo s.mlen k).1 (s.mlen k).toNat ((countGo s.mlen k).1 (s.mlen k).toNat + 1), (countGo s.mlen k).2 + 2 ^ (12 - s.mlen k).toNat)) := count_yes hy
        obtain ⟨hy1, hy2⟩ := hy
        have hcn : wr.cell? ⟨b, 284 + (s.mlen k).toNat, none⟩ = some (.int .i64 ((countGo s.mlen k).1 (s.mlen k).toNat)) := hrk.c_mcnt (s.mlen k).toNat (by omega)
        have hp := pow_lt64 (12 - s.mlen k).toNat (by omega)
        have hb1 := cb.1 (s.mlen k).toNat
        have hb2 := cb.2
        clear cb
        go_wp2
        go_region
        go_wp2
        go_roundw
        case rel =>
          refine ⟨k + 1, by omega, by go_num, ?_, ?_, (honk.set _ _).drew⟩
          · rw [HE.out]
          · rw [HE.out]
            exact (hrk.mcnt (s.mlen k).toNat (by omega) ((countGo s.mlen k).1 (s.mlen k).toNat + 1)).drew
        case measure => simp [intOf]; omega
      · have HE : Hid (countGo s.mlen (k + 1) = countGo s.mlen k) := count_no hy
        clear cb
        by_cases hy1 : 0 < s.mlen k
        · have hy2 : ¬ s.mlen k ≤ 12 := fun h => hy ⟨hy1, h⟩
          clear hy
          go_wp2
          go_roundw
          case rel => exact ⟨k + 1, by omega, by go_num, by rw [HE.out], by rw [HE.out]; exact hrk, honk⟩
          case measure => simp [intOf]; omega
        · clear hy
          go_wp2
          go_roundw
          case rel => exact ⟨k + 1, by omega, by go_num, by rw [HE.out], by rw [HE.out]; exact hrk, honk⟩
          case measure => simp [intOf]; omega
    · have hkn : k = n := by omega
      subst hkn
      clear cb
      go_wp2
      go_ret
      exact ⟨rfl, hrk, honk⟩

theorem On.above {b : Nat} {w w' : World} (h : On b w w') {p : Addr} (hp : w.heap.size ≤ p.block) (x : Value) : On b w (w'.setCell p x) :=
  ⟨h.os, h.tape, h.output, by have := h.size; simpa [World.setCell] using this, fun k hk hb => (Below.heap_setCell _ _ _ _ (by omega)).trans (h.block k hk hb)⟩

theorem next_bounds (f : Nat → Int) (hf : ∀ j, 0 ≤ f j ∧ f j ≤ 300) : ∀ n : Nat, 0 ≤ nextGo f n ∧ nextGo f n ≤ 300 * n
  | 0 => by simp [nextGo]
  | 1 => by simp [nextGo]
  | n + 2 => by
    have h1 := next_bounds f hf (n + 1)
    have h2 := hf (n + 1)
    have e : nextGo f (n + 2) = nextGo f (n + 1) + f (n + 1) := rfl
    rw [e]
    omega

theorem order_bounds (cnt sym len : Nat → Int) (hf : ∀ j, 0 ≤ cnt j ∧ cnt j ≤ 300) (n : Nat) : ∀ k : Nat, k ≤ n → ∀ j, j < 13 → 0 ≤ (orderGo cnt sym len k).2 j ∧ (orderGo cnt sym len k).2 j ≤ 3900 + k
  | 0, _, j, hj => by
    have := next_bounds cnt hf j
    show 0 ≤ nextGo cnt j ∧ nextGo cnt j ≤ _
    omega
  | k + 1, hk, j, hj => by
    have ih := order_bounds cnt sym len hf n k (by omega) j hj
    unfold orderGo
    by_cases h : 0 < len k ∧ len k ≤ 12 ∧ (orderGo cnt sym len k).2 (len k).toNat < 272
    · simp only [if_pos h, upd]
      have ih2 := order_bounds cnt sym len hf n k (by omega) (len k).toNat (by omega)
      split <;> omega
    · simp only [if_neg h]
      omega

theorem order_yes {cnt sym len : Nat → Int} {k : Nat} (h : 0 < len k ∧ len k ≤ 12 ∧ (orderGo cnt sym len k).2 (len k).toNat < 272) :
    orderGo cnt sym len (k + 1) = (upd (orderGo cnt sym len k).1 ((orderGo cnt sym len k).2 (len k).toNat).toNat k, upd (orderGo cnt sym len k).2 (len k).toNat ((orderGo cnt sym len k).2 (len k).toNat + 1)) := by
  conv => lhs; unfold orderGo
  simp only [if_pos h]
theorem order_no {cnt sym len : Nat → Int} {k : Nat} (h : ¬ (0 < len k ∧ len k ≤ 12 ∧ (orderGo cnt sym len k).2 (len k).toNat < 272)) :
    orderGo cnt sym len (k + 1) = orderGo cnt sym len k := by
  conv => lhs; unfold orderGo
  simp only [if_neg h]

theorem Row.above (hr : Row w b s v) {p : Addr} (hp : p.block ≠ b) (x : Value) : Row (w.setCell p x) b s v := hr.of_block (Below.heap_setCell _ _ _ _ (fun e => hp e.symm))

theorem next_step (cnt : Nat → Int) (k : Nat) (hk : 1 ≤ k) (j : Nat) :
    (if j = k + 1 then Value.int .i64 (nextGo cnt k + cnt k) else .int .i64 (if j ≤ k then nextGo cnt j else 0)) = .int .i64 (if j ≤ k + 1 then nextGo cnt j else 0) := by
  by_cases h : j = k + 1
  · subst h
    rw [if_pos rfl, if_pos (Nat.le_refl _)]
    match k, hk with
    | m + 1, _ => rfl
  · rw [if_neg h]
    by_cases h2 : j ≤ k
    · rw [if_pos h2, if_pos (by omega)]
    · rw [if_neg h2, if_neg (by omega)]

def nx (f : Nat → Int) : Nat → Value := fun j => .int .i64 (f j)

set_option maxHeartbeats 1000000 in
theorem order_any (hr : Row w b s v) (n : Nat) (hn : n ≤ 272) (hcb : ∀ j, 0 ≤ s.mcnt j ∧ s.mcnt j ≤ 300) :
    Calls Try.prog 137 #[.pointer (some ⟨b, 284, none⟩), .slice (some ⟨b, 12, none⟩) n 272] w fun e w' =>
      e = .returned (.tuple #[]) ∧ Row w' b { s with msym := (orderGo s.mcnt s.msym s.mlen n).1 } v ∧ On b w w' := by
  have hb : b < w.heap.size := hr.lt
  have hr0 : ∀ o, Row (w.alloc o) b s v := fun o => hr.alloc o
  have hn0 : (w.alloc (.cells #[.int .i64 0, .int .i64 0, .int .i64 0, .int .i64 0, .int .i64 0, .int .i64 0, .int .i64 0, .int .i64 0, .int .i64 0, .int .i64 0, .int .i64 0, .int .i64 0, .int .i64 0] 85)).rowIs w.heap.size 85 13
      (nx fun j => if j ≤ 1 then nextGo s.mcnt j else 0) := by
    refine (World.rowIs_alloc w _ _ (nx fun _ => 0) ?_).congr ?_
    · intro i hi
      simp only [nx]
      have hi' : i < 13 := hi
      match i, hi' with
      | 0, _ => rfl
      | 1, _ => rfl
      | 2, _ => rfl
      | 3, _ => rfl
      | 4, _ => rfl
      | 5, _ => rfl
      | 6, _ => rfl
      | 7, _ => rfl
      | 8, _ => rfl
      | 9, _ => rfl
      | 10, _ => rfl
      | 11, _ => rfl
      | 12, _ => rfl
    · intro i _
      match i with
      | 0 => rfl
      | 1 => rfl
      | i + 2 => rfl
  clear hr
  go_enter Try.func137, Try.ntmps137
  go_wp2
  go_loopw [5] (fun vi wr => ∃ k : Nat, 1 ≤ k ∧ k ≤ 12 ∧ vi = .int .i64 k ∧ Row wr b s v ∧ wr.rowIs w.heap.size 85 13 (nx fun j => if j ≤ k then nextGo s.mcnt j else 0) ∧ On b w wr) (fun vi _ => 13 - (intOf vi).toNat)
  case atStart => exact ⟨1, by omega, by omega, rfl, hr0 _, hn0, (On.refl b w).alloc _⟩
  case round =>
    obtain ⟨k, hk1, hk2, rfl, hrk, hnk, honk⟩ := hrel
    clear hr0 hn0
    by_cases hlt : k < 12
    · have hc := hrk.c_mcnt k (by omega)
      have hnc : wr.cell? ⟨w.heap.size, k, none⟩ = some (.int .i64 (nextGo s.mcnt k)) := by rw [hnk.cell (by omega : k < 13)]; simp only [nx]; rw [if_pos (by omega)]
      have hnc1 : wr.cell? ⟨w.heap.size, k + 1, none⟩ = some (.int .i64 0) := by rw [hnk.cell (by omega : k + 1 < 13)]; simp only [nx]; rw [if_neg (by omega)]
      have hfz := hrk.free
      have hfn : ∀ o, wr.frozen? ⟨w.heap.size, o, none⟩ = false := fun o => hnk.frozen o
      have hnb := next_bounds s.mcnt hcb k
      have hcb1 := hcb k
      go_wp2
      go_region
      go_wp2
      go_roundw
      case rel =>
        refine ⟨k + 1, by omega, by omega, by go_num, (hrk.above (by show w.heap.size ≠ b; omega) _).drew, ?_, (honk.above (Nat.le_refl _) _).drew⟩
        refine (World.rowIs.congr (World.rowIs.set hnk (k + 1) _) ?_)
        intro j _
        exact next_step s.mcnt k hk1 j
      case measure => simp [intOf]; omega
    · have hk12 : k = 12 := by omega
      subst hk12
      go_wp2
      go_loopw [6] (fun vi wr => ∃ k : Nat, k ≤ n ∧ vi = .int .i64 k ∧ Row wr b { s with msym := (orderGo s.mcnt s.msym s.mlen k).1 } v ∧ wr.rowIs w.heap.size 85 13 (nx (orderGo s.mcnt s.msym s.mlen k).2) ∧ On b w wr) (fun vi _ => n - (intOf vi).toNat)
      case atStart =>
        refine ⟨0, by omega, rfl, hrk, ?_, honk⟩
        refine World.rowIs.congr hnk ?_
        intro j hj
        simp only [nx]
        rw [if_pos (by omega)]
        rfl
      case round =>
        obtain ⟨k, hk, rfl, hrk, hnk, honk⟩ := hrel
        have hlk : k < 272 → wr.cell? ⟨b, 12 + k, none⟩ = some (.int .i64 (s.mlen k)) := fun h => hrk.c_mlen k h
        have hfz := hrk.free
        have hfn : ∀ o, wr.frozen? ⟨w.heap.size, o, none⟩ = false := fun o => hnk.frozen o
        by_cases hlt : k < n
        · have hlk' := hlk (by omega)
          clear hlk
          by_cases hy : 0 < s.mlen k ∧ s.mlen k ≤ 12
          · obtain ⟨hy1, hy2⟩ := hy
            have ob := order_bounds s.mcnt s.msym s.mlen hcb n k hk (s.mlen k).toNat (by omega)
            have hnc : wr.cell? ⟨w.heap.size, (s.mlen k).toNat, none⟩ = some (.int .i64 ((orderGo s.mcnt s.msym s.mlen k).2 (s.mlen k).toNat)) := hnk.cell (by omega)
            clear hcb
            by_cases hy3 : (orderGo s.mcnt s.msym s.mlen k).2 (s.mlen k).toNat < 272
            · have HE : Hid (orderGo s.mcnt s.msym s.mlen (k + 1) = _) := order_yes ⟨hy1, hy2, hy3⟩
              have hsc : ∃ u, wr.cell? ⟨b, 297 + ((orderGo s.mcnt s.msym s.mlen k).2 (s.mlen k).toNat).toNat, none⟩ = some (.int .i64 u) := ⟨_, hrk.c_msym _ (by omega)⟩
              obtain ⟨u, hsc⟩ := hsc
              go_wp2
              go_region
              go_wp2
              go_roundw
              case rel =>
                refine ⟨k + 1, by omega, by go_num, ?_, ?_, ?_⟩
                · rw [HE.out]
                  exact ((hrk.msym _ (by omega) (k : Int)).above (by show w.heap.size ≠ b; omega) _).drew
                · rw [HE.out]
                  refine World.rowIs.congr (World.rowIs.set (World.rowIs.setOther hnk (by show w.heap.size ≠ b; omega) _) (s.mlen k).toNat _) ?_
                  intro j _
                  simp only [nx, upd]
                  by_cases e : j = (s.mlen k).toNat
                  · rw [if_pos e, if_pos e]
                  · rw [if_neg e, if_neg e]
                · exact ((honk.set _ _).above (Nat.le_refl _) _).drew
              case measure => simp [intOf]; omega
            · have HE : Hid (orderGo s.mcnt s.msym s.mlen (k + 1) = orderGo s.mcnt s.msym s.mlen k) := order_no (fun h => hy3 h.2.2)
              go_wp2
              go_roundw
              case rel => exact ⟨k + 1, by omega, by go_num, by rw [HE.out]; exact hrk, by rw [HE.out]; exact hnk, honk⟩
              case measure => simp [intOf]; omega
          · have HE : Hid (orderGo s.mcnt s.msym s.mlen (k + 1) = orderGo s.mcnt s.msym s.mlen k) := order_no (fun h => hy ⟨h.1, h.2.1⟩)
            clear hcb
            by_cases hy1 : 0 < s.mlen k
            · have hy2 : ¬ s.mlen k ≤ 12 := fun h => hy ⟨hy1, h⟩
              clear hy
              go_wp2
              go_roundw
              case rel => exact ⟨k + 1, by omega, by go_num, by rw [HE.out]; exact hrk, by rw [HE.out]; exact hnk, honk⟩
              case measure => simp [intOf]; omega
            · clear hy
              go_wp2
              go_roundw
              case rel => exact ⟨k + 1, by omega, by go_num, by rw [HE.out]; exact hrk, by rw [HE.out]; exact hnk, honk⟩
              case measure => simp [intOf]; omega
        · have hkn : k = n := by omega
          subst hkn
          clear hlk hcb
          go_wp2
          go_end0
          exact ⟨rfl, hrk, honk⟩
end
end Go.Proofs.Ytmpfgdmdnghhgaa
