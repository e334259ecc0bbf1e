import Derived.Test.YtmpfgdmdnghhgaaW4
import Derived.Test.YtmpfgdmdnghhgaaC1
/- ROWS BY VALUE: a whole row out of a block, into a block, as a result. -/
namespace Go.Proofs.Ytmpfgdmdnghhgaa
open Go.RowKit Wr

def cellsL (n : Nat) (F : Nat → Value) : List Value := (List.range n).map F
theorem cellsL_length (n : Nat) (F : Nat → Value) : (cellsL n F).length = n := by simp [cellsL]
theorem cellsL_get (n : Nat) (F : Nat → Value) (j : Nat) : (cellsL n F)[j]? = if j < n then some (F j) else none := by
  unfold cellsL
  rw [List.getElem?_map]
  split <;> simp_all
theorem cellsL_one {n : Nat} {F : Nat → Value} (h : ∀ j, j < n → (F j).oneCell' = true) : ∀ v ∈ cellsL n F, v.oneCell' = true := by
  intro v hv
  simp only [cellsL, List.mem_map, List.mem_range] at hv
  obtain ⟨i, hi, rfl⟩ := hv
  exact h i hi
theorem cellsL_congr {n : Nat} {F G : Nat → Value} (h : ∀ j, j < n → F j = G j) : cellsL n F = cellsL n G := by
  unfold cellsL
  exact List.map_congr_left fun j hj => h j (List.mem_range.1 hj)
theorem ints_cells (n : Nat) (f : Nat → Int) : ints n f = cellsL n (fun i => .int .i64 (f i)) := rfl

section
variable {w : World} {b : Nat} {t : TypeId} {n : Nat} {F : Nat → Value}
theorem rowIs_heap (h : w.rowIs b t n F) : w.heap[b]? = some (.cells (cellsL n F).toArray t (0, 0)) := by
  obtain ⟨c, hb, hn, hc⟩ := h
  rw [hb]
  have : c = (cellsL n F).toArray := by
    apply Array.ext_getElem?
    intro i
    have e : (cellsL n F).toArray[i]? = (cellsL n F)[i]? := by simp
    rw [e, cellsL_get]
    by_cases hi : i < n
    · rw [if_pos hi, hc i hi]
    · rw [if_neg hi, Array.getElem?_eq_none (by omega)]
  rw [this]
theorem rowIs_range (h : w.rowIs b t n F) : w.rangeAt b 0 (cellsL n F) := by
  intro j v hv
  rw [cellsL_get] at hv
  by_cases hj : j < n
  · rw [if_pos hj] at hv
    injection hv with hv
    subst hv
    rw [Nat.zero_add]
    exact World.rowIs.cell h hj
  · rw [if_neg hj] at hv
    cases hv
theorem rowIs_there (h : w.rowIs b t n F) : w.there b 0 n := fun j hj => ⟨by rw [Nat.zero_add, World.rowIs.cell h hj]; rfl, World.rowIs.frozen h _⟩
theorem rowIs_setAll (h : w.rowIs b t n F) (G : Nat → Value) : (w.setCells b 0 (cellsL n G)).rowIs b t n G := by
  refine (Go.rowIs_setCells (cellsL n G) 0 w _ h).congr fun j hj => ?_
  rw [cellsL_length, if_pos (by omega), Nat.sub_zero, cellsL_get, if_pos hj]
  rfl
/-- an alloc of a row of zeros -/
theorem rowIs_new (w : World) (t : TypeId) (n : Nat) (F : Nat → Value) : (w.alloc (.cells (cellsL n F).toArray t)).rowIs w.heap.size t n F := by
  have hs : (cellsL n F).toArray.size = n := by rw [List.size_toArray, cellsL_length]
  have := World.rowIs_alloc w (cellsL n F).toArray t F (fun i hi => by
    have e : (cellsL n F).toArray[i]? = (cellsL n F)[i]? := by simp
    rw [hs] at hi
    rw [e, cellsL_get, if_pos hi])
  rw [hs] at this
  exact this
end

structure RowTy (ty : TypeId) (n : Nat) (Z : Nat → Value) : Prop where
  under : ∃ d, Try.prog.underlying ty = some d ∧ d.isRow = true
  size : (Try.prog.info? ty).map (·.size) = some n
  zero : ∃ z, (Try.prog.info? ty).bind (·.zero) = some z ∧ z.cells = (cellsL n Z).toArray

theorem rowTy_of {ty : TypeId} {n : Nat} {Z : Nat → Value} (h1 : (Try.prog.underlying ty).map TypeDesc.isRow = some true) (h2 : (Try.prog.info? ty).map (·.size) = some n) (h3 : ((Try.prog.info? ty).bind (·.zero)).map (·.cells) = some (cellsL n Z).toArray) : RowTy ty n Z := by
  refine ⟨?_, h2, ?_⟩
  · cases h : Try.prog.underlying ty with
    | none => rw [h] at h1; cases h1
    | some d => rw [h] at h1; injection h1 with h1; exact ⟨d, rfl, h1⟩
  · cases h : (Try.prog.info? ty).bind (·.zero) with
    | none => rw [h] at h3; cases h3
    | some z => rw [h] at h3; injection h3 with h3; exact ⟨z, rfl, h3⟩

section
variable {ops : Array Oper} {rest : List Oper} {op : Oper} {a : Act} {w : World} {Q : Exit → Act → World → Prop} {b : Nat} {t : TypeId} {n : Nat} {F G Z : Nat → Value}
theorem wpList_alloc_row (hgd : op.guard = none) (ty : TypeId) (ho : op.op = .alloc ty) (hT : RowTy ty n Z)
    (h : wpList Try.prog ops Q rest (a.put op.dst (.pointer (some ⟨w.heap.size, 0, none⟩))) (w.alloc (.cells (cellsL n Z).toArray ty))) : wpList Try.prog ops Q (op :: rest) a w := by
  obtain ⟨z, hz, hc⟩ := hT.zero
  refine wpList_alloc_zero hgd ty ho z hz ?_
  rw [hc]
  exact h
theorem wpList_load_row (hgd : op.guard = none) (ty : TypeId) (x : Operand) (ho : op.op = .load ty x) (hx : a.eval x = .pointer (some ⟨b, 0, none⟩)) (hr : w.rowIs b t n F) (hT : RowTy ty n Z)
    (h : wpList Try.prog ops Q rest (a.put op.dst (.agg (cellsL n F).toArray)) w) : wpList Try.prog ops Q (op :: rest) a w := by
  obtain ⟨d, hd, hrow⟩ := hT.under
  exact wpList_load_mid hgd ty x ho b 0 hx (cellsL n F) d (rowIs_range hr) hd hrow (by rw [cellsL_length]; exact hT.size) h
theorem wpList_store_row (hgd : op.guard = none) (ty : TypeId) (x y : Operand) (ho : op.op = .store ty x y) (hx : a.eval x = .pointer (some ⟨b, 0, none⟩)) (hy : a.eval y = .agg (cellsL n G).toArray) (hr : w.rowIs b t n F) (hT : RowTy ty n Z)
    (h1 : ∀ j, j < n → (G j).oneCell' = true)
    (h : wpList Try.prog ops Q rest (a.put op.dst undef) (w.setCells b 0 (cellsL n G))) : wpList Try.prog ops Q (op :: rest) a w := by
  refine wpList_store_mid hgd ty x y ho b 0 (cellsL n G).toArray hx hy ?_ ?_ (all_oneCell_toArray (cellsL_one h1)) h
  · rw [List.size_toArray, cellsL_length]; exact rowIs_there hr
  · rw [List.size_toArray, cellsL_length]; exact hT.size
end
theorem post_row {fn : Func} {p : Tmp} {ty t : TypeId} {n : Nat} {F Z : Nat → Value} {w : World} {b : Nat} (hT : RowTy ty n Z) (h : fn.results = #[.cell p ty]) (tmps : Array Value) (hp : tmps.getD p undef = .pointer (some ⟨b, 0, none⟩)) (hr : w.rowIs b t n F) :
    (results fn tmps).run Try.prog w = .ok (.agg (cellsL n F).toArray) w := by
  obtain ⟨d, hd, hrow⟩ := hT.under
  exact results_cell_row h tmps w b t _ (0, 0) d hp (rowIs_heap hr) hd (by cases d <;> first | rfl | cases hrow) (by rw [List.size_toArray, cellsL_length]; exact hT.size)

/-- what may change -/
structure Tch (A : Nat → Prop) (w w' : World) : Prop where
  os : w'.os = w.os
  tape : w'.tape = w.tape
  output : w'.output = w.output
  size : w.heap.size ≤ w'.heap.size
  block : ∀ k, k < w.heap.size → ¬ A k → w'.heap[k]? = w.heap[k]?
namespace Tch
variable {A A' : Nat → Prop} {w w' w'' : World}
theorem refl (A : Nat → Prop) (w : World) : Tch A w w := ⟨rfl, rfl, rfl, Nat.le_refl _, fun _ _ _ => rfl⟩
theorem trans (h : Tch A w w') (k : Tch A' w' w'') (hs : ∀ j, j < w.heap.size → A' j → A j) : Tch A w w'' :=
  ⟨k.os.trans h.os, k.tape.trans h.tape, k.output.trans h.output, Nat.le_trans h.size k.size, fun j hj hA => (k.block j (Nat.lt_of_lt_of_le hj h.size) (fun q => hA (hs j hj q))).trans (h.block j hj hA)⟩
theorem mono (h : Tch A w w') (hs : ∀ j, j < w.heap.size → A j → A' j) : Tch A' w w' := ⟨h.os, h.tape, h.output, h.size, fun j hj hA => h.block j hj (fun q => hA (hs j hj q))⟩
theorem drew (h : Tch A w w') : Tch A w w'.drew := ⟨h.os, h.tape, h.output, h.size, h.block⟩
theorem alloc (h : Tch A w w') (o : Obj) : Tch A w (w'.alloc o) := by
  refine ⟨h.os, h.tape, h.output, ?_, fun j hj hA => ?_⟩
  · have := h.size
    simp
    omega
  · rw [Below.heap_alloc _ _ _ (Nat.lt_of_lt_of_le hj h.size)]
    exact h.block j hj hA
theorem set (h : Tch A w w') (a : Addr) (x : Value) (ha : a.block < w.heap.size → A a.block) : Tch A w (w'.setCell a x) := by
  refine ⟨h.os, h.tape, h.output, by have := h.size; simp [World.setCell]; omega, fun j hj hA => ?_⟩
  by_cases e : j = a.block
  · subst e; exact absurd (ha hj) hA
  · rw [Below.heap_setCell _ _ _ _ e]
    exact h.block j hj hA
theorem cells (h : Tch A w w') (b : Nat) (ha : b < w.heap.size → A b) : ∀ (vs : List Value) (o : Nat), Tch A w (w'.setCells b o vs) := by
  intro vs
  induction vs generalizing w' with
  | nil => intro o; exact h
  | cons v r ih => intro o; exact ih (h.set ⟨b, o, none⟩ v ha) (o + 1)
theorem grown (h : Tch A w w') {row : Option Nat} (hg : w'.grownBy w'' row) (hr : ∀ j, j < w.heap.size → row = some j → A j) : Tch A w w'' :=
  ⟨hg.os.trans h.os, hg.tape.trans h.tape, hg.output.trans h.output, Nat.le_trans h.size hg.size, fun j hj hA => (hg.block j (Nat.lt_of_lt_of_le hj h.size) (fun q => hA (hr j hj q.symm))).trans (h.block j hj hA)⟩
theorem below (h : Tch (fun _ => False) w w') : Below w.heap.size w w' := ⟨h.os, h.tape, h.output, h.size, fun k hk => h.block k hk (fun q => q)⟩
theorem rowIs (h : Tch A w w') {b : Nat} {t : TypeId} {n : Nat} {F : Nat → Value} (hr : w.rowIs b t n F) (hA : ¬ A b) : w'.rowIs b t n F := World.rowIs.of_block hr (h.block b (World.rowIs.lt hr) hA)
theorem cell (h : Tch A w w') {a : Addr} {v : Value} (hc : w.cell? a = some v) (hA : ¬ A a.block) : w'.cell? a = some v :=
  (World.cell?_of_block (h.block a.block (World.block_lt_of_cell? w a hc) hA)).trans hc
theorem owns (h : Tch A w w') {base size n : Nat} {e : TypeId} {v : Value} {xs : List Value} (ho : w.ownsRow base e size v n xs) (hA : ∀ k, v.ownBlock = some k → ¬ A k) : w'.ownsRow base e size v n xs := by
  obtain ⟨h1, h2⟩ := ho
  refine ⟨h1, ?_⟩
  rcases h2 with h2 | ⟨g, cap, cur, rfl, hb, hg, h3⟩
  · exact Or.inl h2
  · refine Or.inr ⟨g, cap, cur, rfl, hb, ?_, h3⟩
    rw [h.block g (by obtain ⟨q, _⟩ := Array.getElem?_eq_some_iff.1 hg; exact q) (hA g rfl)]
    exact hg
end Tch
def NoOld : Nat → Prop := fun _ => False
end Go.Proofs.Ytmpfgdmdnghhgaa

/- THE CODE MAKER WALKED: lengthFor, reversed, toShorten. -/
namespace Go.Proofs.Ytmpfgdmdnghhgaa
open Go.RowKit Wr

theorem lenGo_step {count total : Int} {g l : Nat} (h : count * 2 ^ l < total) : lenGo count total (g + 1) l = lenGo count total g (l + 1) := by
  show (if _ then _ else _) = _
  rw [if_pos h]
theorem lenGo_stop {count total : Int} {g l : Nat} (h : ¬ count * 2 ^ l < total) : lenGo count total g l = l := by
  cases g with
  | zero => rfl
  | succ g =>
    show (if _ then _ else _) = _
    rw [if_neg h]

set_option maxHeartbeats 600000 in
theorem lengthFor_any (w : World) (count total : Int) (h0 : 0 ≤ count) (h1 : count ≤ 4096) :
    Calls Try.prog 142 #[.int .i64 count, .int .i64 total] w fun e w' => e = .returned (.int .i64 (lenFor count total)) ∧ w' = w := by
  go_enter Try.func142, Try.ntmps142
  go_wp2
  go_loopw [5] (fun vi wr => ∃ l : Nat, 1 ≤ l ∧ l ≤ 12 ∧ vi = .int .i64 l ∧ lenFor count total = lenGo count total (12 - l) l ∧ wr = w) (fun vi _ => 12 - (intOf vi).toNat)
  case atStart => exact ⟨1, by omega, by omega, rfl, rfl, rfl⟩
  case round =>
    obtain ⟨l, hl1, hl2, rfl, he, rfl⟩ := hrel
    have HE : Hid (lenFor count total = lenGo count total (12 - l) l) := he
    clear he
    by_cases h12 : l = 12
    · subst h12
      have HE2 : Hid (lenFor count total = (12 : Nat)) := by rw [Hid, HE.out]; rfl
      go_wp2
      go_ret
      rw [HE2.out]
      exact ⟨rfl, rfl⟩
    · have hp := pow_pos2 l
      have hp2 : (2 : Int) ^ l ≤ 2 ^ 11 := pow_mono (by omega)
      have hp3 : (2 : Int) ^ 11 = 2048 := rfl
      have m0 : 0 ≤ count * 2 ^ l := Int.mul_nonneg h0 (by omega)
      have m1 : count * 2 ^ l ≤ 4096 * 2 ^ l := Int.mul_le_mul_of_nonneg_right h1 (by omega)
      have hlt : (l : Int) < 12 := by omega
      by_cases hc : count * 2 ^ l < total
      · have HN : Hid (lenFor count total = lenGo count total (12 - (l + 1)) (l + 1)) := by
          rw [Hid, HE.out, show 12 - l = (12 - (l + 1)) + 1 by omega, lenGo_step hc]
        go_wp2
        go_roundw
        case rel => exact ⟨l + 1, by omega, by omega, by go_num, HN.out, trivial⟩
        case measure => simp [intOf]; omega
      · have HN : Hid (lenFor count total = (l : Nat)) := by rw [Hid, HE.out, lenGo_stop hc]
        go_wp2
        go_ret
        rw [HN.out]
        exact ⟨rfl, rfl⟩

set_option maxHeartbeats 600000 in
theorem reversed_any (w : World) (v : Int) (n : Nat) (hn : n ≤ 12) (h0 : 0 ≤ v) (h1 : v < 4096) :
    Calls Try.prog 141 #[.int .i64 v, .int .i64 n] w fun e w' => e = .returned (.int .i64 (msb v n)) ∧ w' = w := by
  go_enter Try.func141, Try.ntmps141
  go_wp2
  go_loopw [5, 6] (fun vt vi wr => ∃ i : Nat, i ≤ n ∧ vt = .int .i64 (msb v i) ∧ vi = .int .i64 i ∧ wr = w) (fun _ vi _ => n - (intOf vi).toNat)
  case atStart => exact ⟨0, by omega, rfl, rfl, rfl⟩
  case round =>
    obtain ⟨i, hi, rfl, rfl, rfl⟩ := hrel
    have mb := msb_bounds v i
    have hp : (2 : Int) ^ i ≤ 2 ^ 12 := pow_mono (by omega)
    have hp3 : (2 : Int) ^ 12 = 4096 := rfl
    by_cases hlt : i < n
    · have HS : Hid (msb v (i + 1) = 2 * msb v i + v / 2 ^ i % 2) := rfl
      have q0 : 0 ≤ v / 2 ^ i := Int.ediv_nonneg h0 (by omega)
      have q1 : v / 2 ^ i ≤ v := Int.ediv_le_self _ h0
      have hb : bits BinOp.and IntKind.i64 (v / 2 ^ i) 1 = v / 2 ^ i % 2 := bits_mask (v / 2 ^ i) 1 q0 (by omega) (by omega)
      go_wp2
      refine ⟨⟨i + 1, by omega, ?_, by go_num, trivial⟩, by simp [intOf]; omega⟩
      rw [HS.out]
    · have : i = n := by omega
      subst this
      go_wp2
      go_ret
      exact ⟨rfl, rfl⟩

/-- a row of ints in block g -/
def IntsA (w : World) (g N : Nat) (c : Nat → Int) : Prop := ∀ j, j < N → w.cell? ⟨g, j, none⟩ = some (.int .i64 (c j))

set_option maxHeartbeats 1000000 in
theorem toShorten_any (w : World) (g h N M : Nat) (c f : Nat → Int) (spare : Int) (hNM : N ≤ M) (hM : M ≤ 272) (hc : IntsA w g N c) (hf : IntsA w h M f) (c0 : ∀ i, 0 ≤ c i ∧ c i ≤ 4096) (f0 : ∀ i, 0 ≤ f i ∧ f i ≤ 12) :
    Calls Try.prog 143 #[.slice (some ⟨g, 0, none⟩) N N, .slice (some ⟨h, 0, none⟩) M M, .int .i64 spare] w fun e w' => e = .returned (.int .i64 (shGo c f spare N).1) ∧ w' = w := by
  go_enter Try.func143, Try.ntmps143
  go_wp2
  go_loopw [7, 8, 9, 10] (fun vb vg vi _ wr => ∃ i : Nat, i ≤ N ∧ vb = .int .i64 (shGo c f spare i).1 ∧ vg = .int .i64 (shGo c f spare i).2 ∧ vi = .int .i64 i ∧ wr = w) (fun _ _ vi _ _ => N - (intOf vi).toNat)
  case atStart => exact ⟨0, by omega, rfl, rfl, rfl, rfl⟩
  case round =>
    obtain ⟨i, hi, rfl, rfl, rfl, rfl⟩ := hrel
    by_cases hlt : i < N
    · have k1 := hc i hlt
      have k2 := hf i (by omega)
      have b1 := c0 i
      have b2 := f0 i
      have HS : Hid (shGo c f spare (i + 1) = if f i < 2 ∨ spare < partOf (f i) then shGo c f spare i else if (shGo c f spare i).2 < c i * 2 ^ (f i).toNat then ((i : Int), c i * 2 ^ (f i).toNat) else shGo c f spare i) := rfl
      have HP : Hid (partOf (f i) = 4096 / 2 ^ (f i).toNat) := rfl
      clear hc hf c0 f0
      generalize partOf (f i) = pt at *
      have hpp := pow_pos2 (f i).toNat
      have hp2 : (2 : Int) ^ (f i).toNat ≤ 2 ^ 12 := pow_mono (by omega)
      have hp3 : (2 : Int) ^ 12 = 4096 := rfl
      have m0 : 0 ≤ c i * 2 ^ (f i).toNat := Int.mul_nonneg b1.1 (by omega)
      have m1 : c i * 2 ^ (f i).toNat ≤ 4096 * 2 ^ (f i).toNat := Int.mul_le_mul_of_nonneg_right b1.2 (by omega)
      obtain ⟨r, hr⟩ : ∃ r, r = shGo c f spare i := ⟨_, rfl⟩
      rw [← hr] at HS ⊢
      obtain ⟨rb, rg⟩ := r
      clear hr
      by_cases h2 : f i < 2
      · have HE : Hid (shGo c f spare (i + 1) = (rb, rg)) := by rw [Hid, HS.out, if_pos (Or.inl h2)]
        clear HS HP
        go_wp2
        refine ⟨⟨i + 1, by omega, ?_, ?_, by go_num, trivial⟩, by simp [intOf]; omega⟩
        all_goals rw [HE.out]
      by_cases hs : spare < 4096 / 2 ^ (f i).toNat
      · have HE : Hid (shGo c f spare (i + 1) = (rb, rg)) := by rw [Hid, HS.out, if_pos (Or.inr (by rw [HP.out]; exact hs))]
        clear HS HP
        go_wp2
        refine ⟨⟨i + 1, by omega, ?_, ?_, by go_num, trivial⟩, by simp [intOf]; omega⟩
        all_goals rw [HE.out]
      by_cases hg : rg < c i * 2 ^ (f i).toNat
      · have HE : Hid (shGo c f spare (i + 1) = ((i : Int), c i * 2 ^ (f i).toNat)) := by rw [Hid, HS.out, if_neg (by rw [HP.out]; omega), if_pos hg]
        clear HS HP
        go_wp2
        refine ⟨⟨i + 1, by omega, ?_, ?_, by go_num, trivial⟩, by simp [intOf]; omega⟩
        all_goals rw [HE.out]
      · have HE : Hid (shGo c f spare (i + 1) = (rb, rg)) := by rw [Hid, HS.out, if_neg (by rw [HP.out]; omega), if_neg hg]
        clear HS HP
        go_wp2
        refine ⟨⟨i + 1, by omega, ?_, ?_, by go_num, trivial⟩, by simp [intOf]; omega⟩
        all_goals rw [HE.out]
    · have : i = N := by omega
      subst this
      go_wp2
      go_ret
      exact ⟨rfl, rfl⟩
end Go.Proofs.Ytmpfgdmdnghhgaa

/- THE CODE MAKER WALKED: lengthsFor. -/
namespace Go.Proofs.Ytmpfgdmdnghhgaa
open Go.RowKit Wr

def zInt : Nat → Value := fun _ => .int .i64 0
theorem T272 : RowTy 84 272 zInt := rowTy_of (by kernel_rfl) (by kernel_rfl) (by kernel_rfl)
def iV (f : Nat → Int) : Nat → Value := fun i => .int .i64 (f i)

theorem IntsA.keep {w w' : World} {g N : Nat} {c : Nat → Int} {A : Nat → Prop} (h : IntsA w g N c) (k : Tch A w w') (hA : ¬ A g) : IntsA w' g N c := fun j hj => k.cell (h j hj) hA
theorem rowIs_ints {w : World} {b : Nat} {t : TypeId} {n : Nat} {f : Nat → Int} (h : w.rowIs b t n (iV f)) : IntsA w b n f := fun _ hj => World.rowIs.cell h hj
theorem rowIs_upd {w : World} {b : Nat} {t : TypeId} {n : Nat} {f : Nat → Int} (h : w.rowIs b t n (iV f)) (i : Nat) (x : Int) : (w.setCell ⟨b, i, none⟩ (.int .i64 x)).rowIs b t n (iV (upd f i x)) :=
  (World.rowIs.set h i _).congr fun j _ => by
    unfold iV upd
    by_cases e : j = i
    · rw [if_pos e, if_pos e]
    · rw [if_neg e, if_neg e]

theorem sum_mono {c : Nat → Int} (h : ∀ i, 0 ≤ c i) {a : Nat} : ∀ {b : Nat}, a ≤ b → sumTo c a ≤ sumTo c b
  | 0, hab => by have : a = 0 := by omega
                 subst this; exact Int.le_refl _
  | b + 1, hab => by
    by_cases e : a = b + 1
    · subst e; exact Int.le_refl _
    · have := sum_mono h (a := a) (b := b) (by omega)
      have hb := h b
      show _ ≤ sumTo c b + c b
      omega
theorem spare0_bounds {c : Nat → Int} {N : Nat} (ht : sumTo c N ≤ 4096) : ∀ i : Nat, i ≤ N → spare0 c N i ≤ 4096 ∧ 4096 - 4096 * (i : Int) ≤ spare0 c N i
  | 0, _ => ⟨Int.le_refl _, by show (4096 : Int) - 4096 * 0 ≤ 4096; omega⟩
  | i + 1, h => by
    have ih := spare0_bounds ht i (by omega)
    unfold spare0
    split
    · rename_i hc
      obtain ⟨l, e, h1, h2, _⟩ := lenFor_spec (count := c i) hc ht
      have p0 := part_pos (l := l) (by omega) (by omega)
      have p1 : partOf l ≤ 4096 := by
        unfold partOf
        exact Int.ediv_le_self _ (by omega)
      rw [e]
      omega
    · omega
theorem ltGo_stop {c : Nat → Int} {N k : Nat} {f : Nat → Int} {sp : Int} (h : sp ≤ 0) : ltGo c N k f sp = f := by
  cases k with
  | zero => rfl
  | succ k =>
    show (if _ then _ else _) = _
    rw [if_neg (by omega)]

set_option maxRecDepth 100000 in
set_option maxHeartbeats 2000000 in
theorem lengthsFor_any (w : World) (g N : Nat) (c : Nat → Int) (hN : N ≤ 272) (_hg : g < w.heap.size) (hc : IntsA w g N c) (c0 : ∀ i, 0 ≤ c i) (c1 : ∀ i, c i ≤ 4096) (cs : sumTo c N ≤ 4096) :
    Calls Try.prog 140 #[.slice (some ⟨g, 0, none⟩) N N] w fun e w' => e = .returned (.agg (cellsL 272 (iV (lensFor c N))).toArray) ∧ Tch NoOld w w' := by
  have HLF : Hid (lensFor c N = ltGo c N 4097 (lens0 c N N) (spare0 c N N)) := rfl
  go_enter Try.func140, Try.ntmps140
  go_wp2_with (refine wpList_alloc_row rfl 84 rfl T272 ?_)
  have R1 := (rowIs_new w 84 272 zInt).alloc (.cells (cellsL 272 zInt).toArray 84)
  have R2 := rowIs_new (w.alloc (.cells (cellsL 272 zInt).toArray 84)) 84 272 zInt
  have RT := ((Tch.refl NoOld w).alloc (.cells (cellsL 272 zInt).toArray 84)).alloc (.cells (cellsL 272 zInt).toArray 84)
  have hsz : (w.alloc (.cells (cellsL 272 zInt).toArray 84)).heap.size = w.heap.size + 1 := by simp
  rw [hsz] at R2
  generalize (w.alloc (.cells (cellsL 272 zInt).toArray 84)).alloc (.cells (cellsL 272 zInt).toArray 84) = w2 at *
  clear hsz
  have hc2 := hc.keep RT (fun q => q)
  go_loopw [4, 5] (fun vt vi wr => ∃ i : Nat, i ≤ N ∧ vt = .int .i64 (sumTo c i) ∧ vi = .int .i64 i ∧ wr = w2) (fun _ vi _ => N - (intOf vi).toNat)
  case atStart => exact ⟨0, by omega, rfl, rfl, rfl⟩
  case round =>
    obtain ⟨i, hi, rfl, rfl, rfl⟩ := hrel
    have sm := sum_mono c0 hi
    have sn := sum_nonneg c0 i
    by_cases hlt : i < N
    · have k1 := hc2 i hlt
      have HS : Hid (sumTo c (i + 1) = sumTo c i + c i) := rfl
      have b0 := c0 i
      have b1 := c1 i
      go_wp2
      refine ⟨⟨i + 1, by omega, ?_, by go_num, trivial⟩, by simp [intOf]; omega⟩
      rw [HS.out]
    · have : i = N := by omega
      subst this
      clear hlt hi sm
      have R2' : wr.rowIs (w.heap.size + 1) 84 272 (iV (lens0 c i 0)) := R2
      clear R2
      go_wp2
      go_loopw [6, 7] (fun vs vi wq => ∃ j : Nat, j ≤ i ∧ vs = .int .i64 (spare0 c i j) ∧ vi = .int .i64 j ∧ wq.rowIs (w.heap.size + 1) 84 272 (iV (lens0 c i j)) ∧ wq.rowIs w.heap.size 84 272 zInt ∧ Tch NoOld w wq) (fun _ vi _ => i - (intOf vi).toNat)
      case atStart => exact ⟨0, by omega, rfl, rfl, R2', R1, RT⟩
      case round =>
        obtain ⟨j, hj, rfl, rfl, r2, r1, rt⟩ := hrel
        clear R1 R2' RT hc2
        have hcq := hc.keep rt (fun q => q)
        have sb := spare0_bounds cs j hj
        by_cases hlt : j < i
        · have k1 := hcq j hlt
          have k2 := World.rowIs.cell r2 (i := j) (by omega)
          have hfz := World.rowIs.frozen r2
          have b0 := c0 j
          have b1 := c1 j
          have hj272 : (j : Int) < 272 := by omega
          by_cases hpos : 0 < c j
          · obtain ⟨l, el, l1, l2, _⟩ := lenFor_spec (count := c j) hpos cs
            have HL : Hid (lens0 c i (j + 1) = upd (lens0 c i j) j (l : Int)) := by
              show (if _ then _ else _) = _
              rw [if_pos hpos, el]
            have HS : Hid (spare0 c i (j + 1) = spare0 c i j - 4096 / 2 ^ l) := by
              show (if _ then _ else _) = _
              rw [if_pos hpos, el]
              rfl
            have p0 := part_pos (l := l) (by omega) (by omega)
            have p1 : partOf l ≤ 4096 := by
              unfold partOf
              exact Int.ediv_le_self _ (by omega)
            have HP : partOf (l : Int) = 4096 / 2 ^ l := rfl
            rw [HP] at p0 p1
            clear HP
            have hcall := lengthFor_any wr (c j) (sumTo c i) b0 b1
            rw [el] at hcall
            have rs := rowIs_upd r2 j (l : Int)
            have rs1 := World.rowIs.setOther r1 (a := ⟨w.heap.size + 1, j, none⟩) (by show w.heap.size ≠ w.heap.size + 1; omega) (.int .i64 (l : Int))
            have rst := rt.set ⟨w.heap.size + 1, j, none⟩ (.int .i64 (l : Int)) (fun q => by have : w.heap.size + 1 < w.heap.size := q; omega)
            clear hcq hc r2 r1 rt
            go_wp2_with (go_at_call 142; refine hcall.mono ?_; rintro e w' ⟨rfl, rfl⟩)
            refine ⟨⟨j + 1, by omega, ?_, by go_num, by rw [HL.out]; exact rs, rs1, rst⟩, by simp [intOf]; omega⟩
            rw [HS.out]
          · have HL : Hid (lens0 c i (j + 1) = lens0 c i j) := by
              show (if _ then _ else _) = _
              rw [if_neg hpos]
            have HS : Hid (spare0 c i (j + 1) = spare0 c i j) := by
              show (if _ then _ else _) = _
              rw [if_neg hpos]
            go_wp2
            refine ⟨⟨j + 1, by omega, by rw [HS.out], by go_num, by rw [HL.out]; exact r2, r1, rt⟩, by simp [intOf]; omega⟩
        · have : j = i := by omega
          subst this
          clear hj hlt
          go_wp2
          go_loopw [6, 8] (fun vs _ wp => ∃ (k : Nat) (f : Nat → Int) (sp : Int), vs = .int .i64 sp ∧ sp < k ∧ sp ≤ 4096 ∧ -2000000 ≤ sp ∧ (∀ i, 0 ≤ f i ∧ f i ≤ 12) ∧ lensFor c j = ltGo c j k f sp ∧ wp.rowIs (w.heap.size + 1) 84 272 (iV f) ∧ wp.rowIs w.heap.size 84 272 zInt ∧ Tch NoOld w wp) (fun vs _ _ => (intOf vs).toNat)
          case atStart =>
            refine ⟨4097, lens0 c j j, spare0 c j j, rfl, by omega, sb.1, by omega, fun i => ?_, HLF.out, r2, r1, rt⟩
            have ff := lens0_fits cs
            by_cases h : i < j ∧ 0 < c i
            · have := ff.used i h.1 h.2
              omega
            · rw [ff.none i (fun hi hcc => h ⟨hi, hcc⟩)]
              omega
          case round =>
            obtain ⟨k, f, sp, rfl, hk, hs1, hs2, hf, hE, r4, r3, rt2⟩ := hrel
            clear r2 r1 rt hcq
            have HE : Hid (lensFor c j = ltGo c j k f sp) := hE
            clear hE HLF
            by_cases hpos : 0 < sp
            · have hcq := hc.keep rt2 (fun q => q)
              have hcall := toShorten_any wr g (w.heap.size + 1) j 272 c f sp (by omega) (Nat.le_refl _) hcq (rowIs_ints r4) (fun i => ⟨c0 i, c1 i⟩) hf
              obtain ⟨K, rfl⟩ : ∃ K, k = K + 1 := ⟨k - 1, by omega⟩
              rcases shGo_spec (c := c) (f := f) (spare := sp) j with ⟨e1, _, _⟩ | ⟨ii, e1, i1, i2, _, _⟩
              · rw [e1] at hcall
                have HN : Hid (lensFor c j = f) := by
                  rw [Hid, HE.out]
                  show (if _ then _ else _) = _
                  rw [if_pos hpos, e1, if_pos (by omega)]
                have rr := rowIs_setAll r3 (iV f)
                have rst := rt2.cells w.heap.size (fun q => by omega) (cellsL 272 (iV f)) 0
                clear hcq hc HE e1
                go_wp2_with (first
                  | (go_at_call 143; refine hcall.mono ?_; rintro e w' ⟨rfl, rfl⟩)
                  | (refine wpList_load_row rfl 84 _ rfl rfl r4 T272 ?_)
                  | (refine wpList_store_row rfl 84 _ _ rfl rfl rfl r3 T272 (fun _ _ => rfl) ?_))
                refine bodyPost_ret (post_row T272 rfl _ rfl rr) rfl ?_
                rw [HN.out]
                exact ⟨rfl, rst⟩
              · rw [e1] at hcall
                obtain ⟨d1, d2⟩ := i2
                have fb := hf ii
                have p0 := part_pos fb.1 fb.2
                have HP : partOf (f ii) = 4096 / 2 ^ (f ii).toNat := rfl
                have HN : Hid (lensFor c j = ltGo c j K (upd f ii (f ii - 1)) (sp - 4096 / 2 ^ (f ii).toNat)) := by
                  rw [Hid, HE.out]
                  show (if _ then _ else _) = _
                  rw [if_pos hpos, e1, if_neg (by omega), Int.toNat_natCast, HP]
                rw [HP] at p0 d2
                clear HP HE
                have k2 := World.rowIs.cell r4 (i := ii) (by omega)
                have k3 : wr.cell? ⟨w.heap.size + 1, ii, none⟩ = some (.int .i64 (f ii)) := k2
                clear k2
                have hfz := World.rowIs.frozen r4
                have rs := rowIs_upd r4 ii (f ii - 1)
                have rs1 := World.rowIs.setOther r3 (a := ⟨w.heap.size + 1, ii, none⟩) (by show w.heap.size ≠ w.heap.size + 1; omega) (.int .i64 (f ii - 1))
                have rst := rt2.set ⟨w.heap.size + 1, ii, none⟩ (.int .i64 (f ii - 1)) (fun q => by have : w.heap.size + 1 < w.heap.size := q; omega)
                have HF : Hid (∀ i, 0 ≤ upd f ii (f ii - 1) i ∧ upd f ii (f ii - 1) i ≤ 12) := by
                  intro i
                  unfold upd
                  by_cases e : i = ii
                  · rw [if_pos e]; omega
                  · rw [if_neg e]; exact hf i
                have hii : (ii : Int) < 272 := by omega
                clear hcq hc hf e1 r4 r3 rt2
                go_wp2_with (go_at_call 143; refine hcall.mono ?_; rintro e w' ⟨rfl, rfl⟩)
                refine ⟨⟨K, upd f ii (f ii - 1), sp - 4096 / 2 ^ (f ii).toNat, rfl, by omega, by omega, by omega, HF.out, HN.out, rs, rs1, rst⟩, by simp [intOf]; omega⟩
            · have HN : Hid (lensFor c j = f) := by rw [Hid, HE.out, ltGo_stop (by omega)]
              have rr := rowIs_setAll r3 (iV f)
              have rst := rt2.cells w.heap.size (fun q => by omega) (cellsL 272 (iV f)) 0
              go_wp2_with (first
                | (refine wpList_load_row rfl 84 _ rfl rfl r4 T272 ?_)
                | (refine wpList_store_row rfl 84 _ _ rfl rfl rfl r3 T272 (fun _ _ => rfl) ?_))
              refine bodyPost_ret (post_row T272 rfl _ rfl rr) rfl ?_
              rw [HN.out]
              exact ⟨rfl, rst⟩
end Go.Proofs.Ytmpfgdmdnghhgaa
