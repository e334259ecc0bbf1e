import Derived.Test.YtmjigodhncjfjaaE6
import Derived.Test.YtmjigodhncjfjaaE8
import Derived.Test.YtmjigodhncjfjaaW19
namespace Go.Proofs.Ytmjigodhncjfjaa
open Go.RowKit Wr

def levelP (l : Int) : Int := if 0 ≤ l ∧ l ≤ 2 then l else pickP l 3
theorem levelP_bounds (l : Int) : 0 ≤ levelP l ∧ levelP l ≤ 2 := by
  unfold levelP
  split
  · assumption
  · have := pickP_bounds l 3 (by omega)
    omega
set_option maxHeartbeats 400000 in
theorem level_any (w : World) (c : Int) (h1 : -9223372036854775808 ≤ c) (h2 : c ≤ 9223372036854775807) :
    Calls Try.prog 49 #[.int .i64 c] w fun e w' => e = .returned (.int .i64 (levelP c)) ∧ w' = w := by
  by_cases h0 : 0 ≤ c
  · by_cases h8 : c ≤ 2
    · have HE : Hid (levelP c = c) := by rw [Hid, levelP, if_pos ⟨h0, h8⟩]
      go_enter Try.func49, Try.ntmps49
      go_wp2
      go_ret
      rw [HE.out]
      exact ⟨rfl, rfl⟩
    · have HE : Hid (levelP c = pickP c 3) := by rw [Hid, levelP, if_neg (fun q => h8 q.2)]
      have hP := fun W => pick_any W c 3 h1 h2 (by omega) (by omega)
      go_enter Try.func49, Try.ntmps49
      go_wp2_with (go_at_call 19; refine (hP _).mono ?_; rintro e w1 ⟨rfl, rfl⟩)
      go_ret
      rw [HE.out]
      exact ⟨rfl, rfl⟩
  · have HE : Hid (levelP c = pickP c 3) := by rw [Hid, levelP, if_neg (fun q => h0 q.1)]
    have hP := fun W => pick_any W c 3 h1 h2 (by omega) (by omega)
    go_enter Try.func49, Try.ntmps49
    go_wp2_with (go_at_call 19; refine (hP _).mono ?_; rintro e w1 ⟨rfl, rfl⟩)
    go_ret
    rw [HE.out]
    exact ⟨rfl, rfl⟩

/-- what a 'work' holds -/
structure Wk where
  plain : ByteArray
  out : ByteArray
  flushes : Int
  notes : Int
  bytes : Int
def wkCells (q : Nat) (s : Wk) (ok : Bool) (o : Nat) : Value :=
  if o = 0 then .pointer (some ⟨q, 0, none⟩) else if o = 1 then .string s.plain else if o = 2 then .string s.out else if o = 3 then .int .i64 s.flushes
  else if o = 4 then .int .i64 s.notes else if o = 5 then .int .i64 s.bytes else .bool ok
def WkRow (w : World) (k q : Nat) (s : Wk) : Prop := w.rowIs k 71 7 (wkCells q s true)

theorem WkRow.plain {w : World} {k q : Nat} {s : Wk} (h : WkRow w k q s) (x : ByteArray) : WkRow (w.setCell ⟨k, 1, none⟩ (.string x)) k q { s with plain := x } :=
  (World.rowIs.set h _ _).congr fun i hi => by
    match i, hi with
    | 0, _ => rfl
    | 1, _ => rfl
    | 2, _ => rfl
    | 3, _ => rfl
    | 4, _ => rfl
    | 5, _ => rfl
    | 6, _ => rfl
theorem WkRow.out {w : World} {k q : Nat} {s : Wk} (h : WkRow w k q s) (x : ByteArray) : WkRow (w.setCell ⟨k, 2, none⟩ (.string x)) k q { s with out := x } :=
  (World.rowIs.set h _ _).congr fun i hi => by
    match i, hi with
    | 0, _ => rfl
    | 1, _ => rfl
    | 2, _ => rfl
    | 3, _ => rfl
    | 4, _ => rfl
    | 5, _ => rfl
    | 6, _ => rfl
theorem WkRow.flushes {w : World} {k q : Nat} {s : Wk} (h : WkRow w k q s) (x : Int) : WkRow (w.setCell ⟨k, 3, none⟩ (.int .i64 x)) k q { s with flushes := x } :=
  (World.rowIs.set h _ _).congr fun i hi => by
    match i, hi with
    | 0, _ => rfl
    | 1, _ => rfl
    | 2, _ => rfl
    | 3, _ => rfl
    | 4, _ => rfl
    | 5, _ => rfl
    | 6, _ => rfl
theorem WkRow.notes {w : World} {k q : Nat} {s : Wk} (h : WkRow w k q s) (x : Int) : WkRow (w.setCell ⟨k, 4, none⟩ (.int .i64 x)) k q { s with notes := x } :=
  (World.rowIs.set h _ _).congr fun i hi => by
    match i, hi with
    | 0, _ => rfl
    | 1, _ => rfl
    | 2, _ => rfl
    | 3, _ => rfl
    | 4, _ => rfl
    | 5, _ => rfl
    | 6, _ => rfl
theorem WkRow.bytes {w : World} {k q : Nat} {s : Wk} (h : WkRow w k q s) (x : Int) : WkRow (w.setCell ⟨k, 5, none⟩ (.int .i64 x)) k q { s with bytes := x } :=
  (World.rowIs.set h _ _).congr fun i hi => by
    match i, hi with
    | 0, _ => rfl
    | 1, _ => rfl
    | 2, _ => rfl
    | 3, _ => rfl
    | 4, _ => rfl
    | 5, _ => rfl
    | 6, _ => rfl
theorem On.wkRow {b k q : Nat} {w w' : World} {s : Wk} (h : On b w w') (hk : k ≠ b) (hd : WkRow w k q s) : WkRow w' k q s := World.rowIs.of_block hd (h.block k (World.rowIs.lt hd) hk)

/-- all that was there is as it was, but these three -/
structure On3k (f q b : Nat) (w w' : World) : Prop where
  os : w'.os = w.os
  tape : w'.tape = w.tape
  output : w'.output = w.output
  size : w.heap.size ≤ w'.heap.size
  block : ∀ k, k < w.heap.size → k ≠ f → k ≠ q → k ≠ b → w'.heap[k]? = w.heap[k]?
theorem On3k.refl (f q b : Nat) (w : World) : On3k f q b w w := ⟨rfl, rfl, rfl, Nat.le_refl _, fun _ _ _ _ _ => rfl⟩
theorem On3k.trans {f q b : Nat} {w w' w'' : World} (h : On3k f q b w w') (k : On3k f q b w' w'') : On3k f q b w w'' :=
  ⟨k.os.trans h.os, k.tape.trans h.tape, k.output.trans h.output, Nat.le_trans h.size k.size, fun i hi h1 h2 h3 => (k.block i (Nat.lt_of_lt_of_le hi h.size) h1 h2 h3).trans (h.block i hi h1 h2 h3)⟩
theorem On.to1 {f q b : Nat} {w w' : World} (h : On f w w') : On3k f q b w w' := ⟨h.os, h.tape, h.output, h.size, fun i hi h1 _ _ => h.block i hi h1⟩
theorem On.to2 {f q b : Nat} {w w' : World} (h : On q w w') : On3k f q b w w' := ⟨h.os, h.tape, h.output, h.size, fun i hi _ h2 _ => h.block i hi h2⟩
theorem On.to3 {f q b : Nat} {w w' : World} (h : On b w w') : On3k f q b w w' := ⟨h.os, h.tape, h.output, h.size, fun i hi _ _ h3 => h.block i hi h3⟩
theorem On3k.alloc {f q b : Nat} {w w' : World} (h : On3k f q b w w') (o : Obj) : On3k f q b w (w'.alloc o) :=
  h.trans ⟨rfl, rfl, rfl, by simp, fun i hi _ _ _ => Below.heap_alloc _ _ _ hi⟩

/-- an encoder that is written to: the work in block k, the encoder in q, its writer in b -/
structure Work (w : World) (k q b : Nat) (L : List Int) (P : List UInt8) (s : Wk) : Prop where
  row : WkRow w k q s
  enc : EncAt w q (some b)
  wr : W0 w b L P
  kq : k ≠ q
  kb : k ≠ b
  qb : q ≠ b
  out : s.out = bytesL L
  inv : EncInv (L, P) s.plain.data.toList

set_option maxHeartbeats 400000 in
theorem kbegin_any (w : World) (x l : Int) (x0 : -9223372036854775808 ≤ x) (x1 : x ≤ 9223372036854775807) (l0 : -9223372036854775808 ≤ l) (l1 : l ≤ 9223372036854775807) :
    Calls Try.prog 35 #[.int .i64 x, .int .i64 l] w fun e w' => ∃ k q b, e = .returned (.pointer (some ⟨k, 0, none⟩)) ∧ w.heap.size ≤ b ∧ w.heap.size ≤ q ∧ w.heap.size ≤ k ∧ Work w' k q b (numBits (windowP x) 4) [] ⟨ByteArray.empty, ByteArray.empty, 0, 0, 0⟩ ∧ Below w.heap.size w w' := by
  have wb := windowP_bounds x
  have lb := levelP_bounds l
  have h1 := fun W => window_any W x x0 x1
  have h2 := fun W => level_any W l l0 l1
  have h3 := fun W => NewEncoder_good W (windowP x) (levelP l) wb.1 wb.2 lb.1 lb.2
  have HI : Hid (EncInv (numBits (windowP x) 4, []) []) := inv_init _ wb.1 wb.2
  generalize windowP x = xx at *
  generalize levelP l = ll at *
  go_enter Try.func35, Try.ntmps35
  go_wp2_with (first
    | (go_at_call 29; refine (h3 _).mono ?_; rintro e w1 ⟨q, b, rfl, hb0, hbq, hw1, he1, hB1⟩)
    | (go_at_call 49; refine (h2 _).mono ?_; rintro e w2 ⟨rfl, rfl⟩)
    | (go_at_call 17; refine (h1 _).mono ?_; rintro e w3 ⟨rfl, rfl⟩))
  go_ret
  have hq1 : q < w1.heap.size := World.rowIs.lt he1
  refine ⟨w1.heap.size, q, b, rfl, hb0, by omega, hB1.size, ⟨?_, World.rowIs.alloc he1 _, hw1.alloc _, by omega, by omega, by omega, ?_, HI.out⟩, hB1.alloc hB1.size _⟩
  · exact World.rowIs_alloc w1 _ 71 (wkCells q ⟨ByteArray.empty, ByteArray.empty, 0, 0, 0⟩ true) (fun i hi => by
      match i, hi with
      | 0, _ => rfl
      | 1, _ => rfl
      | 2, _ => rfl
      | 3, _ => rfl
      | 4, _ => rfl
      | 5, _ => rfl
      | 6, _ => rfl)
  · show ByteArray.empty = outStr (outFrom (numBits xx 4) 0)
    unfold outFrom
    rw [numBits_length]
    rfl

set_option maxHeartbeats 400000 in
theorem got_any {w : World} {k q : Nat} {s : Wk} (h : WkRow w k q s) (x : ByteArray) (hx : s.out.size + x.size ≤ 9223372036854775807) :
    Calls Try.prog 50 #[.pointer (some ⟨k, 0, none⟩), .string x, .int .i64 0] w fun e w' => e = .returned (.tuple #[]) ∧ WkRow w' k q { s with out := s.out ++ x } ∧ On k w w' := by
  have c0 : w.cell? ⟨k, 2, none⟩ = some (.string s.out) := World.rowIs.cell h (by omega)
  have hfz := World.rowIs.frozen h
  go_enter Try.func50, Try.ntmps50
  go_wp2
  go_end0
  exact ⟨rfl, h.out _, (On.refl k w).set _ _⟩

/-- the plain state of a work -/
structure St where
  L : List Int
  P : List UInt8
  k : Wk
def noteT (T : ByteArray) : ByteArray := if 255 < T.size then T.extract 0 255 else T
def callS (kind : Int) (T : ByteArray) (r : St) : St :=
  if kind = 1 then ⟨(writeE (r.L, r.P) T.data.toList).1, (writeE (r.L, r.P) T.data.toList).2, { r.k with plain := r.k.plain ++ T, out := bytesL (writeE (r.L, r.P) T.data.toList).1 }⟩
  else if kind = 2 then ⟨flushL r.L r.P, [], { r.k with out := bytesL (flushL r.L r.P), flushes := r.k.flushes + 1 }⟩
  else if kind = 3 then ⟨noteL (letL r.L r.P) (noteT T).data.toList, [], { r.k with out := bytesL (noteL (letL r.L r.P) (noteT T).data.toList), notes := r.k.notes + 1, bytes := r.k.bytes + (noteT T).size }⟩
  else r

theorem noteT_size (T : ByteArray) : (noteT T).size ≤ 255 ∧ (noteT T).size ≤ T.size := by
  unfold noteT
  split
  · rw [ByteArray.size_extract]; omega
  · omega

theorem outFrom_size (L : List Int) (t : Nat) : (outStr (outFrom L t)).size ≤ L.length / 8 := by
  rw [outStr_sz]
  unfold outFrom
  rw [List.length_map, List.length_range]
  omega
theorem EncAt.on {w w' : World} {q k : Nat} {r : Option Nat} (h : EncAt w q r) (hon : On k w w') (hk : q ≠ k) : EncAt w' q r := hon.encAt hk h
theorem W0.on {w w' : World} {b k : Nat} {L : List Int} {P : List UInt8} (h : W0 w b L P) (hon : On k w w') (hk : b ≠ k) : W0 w' b L P := h.of_block (hon.block b h.lt hk)

set_option maxRecDepth 100000 in
set_option maxHeartbeats 1000000 in
theorem kcall_write {w : World} {k q b : Nat} {r : St} (h : Work w k q b r.L r.P r.k) (T : ByteArray) (hL : r.L.length + 8 * r.P.length + 30 * T.size ≤ 800000000000) (hS : r.k.plain.size + T.size ≤ 9223372036854775807) :
    Calls Try.prog 36 #[.pointer (some ⟨k, 0, none⟩), .agg #[.int .i64 1, .string T]] w fun e w' => e = .returned (.tuple #[]) ∧ Work w' k q b (callS 1 T r).L (callS 1 T r).P (callS 1 T r).k ∧ On3k k q b w w' := by
  obtain ⟨L, P, s⟩ := r
  dsimp only at h hL hS
  have hrow := h.row
  have c0 : w.cell? ⟨k, 0, none⟩ = some (.pointer (some ⟨q, 0, none⟩)) := World.rowIs.cell hrow (by omega)
  have c1 : w.cell? ⟨k, 1, none⟩ = some (.string s.plain) := World.rowIs.cell hrow (by omega)
  have hfz := World.rowIs.frozen hrow
  have hk : k < w.heap.size := World.rowIs.lt hrow
  have honA : ∀ o x, On k w (((w.setCell ⟨k, 1, none⟩ x).alloc o).drew.drew) := fun o x => (((On.refl k w).set _ _).alloc o).drew.drew
  have hEA := fun o x => h.enc.on (honA o x) h.kq.symm
  have hWA := fun o x => h.wr.on (honA o x) h.kb.symm
  have hRA : ∀ o, WkRow (((w.setCell ⟨k, 1, none⟩ (.string (s.plain ++ T))).alloc o).drew.drew) k q { s with plain := s.plain ++ T } := fun o => World.rowIs.alloc (WkRow.plain hrow (s.plain ++ T)) o
  have hE := fun W (h1 : EncAt W q (some b)) (h2 : W0 W b L P) => EncWrite_open h1 h2 T hL
  have HX := ext_write T.data.toList (L, P)
  have HM := bytesL_more HX
  have hphi := writeE_phi T.data.toList (L, P)
  have hph2 : phiE (L, P) = L.length + 8 * P.length := rfl
  have hTs : T.data.toList.length = T.size := by simp
  have HI : Hid (EncInv (writeE (L, P) T.data.toList) (s.plain ++ T).data.toList) := by
    rw [Hid, ByteArray.data_append, Array.toList_append]
    exact inv_write _ h.inv
  have HC : Hid (callS 1 T ⟨L, P, s⟩ = ⟨(writeE (L, P) T.data.toList).1, (writeE (L, P) T.data.toList).2, { s with plain := s.plain ++ T, out := bytesL (writeE (L, P) T.data.toList).1 }⟩) := rfl
  rw [HC.out]
  generalize writeE (L, P) T.data.toList = e at *
  obtain ⟨L', P'⟩ := e
  dsimp only at *
  have hph3 : phiE (L', P') = L'.length + 8 * P'.length := rfl
  have hsz := outFrom_size L' (L.length / 8)
  have hso : s.out.size = L.length / 8 := by rw [h.out, bytesL_size]
  have HM2 : Hid (s.out ++ outStr (outFrom L' (L.length / 8)) = bytesL L') := by rw [Hid, h.out]; exact HM
  generalize outStr (outFrom L' (L.length / 8)) = y at *
  have hG := fun W (s' : Wk) (e1 : s'.out = s.out) (h1 : WkRow W k q s') => got_any h1 y (by rw [e1]; omega)
  have HW : Hid (Work w k q b L P s) := h
  clear h HC HM HX hphi hph2 hph3 hTs hsz hso hrow
  go_enter Try.func36, Try.ntmps36
  go_wp2
  go_region
  go_wp2
  go_region_with (go_at_call 43; refine (hE _ (hEA _ _) (hWA _ _)).mono ?_; rintro e w1 ⟨rfl, hw1, hon1⟩; have hr1 := hon1.wkRow HW.out.kb (hRA _); have he1 := hon1.encAt HW.out.qb (hEA _ _); have hon0 := honA _ _ |>.to1 (q := q) (b := b) |>.trans hon1.to3)
  all_goals
    clear hE hEA hWA hRA honA
    go_wp2_with (first
      | (go_at_call 50; refine (hG _ { s with plain := s.plain ++ T } rfl hr1).mono ?_; rintro e w2 ⟨rfl, hr2, hon2⟩))
    go_end0
    refine ⟨rfl, ⟨?_, he1.on hon2 HW.out.kq.symm, hw1.on hon2 HW.out.kb.symm, HW.out.kq, HW.out.kb, HW.out.qb, rfl, HI.out⟩, hon0.trans hon2.to1⟩
    have := hr2
    rw [show ({ s with plain := s.plain ++ T } : Wk).out ++ y = bytesL L' from HM2.out] at this
    exact this

set_option maxRecDepth 100000 in
set_option maxHeartbeats 1000000 in
theorem kcall_other {w : World} {k q b : Nat} {r : St} (h : Work w k q b r.L r.P r.k) (kind : Int) (T : ByteArray) (h1 : kind ≠ 1) (h2 : kind ≠ 2) (h3 : kind ≠ 3) (hL : r.L.length + 8 * r.P.length ≤ 800000000000) :
    Calls Try.prog 36 #[.pointer (some ⟨k, 0, none⟩), .agg #[.int .i64 kind, .string T]] w fun e w' => e = .returned (.tuple #[]) ∧ Work w' k q b (callS kind T r).L (callS kind T r).P (callS kind T r).k ∧ On3k k q b w w' := by
  have HC : Hid (callS kind T r = r) := by rw [Hid, callS, if_neg h1, if_neg h2, if_neg h3]
  rw [HC.out]
  obtain ⟨L, P, s⟩ := r
  dsimp only at h hL ⊢
  have hrow := h.row
  have c0 : w.cell? ⟨k, 0, none⟩ = some (.pointer (some ⟨q, 0, none⟩)) := World.rowIs.cell hrow (by omega)
  have hfz := World.rowIs.frozen hrow
  have hk : k < w.heap.size := World.rowIs.lt hrow
  have honA : ∀ o, On k w ((w.alloc o).drew) := fun o => ((On.refl k w).alloc o).drew
  have honB : ∀ o, On k w (w.alloc o) := fun o => (On.refl k w).alloc o
  have hEA := fun o => h.enc.on (honB o) h.kq.symm
  have hWA := fun o => h.wr.on (honB o) h.kb.symm
  have hRA : ∀ o, WkRow (w.alloc o) k q s := fun o => World.rowIs.alloc hrow o
  have hE := fun W (h1 : EncAt W q (some b)) (h2 : W0 W b L P) => EncWrite_open h1 h2 ByteArray.empty (by show L.length + 8 * P.length + 30 * 0 ≤ _; omega)
  have hb1 : (kind == 1) = false := beq_eq_false_iff_ne.2 h1
  have hb2 : (kind == 2) = false := beq_eq_false_iff_ne.2 h2
  have hb3 : (kind == 3) = false := beq_eq_false_iff_ne.2 h3
  have e0 : writeE (L, P) (ByteArray.empty).data.toList = (L, P) := rfl
  rw [e0] at hE
  dsimp only at hE
  have e1 : outStr (outFrom L (L.length / 8)) = ByteArray.empty := by rw [outFrom_all]; rfl
  rw [e1] at hE
  have hso : s.out.size = L.length / 8 := by rw [h.out, bytesL_size]
  have hz : (ByteArray.empty).size = 0 := rfl
  have hG := fun W (h1 : WkRow W k q s) => got_any h1 ByteArray.empty (by rw [hz]; omega)
  have eo : s.out ++ ByteArray.empty = s.out := by simp
  rw [eo] at hG
  have HW : Hid (Work w k q b L P s) := h
  clear h hrow hso hz eo e1 e0 HC h1 h2 h3
  go_enter Try.func36, Try.ntmps36
  go_wp2_with (first
    | (go_at_call 50; refine (hG _ hr1).mono ?_; rintro e w2 ⟨rfl, hr2, hon2⟩)
    | (go_at_call 43; refine (hE _ (hEA _) (hWA _)).mono ?_; rintro e w1 ⟨rfl, hw1, hon1⟩; have hr1 := hon1.wkRow HW.out.kb (hRA _); have he1 := hon1.encAt HW.out.qb (hEA _); have hon0 := honB _ |>.to1 (q := q) (b := b) |>.trans hon1.to3))
  go_end0
  exact ⟨rfl, ⟨hr2, he1.on hon2 HW.out.kq.symm, hw1.on hon2 HW.out.kb.symm, HW.out.kq, HW.out.kb, HW.out.qb, HW.out.out, HW.out.inv⟩, hon0.trans hon2.to1⟩

set_option maxRecDepth 100000 in
set_option maxHeartbeats 1000000 in
theorem kcall_flush {w : World} {k q b : Nat} {r : St} (h : Work w k q b r.L r.P r.k) (T : ByteArray) (hL : r.L.length + 8 * r.P.length ≤ 800000000000) (hF : 0 ≤ r.k.flushes ∧ r.k.flushes ≤ 1099511627776) :
    Calls Try.prog 36 #[.pointer (some ⟨k, 0, none⟩), .agg #[.int .i64 2, .string T]] w fun e w' => e = .returned (.tuple #[]) ∧ Work w' k q b (callS 2 T r).L (callS 2 T r).P (callS 2 T r).k ∧ On3k k q b w w' := by
  have HC : Hid (callS 2 T r = ⟨flushL r.L r.P, [], { r.k with out := bytesL (flushL r.L r.P), flushes := r.k.flushes + 1 }⟩) := rfl
  rw [HC.out]
  obtain ⟨L, P, s⟩ := r
  dsimp only at h hL hF ⊢
  have hrow := h.row
  have c0 : w.cell? ⟨k, 0, none⟩ = some (.pointer (some ⟨q, 0, none⟩)) := World.rowIs.cell hrow (by omega)
  have c1 : w.cell? ⟨k, 3, none⟩ = some (.int .i64 s.flushes) := World.rowIs.cell hrow (by omega)
  have hfz := World.rowIs.frozen hrow
  have hk : k < w.heap.size := World.rowIs.lt hrow
  have honB : ∀ o x, On k w ((w.setCell ⟨k, 3, none⟩ x).alloc o) := fun o x => ((On.refl k w).set _ _).alloc o
  have hEA := fun o x => h.enc.on (honB o x) h.kq.symm
  have hWA := fun o x => h.wr.on (honB o x) h.kb.symm
  have hRA : ∀ o, WkRow ((w.setCell ⟨k, 3, none⟩ (.int .i64 (s.flushes + 1))).alloc o) k q { s with flushes := s.flushes + 1 } := fun o => World.rowIs.alloc (WkRow.flushes hrow (s.flushes + 1)) o
  have hE := fun W (h1 : EncAt W q (some b)) (h2 : W0 W b L P) => EncFlush_open h1 h2 (by omega)
  have HM := bytesL_more (ext_flush L P)
  have HI : Hid (EncInv (flushL L P, []) s.plain.data.toList) := inv_flushed h.inv
  have hpl := h.wr.plen
  have hfl : (flushL L P).length ≤ L.length + 40 + 8 * P.length := by
    have := letL_length L P
    unfold flushL
    split
    · omega
    · unfold emptyL
      have h3 := padL_le (headL (letL L P) false 0)
      rw [headL_length] at h3
      omega
  generalize flushL L P = L' at *
  have hsz := outFrom_size L' (L.length / 8)
  have hso : s.out.size = L.length / 8 := by rw [h.out, bytesL_size]
  have HM2 : Hid (s.out ++ outStr (outFrom L' (L.length / 8)) = bytesL L') := by rw [Hid, h.out]; exact HM
  generalize outStr (outFrom L' (L.length / 8)) = y at *
  have hG := fun W (s' : Wk) (e1 : s'.out = s.out) (h1 : WkRow W k q s') => got_any h1 y (by rw [e1]; omega)
  have HW : Hid (Work w k q b L P s) := h
  clear h HC HM hfl hsz hso hrow
  go_enter Try.func36, Try.ntmps36
  go_wp2_with (first
    | (go_at_call 50; refine (hG _ { s with flushes := s.flushes + 1 } rfl hr1).mono ?_; rintro e w2 ⟨rfl, hr2, hon2⟩)
    | (go_at_call 44; refine (hE _ (hEA _ _) (hWA _ _)).mono ?_; rintro e w1 ⟨rfl, hw1, hon1⟩; have hr1 := hon1.wkRow HW.out.kb (hRA _); have he1 := hon1.encAt HW.out.qb (hEA _ _); have hon0 := honB _ _ |>.to1 (q := q) (b := b) |>.trans hon1.to3))
  go_end0
  refine ⟨rfl, ⟨?_, he1.on hon2 HW.out.kq.symm, hw1.on hon2 HW.out.kb.symm, HW.out.kq, HW.out.kb, HW.out.qb, rfl, HI.out⟩, hon0.trans hon2.to1⟩
  have := hr2
  rw [show ({ s with flushes := s.flushes + 1 } : Wk).out ++ y = bytesL L' from HM2.out] at this
  exact this
end Go.Proofs.Ytmjigodhncjfjaa
