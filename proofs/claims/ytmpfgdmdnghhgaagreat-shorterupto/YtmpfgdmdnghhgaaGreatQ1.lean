import Derived.Test.YtmpfgdmdnghhgaaGreatN12
import Derived.Test.YtmpfgdmdnghhgaaGreatM2
import Derived.Test.YtmpfgdmdnghhgaaGreatQ0
namespace Go.Proofs.YtmpfgdmdnghhgaaGreat
open Go.RowKit Wr

def levelP (l : Int) : Int := if 0 ≤ l ∧ l ≤ 2 then l else pickP l 3
theorem levelP_bounds (l : Int) : 0 ≤ levelP l ∧ levelP l ≤ 2 := by
  unfold levelP
  split
  · assumption
  · have := pickP_bounds l 3 (by omega)
    omega
set_option maxHeartbeats 400000 in
theorem level_any (w : World) (c : Int) (h1 : -9223372036854775808 ≤ c) (h2 : c ≤ 9223372036854775807) :
    Calls Tryz.prog 27 #[.int .i64 c] w fun e w' => e = .returned (.int .i64 (levelP c)) ∧ w' = w := by
  by_cases h0 : 0 ≤ c
  · by_cases h8 : c ≤ 2
    · have HE : Hid (levelP c = c) := by rw [Hid, levelP, if_pos ⟨h0, h8⟩]
      go_enter Tryz.func27, Tryz.ntmps27
      go_wp2
      go_ret
      rw [HE.out]
      exact ⟨rfl, rfl⟩
    · have HE : Hid (levelP c = pickP c 3) := by rw [Hid, levelP, if_neg (fun q => h8 q.2)]
      have hP := fun W => pick_any W c 3 h1 h2 (by omega) (by omega)
      go_enter Tryz.func27, Tryz.ntmps27
      go_wp2_with (go_at_call 12; refine (hP _).mono ?_; rintro e w1 ⟨rfl, rfl⟩)
      go_ret
      rw [HE.out]
      exact ⟨rfl, rfl⟩
  · have HE : Hid (levelP c = pickP c 3) := by rw [Hid, levelP, if_neg (fun q => h0 q.1)]
    have hP := fun W => pick_any W c 3 h1 h2 (by omega) (by omega)
    go_enter Tryz.func27, Tryz.ntmps27
    go_wp2_with (go_at_call 12; refine (hP _).mono ?_; rintro e w1 ⟨rfl, rfl⟩)
    go_ret
    rw [HE.out]
    exact ⟨rfl, rfl⟩

/-- what a 'work' holds -/
structure Wo where
  plain : ByteArray
  out : ByteArray
  flushes : Int
  notes : Int
  bytes : Int
def wkCells (q : Nat) (s : Wo) (ok : Bool) (o : Nat) : Value :=
  if o = 0 then .pointer (some ⟨q, 0, none⟩) else if o = 1 then .string s.plain else if o = 2 then .string s.out else if o = 3 then .int .i64 s.flushes
  else if o = 4 then .int .i64 s.notes else if o = 5 then .int .i64 s.bytes else .bool ok
def WkRow (w : World) (k q : Nat) (s : Wo) : Prop := w.rowIs k 30 7 (wkCells q s true)

theorem WkRow.plain {w : World} {k q : Nat} {s : Wo} (h : WkRow w k q s) (x : ByteArray) : WkRow (w.setCell ⟨k, 1, none⟩ (.string x)) k q { s with plain := x } :=
  (World.rowIs.set h _ _).congr fun i hi => by
    match i, hi with
    | 0, _ => rfl
    | 1, _ => rfl
    | 2, _ => rfl
    | 3, _ => rfl
    | 4, _ => rfl
    | 5, _ => rfl
    | 6, _ => rfl
theorem WkRow.out {w : World} {k q : Nat} {s : Wo} (h : WkRow w k q s) (x : ByteArray) : WkRow (w.setCell ⟨k, 2, none⟩ (.string x)) k q { s with out := x } :=
  (World.rowIs.set h _ _).congr fun i hi => by
    match i, hi with
    | 0, _ => rfl
    | 1, _ => rfl
    | 2, _ => rfl
    | 3, _ => rfl
    | 4, _ => rfl
    | 5, _ => rfl
    | 6, _ => rfl
theorem WkRow.flushes {w : World} {k q : Nat} {s : Wo} (h : WkRow w k q s) (x : Int) : WkRow (w.setCell ⟨k, 3, none⟩ (.int .i64 x)) k q { s with flushes := x } :=
  (World.rowIs.set h _ _).congr fun i hi => by
    match i, hi with
    | 0, _ => rfl
    | 1, _ => rfl
    | 2, _ => rfl
    | 3, _ => rfl
    | 4, _ => rfl
    | 5, _ => rfl
    | 6, _ => rfl
theorem WkRow.notes {w : World} {k q : Nat} {s : Wo} (h : WkRow w k q s) (x : Int) : WkRow (w.setCell ⟨k, 4, none⟩ (.int .i64 x)) k q { s with notes := x } :=
  (World.rowIs.set h _ _).congr fun i hi => by
    match i, hi with
    | 0, _ => rfl
    | 1, _ => rfl
    | 2, _ => rfl
    | 3, _ => rfl
    | 4, _ => rfl
    | 5, _ => rfl
    | 6, _ => rfl
theorem WkRow.bytes {w : World} {k q : Nat} {s : Wo} (h : WkRow w k q s) (x : Int) : WkRow (w.setCell ⟨k, 5, none⟩ (.int .i64 x)) k q { s with bytes := x } :=
  (World.rowIs.set h _ _).congr fun i hi => by
    match i, hi with
    | 0, _ => rfl
    | 1, _ => rfl
    | 2, _ => rfl
    | 3, _ => rfl
    | 4, _ => rfl
    | 5, _ => rfl
    | 6, _ => rfl

theorem Own.older {w W : World} {v v' : Value} (h : Own W v v') (hs : w.heap.size ≤ W.heap.size) : Own w v v' := by
  rcases h with h | ⟨g, h1, h2⟩
  · exact Or.inl h
  · exact Or.inr ⟨g, h1, by omega⟩
/-- the blocks of a work -/
def T3 (k q b : Nat) (wv : Value) : Nat → Prop := fun j => j = k ∨ j = q ∨ BT b wv j
/-- an encoder that is written to: the work in block k, the encoder in q, its writer in b -/
structure Work (w : World) (k q b : Nat) (wv : Value) (u : St) (P : List UInt8) (s : Wo) : Prop where
  row : WkRow w k q s
  enc : EncAt w q (some b)
  wr : W0 w b u P wv
  kq : k ≠ q
  kb : k ≠ b
  qb : q ≠ b
  vk : wv.ownBlock ≠ some k
  vq : wv.ownBlock ≠ some q
  out : s.out = bytesL u.L
  inv : ∃ x N, DInv (u, P) x s.plain.data.toList N
theorem Work.nk {w : World} {k q b : Nat} {wv : Value} {u : St} {P : List UInt8} {s : Wo} (h : Work w k q b wv u P s) : ¬ BT b wv k := fun e => by
  rcases e with e | e
  · exact h.kb e
  · exact h.vk e
theorem Work.nq {w : World} {k q b : Nat} {wv : Value} {u : St} {P : List UInt8} {s : Wo} (h : Work w k q b wv u P s) : ¬ BT b wv q := fun e => by
  rcases e with e | e
  · exact h.qb e
  · exact h.vq e

set_option maxHeartbeats 400000 in
theorem kbegin_any (w : World) (x l : Int) (x0 : -9223372036854775808 ≤ x) (x1 : x ≤ 9223372036854775807) (l0 : -9223372036854775808 ≤ l) (l1 : l ≤ 9223372036854775807) :
    Calls Tryz.prog 14 #[.int .i64 x, .int .i64 l] w fun e w' => ∃ k q b, e = .returned (.pointer (some ⟨k, 0, none⟩)) ∧ w.heap.size ≤ b ∧ w.heap.size ≤ q ∧ w.heap.size ≤ k ∧ Work w' k q b (.slice none 0 0) (iniS (windowP x) (levelP l)) [] ⟨ByteArray.empty, ByteArray.empty, 0, 0, 0⟩ ∧ Below w.heap.size w w' := by
  have wb := windowP_bounds x
  have lb := levelP_bounds l
  have h1 := fun W => window_any W x x0 x1
  have h2 := fun W => level_any W l l0 l1
  have h3 := fun W => NewEncoder_good W (windowP x) (levelP l) wb.1 wb.2 lb.1 lb.2
  have HI : Hid (DInv (iniS (windowP x) (levelP l), []) (windowP x) [] []) := dinv_init _ _ wb.1 wb.2
  have HO : Hid (ByteArray.empty = bytesL (iniS (windowP x) (levelP l)).L) := by
    show ByteArray.empty = outStr (outFrom (numBits (windowP x) 4) 0)
    unfold outFrom
    rw [numBits_length]
    rfl
  generalize iniS (windowP x) (levelP l) = s0 at *
  generalize windowP x = xx at *
  generalize levelP l = ll at *
  go_enter Tryz.func14, Tryz.ntmps14
  go_wp2_with (first
    | (go_at_call 25; refine (h3 _).mono ?_; rintro e w1 ⟨q, b, rfl, hb0, hbq, hw1, he1, hT1⟩; have hB1 := Tch.below hT1)
    | (go_at_call 27; refine (h2 _).mono ?_; rintro e w2 ⟨rfl, rfl⟩)
    | (go_at_call 26; refine (h1 _).mono ?_; rintro e w3 ⟨rfl, rfl⟩))
  go_ret
  have hq1 : q < w1.heap.size := World.rowIs.lt he1
  refine ⟨w1.heap.size, q, b, rfl, hb0, by omega, hB1.size, ⟨?_, World.rowIs.alloc he1 _, hw1.keep ((Tch.refl NoOld w1).alloc _) (fun q => q) (fun _ _ q => q), by omega, by omega, by omega, (fun q => by cases q), (fun q => by cases q), HO.out, ⟨xx, [], HI.out⟩⟩, hB1.alloc hB1.size _⟩
  exact World.rowIs_alloc w1 _ 30 (wkCells q ⟨ByteArray.empty, ByteArray.empty, 0, 0, 0⟩ true) (fun i hi => by
      match i, hi with
      | 0, _ => rfl
      | 1, _ => rfl
      | 2, _ => rfl
      | 3, _ => rfl
      | 4, _ => rfl
      | 5, _ => rfl
      | 6, _ => rfl)

set_option maxHeartbeats 400000 in
theorem got_any {w : World} {k q : Nat} {s : Wo} (h : WkRow w k q s) (x : ByteArray) (hx : s.out.size + x.size ≤ 9223372036854775807) :
    Calls Tryz.prog 29 #[.pointer (some ⟨k, 0, none⟩), .string x, .int .i64 0] w fun e w' => e = .returned (.tuple #[]) ∧ WkRow w' k q { s with out := s.out ++ x } ∧ Tch (· = k) w w' := by
  have c0 : w.cell? ⟨k, 2, none⟩ = some (.string s.out) := World.rowIs.cell h (by omega)
  have hfz := World.rowIs.frozen h
  go_enter Tryz.func29, Tryz.ntmps29
  go_wp2
  go_end0
  exact ⟨rfl, h.out _, (Tch.refl (· = k) w).set _ _ (fun _ => rfl)⟩

/-- the plain state of a work -/
structure Rn where
  u : St
  P : List UInt8
  k : Wo
def noteT (T : ByteArray) : ByteArray := if 255 < T.size then T.extract 0 255 else T
def callS (kind : Int) (T : ByteArray) (r : Rn) : Rn :=
  if kind = 1 then ⟨(writeS (r.u, r.P) T.data.toList).1, (writeS (r.u, r.P) T.data.toList).2, { r.k with plain := r.k.plain ++ T, out := bytesL (writeS (r.u, r.P) T.data.toList).1.L }⟩
  else if kind = 2 then ⟨flushS r.u r.P, [], { r.k with out := bytesL (flushS r.u r.P).L, flushes := r.k.flushes + 1 }⟩
  else if kind = 3 then ⟨noteS (letS r.u r.P) (noteT T).data.toList, [], { r.k with out := bytesL (noteS (letS r.u r.P) (noteT T).data.toList).L, notes := r.k.notes + 1, bytes := r.k.bytes + (noteT T).size }⟩
  else r
theorem noteT_size (T : ByteArray) : (noteT T).size ≤ 255 ∧ (noteT T).size ≤ T.size := by
  unfold noteT
  split
  · rw [ByteArray.size_extract]; omega
  · omega

theorem outFrom_size (L : List Int) (t : Nat) : (outStr (outFrom L t)).size ≤ L.length / 8 := by
  rw [outStr_sz]
  unfold outFrom
  rw [List.length_map, List.length_range]
  omega
theorem Work.keepE {w w' : World} {k q b : Nat} {wv : Value} {u : St} {P : List UInt8} {s : Wo} (h : Work w k q b wv u P s) (t : Tch (· = k) w w') : EncAt w' q (some b) ∧ W0 w' b u P wv :=
  ⟨h.enc.keep t h.kq.symm, h.wr.keep t h.kb.symm (fun g hg e => h.vk (by rw [hg, e]))⟩
/-- a call of the encoder, and what it gave laid to the rest -/
theorem Work.done {w W w1 w2 : World} {k q b : Nat} {wv wv' : Value} {u u' : St} {P P' : List UInt8} {s s' s2 : Wo} (h : Work w k q b wv u P s) (t0 : Tch (· = k) w W) (hr : WkRow W k q s2) (h1 : W0 w1 b u' P' wv') (ho : Own W wv wv') (t1 : Tch (BT b wv) W w1) (hr2 : WkRow w2 k q s') (t2 : Tch (· = k) w1 w2) (hs : s'.out = bytesL u'.L) (hi : ∃ x N, DInv (u', P') x s'.plain.data.toList N) :
    ∃ wv', Work w2 k q b wv' u' P' s' ∧ Own w wv wv' ∧ Tch (T3 k q b wv) w w2 := by
  have hk : k < W.heap.size := World.rowIs.lt hr
  have heW := (h.keepE t0).1
  have hq : q < W.heap.size := World.rowIs.lt heW
  have v1 := ho.ne hk h.vk
  have v2 := ho.ne hq h.vq
  refine ⟨wv', ⟨hr2, ?_, ?_, h.kq, h.kb, h.qb, v1, v2, hs, hi⟩, ho.older t0.size, ?_⟩
  · exact (heW.keep t1 h.nq).keep t2 h.kq.symm
  · exact h1.keep t2 h.kb.symm (fun g hg e => v1 (by rw [hg, e]))
  · exact ((t0.mono (fun j _ e => Or.inl e)).trans t1 (fun j _ e => Or.inr (Or.inr e))).trans t2 (fun j _ e => Or.inl e)

set_option maxRecDepth 100000 in
set_option maxHeartbeats 1000000 in
theorem kcall_write {w : World} {k q b : Nat} {wv : Value} {r : Rn} (h : Work w k q b wv r.u r.P r.k) (T : ByteArray) (hL : r.u.L.length + 8 * r.P.length + 30 * T.size ≤ 400000000000) (hS : r.k.plain.size + T.size ≤ 9223372036854775807) :
    Calls Tryz.prog 16 #[.pointer (some ⟨k, 0, none⟩), .agg #[.int .i64 1, .string T]] w fun e w' => e = .returned (.tuple #[]) ∧ ∃ wv', Work w' k q b wv' (callS 1 T r).u (callS 1 T r).P (callS 1 T r).k ∧ Own w wv wv' ∧ Tch (T3 k q b wv) w w' := by
  obtain ⟨u, P, s⟩ := r
  dsimp only at h hL hS
  have hrow := h.row
  have c0 : w.cell? ⟨k, 0, none⟩ = some (.pointer (some ⟨q, 0, none⟩)) := World.rowIs.cell hrow (by omega)
  have c1 : w.cell? ⟨k, 1, none⟩ = some (.string s.plain) := World.rowIs.cell hrow (by omega)
  have hfz := World.rowIs.frozen hrow
  have hk : k < w.heap.size := World.rowIs.lt hrow
  have honA : ∀ o x, Tch (· = k) w (((w.setCell ⟨k, 1, none⟩ x).alloc o).drew.drew) := fun o x => (((Tch.refl (· = k) w).set _ _ (fun _ => rfl)).alloc o).drew.drew
  have hEA := fun o x => (h.keepE (honA o x)).1
  have hWA := fun o x => (h.keepE (honA o x)).2
  have hRA : ∀ o, WkRow (((w.setCell ⟨k, 1, none⟩ (.string (s.plain ++ T))).alloc o).drew.drew) k q { s with plain := s.plain ++ T } := fun o => World.rowIs.alloc (WkRow.plain hrow (s.plain ++ T)) o
  have hE := fun W (h1 : EncAt W q (some b)) (h2 : W0 W b u P wv) => EncWrite_open h1 h2 T hL
  have HX := ext_write T.data.toList (u, P)
  have HM := bytesL_more HX
  have hphi := writeS_phi T.data.toList (u, P)
  have hph2 : phiS (u, P) = u.L.length + 8 * P.length := rfl
  have hTs : T.data.toList.length = T.size := by simp
  have HI : Hid (∃ x N, DInv (writeS (u, P) T.data.toList) x (s.plain ++ T).data.toList N) := by
    obtain ⟨x, N, hi⟩ := h.inv
    refine ⟨x, N, ?_⟩
    rw [ByteArray.data_append, Array.toList_append]
    exact dinv_write _ hi
  have HC : Hid (callS 1 T ⟨u, P, s⟩ = ⟨(writeS (u, P) T.data.toList).1, (writeS (u, P) T.data.toList).2, { s with plain := s.plain ++ T, out := bytesL (writeS (u, P) T.data.toList).1.L }⟩) := rfl
  rw [HC.out]
  generalize writeS (u, P) T.data.toList = e at *
  obtain ⟨u', P'⟩ := e
  dsimp only at *
  have hph3 : phiS (u', P') = u'.L.length + 8 * P'.length := rfl
  have hsz := outFrom_size u'.L (u.L.length / 8)
  have hso : s.out.size = u.L.length / 8 := by rw [h.out, bytesL_size]
  have HM2 : Hid (s.out ++ outStr (outFrom u'.L (u.L.length / 8)) = bytesL u'.L) := by rw [Hid, h.out]; exact HM
  generalize outStr (outFrom u'.L (u.L.length / 8)) = y at *
  have hG := fun W (s' : Wo) (e1 : s'.out = s.out) (h1 : WkRow W k q s') => got_any h1 y (by rw [e1]; omega)
  have HW : Hid (Work w k q b wv u P s) := h
  clear h HC HM HX hphi hph2 hph3 hTs hsz hso hrow
  go_enter Tryz.func16, Tryz.ntmps16
  go_wp2
  go_region
  go_wp2
  go_region_with (go_at_call 28; refine (hE _ (hEA _ _) (hWA _ _)).mono ?_; rintro e w1 ⟨rfl, wv', hw1, ho1, hon1⟩; have hr1 := hon1.rowIs (hRA _) HW.out.nk; have hfin := fun w2 s' => HW.out.done (w2 := w2) (s' := s') (honA _ _) (hRA _) hw1 ho1 hon1)
  all_goals
    clear hE hEA hWA hRA honA
    go_wp2_with (first
      | (go_at_call 29; refine (hG _ { s with plain := s.plain ++ T } rfl hr1).mono ?_; rintro e w2 ⟨rfl, hr2, hon2⟩))
    go_end0
    have hr3 := hr2
    rw [show ({ s with plain := s.plain ++ T } : Wo).out ++ y = bytesL u'.L from HM2.out] at hr3
    exact ⟨rfl, hfin _ _ hr3 hon2 rfl HI.out⟩

set_option maxRecDepth 100000 in
set_option maxHeartbeats 1000000 in
theorem kcall_other {w : World} {k q b : Nat} {wv : Value} {r : Rn} (h : Work w k q b wv r.u r.P r.k) (kind : Int) (T : ByteArray) (h1 : kind ≠ 1) (h2 : kind ≠ 2) (h3 : kind ≠ 3) (hL : r.u.L.length + 8 * r.P.length ≤ 400000000000) :
    Calls Tryz.prog 16 #[.pointer (some ⟨k, 0, none⟩), .agg #[.int .i64 kind, .string T]] w fun e w' => e = .returned (.tuple #[]) ∧ ∃ wv', Work w' k q b wv' (callS kind T r).u (callS kind T r).P (callS kind T r).k ∧ Own w wv wv' ∧ Tch (T3 k q b wv) w w' := by
  have HC : Hid (callS kind T r = r) := by rw [Hid, callS, if_neg h1, if_neg h2, if_neg h3]
  rw [HC.out]
  obtain ⟨u, P, s⟩ := r
  dsimp only at h hL ⊢
  have hrow := h.row
  have c0 : w.cell? ⟨k, 0, none⟩ = some (.pointer (some ⟨q, 0, none⟩)) := World.rowIs.cell hrow (by omega)
  have hfz := World.rowIs.frozen hrow
  have hk : k < w.heap.size := World.rowIs.lt hrow
  have honB : ∀ o, Tch (· = k) w (w.alloc o) := fun o => (Tch.refl (· = k) w).alloc o
  have hEA := fun o => (h.keepE (honB o)).1
  have hWA := fun o => (h.keepE (honB o)).2
  have hRA : ∀ o, WkRow (w.alloc o) k q s := fun o => World.rowIs.alloc hrow o
  have hE := fun W (h1 : EncAt W q (some b)) (h2 : W0 W b u P wv) => EncWrite_open h1 h2 ByteArray.empty (by show u.L.length + 8 * P.length + 30 * 0 ≤ _; omega)
  have hb1 : (kind == 1) = false := beq_eq_false_iff_ne.2 h1
  have hb2 : (kind == 2) = false := beq_eq_false_iff_ne.2 h2
  have hb3 : (kind == 3) = false := beq_eq_false_iff_ne.2 h3
  have e0 : writeS (u, P) (ByteArray.empty).data.toList = (u, P) := rfl
  rw [e0] at hE
  dsimp only at hE
  have e1 : outStr (outFrom u.L (u.L.length / 8)) = ByteArray.empty := by rw [outFrom_all]; rfl
  rw [e1] at hE
  have hso : s.out.size = u.L.length / 8 := by rw [h.out, bytesL_size]
  have hz : (ByteArray.empty).size = 0 := rfl
  have hG := fun W (h1 : WkRow W k q s) => got_any h1 ByteArray.empty (by rw [hz]; omega)
  have eo : s.out ++ ByteArray.empty = s.out := by simp
  rw [eo] at hG
  have HW : Hid (Work w k q b wv u P s) := h
  clear h hrow hso hz eo e1 e0 HC h1 h2 h3
  go_enter Tryz.func16, Tryz.ntmps16
  go_wp2_with (first
    | (go_at_call 29; refine (hG _ hr1).mono ?_; rintro e w2 ⟨rfl, hr2, hon2⟩)
    | (go_at_call 28; refine (hE _ (hEA _) (hWA _)).mono ?_; rintro e w1 ⟨rfl, wv', hw1, ho1, hon1⟩; have hr1 := hon1.rowIs (hRA _) HW.out.nk; have hfin := fun w2 s' => HW.out.done (w2 := w2) (s' := s') (honB _) (hRA _) hw1 ho1 hon1))
  go_end0
  exact ⟨rfl, hfin _ _ hr2 hon2 HW.out.out HW.out.inv⟩

theorem flushS_length (s : St) (P : List UInt8) : (flushS s P).L.length ≤ s.L.length + 32 + 8 * P.length := by
  have := letS_length s P
  unfold flushS
  split
  · omega
  · show (emptyL (letS s P).L false).length ≤ _
    unfold emptyL
    have h3 := padL_le (headL (letS s P).L false 0)
    rw [headL_length] at h3
    omega
set_option maxRecDepth 100000 in
set_option maxHeartbeats 1000000 in
theorem kcall_flush {w : World} {k q b : Nat} {wv : Value} {r : Rn} (h : Work w k q b wv r.u r.P r.k) (T : ByteArray) (hL : r.u.L.length + 8 * r.P.length ≤ 400000000000) (hF : 0 ≤ r.k.flushes ∧ r.k.flushes ≤ 1099511627776) :
    Calls Tryz.prog 16 #[.pointer (some ⟨k, 0, none⟩), .agg #[.int .i64 2, .string T]] w fun e w' => e = .returned (.tuple #[]) ∧ ∃ wv', Work w' k q b wv' (callS 2 T r).u (callS 2 T r).P (callS 2 T r).k ∧ Own w wv wv' ∧ Tch (T3 k q b wv) w w' := by
  have HC : Hid (callS 2 T r = ⟨flushS r.u r.P, [], { r.k with out := bytesL (flushS r.u r.P).L, flushes := r.k.flushes + 1 }⟩) := rfl
  rw [HC.out]
  obtain ⟨u, P, s⟩ := r
  dsimp only at h hL hF ⊢
  have hrow := h.row
  have c0 : w.cell? ⟨k, 0, none⟩ = some (.pointer (some ⟨q, 0, none⟩)) := World.rowIs.cell hrow (by omega)
  have c1 : w.cell? ⟨k, 3, none⟩ = some (.int .i64 s.flushes) := World.rowIs.cell hrow (by omega)
  have hfz := World.rowIs.frozen hrow
  have hk : k < w.heap.size := World.rowIs.lt hrow
  have honB : ∀ o x, Tch (· = k) w ((w.setCell ⟨k, 3, none⟩ x).alloc o) := fun o x => ((Tch.refl (· = k) w).set _ _ (fun _ => rfl)).alloc o
  have hEA := fun o x => (h.keepE (honB o x)).1
  have hWA := fun o x => (h.keepE (honB o x)).2
  have hRA : ∀ o, WkRow ((w.setCell ⟨k, 3, none⟩ (.int .i64 (s.flushes + 1))).alloc o) k q { s with flushes := s.flushes + 1 } := fun o => World.rowIs.alloc (WkRow.flushes hrow (s.flushes + 1)) o
  have hE := fun W (h1 : EncAt W q (some b)) (h2 : W0 W b u P wv) => EncFlush_open h1 h2 (by omega)
  dsimp only at hE
  have HM := bytesL_more (ext_flush u P)
  have HI : Hid (∃ x N, DInv (flushS u P, []) x s.plain.data.toList N) := by
    obtain ⟨x, N, hi⟩ := h.inv
    exact ⟨x, N, dinv_flushed hi⟩
  have hpl := h.wr.2.plen
  have hfl := flushS_length u P
  generalize flushS u P = u' at *
  have hsz := outFrom_size u'.L (u.L.length / 8)
  have hso : s.out.size = u.L.length / 8 := by rw [h.out, bytesL_size]
  have HM2 : Hid (s.out ++ outStr (outFrom u'.L (u.L.length / 8)) = bytesL u'.L) := by rw [Hid, h.out]; exact HM
  generalize outStr (outFrom u'.L (u.L.length / 8)) = y at *
  have hG := fun W (s' : Wo) (e1 : s'.out = s.out) (h1 : WkRow W k q s') => got_any h1 y (by rw [e1]; omega)
  have HW : Hid (Work w k q b wv u P s) := h
  clear h HC HM hfl hsz hso hrow
  go_enter Tryz.func16, Tryz.ntmps16
  go_wp2_with (first
    | (go_at_call 29; refine (hG _ { s with flushes := s.flushes + 1 } rfl hr1).mono ?_; rintro e w2 ⟨rfl, hr2, hon2⟩)
    | (go_at_call 30; refine (hE _ (hEA _ _) (hWA _ _)).mono ?_; rintro e w1 ⟨rfl, wv', hw1, ho1, hon1⟩; have hr1 := hon1.rowIs (hRA _) HW.out.nk; have hfin := fun w2 s' => HW.out.done (w2 := w2) (s' := s') (honB _ _) (hRA _) hw1 ho1 hon1))
  go_end0
  have hr3 := hr2
  rw [show ({ s with flushes := s.flushes + 1 } : Wo).out ++ y = bytesL u'.L from HM2.out] at hr3
  exact ⟨rfl, hfin _ _ hr3 hon2 rfl HI.out⟩

theorem noteL_length (L : List Int) (T : List UInt8) : (noteL L T).length ≤ L.length + 18 + 8 * T.length := by
  unfold noteL
  have h1 := padL_le (headL L false 3 ++ numBits (T.length : Int) 8)
  have h2 := headL_length L false 3
  rw [List.length_append, numBits_length] at h1
  rw [List.length_append, byteBits_length]
  omega
set_option maxRecDepth 100000 in
set_option maxHeartbeats 1000000 in
theorem kcall_note {w : World} {k q b : Nat} {wv : Value} {r : Rn} (h : Work w k q b wv r.u r.P r.k) (T : ByteArray) (hL : r.u.L.length + 8 * r.P.length ≤ 400000000000) (hF : 0 ≤ r.k.notes ∧ r.k.notes ≤ 1099511627776) (hB : 0 ≤ r.k.bytes ∧ r.k.bytes ≤ 1099511627776) :
    Calls Tryz.prog 16 #[.pointer (some ⟨k, 0, none⟩), .agg #[.int .i64 3, .string T]] w fun e w' => e = .returned (.tuple #[]) ∧ ∃ wv', Work w' k q b wv' (callS 3 T r).u (callS 3 T r).P (callS 3 T r).k ∧ Own w wv wv' ∧ Tch (T3 k q b wv) w w' := by
  have HC : Hid (callS 3 T r = ⟨noteS (letS r.u r.P) (noteT T).data.toList, [], { r.k with out := bytesL (noteS (letS r.u r.P) (noteT T).data.toList).L, notes := r.k.notes + 1, bytes := r.k.bytes + (noteT T).size }⟩) := rfl
  rw [HC.out]
  obtain ⟨u, P, s⟩ := r
  dsimp only at h hL hF hB ⊢
  have hrow := h.row
  have c0 : w.cell? ⟨k, 0, none⟩ = some (.pointer (some ⟨q, 0, none⟩)) := World.rowIs.cell hrow (by omega)
  have c1 : w.cell? ⟨k, 4, none⟩ = some (.int .i64 s.notes) := World.rowIs.cell hrow (by omega)
  have c2 : w.cell? ⟨k, 5, none⟩ = some (.int .i64 s.bytes) := World.rowIs.cell hrow (by omega)
  have hfz := World.rowIs.frozen hrow
  have hk : k < w.heap.size := World.rowIs.lt hrow
  have hts := noteT_size T
  have hNT : (noteT T).data.toList.length = (noteT T).size := by simp
  have honB : ∀ o x y, Tch (· = k) w (((w.setCell ⟨k, 4, none⟩ x).setCell ⟨k, 5, none⟩ y).alloc o) := fun o x y => (((Tch.refl (· = k) w).set _ _ (fun _ => rfl)).set _ _ (fun _ => rfl)).alloc o
  have hEA := fun o x y => (h.keepE (honB o x y)).1
  have hWA := fun o x y => (h.keepE (honB o x y)).2
  have hRA : ∀ o, WkRow (((w.setCell ⟨k, 4, none⟩ (.int .i64 (s.notes + 1))).setCell ⟨k, 5, none⟩ (.int .i64 (s.bytes + (noteT T).size))).alloc o) k q { s with notes := s.notes + 1, bytes := s.bytes + (noteT T).size } := fun o => World.rowIs.alloc (WkRow.bytes (WkRow.notes hrow (s.notes + 1)) _) o
  have hE := fun W (h1 : EncAt W q (some b)) (h2 : W0 W b u P wv) => EncNote_open h1 h2 (noteT T) hts.1 (by omega)
  dsimp only at hE
  have HM := bytesL_more ((ext_let u P).trans (ext_note (letS u P).L (noteT T).data.toList))
  have HI : Hid (∃ x N, DInv (noteS (letS u P) (noteT T).data.toList, []) x s.plain.data.toList N) := by
    obtain ⟨x, N, hi⟩ := h.inv
    exact ⟨x, _, dinv_note hi _ hts.1⟩
  have hfl := noteL_length (letS u P).L (noteT T).data.toList
  have hlet := letS_length u P
  have eN : noteL (letS u P).L (noteT T).data.toList = (noteS (letS u P) (noteT T).data.toList).L := rfl
  rw [eN] at HM hfl
  clear eN
  generalize noteS (letS u P) (noteT T).data.toList = u' at *
  have hsz := outFrom_size u'.L (u.L.length / 8)
  have hso : s.out.size = u.L.length / 8 := by rw [h.out, bytesL_size]
  have HM2 : Hid (s.out ++ outStr (outFrom u'.L (u.L.length / 8)) = bytesL u'.L) := by rw [Hid, h.out]; exact HM
  generalize outStr (outFrom u'.L (u.L.length / 8)) = y at *
  have hG := fun W (s' : Wo) (e1 : s'.out = s.out) (h1 : WkRow W k q s') => got_any h1 y (by rw [e1]; omega)
  have HW : Hid (Work w k q b wv u P s) := h
  clear h HC HM hfl hsz hso hrow hlet hNT
  by_cases hlong : 255 < T.size
  · have e : noteT T = T.extract 0 255 := by unfold noteT; rw [if_pos hlong]
    have es : (noteT T).size = 255 := by rw [e, ByteArray.size_extract]; omega
    have es2 : (T.extract 0 255).size = 255 := by rw [← e, es]
    rw [e] at hE
    have hRB : ∀ o, WkRow (((w.setCell ⟨k, 4, none⟩ (.int .i64 (s.notes + 1))).setCell ⟨k, 5, none⟩ (.int .i64 (s.bytes + 255))).alloc o) k q { s with notes := s.notes + 1, bytes := s.bytes + (noteT T).size } := fun o => by
      have := hRA o
      rw [es] at this ⊢
      exact this
    clear e es hRA
    go_enter Tryz.func16, Tryz.ntmps16
    go_wp2_with (first
      | (go_at_call 29; refine (hG _ { s with notes := s.notes + 1, bytes := s.bytes + (noteT T).size } rfl hr1).mono ?_; rintro e w2 ⟨rfl, hr2, hon2⟩)
      | (go_at_call 31; refine (hE _ (hEA _ _ _) (hWA _ _ _)).mono ?_; rintro e w1 ⟨rfl, wv', hw1, ho1, hon1⟩; have hr1 := hon1.rowIs (hRB _) HW.out.nk; have hfin := fun w2 s' => HW.out.done (w2 := w2) (s' := s') (honB _ _ _) (hRB _) hw1 ho1 hon1))
    go_end0
    have hr3 := hr2
    rw [show ({ s with notes := s.notes + 1, bytes := s.bytes + (noteT T).size } : Wo).out ++ y = bytesL u'.L from HM2.out] at hr3
    exact ⟨rfl, hfin _ _ hr3 hon2 rfl HI.out⟩
  · have e : noteT T = T := by unfold noteT; rw [if_neg hlong]
    rw [e] at hE hRA ⊢
    clear e
    go_enter Tryz.func16, Tryz.ntmps16
    go_wp2_with (first
      | (go_at_call 29; refine (hG _ { s with notes := s.notes + 1, bytes := s.bytes + (T).size } rfl hr1).mono ?_; rintro e w2 ⟨rfl, hr2, hon2⟩)
      | (go_at_call 31; refine (hE _ (hEA _ _ _) (hWA _ _ _)).mono ?_; rintro e w1 ⟨rfl, wv', hw1, ho1, hon1⟩; have hr1 := hon1.rowIs (hRA _) HW.out.nk; have hfin := fun w2 s' => HW.out.done (w2 := w2) (s' := s') (honB _ _ _) (hRA _) hw1 ho1 hon1))
    go_end0
    have hr3 := hr2
    rw [show ({ s with notes := s.notes + 1, bytes := s.bytes + (T).size } : Wo).out ++ y = bytesL u'.L from HM2.out] at hr3
    exact ⟨rfl, hfin _ _ hr3 hon2 rfl HI.out⟩

/-- how far a state may have come -/
structure Roomy (r : Rn) (n : Nat) : Prop where
  phi : r.u.L.length + 8 * r.P.length + 30 * n ≤ 350000000000
  plain : r.k.plain.size + n ≤ 1099511627776
  f : 0 ≤ r.k.flushes ∧ r.k.flushes + n ≤ 1099511627776
  nt : 0 ≤ r.k.notes ∧ r.k.notes + n ≤ 1099511627776
  by_ : 0 ≤ r.k.bytes ∧ r.k.bytes + n ≤ 1099511627776
theorem callS_roomy {r : Rn} {n : Nat} (kind : Int) (T : ByteArray) (h : Roomy r (n + T.size + 4)) : Roomy (callS kind T r) n := by
  obtain ⟨h1, h2, h3, h4, h5⟩ := h
  have hts := noteT_size T
  unfold callS
  by_cases k1 : kind = 1
  · rw [if_pos k1]
    have hphi := writeS_phi T.data.toList (r.u, r.P)
    have hTs : T.data.toList.length = T.size := by simp
    refine ⟨?_, ?_, ⟨h3.1, by show r.k.flushes + n ≤ _; omega⟩, ⟨h4.1, by show r.k.notes + n ≤ _; omega⟩, ⟨h5.1, by show r.k.bytes + n ≤ _; omega⟩⟩
    · show phiS (writeS (r.u, r.P) T.data.toList) + _ ≤ _
      have e : phiS (r.u, r.P) = r.u.L.length + 8 * r.P.length := rfl
      omega
    · show (r.k.plain ++ T).size + n ≤ _
      rw [ByteArray.size_append]
      omega
  rw [if_neg k1]
  by_cases k2 : kind = 2
  · rw [if_pos k2]
    refine ⟨?_, by show r.k.plain.size + n ≤ _; omega, ⟨by show 0 ≤ r.k.flushes + 1; omega, by show r.k.flushes + 1 + n ≤ _; omega⟩, ⟨h4.1, by show r.k.notes + n ≤ _; omega⟩, ⟨h5.1, by show r.k.bytes + n ≤ _; omega⟩⟩
    show (flushS r.u r.P).L.length + 8 * 0 + 30 * n ≤ _
    have := flushS_length r.u r.P
    omega
  rw [if_neg k2]
  by_cases k3 : kind = 3
  · rw [if_pos k3]
    have hNT : (noteT T).data.toList.length = (noteT T).size := by simp
    refine ⟨?_, by show r.k.plain.size + n ≤ _; omega, ⟨h3.1, by show r.k.flushes + n ≤ _; omega⟩, ⟨by show 0 ≤ r.k.notes + 1; omega, by show r.k.notes + 1 + n ≤ _; omega⟩, ⟨by show 0 ≤ r.k.bytes + ((noteT T).size : Int); omega, by show r.k.bytes + ((noteT T).size : Int) + n ≤ _; omega⟩⟩
    show (noteL (letS r.u r.P).L (noteT T).data.toList).length + 8 * 0 + 30 * n ≤ _
    have := letS_length r.u r.P
    have := noteL_length (letS r.u r.P).L (noteT T).data.toList
    omega
  rw [if_neg k3]
  exact ⟨by omega, by omega, ⟨h3.1, by omega⟩, ⟨h4.1, by omega⟩, ⟨h5.1, by omega⟩⟩

theorem kcall_any {w : World} {k q b : Nat} {wv : Value} {r : Rn} (h : Work w k q b wv r.u r.P r.k) (kind : Int) (T : ByteArray) (hr : Roomy r (T.size + 4)) :
    Calls Tryz.prog 16 #[.pointer (some ⟨k, 0, none⟩), .agg #[.int .i64 kind, .string T]] w fun e w' => e = .returned (.tuple #[]) ∧ ∃ wv', Work w' k q b wv' (callS kind T r).u (callS kind T r).P (callS kind T r).k ∧ Own w wv wv' ∧ Tch (T3 k q b wv) w w' := by
  obtain ⟨h1, h2, h3, h4, h5⟩ := hr
  by_cases k1 : kind = 1
  · subst k1
    exact kcall_write h T (by omega) (by omega)
  by_cases k2 : kind = 2
  · subst k2
    exact kcall_flush h T (by omega) (by omega)
  by_cases k3 : kind = 3
  · subst k3
    exact kcall_note h T (by omega) (by omega) (by omega)
  exact kcall_other h kind T k1 k2 k3 (by omega)

def endOut (r : Rn) : ByteArray := bytesL (finS r.u r.P).L
theorem finS_length (s : St) (P : List UInt8) : (finS s P).L.length ≤ s.L.length + 22 + 8 * P.length := by
  unfold finS
  split
  · show (emptyL s.L true).length ≤ _
    unfold emptyL
    have h3 := padL_le (headL s.L true 0)
    rw [headL_length] at h3
    omega
  · show (padL (blkS s.k s.L true P).2).length ≤ _
    unfold blkS
    cases hc : codedP s.k P with
    | none =>
      show (padL (stoL s.L true P)).length ≤ _
      have hw : (stoL s.L true P).length % 8 = 0 := by
        unfold stoL
        have := padL_whole (headL s.L true 1 ++ numBits ((P.length : Int) - 1) 12)
        rw [List.length_append, byteBits_length]
        omega
      rw [pad_none hw]
      have h1 := padL_le (headL s.L true 1 ++ numBits ((P.length : Int) - 1) 12)
      have h2 := headL_length s.L true 1
      rw [List.length_append, numBits_length] at h1
      unfold stoL
      rw [List.length_append, byteBits_length]
      omega
    | some r =>
      obtain ⟨M, far⟩ := r
      have hm := codedP_length hc
      have h3 := padL_le (codL s.L true P M)
      show (padL (codL s.L true P M)).length ≤ _
      have h4 : (codL s.L true P M).length = s.L.length + 15 + M.length := by
        unfold codL
        rw [List.length_append, List.length_append, headL_length, numBits_length]
      omega
set_option maxRecDepth 100000 in
set_option maxHeartbeats 1000000 in
theorem kend_any {w : World} {k q b : Nat} {wv : Value} {r : Rn} (h : Work w k q b wv r.u r.P r.k) (hL : r.u.L.length + 8 * r.P.length ≤ 400000000000) :
    Calls Tryz.prog 20 #[.pointer (some ⟨k, 0, none⟩)] w fun e w' => e = .returned (.tuple #[]) ∧ WkRow w' k q { r.k with out := endOut r } ∧ Tch (T3 k q b wv) w w' := by
  unfold endOut
  obtain ⟨u, P, s⟩ := r
  dsimp only at h hL ⊢
  have hrow := h.row
  have c0 : w.cell? ⟨k, 0, none⟩ = some (.pointer (some ⟨q, 0, none⟩)) := World.rowIs.cell hrow (by omega)
  have hE := EncFinish_open h.enc h.qb h.vq h.wr (by omega)
  have HM := bytesL_more (ext_fin u P)
  have hfl := finS_length u P
  generalize finS u P = u' at *
  have hsz := outFrom_size u'.L (u.L.length / 8)
  have hso : s.out.size = u.L.length / 8 := by rw [h.out, bytesL_size]
  have HM2 : Hid (s.out ++ outStr (outFrom u'.L (u.L.length / 8)) = bytesL u'.L) := by rw [Hid, h.out]; exact HM
  generalize outStr (outFrom u'.L (u.L.length / 8)) = y at *
  have hG := fun W (h1 : WkRow W k q s) => got_any h1 y (by omega)
  have HW : Hid (Work w k q b wv u P s) := h
  clear h HM hfl hsz hso hrow
  go_enter Tryz.func20, Tryz.ntmps20
  go_wp2_with (first
    | (go_at_call 29; refine (hG _ hr1).mono ?_; rintro e w2 ⟨rfl, hr2, hon2⟩)
    | (go_at_call 32; refine hE.mono ?_; rintro e w1 ⟨rfl, he1, w0, hon0, hon1⟩; have hr1 := hon1.rowIs (hon0.rowIs HW.out.row HW.out.nk) HW.out.kq))
  go_end0
  refine ⟨rfl, ?_, ((hon0.mono (fun j _ e => Or.inr (Or.inr e))).trans hon1 (fun j _ e => Or.inr (Or.inl e))).trans hon2 (fun j _ e => Or.inl e)⟩
  rw [HM2.out] at hr2
  exact hr2
end Go.Proofs.YtmpfgdmdnghhgaaGreat
