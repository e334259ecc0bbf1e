import Derived.Test.YtmpfgdmdnghhgaaM2
import Derived.Test.YtmpfgdmdnghhgaaN12
import Derived.Test.YtmpfgdmdnghhgaaDecodesProof
import Derived.Maps.AppendAt
import Derived.Deep.RegionHeld3
namespace Go.Proofs.Ytmpfgdmdnghhgaa
open Go.RowKit Wr

structure Mw where
  win : Int
  plain : ByteArray
  notes : List ByteArray
  out : ByteArray
  done : Bool
def mdCells (q : Nat) (s : Mw) (vn : Value) (o : Nat) : Value :=
  if o = 0 then .pointer (some ⟨q, 0, none⟩) else if o = 1 then .int .i64 s.win else if o = 2 then .string s.plain else if o = 3 then vn
  else if o = 4 then .string s.out else .bool s.done
def MdRow (w : World) (k q : Nat) (s : Mw) (vn : Value) : Prop := w.rowIs k 61 6 (mdCells q s vn)
def StrRow (w : World) (v : Value) (N : List ByteArray) : Prop := w.ownsRow 0 9 1 v N.length (N.map Value.string)

theorem strs_cells {w : World} {v : Value} {N : List ByteArray} (h : StrRow w v N) : ∃ a c, v = .slice a N.length c ∧ (0 < N.length → ∃ g, a = some ⟨g, 0, none⟩ ∧ ∀ i, i < N.length → w.cell? ⟨g, i, none⟩ = some (.string (N.getD i ByteArray.empty))) := by
  obtain ⟨h1, h2⟩ := h
  rcases h2 with ⟨h3, h4⟩ | ⟨g, cap, cur, hv, _, hh, hn, hc, hs, ht⟩
  · exact ⟨none, 0, by rw [h3, h4], fun q => absurd q (by omega)⟩
  · refine ⟨some ⟨g, 0, none⟩, cap, hv, fun _ => ⟨g, rfl, fun i hi => ?_⟩⟩
    rw [cell_of_row w g i cur 9 (0, 0) hh, ← Array.getElem?_toList]
    have e : (cur.toList.take (N.length * 1))[i]? = (N.map Value.string)[i]? := by rw [ht]
    rw [List.getElem?_take, if_pos (by omega)] at e
    rw [e, List.getElem?_map, List.getD_eq_getElem?_getD, List.getElem?_eq_getElem hi]
    rfl

set_option maxHeartbeats 1000000 in
theorem sameTexts_any {w : World} {va vb : Value} {N : List ByteArray} (ha : StrRow w va N) (hb : StrRow w vb N) (hN : N.length ≤ 1099511627776) :
    Calls Try.prog 48 #[va, vb] w fun e w' => e = .returned (.bool true) ∧ ∃ n, w' = w.drewN n := by
  obtain ⟨a, ac, rfl, hA⟩ := strs_cells ha
  obtain ⟨b, bc, rfl, hB⟩ := strs_cells hb
  clear ha hb
  go_enter Try.func48, Try.ntmps48
  go_wp2
  go_loopw [5] (fun vi wr => ∃ i : Nat, i ≤ N.length ∧ vi = .int .i64 i ∧ ∃ n, wr = w.drewN n) (fun vi _ => N.length - (intOf vi).toNat)
  case atStart => exact ⟨0, by omega, rfl, 0, rfl⟩
  case round =>
    obtain ⟨i, hi, rfl, n, rfl⟩ := hrel
    by_cases hlt : i < N.length
    · obtain ⟨ga, rfl, hA2⟩ := hA (by omega)
      obtain ⟨gb, rfl, hB2⟩ := hB (by omega)
      have c1 := hA2 i hlt
      have c2 := hB2 i hlt
      clear hA hB hA2 hB2
      generalize N.getD i ByteArray.empty = t at *
      go_wp2
      go_region
      all_goals
        go_wp2
        exact ⟨⟨i + 1, by omega, by go_num, n + 1, rfl⟩, by simp [intOf]; omega⟩
    · go_wp2
      go_ret
      exact ⟨rfl, n, rfl⟩

theorem below_md {k q : Nat} {w w' : World} {s : Mw} {vn : Value} (h : Below w.heap.size w w') (hd : MdRow w k q s vn) : MdRow w' k q s vn := World.rowIs.of_block hd (h.block k (World.rowIs.lt hd))
theorem owns_blw {w w' : World} {B : Nat} {e : TypeId} {size : Nat} {v : Value} {n : Nat} {xs : List Value} (ho : w.ownsRow B e size v n xs) (hB : Below w.heap.size w w') : w'.ownsRow B e size v n xs :=
  owns_of_block ho fun g hg => hB.block g (by
    obtain ⟨_, h2⟩ := ho
    rcases h2 with ⟨h3, _⟩ | ⟨g', cap, cur, hv, _, hh, _⟩
    · rw [h3] at hg; cases hg
    · rw [hv] at hg
      have e1 : g' = g := by simpa [Value.ownBlock] using hg
      subst e1
      rcases Nat.lt_or_ge g' w.heap.size with hl | hl
      · exact hl
      · rw [Array.getElem?_eq_none hl] at hh; cases hh)
theorem owns_zero {w : World} {B : Nat} {e : TypeId} {size : Nat} {v : Value} {n : Nat} {xs : List Value} (ho : w.ownsRow B e size v n xs) : w.ownsRow 0 e size v n xs := by
  obtain ⟨h1, h2⟩ := ho
  rcases h2 with h3 | ⟨g, cap, cur, hv, _, r⟩
  · exact ⟨h1, Or.inl h3⟩
  · exact ⟨h1, Or.inr ⟨g, cap, cur, hv, Nat.zero_le _, r⟩⟩

set_option maxRecDepth 100000 in
set_option maxHeartbeats 1000000 in
theorem stands_flush {w : World} {k q : Nat} {s : Mw} {vn : Value} (h : MdRow w k q s vn) (hs : s.out.size ≤ 268435456) (h1 : outStr (readD s.out).out = s.plain) (h2 : (readD s.out).x.w = s.win) (h3 : ((readR s.out).1 && ((readD s.out).x.state == 1)) = true) :
    Calls Try.prog 36 #[.pointer (some ⟨k, 0, none⟩), .int .i64 2] w fun e w' => e = .returned (.bool true) ∧ Below w.heap.size w w' := by
  have c0 : w.cell? ⟨k, 4, none⟩ = some (.string s.out) := World.rowIs.cell h (by omega)
  have hR := fun (W : World) => Rread_any W s.out hs
  rw [h1, h2, h3] at hR
  generalize readV s.out = V at *
  generalize (readD s.out).notes = NN at *
  have hkl : k < w.heap.size := World.rowIs.lt h
  have HH : Hid (MdRow w k q s vn) := h
  clear h1 h2 h3 h
  go_enter Try.func36, Try.ntmps36
  go_wp2_with (first
    | (go_at_call 30; refine (hR _).mono ?_; rintro e w1 ⟨vr, rfl, hown, hb1⟩; obtain ⟨ra, rc, rfl⟩ := owns_slice hown; have hr1 := below_md hb1 HH.out; have d1 : w1.cell? ⟨k, 2, none⟩ = some (.string s.plain) := World.rowIs.cell hr1 (by omega); have d2 : w1.cell? ⟨k, 1, none⟩ = some (.int .i64 s.win) := World.rowIs.cell hr1 (by omega)))
  have hk1 : k < w1.heap.size := World.rowIs.lt hr1
  have hkn : w1.heap.size ≠ k := by omega
  go_region_held3 (fun W => W.cell? ⟨w1.heap.size, 0, none⟩ = some (.string s.plain) ∧ W.cell? ⟨w1.heap.size, 2, none⟩ = some (.int .i64 s.win) ∧ W.cell? ⟨w1.heap.size, 4, none⟩ = some (.bool true) ∧ W.cell? ⟨k, 2, none⟩ = some (.string s.plain) ∧ W.cell? ⟨k, 1, none⟩ = some (.int .i64 s.win)) (go_keep) (fail)
  go_wp2
  go_ret
  exact ⟨rfl, (hb1.alloc hb1.size _).drew⟩

set_option maxRecDepth 100000 in
set_option maxHeartbeats 1000000 in
theorem stands_fin {w : World} {k q : Nat} {s : Mw} {vn : Value} (h : MdRow w k q s vn) (hn : StrRow w vn s.notes) (hnl : s.notes.length ≤ 1099511627776) (hs : s.out.size ≤ 268435456) (h1 : outStr (readD s.out).out = s.plain) (h2 : (readD s.out).x.w = s.win) (h3 : readV s.out = 0) (h4 : (readD s.out).notes = s.notes) :
    Calls Try.prog 36 #[.pointer (some ⟨k, 0, none⟩), .int .i64 4] w fun e w' => e = .returned (.bool true) ∧ Below w.heap.size w w' := by
  have c0 : w.cell? ⟨k, 4, none⟩ = some (.string s.out) := World.rowIs.cell h (by omega)
  have hR := fun (W : World) => Rread_any W s.out hs
  rw [h1, h2, h3, h4] at hR
  generalize ((readR s.out).1 && ((readD s.out).x.state == 1)) = eb at *
  have hkl : k < w.heap.size := World.rowIs.lt h
  obtain ⟨na, nc, rfl⟩ := owns_slice hn
  have HH : Hid (MdRow w k q s (.slice na s.notes.length nc) ∧ StrRow w (.slice na s.notes.length nc) s.notes) := ⟨h, hn⟩
  clear h1 h2 h3 h4 h hn
  go_enter Try.func36, Try.ntmps36
  go_wp2_with (first
    | (go_at_call 30; refine (hR _).mono ?_; rintro e w1 ⟨vr, rfl, hown, hb1⟩; obtain ⟨ra, rc, rfl⟩ := owns_slice hown; have hr1 := below_md hb1 HH.out.1; have d1 : w1.cell? ⟨k, 2, none⟩ = some (.string s.plain) := World.rowIs.cell hr1 (by omega); have d2 : w1.cell? ⟨k, 1, none⟩ = some (.int .i64 s.win) := World.rowIs.cell hr1 (by omega); have d3 : w1.cell? ⟨k, 3, none⟩ = some (.slice na s.notes.length nc) := World.rowIs.cell hr1 (by omega)))
  have hk1 : k < w1.heap.size := World.rowIs.lt hr1
  have hkn : w1.heap.size ≠ k := by omega
  have hS := fun o => sameTexts_any (w := (w1.alloc o).drew) ((owns_zero hown).alloc o) ((owns_blw HH.out.2 hb1).alloc o) hnl
  go_region_held3 (fun W => W.cell? ⟨w1.heap.size, 3, none⟩ = some (.slice ra s.notes.length rc) ∧ W.cell? ⟨k, 3, none⟩ = some (.slice na s.notes.length nc)) (go_keep)
    (first | (go_at_call 48; refine (hS _).mono ?_; rintro e w2 ⟨rfl, n2, rfl⟩))
  clear hS hR
  go_wp2
  go_region_held3 (fun W => W.cell? ⟨w1.heap.size, 0, none⟩ = some (.string s.plain) ∧ W.cell? ⟨w1.heap.size, 1, none⟩ = some (.int .i64 0) ∧ W.cell? ⟨w1.heap.size, 2, none⟩ = some (.int .i64 s.win) ∧ W.cell? ⟨k, 2, none⟩ = some (.string s.plain) ∧ W.cell? ⟨k, 1, none⟩ = some (.int .i64 s.win)) (go_keep) (fail)
  go_wp2
  go_ret
  have hb2 := hb1.alloc hb1.size (.cells #[.string s.plain, .int .i64 0, .int .i64 s.win, .slice ra s.notes.length rc, .bool eb] 70)
  exact ⟨rfl, ⟨hb2.os, hb2.tape, hb2.output, hb2.size, hb2.block⟩⟩

set_option maxHeartbeats 400000 in
theorem stands_none (w : World) (k : Nat) (kind : Int) (h2 : kind ≠ 2) (h4 : kind ≠ 4) : Calls Try.prog 36 #[.pointer (some ⟨k, 0, none⟩), .int .i64 kind] w fun e w' => e = .returned (.bool true) ∧ w' = w := by
  have b2 : (kind != 2) = true := by simpa using h2
  have b4 : (kind != 4) = true := by simpa using h4
  go_enter Try.func36, Try.ntmps36
  go_wp2
  go_ret
  exact ⟨rfl, rfl⟩

theorem MdRow.out {w : World} {k q : Nat} {s : Mw} {vn : Value} (h : MdRow w k q s vn) (x : ByteArray) : MdRow (w.setCell ⟨k, 4, none⟩ (.string x)) k q { s with out := x } vn :=
  (World.rowIs.set h _ _).congr fun i hi => by
    match i, hi with
    | 0, _ => rfl
    | 1, _ => rfl
    | 2, _ => rfl
    | 3, _ => rfl
    | 4, _ => rfl
    | 5, _ => rfl
theorem MdRow.plain {w : World} {k q : Nat} {s : Mw} {vn : Value} (h : MdRow w k q s vn) (x : ByteArray) : MdRow (w.setCell ⟨k, 2, none⟩ (.string x)) k q { s with plain := x } vn :=
  (World.rowIs.set h _ _).congr fun i hi => by
    match i, hi with
    | 0, _ => rfl
    | 1, _ => rfl
    | 2, _ => rfl
    | 3, _ => rfl
    | 4, _ => rfl
    | 5, _ => rfl
theorem MdRow.notes {w : World} {k q : Nat} {s : Mw} {vn : Value} (h : MdRow w k q s vn) (x : Value) (N : List ByteArray) : MdRow (w.setCell ⟨k, 3, none⟩ x) k q { s with notes := N } x :=
  (World.rowIs.set h _ _).congr fun i hi => by
    match i, hi with
    | 0, _ => rfl
    | 1, _ => rfl
    | 2, _ => rfl
    | 3, _ => rfl
    | 4, _ => rfl
    | 5, _ => rfl
theorem MdRow.done {w : World} {k q : Nat} {s : Mw} {vn : Value} (h : MdRow w k q s vn) (x : Bool) : MdRow (w.setCell ⟨k, 5, none⟩ (.bool x)) k q { s with done := x } vn :=
  (World.rowIs.set h _ _).congr fun i hi => by
    match i, hi with
    | 0, _ => rfl
    | 1, _ => rfl
    | 2, _ => rfl
    | 3, _ => rfl
    | 4, _ => rfl
    | 5, _ => rfl

theorem outFrom_size (L : List Int) (t : Nat) : (outStr (outFrom L t)).size ≤ L.length / 8 := by
  rw [outStr_sz]
  unfold outFrom
  rw [List.length_map, List.length_range]
  omega
theorem flushS_length (s : St) (P : List UInt8) : (flushS s P).L.length ≤ s.L.length + 32 + 8 * P.length := by
  have := letS_length s P
  unfold flushS
  split
  · omega
  · show (emptyL (letS s P).L false).length ≤ _
    unfold emptyL
    have h3 := padL_le (headL (letS s P).L false 0)
    rw [headL_length] at h3
    omega
theorem noteL_length (L : List Int) (T : List UInt8) : (noteL L T).length ≤ L.length + 18 + 8 * T.length := by
  unfold noteL
  have h1 := padL_le (headL L false 3 ++ numBits (T.length : Int) 8)
  have h2 := headL_length L false 3
  rw [List.length_append, numBits_length] at h1
  rw [List.length_append, byteBits_length]
  omega
theorem finS_length (s : St) (P : List UInt8) : (finS s P).L.length ≤ s.L.length + 22 + 8 * P.length := by
  unfold finS
  split
  · show (emptyL s.L true).length ≤ _
    unfold emptyL
    have h3 := padL_le (headL s.L true 0)
    rw [headL_length] at h3
    omega
  · show (padL (blkS s.k s.L true P).2).length ≤ _
    unfold blkS
    cases hc : codedP s.k P with
    | none =>
      show (padL (stoL s.L true P)).length ≤ _
      have hw : (stoL s.L true P).length % 8 = 0 := by
        unfold stoL
        have := padL_whole (headL s.L true 1 ++ numBits ((P.length : Int) - 1) 12)
        rw [List.length_append, byteBits_length]
        omega
      rw [pad_none hw]
      have h1 := padL_le (headL s.L true 1 ++ numBits ((P.length : Int) - 1) 12)
      have h2 := headL_length s.L true 1
      rw [List.length_append, numBits_length] at h1
      unfold stoL
      rw [List.length_append, byteBits_length]
      omega
    | some r =>
      obtain ⟨M, far⟩ := r
      have hm := codedP_length hc
      have h3 := padL_le (codL s.L true P M)
      show (padL (codL s.L true P M)).length ≤ _
      have h4 : (codL s.L true P M).length = s.L.length + 15 + M.length := by
        unfold codL
        rw [List.length_append, List.length_append, headL_length, numBits_length]
      omega

/-- what belongs to an encoder that the law writes to -/
def RG (k q b : Nat) (wv vn : Value) : Nat → Prop := fun j => j = k ∨ j = q ∨ BT b wv j ∨ vn.ownBlock = some j
/-- an encoder that the law writes to -/
structure Md (w : World) (k q b : Nat) (wv : Value) (u : St) (P : List UInt8) (s : Mw) (vn : Value) : Prop where
  row : MdRow w k q s vn
  enc : EncAt w q (if s.done then none else some b)
  wr : s.done = false → W0 w b u P wv ∧ s.out = bytesL u.L ∧ DInv (u, P) s.win s.plain.data.toList s.notes
  strs : StrRow w vn s.notes
  kq : k ≠ q
  kb : k ≠ b
  qb : q ≠ b
  vk : wv.ownBlock ≠ some k
  vq : wv.ownBlock ≠ some q
  bl : b < w.heap.size
  vl : ∀ g, wv.ownBlock = some g → g < w.heap.size
/-- what a call on it may change -/
structure Mv (k q b : Nat) (wv vn : Value) (w : World) (wv' vn' : Value) (w' : World) : Prop where
  t : Tch (RG k q b wv vn) w w'
  wo : Own w wv wv'
  vo : Own w vn vn'
theorem Own.more {w w' : World} {v v' : Value} (h : Own w' v v') (hs : w.heap.size ≤ w'.heap.size) : Own w v v' := by
  rcases h with h | ⟨g, h1, h2⟩
  · exact Or.inl h
  · exact Or.inr ⟨g, h1, by omega⟩
theorem Own.old {w : World} {v v' : Value} {j : Nat} (h : Own w v v') (e : v'.ownBlock = some j) : v.ownBlock = some j ∨ w.heap.size ≤ j := by
  rcases h with h | ⟨g, h1, h2⟩
  · exact Or.inl (h.symm.trans e)
  · rw [h1] at e
    injection e with e
    exact Or.inr (by omega)
section
variable {w w' w'' : World} {k q b : Nat} {wv wv' wv'' vn vn' vn'' : Value} {u : St} {P : List UInt8} {s : Mw}
theorem RG.old (h1 : Own w wv wv') (h2 : Own w vn vn') {j : Nat} (h : RG k q b wv' vn' j) : RG k q b wv vn j ∨ w.heap.size ≤ j := by
  rcases h with e | e | (e | e) | e
  · exact Or.inl (Or.inl e)
  · exact Or.inl (Or.inr (Or.inl e))
  · exact Or.inl (Or.inr (Or.inr (Or.inl (Or.inl e))))
  · rcases h1.old e with e | e
    · exact Or.inl (Or.inr (Or.inr (Or.inl (Or.inr e))))
    · exact Or.inr e
  · rcases h2.old e with e | e
    · exact Or.inl (Or.inr (Or.inr (Or.inr e)))
    · exact Or.inr e
theorem Mv.of_tch {A : Nat → Prop} (h : Tch A w w') (hA : ∀ j, A j → RG k q b wv vn j) : Mv k q b wv vn w wv vn w' := ⟨h.mono (fun j _ e => hA j e), Own.refl _ _, Own.refl _ _⟩
theorem Mv.of_below (h : Below w.heap.size w w') : Mv k q b wv vn w wv vn w' := Mv.of_tch (Tch.ofBelow h) (fun _ e => e.elim)
theorem Mv.trans (h : Mv k q b wv vn w wv' vn' w') (h2 : Mv k q b wv' vn' w' wv'' vn'' w'') : Mv k q b wv vn w wv'' vn'' w'' :=
  ⟨h.t.trans h2.t (fun j hj e => by
    rcases RG.old h.wo h.vo e with e | e
    · exact e
    · omega), h.wo.trans h2.wo h.t.size, h.vo.trans h2.vo h.t.size⟩
theorem str_lt {N : List ByteArray} (h : StrRow w vn N) {g : Nat} (hg : vn.ownBlock = some g) : g < w.heap.size := by
  obtain ⟨_, h2⟩ := h
  rcases h2 with ⟨h3, _⟩ | ⟨g', cap, cur, hv, _, hh, _⟩
  · rw [h3] at hg; cases hg
  · rw [hv] at hg
    have e1 : g' = g := by simpa [Value.ownBlock] using hg
    subst e1
    rcases Nat.lt_or_ge g' w.heap.size with hl | hl
    · exact hl
    · rw [Array.getElem?_eq_none hl] at hh; cases hh
theorem str_ne {N : List ByteArray} (ho : StrRow w vn N) {f : Nat} {t : TypeId} {m : Nat} {c : Nat → Value} (hr : w.rowIs f t m c) (hte : t ≠ 9) : some f ≠ vn.ownBlock := by
  intro h
  obtain ⟨_, h2⟩ := ho
  rcases h2 with ⟨h3, _⟩ | ⟨g, cap, cur, hv, _, hh, _⟩
  · rw [h3] at h; cases h
  · rw [hv] at h
    have e1 : f = g := by simpa [Value.ownBlock] using h
    obtain ⟨c', hc, _⟩ := hr
    rw [e1, hh] at hc
    injection hc with hc
    injection hc with _ h4 _
    exact hte h4.symm
theorem str_own {N : List ByteArray} {l : List Int} (ho : StrRow w vn N) (hb : ownsB w wv l) {g : Nat} (hg : wv.ownBlock = some g) : vn.ownBlock ≠ some g := by
  intro h
  obtain ⟨_, h2⟩ := ho
  obtain ⟨_, h5⟩ := hb
  rcases h2 with ⟨h3, _⟩ | ⟨g1, cap, cur, hv, _, hh, _⟩
  · rw [h3] at h; cases h
  · rcases h5 with ⟨h3, _⟩ | ⟨g2, cap2, cur2, hv2, _, hh2, _⟩
    · rw [h3] at hg; cases hg
    · rw [hv] at h
      rw [hv2] at hg
      have e1 : g1 = g := by simpa [Value.ownBlock] using h
      have e2 : g2 = g := by simpa [Value.ownBlock] using hg
      rw [e1] at hh
      rw [e2, hh] at hh2
      injection hh2 with hh2
      injection hh2 with _ h4 _
      exact absurd h4 (by decide)
theorem W0.rowB (h : W0 w b u P wv) : ∃ F, w.rowIs b 104 10 F := by
  obtain ⟨s, ⟨hr, _, _⟩, _⟩ := h.2.row
  exact ⟨_, hr⟩
theorem Md.rg_lt (h : Md w k q b wv u P s vn) {j : Nat} (hj : RG k q b wv vn j) : j < w.heap.size := by
  rcases hj with e | e | (e | e) | e
  · rw [e]; exact World.rowIs.lt h.row
  · rw [e]; exact World.rowIs.lt h.enc
  · rw [e]; exact h.bl
  · exact h.vl j e
  · exact str_lt h.strs e
theorem Md.keepT {A : Nat → Prop} (h : Md w k q b wv u P s vn) (t : Tch A w w') (hA : ∀ j, RG k q b wv vn j → ¬ A j) : Md w' k q b wv u P s vn :=
  ⟨t.rowIs h.row (hA k (Or.inl rfl)), h.enc.keep t (hA q (Or.inr (Or.inl rfl))), fun e => ⟨(h.wr e).1.keep t (hA b (Or.inr (Or.inr (Or.inl (Or.inl rfl))))) (fun g hg => hA g (Or.inr (Or.inr (Or.inl (Or.inr hg))))), (h.wr e).2⟩,
    t.owns h.strs (fun g hg => hA g (Or.inr (Or.inr (Or.inr hg)))), h.kq, h.kb, h.qb, h.vk, h.vq, Nat.lt_of_lt_of_le h.bl t.size, fun g hg => Nat.lt_of_lt_of_le (h.vl g hg) t.size⟩
theorem Md.below (h : Md w k q b wv u P s vn) (hB : Below w.heap.size w w') : Md w' k q b wv u P s vn := h.keepT (Tch.ofBelow hB) (fun _ _ e => e)
/-- the notes lie apart from the writer -/
theorem Md.str_bt (h : Md w k q b wv u P s vn) (hd : s.done = false) : ∀ g, vn.ownBlock = some g → ¬ BT b wv g := by
  intro g hg e
  obtain ⟨F, hF⟩ := (h.wr hd).1.rowB
  rcases e with e | e
  · exact str_ne h.strs hF (by decide) (by rw [← e, hg])
  · exact str_own h.strs (h.wr hd).1.2.own e hg
theorem Md.no_bt (h : Md w k q b wv u P s vn) : ¬ BT b wv w.heap.size := by
  intro e
  have := h.bl
  rcases e with e | e
  · omega
  · have := h.vl _ e
    omega
/-- a call of the encoder, and what the law lays down behind it -/
theorem Md.step {W w1 w2 : World} {wv1 : Value} {u' : St} {P' : List UInt8} {s' : Mw} (h : Md w k q b wv u P s vn) (hd : s.done = false) (tA : Tch NoOld w W) (how : Own W wv wv1) (ht : Tch (BT b wv) W w1) (hw1 : W0 w1 b u' P' wv1) (hon : Tch (· = k) w1 w2) (hfin : MdRow w2 k q s' vn) (hd' : s'.done = false) (ho : s'.out = bytesL u'.L) (hI : DInv (u', P') s'.win s'.plain.data.toList s'.notes) (hn : s'.notes = s.notes) :
    Md w2 k q b wv1 u' P' s' vn ∧ Mv k q b wv vn w wv1 vn w2 := by
  have hrow := h.row
  have hk : k < W.heap.size := Nat.lt_of_lt_of_le (World.rowIs.lt hrow) tA.size
  have hq : q < W.heap.size := Nat.lt_of_lt_of_le (World.rowIs.lt h.enc) tA.size
  have vk' := how.ne hk h.vk
  have vq' := how.ne hq h.vq
  have henc : EncAt w q (some b) := by
    have := h.enc
    rw [hd] at this
    exact this
  have he1 : EncAt w1 q (some b) := (henc.keep tA (fun e => e)).keep ht (not_BT h.qb h.vq)
  have he2 : EncAt w2 q (some b) := he1.keep hon (fun e => h.kq e.symm)
  have hw2 : W0 w2 b u' P' wv1 := hw1.keep hon (fun e => h.kb e.symm) (fun g hg e => vk' (by rw [hg, e]))
  have hkv : ∀ g, vn.ownBlock = some g → ¬ g = k := fun g hg e => str_ne h.strs hrow (by decide) (by rw [← e, hg])
  have hs2 : StrRow w2 vn s.notes := hon.owns (ht.owns (tA.owns h.strs (fun _ _ e => e)) (h.str_bt hd)) hkv
  refine ⟨⟨hfin, by rw [hd']; exact he2, fun _ => ⟨hw2, ho, hI⟩, by rw [hn]; exact hs2, h.kq, h.kb, h.qb, vk', vq', hw2.lt, hw2.own_lt⟩, ?_, how.more tA.size, Own.refl _ _⟩
  refine ((tA.mono (A' := RG k q b wv vn) (fun _ _ e => e.elim)).trans ht (fun j _ e => Or.inr (Or.inr (Or.inl e)))).trans hon (fun j _ e => Or.inl e)
end
end Go.Proofs.Ytmpfgdmdnghhgaa

namespace Go.Proofs.Ytmpfgdmdnghhgaa
open Go.RowKit Wr

/-- the op that came in, in its block -/
theorem op_row (w : World) (c kind : Int) (T : ByteArray) : (w.alloc (.cells #[.int .i64 c, .int .i64 kind, .string T] 64)).rowIs w.heap.size 64 3 (fun i => if i = 0 then .int .i64 c else if i = 1 then .int .i64 kind else .string T) :=
  World.rowIs_alloc w #[.int .i64 c, .int .i64 kind, .string T] 64 _ (fun i hi => by
    match i, hi with
    | 0, _ => rfl
    | 1, _ => rfl
    | 2, _ => rfl)
theorem op_cells {w w1 : World} {c kind : Int} {T : ByteArray} (h : w1.heap[w.heap.size]? = (w.alloc (.cells #[.int .i64 c, .int .i64 kind, .string T] 64)).heap[w.heap.size]?) : w1.cell? ⟨w.heap.size, 1, none⟩ = some (.int .i64 kind) ∧ w1.cell? ⟨w.heap.size, 2, none⟩ = some (.string T) := by
  have hr := World.rowIs.of_block (op_row w c kind T) h
  exact ⟨World.rowIs.cell hr (by omega), World.rowIs.cell hr (by omega)⟩
theorem md_cells {w : World} {k q : Nat} {s : Mw} {vn : Value} (h : MdRow w k q s vn) : w.cell? ⟨k, 4, none⟩ = some (.string s.out) ∧ w.cell? ⟨k, 2, none⟩ = some (.string s.plain) ∧ w.cell? ⟨k, 5, none⟩ = some (.bool s.done) ∧ w.cell? ⟨k, 3, none⟩ = some vn ∧ ∀ o, w.frozen? ⟨k, o, none⟩ = false :=
  ⟨World.rowIs.cell h (by omega), World.rowIs.cell h (by omega), World.rowIs.cell h (by omega), World.rowIs.cell h (by omega), World.rowIs.frozen h⟩

set_option maxHeartbeats 400000 in
theorem does_other {w : World} (k : Nat) (c kind : Int) (T : ByteArray) (h1 : kind ≠ 1) (h2 : kind ≠ 2) (h3 : kind ≠ 3) (h4 : kind ≠ 4) :
    Calls Try.prog 26 #[.pointer (some ⟨k, 0, none⟩), .agg #[.int .i64 c, .int .i64 kind, .string T]] w fun e w' => e = .returned (.bool true) ∧ Below w.heap.size w w' := by
  have b1 : (kind == 1) = false := beq_eq_false_iff_ne.2 h1
  have b2 : (kind == 2) = false := beq_eq_false_iff_ne.2 h2
  have b3 : (kind == 3) = false := beq_eq_false_iff_ne.2 h3
  have b4 : (kind == 4) = false := beq_eq_false_iff_ne.2 h4
  go_enter Try.func26, Try.ntmps26
  go_wp2
  go_ret
  exact ⟨rfl, (Below.refl _ w).alloc (Nat.le_refl _) _⟩

set_option maxRecDepth 100000 in
set_option maxHeartbeats 1000000 in
theorem does_write {w : World} {k q b : Nat} {wv : Value} {u : St} {P : List UInt8} {s : Mw} {vn : Value} (h : Md w k q b wv u P s vn) (hd : s.done = false) (c : Int) (T : ByteArray) (hL : u.L.length + 8 * P.length + 30 * T.size ≤ 1000000000) (hS : s.plain.size + T.size ≤ 1000000000) :
    Calls Try.prog 26 #[.pointer (some ⟨k, 0, none⟩), .agg #[.int .i64 c, .int .i64 1, .string T]] w fun e w' => e = .returned (.bool true) ∧ ∃ wv', Md w' k q b wv' (writeS (u, P) T.data.toList).1 (writeS (u, P) T.data.toList).2 { s with plain := s.plain ++ T, out := bytesL (writeS (u, P) T.data.toList).1.L } vn ∧ Mv k q b wv vn w wv' vn w' := by
  obtain ⟨win, plain, notes, out, done⟩ := s
  dsimp only at hd hS
  subst hd
  obtain ⟨w1, hout, hdi⟩ := h.wr rfl
  dsimp only at hout hdi
  have hrow := h.row
  have henc : EncAt w q (some b) := h.enc
  have c0 : w.cell? ⟨k, 0, none⟩ = some (.pointer (some ⟨q, 0, none⟩)) := World.rowIs.cell hrow (by omega)
  have hfz := World.rowIs.frozen hrow
  have hk : k < w.heap.size := World.rowIs.lt hrow
  have hA : ∀ o, Tch NoOld w ((w.alloc o).drew) := fun o => ((Tch.refl NoOld w).alloc o).drew
  have hEA := fun o => henc.keep (hA o) (fun e => e)
  have hWA := fun o => w1.keep (hA o) (fun e => e) (fun _ _ e => e)
  have hRA : ∀ o, MdRow ((w.alloc o).drew) k q ⟨win, plain, notes, out, false⟩ vn := fun o => World.rowIs.alloc hrow o
  have hE := fun W (h1 : EncAt W q (some b)) (h2 : W0 W b u P wv) => EncWrite_open h1 h2 T (by omega)
  have HX := ext_write T.data.toList (u, P)
  have HM := bytesL_more HX
  have hphi := writeS_phi T.data.toList (u, P)
  have hph2 : phiS (u, P) = u.L.length + 8 * P.length := rfl
  have hTs : T.data.toList.length = T.size := by simp
  have HI : Hid (DInv (writeS (u, P) T.data.toList) win (plain ++ T).data.toList notes) := by
    rw [Hid, ByteArray.data_append, Array.toList_append]
    exact dinv_write _ hdi
  generalize writeS (u, P) T.data.toList = e at *
  obtain ⟨u', P'⟩ := e
  dsimp only at *
  have hph3 : phiS (u', P') = u'.L.length + 8 * P'.length := rfl
  have hsz := outFrom_size u'.L (u.L.length / 8)
  have hso : out.size = u.L.length / 8 := by rw [hout, bytesL_size]
  have HM2 : Hid (out ++ outStr (outFrom u'.L (u.L.length / 8)) = bytesL u'.L) := by rw [Hid, hout]; exact HM
  generalize outStr (outFrom u'.L (u.L.length / 8)) = y at *
  have hcat : out.size + y.size ≤ 9223372036854775807 := by omega
  have hcat2 : plain.size + T.size ≤ 9223372036854775807 := by omega
  have HW : Hid (Md w k q b wv u P ⟨win, plain, notes, out, false⟩ vn) := h
  have HNB : Hid (¬ BT b wv k ∧ ¬ BT b wv w.heap.size) := ⟨not_BT h.kb h.vk, h.no_bt⟩
  have HA : Hid (∀ o, Tch NoOld w ((w.alloc o).drew)) := hA
  have hN := fun (W : World) => num_any W 0 (by omega) (by omega)
  have hSt := fun (W : World) => stands_none W k 1 (by omega) (by omega)
  clear h HM HX hphi hph2 hph3 hTs hsz hso hdi hout w1 henc hA
  go_enter Try.func26, Try.ntmps26
  go_wp2
  go_region_with (go_at_call 32; refine (hE _ (hEA _) (hWA _)).mono ?_; rintro e w1 ⟨rfl, wv1, hw1, how1, ht1⟩; have hr1 : MdRow w1 k q ⟨win, plain, notes, out, false⟩ vn := ht1.rowIs (hRA _) HNB.out.1)
  all_goals
    obtain ⟨o1, o2⟩ := op_cells (c := c) (kind := 1) (T := T) (ht1.block w.heap.size (by simp) HNB.out.2)
    obtain ⟨m1, m2, m3, m4, m5⟩ := md_cells hr1
    dsimp only at m1 m2 m3
    have hkn : w.heap.size ≠ k := by omega
    clear hE hEA hWA hRA m4
    go_wp2_with (first
      | (go_at_call 10; refine (hN _).mono ?_; rintro e w8 ⟨rfl, hw8⟩; obtain rfl := hw8.symm)
      | (go_at_call 36; refine (hSt _).mono ?_; rintro e w9 ⟨rfl, rfl⟩))
    go_region
    all_goals
      go_wp2_with (first
        | (go_at_call 36; refine (hSt _).mono ?_; rintro e w9 ⟨rfl, rfl⟩))
      go_ret
      have hon2 := (((Tch.refl (· = k) w1).set ⟨k, 4, none⟩ (.string (out ++ y)) (fun _ => rfl)).set ⟨k, 2, none⟩ (.string (plain ++ T)) (fun _ => rfl)).drew
      have hfin : MdRow (((w1.setCell ⟨k, 4, none⟩ (.string (out ++ y))).setCell ⟨k, 2, none⟩ (.string (plain ++ T))).drew) k q ⟨win, plain ++ T, notes, bytesL u'.L, false⟩ vn := by
        have := (hr1.out (out ++ y)).plain (plain ++ T)
        rw [HM2.out] at this ⊢
        exact this
      exact ⟨rfl, wv1, HW.out.step rfl (HA.out _) how1 ht1 hw1 hon2 hfin rfl rfl HI.out rfl⟩

set_option maxRecDepth 100000 in
set_option maxHeartbeats 1000000 in
theorem does_flush {w : World} {k q b : Nat} {wv : Value} {u : St} {P : List UInt8} {s : Mw} {vn : Value} (h : Md w k q b wv u P s vn) (hd : s.done = false) (c : Int) (T : ByteArray) (hL : u.L.length + 8 * P.length ≤ 1000000000) :
    Calls Try.prog 26 #[.pointer (some ⟨k, 0, none⟩), .agg #[.int .i64 c, .int .i64 2, .string T]] w fun e w' => e = .returned (.bool true) ∧ ∃ wv', Md w' k q b wv' (flushS u P) [] { s with out := bytesL (flushS u P).L } vn ∧ Mv k q b wv vn w wv' vn w' := by
  obtain ⟨win, plain, notes, out, done⟩ := s
  dsimp only at hd
  subst hd
  obtain ⟨w1, hout, hdi⟩ := h.wr rfl
  dsimp only at hout hdi
  have hrow := h.row
  have henc : EncAt w q (some b) := h.enc
  have c0 : w.cell? ⟨k, 0, none⟩ = some (.pointer (some ⟨q, 0, none⟩)) := World.rowIs.cell hrow (by omega)
  have hfz := World.rowIs.frozen hrow
  have hk : k < w.heap.size := World.rowIs.lt hrow
  have hA : ∀ o, Tch NoOld w (w.alloc o) := fun o => (Tch.refl NoOld w).alloc o
  have hEA := fun o => henc.keep (hA o) (fun e => e)
  have hWA := fun o => w1.keep (hA o) (fun e => e) (fun _ _ e => e)
  have hRA : ∀ o, MdRow (w.alloc o) k q ⟨win, plain, notes, out, false⟩ vn := fun o => World.rowIs.alloc hrow o
  have hE := fun W (h1 : EncAt W q (some b)) (h2 : W0 W b u P wv) => EncFlush_open h1 h2 (by omega)
  have HM := bytesL_more (ext_flush u P)
  have HI : Hid (DInv (flushS u P, []) win plain.data.toList notes) := dinv_flushed hdi
  obtain ⟨q1, q2, q3⟩ := doc_flush hdi
  have hpl := w1.2.plen
  have hfl := flushS_length u P
  generalize flushS u P = u' at *
  dsimp only at hE
  have hsz := outFrom_size u'.L (u.L.length / 8)
  have hso : out.size = u.L.length / 8 := by rw [hout, bytesL_size]
  have HM2 : Hid (out ++ outStr (outFrom u'.L (u.L.length / 8)) = bytesL u'.L) := by rw [Hid, hout]; exact HM
  have hbz := bytesL_size u'.L
  generalize outStr (outFrom u'.L (u.L.length / 8)) = y at *
  have hcat : out.size + y.size ≤ 9223372036854775807 := by omega
  have hN := fun (W : World) => num_any W 0 (by omega) (by omega)
  have hSt := fun (W : World) (hW : MdRow W k q ⟨win, plain, notes, bytesL u'.L, false⟩ vn) => stands_flush hW (by show (bytesL u'.L).size ≤ _; omega) q1 q2 q3.1
  have HW : Hid (Md w k q b wv u P ⟨win, plain, notes, out, false⟩ vn) := h
  have HNB : Hid (¬ BT b wv k ∧ ¬ BT b wv w.heap.size) := ⟨not_BT h.kb h.vk, h.no_bt⟩
  have HA : Hid (∀ o, Tch NoOld w (w.alloc o)) := hA
  have hkn : w.heap.size ≠ k := by omega
  clear h HM hfl hsz hso hdi hout w1 henc q1 q2 q3 hbz hA
  go_enter Try.func26, Try.ntmps26
  go_wp2_with (first
    | (go_at_call 10; refine (hN _).mono ?_; rintro e w8 ⟨rfl, hw8⟩; obtain rfl := hw8.symm)
    | (go_at_call 33; refine (hE _ (hEA _) (hWA _)).mono ?_; rintro e w1 ⟨rfl, wv1, hw1, how1, ht1⟩; have hr1 : MdRow w1 k q ⟨win, plain, notes, out, false⟩ vn := ht1.rowIs (hRA _) HNB.out.1; obtain ⟨o1, o2⟩ := op_cells (c := c) (kind := 2) (T := T) (ht1.block w.heap.size (by simp) HNB.out.2); obtain ⟨m1, m2, m3, m4, m5⟩ := md_cells hr1; dsimp only at m1 m2 m3; have hr2 : MdRow (w1.setCell ⟨k, 4, none⟩ (.string (out ++ y))) k q ⟨win, plain, notes, bytesL u'.L, false⟩ vn := (by have h9 := hr1.out (out ++ y); rw [HM2.out] at h9 ⊢; exact h9))
    | (go_at_call 36; refine (hSt _ hr2).mono ?_; rintro e w9 ⟨rfl, hb9⟩))
  go_ret
  have hon2 := (Tch.refl (· = k) w1).set ⟨k, 4, none⟩ (.string (out ++ y)) (fun _ => rfl)
  obtain ⟨hm, hv⟩ := HW.out.step rfl (HA.out _) how1 ht1 hw1 hon2 hr2 rfl rfl HI.out rfl
  exact ⟨rfl, wv1, hm.below hb9, hv.trans (Mv.of_below hb9)⟩
end Go.Proofs.Ytmpfgdmdnghhgaa
