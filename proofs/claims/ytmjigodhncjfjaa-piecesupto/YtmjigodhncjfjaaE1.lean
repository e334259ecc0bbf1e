import Derived.Test.YtmjigodhncjfjaaW16
import Derived.Test.YtmjigodhncjfjaaBitsP
import Derived.Deep.RegionLaw
import Derived.Maps.AppendAt
namespace Go.Proofs.Ytmjigodhncjfjaa
open Go.RowKit Wr

theorem step_append_own_w {P : Program} {ops : Array Oper} {o : Oper} {a : Act} {w : World} {K : Act → World → Prop} {Q : Exit → Act → World → Prop} {E : Prop}
    (hg : o.guard = none) (s x : Operand) (t : TypeId) (hop : o.op = Op.call { callee := Callee.builtin Builtin.append, args := #[s, x], argTypes := #[t, t] })
    (base : Nat) (e : TypeId) (i : TypeInfo) (z : Value) (size bytes : Nat) (ht : P.underlying t = some (.slice e)) (hi : P.info? e = some i) (hz : i.zero = some z) (hsize : i.size = size) (hby : i.bytes = bytes) (hzs : z.cells.size = size) (hsz : 0 < size)
    (v : Value) (n : Nat) (xs : List Value) (hs : a.eval s = v) (hown : w.ownsRow base e size v n xs)
    (ad : Addr) (m c : Nat) (news : List Value) (hx : a.eval x = .slice (some ad) m c) (hl : news.length = m * size) (hnews : ∀ j u, news[j]? = some u → w.cell? (ad.add j) = some u) (h1 : ∀ u ∈ news, u.oneCell' = true)
    (h63 : n + m ≤ maxLen) (hbytes : (n + m) * bytes ≤ 140737488355328) (hbase : base ≤ w.heap.size)
    (hK : ∀ v' w', w'.ownsRow base e size v' (n + m) (xs ++ news) → w.grownBy w' v.ownBlock → (v'.ownBlock = v.ownBlock ∨ v'.ownBlock = some w.heap.size) → K (a.put o.dst v') w') :
    if Region.wanted o (yielded ops a.tmps) = true then Oper.wp P o a w K Q else E := by
  have hw : Region.wanted o (yielded ops a.tmps) = true := by simp [Region.wanted, hg]
  rw [if_pos hw]
  obtain ⟨v', w', hr, h2, h3, _, h5⟩ := run_append_own_at (P := P) w base t o.type e i z size bytes ht hi hz hsize hby hzs hsz v n xs hown ad m c news hl hnews h1 h63 hbytes hbase
  unfold Oper.wp execOp
  simp only [hop, resolve, invoke, builtin, Sem.run_bind, Sem.run_pure, Result.andThen_ok, List.map_toArray, List.map_cons, List.map_nil, hs, hx, hr]
  exact hK v' w' h2 h3 h5

/-- the writer -/
structure Wt where
  out : List Int
  hold : Int
  have_ : Int
  wait : Nat → Int
  count : Int

def wtCells (s : Wt) (v : Value) (o : Nat) : Value :=
  if o = 0 then v else if o = 1 then .int .i64 s.hold else if o = 2 then .int .i64 s.have_ else if o = 4099 then .int .i64 s.count else .int .u8 (s.wait (o - 3))
def WRow (w : World) (b : Nat) (s : Wt) (v : Value) : Prop := w.rowIs b 118 4100 (wtCells s v)

section
variable {w : World} {b : Nat} {s : Wt} {v : Value}
theorem WRow.free (h : WRow w b s v) (o : Nat) : w.frozen? ⟨b, o, none⟩ = false := World.rowIs.frozen h o
theorem WRow.lt (h : WRow w b s v) : b < w.heap.size := World.rowIs.lt h
theorem WRow.alloc (h : WRow w b s v) (o : Obj) : WRow (w.alloc o) b s v := World.rowIs.alloc h o
theorem WRow.of_block {w' : World} (h : WRow w b s v) (e : w'.heap[b]? = w.heap[b]?) : WRow w' b s v := World.rowIs.of_block h e
theorem WRow.at (h : WRow w b s v) (o : Nat) (ho : o < 4100) {x : Value} (e : wtCells s v o = x) : w.cell? ⟨b, o, none⟩ = some x := by
  rw [← e]; exact World.rowIs.cell h ho
theorem WRow.turn {t : Wt} {u : Value} (h : WRow w b s v) (k : Nat) (x : Value) (he : ∀ o, o < 4100 → (if o = k then x else wtCells s v o) = wtCells t u o) : WRow (w.setCell ⟨b, k, none⟩ x) b t u :=
  (World.rowIs.set h k x).congr fun i hi => he i hi
theorem WRow.c_out (h : WRow w b s v) : w.cell? ⟨b, 0, none⟩ = some v := h.at _ (by omega) rfl
theorem WRow.c_hold (h : WRow w b s v) : w.cell? ⟨b, 1, none⟩ = some (.int .i64 s.hold) := h.at _ (by omega) rfl
theorem WRow.c_have (h : WRow w b s v) : w.cell? ⟨b, 2, none⟩ = some (.int .i64 s.have_) := h.at _ (by omega) rfl
theorem WRow.c_count (h : WRow w b s v) : w.cell? ⟨b, 4099, none⟩ = some (.int .i64 s.count) := h.at _ (by omega) rfl
theorem WRow.c_wait (h : WRow w b s v) (i : Nat) (hi : i < 4096) : w.cell? ⟨b, 3 + i, none⟩ = some (.int .u8 (s.wait i)) := by
  refine h.at _ (by omega) ?_
  unfold wtCells
  repeat rw [if_neg (by omega)]
  rw [show 3 + i - 3 = i by omega]
theorem WRow.out (h : WRow w b s v) (u : Value) (l : List Int) : WRow (w.setCell ⟨b, 0, none⟩ u) b { s with out := l } u := by
  refine h.turn _ _ fun o _ => ?_
  by_cases e : o = 0
  · subst e; rfl
  · simp only [wtCells, if_neg e]
theorem WRow.hold (h : WRow w b s v) (x : Int) : WRow (w.setCell ⟨b, 1, none⟩ (.int .i64 x)) b { s with hold := x } v := by
  refine h.turn _ _ fun o _ => ?_
  by_cases e : o = 1
  · subst e; rfl
  · simp only [wtCells, if_neg e]
theorem WRow.have_ (h : WRow w b s v) (x : Int) : WRow (w.setCell ⟨b, 2, none⟩ (.int .i64 x)) b { s with have_ := x } v := by
  refine h.turn _ _ fun o _ => ?_
  by_cases e : o = 2
  · subst e; rfl
  · simp only [wtCells, if_neg e]
theorem WRow.count (h : WRow w b s v) (x : Int) : WRow (w.setCell ⟨b, 4099, none⟩ (.int .i64 x)) b { s with count := x } v := by
  refine h.turn _ _ fun o _ => ?_
  by_cases e : o = 4099
  · subst e; rfl
  · simp only [wtCells, if_neg e]
theorem WRow.wait (h : WRow w b s v) (i : Nat) (hi : i < 4096) (x : Int) : WRow (w.setCell ⟨b, 3 + i, none⟩ (.int .u8 x)) b { s with wait := upd s.wait i x } v := by
  refine h.turn _ _ fun o ho => ?_
  by_cases e : o = 3 + i
  · subst e
    rw [if_pos rfl]
    unfold wtCells
    repeat rw [if_neg (by omega)]
    rw [show 3 + i - 3 = i by omega]
    simp [upd]
  · rw [if_neg e]
    unfold wtCells
    by_cases e1 : o = 0
    · rw [if_pos e1, if_pos e1]
    rw [if_neg e1, if_neg e1]
    by_cases e2 : o = 1
    · rw [if_pos e2, if_pos e2]
    rw [if_neg e2, if_neg e2]
    by_cases e3 : o = 2
    · rw [if_pos e3, if_pos e3]
    rw [if_neg e3, if_neg e3]
    by_cases e4 : o = 4099
    · rw [if_pos e4, if_pos e4]
    rw [if_neg e4, if_neg e4]
    have e5 : upd s.wait i x (o - 3) = s.wait (o - 3) := if_neg (by omega)
    exact congrArg _ e5.symm
end
theorem On.wrow {b q : Nat} {w w' : World} {s : Wt} {v : Value} (h : On b w w') (hq : q ≠ b) (hd : WRow w q s v) : WRow w' q s v := hd.of_block (h.block q hd.lt hq)

def WRep (w : World) (B b : Nat) (s : Wt) : Prop :=
  b < B ∧ B ≤ w.heap.size ∧ ∃ v, WRow w b s v ∧ w.ownsRow B 5 1 v s.out.length (s.out.map (Value.int .u8))

/-- a number of n bits is added -/
def spill (s : Wt) (j : Nat) : Wt := { s with out := s.out ++ (List.range j).map (fun i => s.hold / 2 ^ (8 * i) % 256), hold := s.hold / 2 ^ (8 * j), have_ := s.have_ - 8 * j }
def numP (s : Wt) (v n : Int) : Wt := spill { s with hold := s.hold + v * 2 ^ s.have_.toNat, have_ := s.have_ + n } ((s.have_ + n) / 8).toNat
theorem spill_zero (s : Wt) : spill s 0 = s := by
  unfold spill
  have e : (2 : Int) ^ (8 * 0) = 1 := rfl
  rw [e, Int.ediv_one, show s.have_ - 8 * ((0 : Nat) : Int) = s.have_ by omega]
  simp
theorem spill_succ (s : Wt) (j : Nat) : spill s (j + 1) = { spill s j with out := (spill s j).out ++ [(spill s j).hold % 256], hold := (spill s j).hold / 256, have_ := (spill s j).have_ - 8 } := by
  unfold spill
  have e : (2 : Int) ^ (8 * (j + 1)) = 2 ^ (8 * j) * 256 := by rw [show 8 * (j + 1) = 8 * j + 8 by omega, pow_add2]; rfl
  rw [e, List.range_succ, List.map_append, ← List.append_assoc]
  dsimp only
  rw [Int.ediv_ediv_of_nonneg (by have := pow_pos2 (8 * j); omega), show s.have_ - 8 * ((j + 1 : Nat) : Int) = s.have_ - 8 * (j : Int) - 8 by omega]
  rfl

section
variable {w : World} {B b : Nat} {s : Wt}

set_option maxHeartbeats 1000000 in
theorem number_any (hR : WRep w B b s) (x n : Int) (h1 : 0 ≤ s.have_) (h2 : s.have_ < 8) (h3 : 0 ≤ s.hold) (h4 : s.hold < 256) (h5 : 0 ≤ x) (h6 : x < 4096) (h7 : 0 ≤ n) (h8 : n ≤ 12) (h9 : s.out.length ≤ 17592186044416) :
    Calls Try.prog 57 #[.pointer (some ⟨b, 0, none⟩), .int .i64 x, .int .i64 n] w fun e w' => e = .returned (.tuple #[]) ∧ WRep w' B b (numP s x n) ∧ Fr B b w w' := by
  obtain ⟨hbB, hBw, v, hr, hown⟩ := hR
  obtain ⟨i0, hi, hz0, hz1, hz2⟩ := info_parts info_u8
  have HI : Hid (Try.prog.info? 5 = some i0 ∧ i0.zero = some (.int .u8 0) ∧ i0.size = 1 ∧ i0.bytes = 1) := ⟨hi, hz0, hz1, hz2⟩
  clear hi hz0 hz1 hz2
  have c0 := hr.c_hold
  have c1 := hr.c_have
  have hfz := hr.free
  have hp := pow_lt64 s.have_.toNat (by omega)
  go_enter Try.func57, Try.ntmps57
  have q2 : (2 : Int) ^ s.have_.toNat ≤ 128 := by
    have := pow_mono (show s.have_.toNat ≤ 7 by omega)
    exact this
  have m0 : 0 ≤ x * 2 ^ s.have_.toNat := Int.mul_nonneg h5 (by omega)
  have m1 : x * 2 ^ s.have_.toNat ≤ 4095 * 2 ^ s.have_.toNat := Int.mul_le_mul_of_nonneg_right (by omega) (by omega)
  go_wp2
  go_region
  go_wp2
  generalize hs1 : ({ s with hold := s.hold + x * 2 ^ s.have_.toNat, have_ := s.have_ + n } : Wt) = s1
  have e1 : s1.hold = s.hold + x * 2 ^ s.have_.toNat := by rw [← hs1]
  have e2 : s1.have_ = s.have_ + n := by rw [← hs1]
  have e3 : s1.out = s.out := by rw [← hs1]
  have HN : Hid (numP s x n = spill s1 ((s.have_ + n) / 8).toNat) := by rw [Hid, ← hs1]; rfl
  go_loopg [] ((s.have_ + n) / 8).toNat (fun g wr => ∃ j : Nat, j + g = ((s.have_ + n) / 8).toNat ∧ WRep wr B b (spill s1 j) ∧ Fr B b w wr)
  case atStart =>
    have hon := (((On.refl b w).set 1 (.int .i64 (s.hold + x * 2 ^ s.have_.toNat))).set 2 (.int .i64 (s.have_ + n))).drew
    refine ⟨0, by omega, ⟨hbB, Nat.le_trans hBw hon.size, v, ?_, ?_⟩, hon.fr hBw⟩
    · rw [spill_zero, ← hs1]
      exact (hr.hold _).have_ _
    · rw [spill_zero, e3]
      exact hon.owns hbB hown
  case round =>
    obtain ⟨j, hj, hRj, hfr⟩ := hrel
    have t1 : (spill s1 j).hold = (s.hold + x * 2 ^ s.have_.toNat) / 2 ^ (8 * j) := by show s1.hold / 2 ^ (8 * j) = _; rw [e1]
    have t2 : (spill s1 j).have_ = s.have_ + n - 8 * j := by show s1.have_ - 8 * j = _; rw [e2]
    have t3 : (spill s1 j).out.length = s.out.length + j := by show (s1.out ++ (List.range j).map _).length = _; rw [List.length_append, List.length_map, List.length_range, e3]
    have t4 := spill_succ s1 j
    have pj := pow_pos2 (8 * j)
    have t5 : 0 ≤ (spill s1 j).hold := by rw [t1]; exact Int.ediv_nonneg (by omega) (by omega)
    have t6 : (spill s1 j).hold ≤ s.hold + x * 2 ^ s.have_.toNat := by
      rw [t1]
      exact Int.ediv_le_self _ (by omega)
    have HT : Hid ((spill s1 j).have_ = s.have_ + n - 8 * j ∧ spill s1 (j + 1) = { spill s1 j with out := (spill s1 j).out ++ [(spill s1 j).hold % 256], hold := (spill s1 j).hold / 256, have_ := (spill s1 j).have_ - 8 }) := ⟨t2, t4⟩
    have hlo : (spill s1 j).out.length ≤ 17592186044500 := by omega
    have t7 : (spill s1 j).have_ ≤ 19 ∧ -100 ≤ (spill s1 j).have_ := by omega
    clear t1 t2 t3 t4
    generalize hte : spill s1 j = t at *
    have HTE : Hid (spill s1 j = t) := hte
    clear hte
    obtain ⟨_, hBj, u, hrj, hownj⟩ := hRj
    clear hown hr c0 c1 hfz
    have d0 := hrj.c_hold
    have d1 := hrj.c_have
    have d2 := hrj.c_out
    have hfz := hrj.free
    by_cases hgo : 8 ≤ t.have_
    · have h1n : ∀ u ∈ [Value.int .u8 (t.hold % 256)], u.oneCell' = true := by intro u hu; simp at hu; subst hu; rfl
      obtain ⟨qa, qc, rfl⟩ : ∃ a c, u = .slice a t.out.length c := by
        rcases hownj.2 with ⟨h3, h4⟩ | ⟨g, cap, cur, hv, _⟩
        · exact ⟨none, 0, by rw [h3, h4]⟩
        · exact ⟨_, _, hv⟩
      have hDd : Hid (wr.drew.ownsRow B 5 1 (.slice qa t.out.length qc) t.out.length (t.out.map (Value.int .u8))) := hownj
      have hwr : WRow wr.drew b t (.slice qa t.out.length qc) := hrj
      have hbr := hrj.lt
      clear hownj hrj
      go_wp2
      go_region_law (refine step_append_own_w rfl (.tmp 39) (.tmp 45) 37 rfl B 5 i0 (.int .u8 0) 1 1 Try.underlying37 HI.out.1 HI.out.2.1 HI.out.2.2.1 HI.out.2.2.2 rfl (by decide) (.slice qa t.out.length qc) t.out.length (t.out.map (Value.int .u8)) (by simp [Act.eval]) (hDd.out.alloc _) ⟨wr.heap.size, 0, none⟩ 1 1 [.int .u8 (t.hold % 256)] (by simp [Act.eval]) rfl (cell_one_new _ _ _) h1n (by unfold maxLen; omega) (by omega) (by simp; omega) ?_; intro v' w1' hown' hgrow hat; obtain ⟨g2, cap2, hv2⟩ := owns_shape hown'; subst hv2; have hrm := (hwr.alloc _).of_block (hgrow.block b (by simp; omega) (owns_block hDd.out hbB)); have cm := hrm.c_out; have hfm := hrm.free; have ch := hrm.c_hold; have cn := hrm.c_have)
      all_goals
        have hfr1 : Fr B b w w1' := hfr.trans (((Fr.refl B b wr).drew.alloc hBj _).grown hgrow (by simp; omega) (owns_above hDd.out))
        clear hgrow hat
        go_wp2
        have hon := (((On.refl b w1').set 0 (Value.slice (some ⟨g2, 0, none⟩) (t.out.length + 1) cap2)).set 1 (.int .i64 (t.hold / 256))).set 2 (.int .i64 (t.have_ - 8))
        have HT2 := HT.out
        go_roundg (gk - 1)
        case measure => omega
        case rel =>
          refine ⟨j + 1, by omega, ?_, hfr1.trans (hon.fr (Nat.le_trans hBw hfr1.size))⟩
          rw [HT2.2]
          refine ⟨hbB, Nat.le_trans (Nat.le_trans hBw hfr1.size) hon.size, _, ((hrm.out (.slice (some ⟨g2, 0, none⟩) (t.out.length + 1) cap2) (t.out ++ [t.hold % 256])).hold _).have_ _, ?_⟩
          have := hon.owns hbB hown'
          simpa using this
    · have HT2 := HT.out
      go_wp2
      go_end0
      have ej : j = ((s.have_ + n) / 8).toNat := by omega
      refine ⟨rfl, ?_, hfr⟩
      rw [HN.out, ← ej, HTE.out]
      exact ⟨hbB, hBj, u, hrj, hownj⟩

set_option maxHeartbeats 400000 in
theorem wfill_any (hR : WRep w B b s) (h1 : 0 ≤ s.have_) (h2 : s.have_ < 8) (h3 : 0 ≤ s.hold) (h4 : s.hold < 256) (h9 : s.out.length ≤ 17592186044416) :
    Calls Try.prog 71 #[.pointer (some ⟨b, 0, none⟩)] w fun e w' => e = .returned (.tuple #[]) ∧ WRep w' B b (if 0 < s.have_ then numP s 0 (8 - s.have_) else s) ∧ Fr B b w w' := by
  have hR0 := hR
  obtain ⟨hbB, hBw, v, hr, hown⟩ := hR
  have c1 := hr.c_have
  have hfz := hr.free
  by_cases h0 : 0 < s.have_
  · rw [if_pos h0]
    have hN := number_any hR0 0 (8 - s.have_) h1 h2 h3 h4 (by omega) (by omega) (by omega) (by omega) h9
    clear hR0 hown hr
    go_enter Try.func71, Try.ntmps71
    go_wp2_with (first
      | (go_at_call 57; refine hN.mono ?_; rintro e w1 ⟨rfl, hR1, hfr1⟩))
    go_end0
    exact ⟨rfl, hR1, hfr1⟩
  · rw [if_neg h0]
    go_enter Try.func71, Try.ntmps71
    go_wp2
    go_end0
    exact ⟨rfl, hR0, Fr.refl _ _ _⟩

set_option maxHeartbeats 400000 in
theorem wtake_any (hR : WRep w B b s) :
    Calls Try.prog 68 #[.pointer (some ⟨b, 0, none⟩)] w fun e w' => e = .returned (.string (outStr s.out)) ∧ WRow w' b { s with out := [] } (.slice none 0 0) ∧ Fr B b w w' := by
  obtain ⟨hbB, hBw, v, hr, hown⟩ := hR
  have c0 := hr.c_out
  have hfz := hr.free
  have hcv := run_out hown
  have hw1 : WRow (w.setCell ⟨b, 0, none⟩ (.slice none 0 0)) b { s with out := [] } (.slice none 0 0) := hr.out _ _
  have hfr1 : Fr B b w (w.setCell ⟨b, 0, none⟩ (.slice none 0 0)) := (Fr.refl B b w).set _ _
  obtain ⟨qa, qc, rfl⟩ : ∃ a c, v = .slice a s.out.length c := by
    rcases hown.2 with ⟨h3, h4⟩ | ⟨g, cap, cur, hv, _⟩
    · exact ⟨none, 0, by rw [h3, h4]⟩
    · exact ⟨_, _, hv⟩
  clear hown hr
  go_enter Try.func68, Try.ntmps68
  go_wp2
  go_ret
  exact ⟨rfl, hw1, hfr1⟩
end
end Go.Proofs.Ytmjigodhncjfjaa
