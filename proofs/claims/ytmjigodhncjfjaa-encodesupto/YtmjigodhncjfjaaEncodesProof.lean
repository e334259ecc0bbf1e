import Derived.Test.YtmjigodhncjfjaaW16
import Derived.Test.YtmjigodhncjfjaaBitsP
import Derived.Deep.RegionLaw
import Derived.Maps.AppendAt
import Derived.Lib.Strings
import Derived.Test.YtmjigodhncjfjaaRefP7
import Derived.Test.YtmjigodhncjfjaaDecodesProof
import Derived.Deep.RegionHeld3
import Derived.Test.YtmjigodhncjfjaaRows
import Derived.WalkKit
import Derived.ProofKit
import Derived.OpenShut
import Derived.ShutString
import Derived.ChangeOld
import Derived.Below
import Derived.JoinedCond
import Derived.Deep.Slices
import Derived.Deep.Strs
namespace Go.Proofs.Ytmjigodhncjfjaa
open Go.RowKit Wr

theorem step_append_own_w {P : Program} {ops : Array Oper} {o : Oper} {a : Act} {w : World} {K : Act → World → Prop} {Q : Exit → Act → World → Prop} {E : Prop}
    (hg : o.guard = none) (s x : Operand) (t : TypeId) (hop : o.op = Op.call { callee := Callee.builtin Builtin.append, args := #[s, x], argTypes := #[t, t] })
    (base : Nat) (e : TypeId) (i : TypeInfo) (z : Value) (size bytes : Nat) (ht : P.underlying t = some (.slice e)) (hi : P.info? e = some i) (hz : i.zero = some z) (hsize : i.size = size) (hby : i.bytes = bytes) (hzs : z.cells.size = size) (hsz : 0 < size)
    (v : Value) (n : Nat) (xs : List Value) (hs : a.eval s = v) (hown : w.ownsRow base e size v n xs)
    (ad : Addr) (m c : Nat) (news : List Value) (hx : a.eval x = .slice (some ad) m c) (hl : news.length = m * size) (hnews : ∀ j u, news[j]? = some u → w.cell? (ad.add j) = some u) (h1 : ∀ u ∈ news, u.oneCell' = true)
    (h63 : n + m ≤ maxLen) (hbytes : (n + m) * bytes ≤ 140737488355328) (hbase : base ≤ w.heap.size)
    (hK : ∀ v' w', w'.ownsRow base e size v' (n + m) (xs ++ news) → w.grownBy w' v.ownBlock → (v'.ownBlock = v.ownBlock ∨ v'.ownBlock = some w.heap.size) → K (a.put o.dst v') w') :
    if Region.wanted o (yielded ops a.tmps) = true then Oper.wp P o a w K Q else E := by
  have hw : Region.wanted o (yielded ops a.tmps) = true := by simp [Region.wanted, hg]
  rw [if_pos hw]
  obtain ⟨v', w', hr, h2, h3, _, h5⟩ := run_append_own_at (P := P) w base t o.type e i z size bytes ht hi hz hsize hby hzs hsz v n xs hown ad m c news hl hnews h1 h63 hbytes hbase
  unfold Oper.wp execOp
  simp only [hop, resolve, invoke, builtin, Sem.run_bind, Sem.run_pure, Result.andThen_ok, List.map_toArray, List.map_cons, List.map_nil, hs, hx, hr]
  exact hK v' w' h2 h3 h5

/-- the writer -/
structure Wt where
  out : List Int
  hold : Int
  have_ : Int
  wait : Nat → Int
  count : Int

def wtCells (s : Wt) (v : Value) (o : Nat) : Value :=
  if o = 0 then v else if o = 1 then .int .i64 s.hold else if o = 2 then .int .i64 s.have_ else if o = 4099 then .int .i64 s.count else .int .u8 (s.wait (o - 3))
def WRow (w : World) (b : Nat) (s : Wt) (v : Value) : Prop := w.rowIs b 118 4100 (wtCells s v)

section
variable {w : World} {b : Nat} {s : Wt} {v : Value}
theorem WRow.free (h : WRow w b s v) (o : Nat) : w.frozen? ⟨b, o, none⟩ = false := World.rowIs.frozen h o
theorem WRow.lt (h : WRow w b s v) : b < w.heap.size := World.rowIs.lt h
theorem WRow.alloc (h : WRow w b s v) (o : Obj) : WRow (w.alloc o) b s v := World.rowIs.alloc h o
theorem WRow.of_block {w' : World} (h : WRow w b s v) (e : w'.heap[b]? = w.heap[b]?) : WRow w' b s v := World.rowIs.of_block h e
theorem WRow.at (h : WRow w b s v) (o : Nat) (ho : o < 4100) {x : Value} (e : wtCells s v o = x) : w.cell? ⟨b, o, none⟩ = some x := by
  rw [← e]; exact World.rowIs.cell h ho
theorem WRow.turn {t : Wt} {u : Value} (h : WRow w b s v) (k : Nat) (x : Value) (he : ∀ o, o < 4100 → (if o = k then x else wtCells s v o) = wtCells t u o) : WRow (w.setCell ⟨b, k, none⟩ x) b t u :=
  (World.rowIs.set h k x).congr fun i hi => he i hi
theorem WRow.c_out (h : WRow w b s v) : w.cell? ⟨b, 0, none⟩ = some v := h.at _ (by omega) rfl
theorem WRow.c_hold (h : WRow w b s v) : w.cell? ⟨b, 1, none⟩ = some (.int .i64 s.hold) := h.at _ (by omega) rfl
theorem WRow.c_have (h : WRow w b s v) : w.cell? ⟨b, 2, none⟩ = some (.int .i64 s.have_) := h.at _ (by omega) rfl
theorem WRow.c_count (h : WRow w b s v) : w.cell? ⟨b, 4099, none⟩ = some (.int .i64 s.count) := h.at _ (by omega) rfl
theorem WRow.c_wait (h : WRow w b s v) (i : Nat) (hi : i < 4096) : w.cell? ⟨b, 3 + i, none⟩ = some (.int .u8 (s.wait i)) := by
  refine h.at _ (by omega) ?_
  unfold wtCells
  repeat rw [if_neg (by omega)]
  rw [show 3 + i - 3 = i by omega]
theorem WRow.out (h : WRow w b s v) (u : Value) (l : List Int) : WRow (w.setCell ⟨b, 0, none⟩ u) b { s with out := l } u := by
  refine h.turn _ _ fun o _ => ?_
  by_cases e : o = 0
  · subst e; rfl
  · simp only [wtCells, if_neg e]
theorem WRow.hold (h : WRow w b s v) (x : Int) : WRow (w.setCell ⟨b, 1, none⟩ (.int .i64 x)) b { s with hold := x } v := by
  refine h.turn _ _ fun o _ => ?_
  by_cases e : o = 1
  · subst e; rfl
  · simp only [wtCells, if_neg e]
theorem WRow.have_ (h : WRow w b s v) (x : Int) : WRow (w.setCell ⟨b, 2, none⟩ (.int .i64 x)) b { s with have_ := x } v := by
  refine h.turn _ _ fun o _ => ?_
  by_cases e : o = 2
  · subst e; rfl
  · simp only [wtCells, if_neg e]
theorem WRow.count (h : WRow w b s v) (x : Int) : WRow (w.setCell ⟨b, 4099, none⟩ (.int .i64 x)) b { s with count := x } v := by
  refine h.turn _ _ fun o _ => ?_
  by_cases e : o = 4099
  · subst e; rfl
  · simp only [wtCells, if_neg e]
theorem WRow.wait (h : WRow w b s v) (i : Nat) (hi : i < 4096) (x : Int) : WRow (w.setCell ⟨b, 3 + i, none⟩ (.int .u8 x)) b { s with wait := upd s.wait i x } v := by
  refine h.turn _ _ fun o ho => ?_
  by_cases e : o = 3 + i
  · subst e
    rw [if_pos rfl]
    unfold wtCells
    repeat rw [if_neg (by omega)]
    rw [show 3 + i - 3 = i by omega]
    simp [upd]
  · rw [if_neg e]
    unfold wtCells
    by_cases e1 : o = 0
    · rw [if_pos e1, if_pos e1]
    rw [if_neg e1, if_neg e1]
    by_cases e2 : o = 1
    · rw [if_pos e2, if_pos e2]
    rw [if_neg e2, if_neg e2]
    by_cases e3 : o = 2
    · rw [if_pos e3, if_pos e3]
    rw [if_neg e3, if_neg e3]
    by_cases e4 : o = 4099
    · rw [if_pos e4, if_pos e4]
    rw [if_neg e4, if_neg e4]
    have e5 : upd s.wait i x (o - 3) = s.wait (o - 3) := if_neg (by omega)
    exact congrArg _ e5.symm
end
theorem On.wrow {b q : Nat} {w w' : World} {s : Wt} {v : Value} (h : On b w w') (hq : q ≠ b) (hd : WRow w q s v) : WRow w' q s v := hd.of_block (h.block q hd.lt hq)

def WRep (w : World) (B b : Nat) (s : Wt) : Prop :=
  b < B ∧ B ≤ w.heap.size ∧ ∃ v, WRow w b s v ∧ w.ownsRow B 5 1 v s.out.length (s.out.map (Value.int .u8))

/-- a number of n bits is added -/
def spill (s : Wt) (j : Nat) : Wt := { s with out := s.out ++ (List.range j).map (fun i => s.hold / 2 ^ (8 * i) % 256), hold := s.hold / 2 ^ (8 * j), have_ := s.have_ - 8 * j }
def numP (s : Wt) (v n : Int) : Wt := spill { s with hold := s.hold + v * 2 ^ s.have_.toNat, have_ := s.have_ + n } ((s.have_ + n) / 8).toNat
theorem spill_zero (s : Wt) : spill s 0 = s := by
  unfold spill
  have e : (2 : Int) ^ (8 * 0) = 1 := rfl
  rw [e, Int.ediv_one, show s.have_ - 8 * ((0 : Nat) : Int) = s.have_ by omega]
  simp
theorem spill_succ (s : Wt) (j : Nat) : spill s (j + 1) = { spill s j with out := (spill s j).out ++ [(spill s j).hold % 256], hold := (spill s j).hold / 256, have_ := (spill s j).have_ - 8 } := by
  unfold spill
  have e : (2 : Int) ^ (8 * (j + 1)) = 2 ^ (8 * j) * 256 := by rw [show 8 * (j + 1) = 8 * j + 8 by omega, pow_add2]; rfl
  rw [e, List.range_succ, List.map_append, ← List.append_assoc]
  dsimp only
  rw [Int.ediv_ediv_of_nonneg (by have := pow_pos2 (8 * j); omega), show s.have_ - 8 * ((j + 1 : Nat) : Int) = s.have_ - 8 * (j : Int) - 8 by omega]
  rfl

section
variable {w : World} {B b : Nat} {s : Wt}

set_option maxHeartbeats 1000000 in
theorem number_any (hR : WRep w B b s) (x n : Int) (h1 : 0 ≤ s.have_) (h2 : s.have_ < 8) (h3 : 0 ≤ s.hold) (h4 : s.hold < 256) (h5 : 0 ≤ x) (h6 : x < 4096) (h7 : 0 ≤ n) (h8 : n ≤ 12) (h9 : s.out.length ≤ 17592186044416) :
    Calls Try.prog 57 #[.pointer (some ⟨b, 0, none⟩), .int .i64 x, .int .i64 n] w fun e w' => e = .returned (.tuple #[]) ∧ WRep w' B b (numP s x n) ∧ Fr B b w w' := by
  obtain ⟨hbB, hBw, v, hr, hown⟩ := hR
  obtain ⟨i0, hi, hz0, hz1, hz2⟩ := info_parts info_u8
  have HI : Hid (Try.prog.info? 5 = some i0 ∧ i0.zero = some (.int .u8 0) ∧ i0.size = 1 ∧ i0.bytes = 1) := ⟨hi, hz0, hz1, hz2⟩
  clear hi hz0 hz1 hz2
  have c0 := hr.c_hold
  have c1 := hr.c_have
  have hfz := hr.free
  have hp := pow_lt64 s.have_.toNat (by omega)
  go_enter Try.func57, Try.ntmps57
  have q2 : (2 : Int) ^ s.have_.toNat ≤ 128 := by
    have := pow_mono (show s.have_.toNat ≤ 7 by omega)
    exact this
  have m0 : 0 ≤ x * 2 ^ s.have_.toNat := Int.mul_nonneg h5 (by omega)
  have m1 : x * 2 ^ s.have_.toNat ≤ 4095 * 2 ^ s.have_.toNat := Int.mul_le_mul_of_nonneg_right (by omega) (by omega)
  go_wp2
  go_region
  go_wp2
  generalize hs1 : ({ s with hold := s.hold + x * 2 ^ s.have_.toNat, have_ := s.have_ + n } : Wt) = s1
  have e1 : s1.hold = s.hold + x * 2 ^ s.have_.toNat := by rw [← hs1]
  have e2 : s1.have_ = s.have_ + n := by rw [← hs1]
  have e3 : s1.out = s.out := by rw [← hs1]
  have HN : Hid (numP s x n = spill s1 ((s.have_ + n) / 8).toNat) := by rw [Hid, ← hs1]; rfl
  go_loopg [] ((s.have_ + n) / 8).toNat (fun g wr => ∃ j : Nat, j + g = ((s.have_ + n) / 8).toNat ∧ WRep wr B b (spill s1 j) ∧ Fr B b w wr)
  case atStart =>
    have hon := (((On.refl b w).set 1 (.int .i64 (s.hold + x * 2 ^ s.have_.toNat))).set 2 (.int .i64 (s.have_ + n))).drew
    refine ⟨0, by omega, ⟨hbB, Nat.le_trans hBw hon.size, v, ?_, ?_⟩, hon.fr hBw⟩
    · rw [spill_zero, ← hs1]
      exact (hr.hold _).have_ _
    · rw [spill_zero, e3]
      exact hon.owns hbB hown
  case round =>
    obtain ⟨j, hj, hRj, hfr⟩ := hrel
    have t1 : (spill s1 j).hold = (s.hold + x * 2 ^ s.have_.toNat) / 2 ^ (8 * j) := by show s1.hold / 2 ^ (8 * j) = _; rw [e1]
    have t2 : (spill s1 j).have_ = s.have_ + n - 8 * j := by show s1.have_ - 8 * j = _; rw [e2]
    have t3 : (spill s1 j).out.length = s.out.length + j := by show (s1.out ++ (List.range j).map _).length = _; rw [List.length_append, List.length_map, List.length_range, e3]
    have t4 := spill_succ s1 j
    have pj := pow_pos2 (8 * j)
    have t5 : 0 ≤ (spill s1 j).hold := by rw [t1]; exact Int.ediv_nonneg (by omega) (by omega)
    have t6 : (spill s1 j).hold ≤ s.hold + x * 2 ^ s.have_.toNat := by
      rw [t1]
      exact Int.ediv_le_self _ (by omega)
    have HT : Hid ((spill s1 j).have_ = s.have_ + n - 8 * j ∧ spill s1 (j + 1) = { spill s1 j with out := (spill s1 j).out ++ [(spill s1 j).hold % 256], hold := (spill s1 j).hold / 256, have_ := (spill s1 j).have_ - 8 }) := ⟨t2, t4⟩
    have hlo : (spill s1 j).out.length ≤ 17592186044500 := by omega
    have t7 : (spill s1 j).have_ ≤ 19 ∧ -100 ≤ (spill s1 j).have_ := by omega
    clear t1 t2 t3 t4
    generalize hte : spill s1 j = t at *
    have HTE : Hid (spill s1 j = t) := hte
    clear hte
    obtain ⟨_, hBj, u, hrj, hownj⟩ := hRj
    clear hown hr c0 c1 hfz
    have d0 := hrj.c_hold
    have d1 := hrj.c_have
    have d2 := hrj.c_out
    have hfz := hrj.free
    by_cases hgo : 8 ≤ t.have_
    · have h1n : ∀ u ∈ [Value.int .u8 (t.hold % 256)], u.oneCell' = true := by intro u hu; simp at hu; subst hu; rfl
      obtain ⟨qa, qc, rfl⟩ : ∃ a c, u = .slice a t.out.length c := by
        rcases hownj.2 with ⟨h3, h4⟩ | ⟨g, cap, cur, hv, _⟩
        · exact ⟨none, 0, by rw [h3, h4]⟩
        · exact ⟨_, _, hv⟩
      have hDd : Hid (wr.drew.ownsRow B 5 1 (.slice qa t.out.length qc) t.out.length (t.out.map (Value.int .u8))) := hownj
      have hwr : WRow wr.drew b t (.slice qa t.out.length qc) := hrj
      have hbr := hrj.lt
      clear hownj hrj
      go_wp2
      go_region_law (refine step_append_own_w rfl (.tmp 39) (.tmp 45) 37 rfl B 5 i0 (.int .u8 0) 1 1 Try.underlying37 HI.out.1 HI.out.2.1 HI.out.2.2.1 HI.out.2.2.2 rfl (by decide) (.slice qa t.out.length qc) t.out.length (t.out.map (Value.int .u8)) (by simp [Act.eval]) (hDd.out.alloc _) ⟨wr.heap.size, 0, none⟩ 1 1 [.int .u8 (t.hold % 256)] (by simp [Act.eval]) rfl (cell_one_new _ _ _) h1n (by unfold maxLen; omega) (by omega) (by simp; omega) ?_; intro v' w1' hown' hgrow hat; obtain ⟨g2, cap2, hv2⟩ := owns_shape hown'; subst hv2; have hrm := (hwr.alloc _).of_block (hgrow.block b (by simp; omega) (owns_block hDd.out hbB)); have cm := hrm.c_out; have hfm := hrm.free; have ch := hrm.c_hold; have cn := hrm.c_have)
      all_goals
        have hfr1 : Fr B b w w1' := hfr.trans (((Fr.refl B b wr).drew.alloc hBj _).grown hgrow (by simp; omega) (owns_above hDd.out))
        clear hgrow hat
        go_wp2
        have hon := (((On.refl b w1').set 0 (Value.slice (some ⟨g2, 0, none⟩) (t.out.length + 1) cap2)).set 1 (.int .i64 (t.hold / 256))).set 2 (.int .i64 (t.have_ - 8))
        have HT2 := HT.out
        go_roundg (gk - 1)
        case measure => omega
        case rel =>
          refine ⟨j + 1, by omega, ?_, hfr1.trans (hon.fr (Nat.le_trans hBw hfr1.size))⟩
          rw [HT2.2]
          refine ⟨hbB, Nat.le_trans (Nat.le_trans hBw hfr1.size) hon.size, _, ((hrm.out (.slice (some ⟨g2, 0, none⟩) (t.out.length + 1) cap2) (t.out ++ [t.hold % 256])).hold _).have_ _, ?_⟩
          have := hon.owns hbB hown'
          simpa using this
    · have HT2 := HT.out
      go_wp2
      go_end0
      have ej : j = ((s.have_ + n) / 8).toNat := by omega
      refine ⟨rfl, ?_, hfr⟩
      rw [HN.out, ← ej, HTE.out]
      exact ⟨hbB, hBj, u, hrj, hownj⟩

set_option maxHeartbeats 400000 in
theorem wfill_any (hR : WRep w B b s) (h1 : 0 ≤ s.have_) (h2 : s.have_ < 8) (h3 : 0 ≤ s.hold) (h4 : s.hold < 256) (h9 : s.out.length ≤ 17592186044416) :
    Calls Try.prog 71 #[.pointer (some ⟨b, 0, none⟩)] w fun e w' => e = .returned (.tuple #[]) ∧ WRep w' B b (if 0 < s.have_ then numP s 0 (8 - s.have_) else s) ∧ Fr B b w w' := by
  have hR0 := hR
  obtain ⟨hbB, hBw, v, hr, hown⟩ := hR
  have c1 := hr.c_have
  have hfz := hr.free
  by_cases h0 : 0 < s.have_
  · rw [if_pos h0]
    have hN := number_any hR0 0 (8 - s.have_) h1 h2 h3 h4 (by omega) (by omega) (by omega) (by omega) h9
    clear hR0 hown hr
    go_enter Try.func71, Try.ntmps71
    go_wp2_with (first
      | (go_at_call 57; refine hN.mono ?_; rintro e w1 ⟨rfl, hR1, hfr1⟩))
    go_end0
    exact ⟨rfl, hR1, hfr1⟩
  · rw [if_neg h0]
    go_enter Try.func71, Try.ntmps71
    go_wp2
    go_end0
    exact ⟨rfl, hR0, Fr.refl _ _ _⟩

set_option maxHeartbeats 400000 in
theorem wtake_any (hR : WRep w B b s) :
    Calls Try.prog 68 #[.pointer (some ⟨b, 0, none⟩)] w fun e w' => e = .returned (.string (outStr s.out)) ∧ WRow w' b { s with out := [] } (.slice none 0 0) ∧ Fr B b w w' := by
  obtain ⟨hbB, hBw, v, hr, hown⟩ := hR
  have c0 := hr.c_out
  have hfz := hr.free
  have hcv := run_out hown
  have hw1 : WRow (w.setCell ⟨b, 0, none⟩ (.slice none 0 0)) b { s with out := [] } (.slice none 0 0) := hr.out _ _
  have hfr1 : Fr B b w (w.setCell ⟨b, 0, none⟩ (.slice none 0 0)) := (Fr.refl B b w).set _ _
  obtain ⟨qa, qc, rfl⟩ : ∃ a c, v = .slice a s.out.length c := by
    rcases hown.2 with ⟨h3, h4⟩ | ⟨g, cap, cur, hv, _⟩
    · exact ⟨none, 0, by rw [h3, h4]⟩
    · exact ⟨_, _, hv⟩
  clear hown hr
  go_enter Try.func68, Try.ntmps68
  go_wp2
  go_ret
  exact ⟨rfl, hw1, hfr1⟩
end
end Go.Proofs.Ytmjigodhncjfjaa

/- STORED BLOCKS AND NOTES, READ. No Go. -/
namespace Wr

def byteBits : List UInt8 → List Int
  | [] => []
  | c :: l => numBits c.toNat 8 ++ byteBits l
theorem byteBits_length : ∀ l : List UInt8, (byteBits l).length = 8 * l.length
  | [] => rfl
  | c :: l => by
    show (numBits c.toNat 8 ++ byteBits l).length = _
    rw [List.length_append, numBits_length, byteBits_length l, List.length_cons]
    omega
theorem byteBits_append : ∀ a b : List UInt8, byteBits (a ++ b) = byteBits a ++ byteBits b
  | [], b => rfl
  | c :: a, b => by
    show numBits c.toNat 8 ++ byteBits (a ++ b) = numBits c.toNat 8 ++ byteBits a ++ byteBits b
    rw [byteBits_append a b, List.append_assoc]
theorem byteBits_isBits : ∀ l : List UInt8, isBits (byteBits l)
  | [] => fun b hb => by cases hb
  | c :: l => by
    intro b hb
    rcases List.mem_append.1 hb with h | h
    · exact numBits_isBits _ _ b h
    · exact byteBits_isBits l b h

def ints8 (l : List UInt8) : List Int := l.map fun c => (c.toNat : Int)

theorem val_num_head {v : Int} {n : Nat} (r : List Int) (h0 : 0 ≤ v) (h1 : v < 2 ^ n) : valOf (numBits v n ++ r) = v + 2 ^ n * valOf r := by
  rw [valOf_append, valOf_num_lt h0 h1, numBits_length]

/-- the bytes of a block -/
theorem bytes_read : ∀ (c : List UInt8) (s : Rd) (rest : List Int) (m : Int), Inv s → s.part = 3 → s.last = false → s.left = c.length → c ≠ [] → s.hold = valOf (byteBits c ++ rest) → s.have_ = 8 * c.length + m → 0 ≤ m →
    ∃ t, Inv t ∧ drive s = drive t ∧ t.part = 1 ∧ t.hold = valOf rest ∧ t.have_ = m ∧ t.out = (if s.kind = 1 then s.out ++ ints8 c else s.out)
  | [], _, _, _, _, _, _, _, hc, _, _, _ => absurd rfl hc
  | c :: l, s, rest, m, hI, hp, hla, hle, _, hh, hn, hm => by
    have hb := byte_bounds c
    rw [List.length_cons] at hle hn
    have hh2 : s.hold = (c.toNat : Int) + 2 ^ (8 : Int).toNat * valOf (byteBits l ++ rest) := by
      rw [hh]
      show valOf (numBits c.toNat 8 ++ byteBits l ++ rest) = _
      rw [List.append_assoc, val_num_head _ hb.1 (by show (c.toNat : Int) < 256; omega)]
      rfl
    have hw : width s = 8 := by unfold width; rw [if_neg (by omega), if_neg (by omega), if_neg (by omega), if_neg (by omega), if_neg (by omega)]
    obtain ⟨e1, i1⟩ := drive_num hI (c.toNat : Int) (valOf (byteBits l ++ rest)) 8 (8 * l.length + m) (by omega) (by omega) (by omega) hw hh2 hb.1 (by show (c.toNat : Int) < 256; omega) (by omega) (by omega)
    have eu : use { s with hold := valOf (byteBits l ++ rest), have_ := 8 * l.length + m } (c.toNat : Int) = useByte { s with hold := valOf (byteBits l ++ rest), have_ := 8 * l.length + m } (c.toNat : Int) := by
      unfold use
      rw [if_neg (show ¬ s.part = 0 by omega), if_neg (show ¬ s.part = 1 by omega), if_neg (show ¬ s.part = 2 by omega), if_pos (show s.part = 3 from hp)]
    rw [eu] at e1 i1
    obtain ⟨u, hu, hup, hula, hule, huh, hun, huk, huo⟩ : ∃ u : Rd, useByte { s with hold := valOf (byteBits l ++ rest), have_ := 8 * l.length + m } (c.toNat : Int) = (if u.left = 0 then endBlock u else u) ∧ u.part = 3 ∧ u.last = false ∧ u.left = l.length ∧ u.hold = valOf (byteBits l ++ rest) ∧ u.have_ = 8 * l.length + m ∧ u.kind = s.kind ∧ u.out = (if s.kind = 1 then s.out ++ [(c.toNat : Int)] else s.out) := by
      by_cases hk : s.kind = 1
      · refine ⟨put { s with hold := valOf (byteBits l ++ rest), have_ := 8 * l.length + m } (c.toNat : Int), ?_, hp, hla, ?_, rfl, rfl, rfl, ?_⟩
        · unfold useByte
          rw [if_pos (show s.kind = 1 from hk)]
        · show s.left - 1 = _; omega
        · rw [if_pos hk]; rfl
      · refine ⟨{ s with hold := valOf (byteBits l ++ rest), have_ := 8 * l.length + m, left := s.left - 1 }, ?_, hp, hla, ?_, rfl, rfl, rfl, ?_⟩
        · unfold useByte
          rw [if_neg (show ¬ s.kind = 1 from hk)]
        · show s.left - 1 = _; omega
        · rw [if_neg hk]
    rw [hu] at e1 i1
    by_cases hl : l = []
    · subst hl
      rw [if_pos (by rw [hule]; rfl)] at e1 i1
      have eb : endBlock u = { u with part := 1 } := by unfold endBlock; rw [hula]; rfl
      rw [eb] at e1 i1
      refine ⟨_, i1, e1, rfl, ?_, ?_, ?_⟩
      · show u.hold = _; rw [huh]; rfl
      · show u.have_ = _; rw [hun, List.length_nil]; omega
      · show u.out = _; rw [huo]; rfl
    · have hpos : 0 < l.length := List.length_pos_iff.2 hl
      rw [if_neg (by rw [hule]; omega)] at e1 i1
      obtain ⟨t, t1, t2, t3, t4, t5, t6⟩ := bytes_read l u rest m i1 hup hula hule hl huh hun hm
      refine ⟨t, t1, e1.trans t2, t3, t4, t5, ?_⟩
      rw [t6, huk, huo]
      split
      · show s.out ++ [(c.toNat : Int)] ++ ints8 l = s.out ++ ((c.toNat : Int) :: ints8 l)
        rw [List.append_assoc]; rfl
      · rfl

/-- a block that is no last one: its head, one bit of fill, its bytes -/
theorem head_read (kind : Int) (s : Rd) (hI : Inv s) (hp : s.part = 1) (c : List UInt8) (z nb m : Int) (rest : List Int) (hk : (kind = 1 ∧ nb = 12 ∧ z = (c.length : Int) - 1 ∧ c ≠ [] ∧ c.length ≤ 4096) ∨ (kind = 3 ∧ nb = 8 ∧ z = (c.length : Int) ∧ c.length ≤ 255))
    (hh : s.hold = 2 * kind + 2 ^ (3 : Int).toNat * (z + 2 ^ nb.toNat * (0 + 2 ^ (1 : Int).toNat * valOf (byteBits c ++ rest)))) (hn : s.have_ = 3 + nb + 1 + 8 * c.length + m) (m0 : 0 ≤ m) (hm8 : m % 8 = 0) :
    ∃ t, Inv t ∧ drive s = drive t ∧ t.part = 1 ∧ t.hold = valOf rest ∧ t.have_ = m ∧ t.out = (if kind = 1 then s.out ++ ints8 c else s.out) := by
  have hw1 : width s = 3 := by unfold width; rw [if_neg (by omega), if_pos hp]
  have hkb : 0 ≤ 2 * kind ∧ 2 * kind < 8 := by omega
  obtain ⟨e1, i1⟩ := drive_num hI (2 * kind) (z + 2 ^ nb.toNat * (0 + 2 ^ (1 : Int).toNat * valOf (byteBits c ++ rest))) 3 (nb + 1 + 8 * c.length + m) (by omega) (by omega) (by omega) hw1 hh hkb.1 (by show 2 * kind < 8; omega) (by omega) (by omega)
  have u1 : use { s with hold := z + 2 ^ nb.toNat * (0 + 2 ^ (1 : Int).toNat * valOf (byteBits c ++ rest)), have_ := nb + 1 + 8 * c.length + m } (2 * kind) =
      { s with hold := z + 2 ^ nb.toNat * (0 + 2 ^ (1 : Int).toNat * valOf (byteBits c ++ rest)), have_ := nb + 1 + 8 * c.length + m, last := false, kind := kind, part := 2 } := by
    unfold use
    rw [if_neg (show ¬ s.part = 0 by omega), if_pos (show s.part = 1 from hp)]
    unfold useBlock
    have e : 2 * kind / 2 = kind := by omega
    have e2 : (2 * kind % 2 == 1) = false := by rw [show 2 * kind % 2 = 0 by omega]; rfl
    rw [e, e2]
    dsimp only
    rw [if_neg (by omega)]
  rw [u1] at e1 i1
  clear u1
  have hw2 : width { s with hold := z + 2 ^ nb.toNat * (0 + 2 ^ (1 : Int).toNat * valOf (byteBits c ++ rest)), have_ := nb + 1 + 8 * c.length + m, last := false, kind := kind, part := 2 } = nb := by
    show (if kind = 3 then (8 : Int) else 12) = nb
    rcases hk with ⟨a, b, _⟩ | ⟨a, b, _⟩
    · rw [if_neg (by omega), b]
    · rw [if_pos a, b]
  have hz : 0 ≤ z ∧ z < 2 ^ nb.toNat := by
    rcases hk with ⟨a, b, d, e, f⟩ | ⟨a, b, d, f⟩
    · have : 0 < c.length := List.length_pos_iff.2 e
      rw [b]
      show 0 ≤ z ∧ z < 4096
      omega
    · rw [b]
      show 0 ≤ z ∧ z < 256
      omega
  obtain ⟨e2, i2⟩ := drive_num i1 z (0 + 2 ^ (1 : Int).toNat * valOf (byteBits c ++ rest)) nb (1 + 8 * c.length + m) (by show (2 : Int) ≠ 6; omega) (by show (2 : Int) ≠ 8; omega) (by show (2 : Int) ≤ 9; omega) hw2 rfl hz.1 hz.2 (by show nb + 1 + 8 * (c.length : Int) + m = _; omega) (by omega)
  generalize hV : valOf (byteBits c ++ rest) = V at *
  have u2 : use { s with hold := 0 + 2 ^ (1 : Int).toNat * V, have_ := 1 + 8 * c.length + m, last := false, kind := kind, part := 2 } z =
      (if (c.length : Int) = 0 then ({ s with hold := V, have_ := 8 * c.length + m, last := false, kind := kind, part := 1, left := c.length } : Rd) else { s with hold := V, have_ := 8 * c.length + m, last := false, kind := kind, part := 3, left := c.length }) := by
    show useSize _ z = _
    unfold useSize
    rw [if_neg (show ¬ kind = 2 by omega)]
    have hleft : (if kind = 1 then z + 1 else z) = (c.length : Int) := by
      rcases hk with ⟨a, _, d, _⟩ | ⟨a, _, d, _⟩
      · rw [if_pos a]; omega
      · rw [if_neg (by omega)]; omega
    dsimp only
    rw [hleft]
    have hmod : (1 + 8 * (c.length : Int) + m) % 8 = 1 := by omega
    have hf : fillOk { s with hold := 0 + 2 ^ (1 : Int).toNat * V, have_ := 1 + 8 * c.length + m, last := false, kind := kind, part := 2, left := c.length } = true := by
      unfold fillOk
      dsimp only
      rw [hmod]
      show ((0 + 2 * V) % 2 == 0) = true
      rw [show (0 + 2 * V) % 2 = 0 by omega]
      rfl
    have hft : fillTo { s with hold := 0 + 2 ^ (1 : Int).toNat * V, have_ := 1 + 8 * c.length + m, last := false, kind := kind, part := 2, left := c.length } = { s with hold := V, have_ := 8 * c.length + m, last := false, kind := kind, part := 2, left := c.length } := by
      unfold fillTo
      rw [hf]
      dsimp only
      rw [hmod, show (0 + 2 ^ (1 : Int).toNat * V) / 2 ^ (1 : Int).toNat = V by show (0 + 2 * V) / 2 = V; omega, show 1 + 8 * (c.length : Int) + m - 1 = 8 * c.length + m by omega]
      rfl
    rw [hf, hft]
    dsimp only
    rw [if_pos rfl]
    by_cases h0 : (c.length : Int) = 0
    · rw [if_pos h0, if_pos h0]
      unfold endBlock
      rfl
    · rw [if_neg h0, if_neg h0]
  have e2' := e2
  have i2' := i2
  rw [u2] at e2' i2'
  clear e2 i2 u2
  by_cases h0 : (c.length : Int) = 0
  · have hc : c = [] := List.length_eq_zero_iff.1 (by omega)
    rw [if_pos h0] at e2' i2'
    refine ⟨_, i2', e1.trans e2', rfl, ?_, ?_, ?_⟩
    · show V = _; rw [← hV, hc]; rfl
    · show 8 * (c.length : Int) + m = m; omega
    · show s.out = _
      rcases hk with ⟨_, _, _, hne, _⟩ | ⟨a, _⟩
      · exact absurd hc hne
      · rw [if_neg (by omega)]
  · rw [if_neg h0] at e2' i2'
    have hne : c ≠ [] := fun e => h0 (by rw [e]; rfl)
    obtain ⟨t, t1, t2, t3, t4, t5, t6⟩ := bytes_read c _ rest m i2' rfl rfl rfl hne hV.symm rfl m0
    exact ⟨t, t1, (e1.trans e2').trans t2, t3, t4, t5, t6⟩

/-- a stored block -/
def blk (c : List UInt8) : List Int := numBits 2 3 ++ (numBits ((c.length : Int) - 1) 12 ++ ([0] ++ byteBits c))
theorem blk_length (c : List UInt8) : (blk c).length = 16 + 8 * c.length := by
  unfold blk
  simp only [List.length_append, numBits_length, byteBits_length, List.length_singleton]
  omega
theorem blk_val (c : List UInt8) (hc : c ≠ []) (h : c.length ≤ 4096) (rest : List Int) : valOf (blk c ++ rest) = 2 * 1 + 2 ^ (3 : Int).toNat * (((c.length : Int) - 1) + 2 ^ (12 : Int).toNat * (0 + 2 ^ (1 : Int).toNat * valOf (byteBits c ++ rest))) := by
  have hpos : 0 < c.length := List.length_pos_iff.2 hc
  unfold blk
  rw [List.append_assoc, val_num_head _ (by omega) (by decide), List.append_assoc, val_num_head _ (by omega) (by show (c.length : Int) - 1 < 4096; omega), List.append_assoc]
  rfl

def stored : List (List UInt8) → List Int
  | [] => numBits 1 3
  | c :: l => blk c ++ stored l
def good (l : List (List UInt8)) : Prop := ∀ c ∈ l, c ≠ [] ∧ c.length ≤ 4096
theorem stored_length : ∀ l : List (List UInt8), (stored l).length % 8 = 3
  | [] => by show (numBits 1 3).length % 8 = 3; rw [numBits_length]
  | c :: l => by
    show (blk c ++ stored l).length % 8 = 3
    rw [List.length_append, blk_length]
    have := stored_length l
    omega

theorem stored_read : ∀ (l : List (List UInt8)) (s : Rd), good l → Inv s → s.part = 1 → s.hold = valOf (stored l) → s.have_ = (stored l).length + 5 →
    (drive s).out = s.out ++ ints8 l.flatten ∧ errnoBig (drive s) = 0
  | [], s, _, hI, hp, hh, hn => by
    have hv : s.hold = 1 + 2 ^ (3 : Int).toNat * 0 := by rw [hh]; rfl
    have hn' : s.have_ = 3 + 5 := by rw [hn]; show ((numBits 1 3).length : Int) + 5 = _; rw [numBits_length]; rfl
    have hw1 : width s = 3 := by unfold width; rw [if_neg (by omega), if_pos hp]
    obtain ⟨e1, i1⟩ := drive_num hI 1 0 3 5 (by omega) (by omega) (by omega) hw1 hv (by omega) (by decide) hn' (by omega)
    have u1 : use { s with hold := 0, have_ := 5 } 1 = { s with hold := 0, have_ := 0, last := true, kind := 0, part := 10 } := by
      unfold use
      rw [if_neg (show ¬ s.part = 0 by omega), if_pos (show s.part = 1 from hp)]
      simp [useBlock, fillOk, fillTo, endBlock]
    rw [u1] at e1
    rw [e1, drive_stop (Or.inl rfl)]
    exact ⟨by show s.out = s.out ++ []; rw [List.append_nil], rfl⟩
  | c :: l, s, hg, hI, hp, hh, hn => by
    have hc := hg c (List.mem_cons_self ..)
    have hl : good l := fun x hx => hg x (List.mem_cons_of_mem _ hx)
    have hv : s.hold = 2 * 1 + 2 ^ (3 : Int).toNat * (((c.length : Int) - 1) + 2 ^ (12 : Int).toNat * (0 + 2 ^ (1 : Int).toNat * valOf (byteBits c ++ stored l))) := by
      rw [hh]; exact blk_val c hc.1 hc.2 (stored l)
    have hn' : s.have_ = 3 + 12 + 1 + 8 * (c.length : Int) + (((stored l).length : Int) + 5) := by
      rw [hn]; show (((blk c ++ stored l).length : Nat) : Int) + 5 = _; rw [List.length_append, blk_length]; omega
    have hs8 := stored_length l
    obtain ⟨t, t1, t2, t3, t4, t5, t6⟩ := head_read 1 s hI hp c _ 12 _ (stored l) (Or.inl ⟨rfl, rfl, rfl, hc.1, hc.2⟩) hv hn' (by omega) (by omega)
    obtain ⟨r1, r2⟩ := stored_read l t hl t1 t3 t4 t5
    rw [t2]
    refine ⟨?_, r2⟩
    rw [r1, t6, if_pos rfl, List.append_assoc]
    show s.out ++ (ints8 c ++ ints8 l.flatten) = s.out ++ ints8 (c ++ l.flatten)
    unfold ints8
    rw [List.map_append]

/-- the whole stream -/
def plainBits (w : Int) (note : List UInt8) (l : List (List UInt8)) : List Int := numBits w 4 ++ (numBits 6 3 ++ (numBits note.length 8 ++ ([0] ++ (byteBits note ++ stored l))))

theorem plain_read (w : Int) (note : List UInt8) (l : List (List UInt8)) (w0 : 0 ≤ w) (w8 : w ≤ 8) (hn : note.length ≤ 255) (hg : good l) (hb : isBits (plainBits w note l)) :
    (drive { initRd with hold := valOf (plainBits w note l), have_ := (plainBits w note l).length + 5 }).out = ints8 l.flatten ∧ errnoBig (drive { initRd with hold := valOf (plainBits w note l), have_ := (plainBits w note l).length + 5 }) = 0 := by
  have vb := valOf_bounds _ hb
  have hlen : (plainBits w note l).length = 4 + (3 + (8 + (1 + (8 * note.length + (stored l).length)))) := by
    unfold plainBits
    simp only [List.length_append, numBits_length, byteBits_length, List.length_singleton]
  have i0 : Inv { initRd with hold := valOf (plainBits w note l), have_ := (plainBits w note l).length + 5 } := by
    have b := init_rest.1.1
    refine ⟨⟨vb.1, ?_, by show (0 : Int) ≤ ((plainBits w note l).length : Int) + 5; omega, b.at0, b.at1, b.r0, b.r1, b.w1, b.near, b.l0, b.l1⟩, part_end (Or.inl ⟨rfl, rfl⟩)⟩
    show valOf (plainBits w note l) < 2 ^ (((plainBits w note l).length : Int) + 5).toNat
    rw [show (((plainBits w note l).length : Int) + 5).toNat = (plainBits w note l).length + 5 by omega, pow_add2]
    have : (2 : Int) ^ 5 = 32 := rfl
    rw [this]
    have := vb.2
    omega
  have hv : valOf (plainBits w note l) = w + 2 ^ (4 : Int).toNat * (2 * 3 + 2 ^ (3 : Int).toNat * ((note.length : Int) + 2 ^ (8 : Int).toNat * (0 + 2 ^ (1 : Int).toNat * valOf (byteBits note ++ stored l)))) := by
    unfold plainBits
    rw [val_num_head _ w0 (by show w < 16; omega), val_num_head _ (by omega) (by decide), val_num_head _ (by omega) (by show (note.length : Int) < 256; omega)]
    rfl
  generalize hR : (2 * 3 + 2 ^ (3 : Int).toNat * ((note.length : Int) + 2 ^ (8 : Int).toNat * (0 + 2 ^ (1 : Int).toNat * valOf (byteBits note ++ stored l))) : Int) = R at *
  obtain ⟨e1, i1⟩ := drive_num i0 w R 4 (3 + 8 + 1 + 8 * note.length + ((stored l).length + 5)) (by show (0 : Int) ≠ 6; omega) (by show (0 : Int) ≠ 8; omega) (by show (0 : Int) ≤ 9; omega) rfl hv w0 (by show w < 16; omega) (by show ((plainBits w note l).length : Int) + 5 = _; rw [hlen]; omega) (by omega)
  have u1 : use { ({ initRd with hold := valOf (plainBits w note l), have_ := (plainBits w note l).length + 5 } : Rd) with hold := R, have_ := 3 + 8 + 1 + 8 * note.length + ((stored l).length + 5) } w = { initRd with hold := R, have_ := 3 + 8 + 1 + 8 * note.length + ((stored l).length + 5), window := 16 * 2 ^ w.toNat, part := 1 } := by
    show useWindow _ w = _
    unfold useWindow
    rw [if_neg (by omega)]
  rw [u1] at e1 i1
  have hs8 := stored_length l
  obtain ⟨t, t1, t2, t3, t4, t5, t6⟩ := head_read 3 _ i1 rfl note _ 8 _ (stored l) (Or.inr ⟨rfl, rfl, rfl, hn⟩) hR.symm rfl (by omega) (by omega)
  obtain ⟨r1, r2⟩ := stored_read l t hg t1 t3 t4 t5
  rw [e1, t2]
  refine ⟨?_, r2⟩
  rw [r1, t6, if_neg (by omega)]
  rfl

end Wr

namespace Wr
/-- the stream so far -/
def plainHead (w : Int) (note : List UInt8) : List Int := numBits w 4 ++ (numBits 6 3 ++ (numBits note.length 8 ++ ([0] ++ byteBits note)))
def soFar (w : Int) (note : List UInt8) (cs : List (List UInt8)) : List Int := plainHead w note ++ (cs.map blk).flatten

theorem stored_eq : ∀ l : List (List UInt8), stored l = (l.map blk).flatten ++ numBits 1 3
  | [] => rfl
  | c :: l => by
    show blk c ++ stored l = blk c ++ (l.map blk).flatten ++ numBits 1 3
    rw [stored_eq l, List.append_assoc]
theorem soFar_end (w : Int) (note : List UInt8) (cs : List (List UInt8)) : soFar w note cs ++ numBits 1 3 = plainBits w note cs := by
  unfold soFar plainHead plainBits
  rw [stored_eq]
  simp only [List.append_assoc]
theorem head_length (w : Int) (note : List UInt8) : (plainHead w note).length = 16 + 8 * note.length := by
  unfold plainHead
  simp only [List.length_append, numBits_length, byteBits_length, List.length_singleton]
  omega
theorem blks_length : ∀ cs : List (List UInt8), ((cs.map blk).flatten).length = 16 * cs.length + 8 * cs.flatten.length
  | [] => rfl
  | c :: l => by
    show (blk c ++ (l.map blk).flatten).length = 16 * (l.length + 1) + 8 * (c ++ l.flatten).length
    rw [List.length_append, blks_length l, blk_length, List.length_append]
    omega
theorem soFar_length (w : Int) (note : List UInt8) (cs : List (List UInt8)) : (soFar w note cs).length = 16 + 8 * note.length + 16 * cs.length + 8 * cs.flatten.length := by
  unfold soFar
  rw [List.length_append, head_length, blks_length]
  omega
theorem good_count : ∀ cs : List (List UInt8), good cs → cs.length ≤ cs.flatten.length
  | [], _ => Nat.le_refl _
  | c :: l, h => by
    have hc := (h c (List.mem_cons_self ..)).1
    have := List.length_pos_iff.2 hc
    have ih := good_count l (fun x hx => h x (List.mem_cons_of_mem _ hx))
    show l.length + 1 ≤ (c ++ l.flatten).length
    rw [List.length_append]
    omega
theorem soFar_more (w : Int) (note : List UInt8) (cs : List (List UInt8)) (c : List UInt8) : soFar w note (cs ++ [c]) = soFar w note cs ++ blk c := by
  unfold soFar
  rw [List.map_append, List.flatten_append, List.append_assoc]
  show _ ++ (_ ++ (blk c ++ [])) = _
  rw [List.append_nil]
theorem good_more {cs : List (List UInt8)} {c : List UInt8} (h : good cs) (h1 : c ≠ []) (h2 : c.length ≤ 4096) : good (cs ++ [c]) := by
  intro x hx
  rcases List.mem_append.1 hx with h' | h'
  · exact h x h'
  · rw [List.mem_singleton] at h'; subst h'; exact ⟨h1, h2⟩
theorem isBits_cat {a b : List Int} (ha : isBits a) (hb : isBits b) : isBits (a ++ b) := by
  intro x hx
  rcases List.mem_append.1 hx with h | h
  · exact ha x h
  · exact hb x h
theorem isBits_nought : isBits [0] := by
  intro b hb
  rw [List.mem_singleton] at hb
  exact Or.inl hb
theorem blk_bits (c : List UInt8) : isBits (blk c) := isBits_cat (numBits_isBits _ _) (isBits_cat (numBits_isBits _ _) (isBits_cat isBits_nought (byteBits_isBits c)))
theorem stored_bits : ∀ l : List (List UInt8), isBits (stored l)
  | [] => numBits_isBits _ _
  | c :: l => isBits_cat (blk_bits c) (stored_bits l)
theorem plain_bits (w : Int) (note : List UInt8) (cs : List (List UInt8)) : isBits (plainBits w note cs) :=
  isBits_cat (numBits_isBits _ _) (isBits_cat (numBits_isBits _ _) (isBits_cat (numBits_isBits _ _) (isBits_cat isBits_nought (isBits_cat (byteBits_isBits _) (stored_bits _)))))
end Wr

namespace Go.Proofs.Ytmjigodhncjfjaa
open Go.RowKit Wr

/-- what has come of the bits since byte t -/
def outFrom (L : List Int) (t : Nat) : List Int := (List.range (L.length / 8 - t)).map fun j => Wr.valOf L / 2 ^ (8 * (t + j)) % 256

theorem val_more (L : List Int) {v : Int} {n : Nat} (h0 : 0 ≤ v) (h1 : v < 2 ^ n) : Wr.valOf (L ++ numBits v n) = Wr.valOf L + 2 ^ L.length * v := by
  rw [valOf_append, valOf_num_lt h0 h1]
theorem byte_same (a : Int) (x : Int) (m k : Nat) (h : 8 * k + 8 ≤ m) : (a + 2 ^ m * x) / 2 ^ (8 * k) % 256 = a / 2 ^ (8 * k) % 256 := by
  have hp := pow_pos2 (8 * k)
  have e : (2 : Int) ^ m * x = (2 ^ (m - 8 * k - 8) * x * 256) * 2 ^ (8 * k) := by
    have e1 : (2 : Int) ^ m = 2 ^ (m - 8 * k - 8) * 256 * 2 ^ (8 * k) := by
      have : (256 : Int) = 2 ^ 8 := rfl
      rw [this, ← pow_add2, ← pow_add2, show m - 8 * k - 8 + 8 + 8 * k = m by omega]
    rw [e1]
    simp only [Int.mul_comm, Int.mul_left_comm]
  rw [e, Int.add_mul_ediv_right _ _ (by omega), Int.add_mul_emod_self_right]
theorem outFrom_more (L X : List Int) (t : Nat) (ht : t ≤ L.length / 8) : outFrom (L ++ X) t = outFrom L t ++ outFrom (L ++ X) (L.length / 8) := by
  unfold outFrom
  have hl : (L ++ X).length = L.length + X.length := List.length_append
  rw [show (L ++ X).length / 8 - t = (L.length / 8 - t) + ((L ++ X).length / 8 - L.length / 8) by omega, List.range_add, List.map_append, List.map_map]
  congr 1
  · refine List.map_congr_left fun j hj => ?_
    have hj' := List.mem_range.1 hj
    rw [valOf_append]
    exact byte_same _ _ _ _ (by omega)
  · refine List.map_congr_left fun j _ => ?_
    show Wr.valOf (L ++ X) / 2 ^ (8 * (t + (L.length / 8 - t + j))) % 256 = _
    rw [show t + (L.length / 8 - t + j) = L.length / 8 + j by omega]

structure Rel (s : Wt) (L : List Int) (P : List UInt8) (t : Nat) : Prop where
  bits : isBits L
  have_ : s.have_ = (L.length % 8 : Nat)
  hold : s.hold = Wr.valOf L / 2 ^ (8 * (L.length / 8))
  out : s.out = outFrom L t
  le : t ≤ L.length / 8
  count : s.count = P.length
  wait : ∀ i, i < P.length → s.wait i = ((P.getD i 0).toNat : Int)
  plen : P.length ≤ 4096

theorem Rel.bounds {s : Wt} {L : List Int} {P : List UInt8} {t : Nat} (h : Rel s L P t) : 0 ≤ s.have_ ∧ s.have_ < 8 ∧ 0 ≤ s.hold ∧ s.hold < 2 ^ (L.length % 8) ∧ s.hold < 256 ∧ s.out.length ≤ L.length / 8 := by
  have vb := valOf_bounds _ h.bits
  have hp := pow_pos2 (8 * (L.length / 8))
  have e : (2 : Int) ^ L.length = 2 ^ (L.length % 8) * 2 ^ (8 * (L.length / 8)) := by rw [← pow_add2, show L.length % 8 + 8 * (L.length / 8) = L.length by omega]
  have hb : Wr.valOf L / 2 ^ (8 * (L.length / 8)) < 2 ^ (L.length % 8) := Int.ediv_lt_of_lt_mul (by omega) (by rw [← e]; exact vb.2)
  have h8 : (2 : Int) ^ (L.length % 8) ≤ 2 ^ 7 := pow_mono (by omega)
  have h9 : (2 : Int) ^ 7 = 128 := rfl
  rw [h.have_, h.hold, h.out]
  refine ⟨by omega, by omega, Int.ediv_nonneg vb.1 (by omega), hb, by omega, ?_⟩
  unfold outFrom
  rw [List.length_map, List.length_range]
  omega

theorem Rel.num {s : Wt} {L : List Int} {P : List UInt8} {t : Nat} (h : Rel s L P t) {v : Int} {n : Nat} (h0 : 0 ≤ v) (h1 : v < 2 ^ n) : Rel (numP s v n) (L ++ numBits v n) P t := by
  have hV := val_more L h0 h1
  have hlen : (L ++ numBits v n).length = L.length + n := by rw [List.length_append, numBits_length]
  have hm : ((s.have_ + n) / 8).toNat = (L.length + n) / 8 - L.length / 8 := by rw [h.have_]; omega
  have hp := pow_pos2 (8 * (L.length / 8))
  have e : (2 : Int) ^ L.length = 2 ^ (8 * (L.length / 8)) * 2 ^ (L.length % 8) := by rw [← pow_add2, show 8 * (L.length / 8) + L.length % 8 = L.length by omega]
  have eh : s.hold + v * 2 ^ s.have_.toNat = Wr.valOf (L ++ numBits v n) / 2 ^ (8 * (L.length / 8)) := by
    rw [hV, e, Int.mul_assoc, Int.add_mul_ediv_left _ _ (by omega), h.hold, h.have_, Int.toNat_natCast, Int.mul_comm v]
  have dd : ∀ k : Nat, Wr.valOf (L ++ numBits v n) / 2 ^ (8 * (L.length / 8)) / 2 ^ (8 * k) = Wr.valOf (L ++ numBits v n) / 2 ^ (8 * (L.length / 8 + k)) := by
    intro k
    rw [Int.ediv_ediv_of_nonneg (by omega), ← pow_add2, show 8 * (L.length / 8) + 8 * k = 8 * (L.length / 8 + k) by omega]
  refine ⟨isBits_cat h.bits (numBits_isBits _ _), ?_, ?_, ?_, ?_, h.count, h.wait, h.plen⟩
  · show s.have_ + n - 8 * ((((s.have_ + n) / 8).toNat : Nat) : Int) = _
    rw [hm, hlen, h.have_]
    omega
  · show (s.hold + v * 2 ^ s.have_.toNat) / 2 ^ (8 * ((s.have_ + n) / 8).toNat) = _
    rw [eh, dd, hm, hlen, show L.length / 8 + ((L.length + n) / 8 - L.length / 8) = (L.length + n) / 8 by omega]
  · show s.out ++ (List.range ((s.have_ + n) / 8).toNat).map (fun i => (s.hold + v * 2 ^ s.have_.toNat) / 2 ^ (8 * i) % 256) = _
    rw [outFrom_more L _ t h.le, h.out, eh, hm]
    congr 1
    unfold outFrom
    rw [hlen]
    exact List.map_congr_left fun j _ => by rw [dd]
  · rw [hlen]
    have := h.le
    omega

/-- the writer lies in block b: bits L so far, P waits; t bytes were taken -/
def WR (w : World) (B b : Nat) (L : List Int) (P : List UInt8) (t : Nat) : Prop := ∃ s, WRep w B b s ∧ Rel s L P t
/-- at rest: all bytes were taken -/
def W0 (w : World) (b : Nat) (L : List Int) (P : List UInt8) : Prop := ∃ s, WRow w b s (.slice none 0 0) ∧ Rel s L P (L.length / 8)
theorem outFrom_all (L : List Int) : outFrom L (L.length / 8) = [] := by unfold outFrom; rw [Nat.sub_self]; rfl
theorem W0.wr {w : World} {b : Nat} {L : List Int} {P : List UInt8} (h : W0 w b L P) : WR w w.heap.size b L P (L.length / 8) := by
  obtain ⟨s, hr, hl⟩ := h
  refine ⟨s, ⟨hr.lt, Nat.le_refl _, _, hr, ?_⟩, hl⟩
  rw [hl.out, outFrom_all]
  exact World.ownsRow_nil _ _ _ _

def fillN (n : Nat) : Nat := (8 - n % 8) % 8
def padL (L : List Int) : List Int := L ++ numBits 0 (fillN L.length)

section
variable {w : World} {B b t : Nat} {L : List Int} {P : List UInt8}

theorem number_W (h : WR w B b L P t) (v : Int) (n : Nat) (h0 : 0 ≤ v) (h1 : v < 2 ^ n) (hn : n ≤ 12) (hL : L.length ≤ 1099511627776) :
    Calls Try.prog 57 #[.pointer (some ⟨b, 0, none⟩), .int .i64 v, .int .i64 n] w fun e w' => e = .returned (.tuple #[]) ∧ WR w' B b (L ++ numBits v n) P t ∧ Fr B b w w' := by
  obtain ⟨s, hR, hl⟩ := h
  have hb := hl.bounds
  have h2 : (2 : Int) ^ n ≤ 2 ^ 12 := pow_mono hn
  have h3 : (2 : Int) ^ 12 = 4096 := rfl
  refine (number_any hR v n hb.1 hb.2.1 hb.2.2.1 hb.2.2.2.2.1 h0 (by omega) (by omega) (by omega) (by omega)).mono ?_
  rintro e w' ⟨rfl, hR', hf⟩
  exact ⟨rfl, ⟨_, hR', hl.num h0 h1⟩, hf⟩
theorem fill_W (h : WR w B b L P t) (hL : L.length ≤ 1099511627776) :
    Calls Try.prog 71 #[.pointer (some ⟨b, 0, none⟩)] w fun e w' => e = .returned (.tuple #[]) ∧ WR w' B b (padL L) P t ∧ Fr B b w w' := by
  obtain ⟨s, hR, hl⟩ := h
  have hb := hl.bounds
  refine (wfill_any hR hb.1 hb.2.1 hb.2.2.1 hb.2.2.2.2.1 (by omega)).mono ?_
  rintro e w' ⟨rfl, hR', hf⟩
  refine ⟨rfl, ⟨_, hR', ?_⟩, hf⟩
  have hh := hl.have_
  unfold padL
  split
  · have e : (8 : Int) - s.have_ = (fillN L.length : Nat) := by unfold fillN; omega
    rw [e]
    exact hl.num (Int.le_refl _) (pow_pos2 _)
  · have e : fillN L.length = 0 := by unfold fillN; omega
    rw [e]
    show Rel s (L ++ []) P t
    rw [List.append_nil]
    exact hl
theorem take_W (h : WR w B b L P t) :
    Calls Try.prog 68 #[.pointer (some ⟨b, 0, none⟩)] w fun e w' => e = .returned (.string (outStr (outFrom L t))) ∧ W0 w' b L P ∧ Fr B b w w' := by
  obtain ⟨s, hR, hl⟩ := h
  refine (wtake_any hR).mono ?_
  rintro e w' ⟨rfl, hR', hf⟩
  rw [hl.out]
  exact ⟨rfl, ⟨_, hR', ⟨hl.bits, hl.have_, hl.hold, (outFrom_all L).symm, Nat.le_refl _, hl.count, hl.wait, hl.plen⟩⟩, hf⟩
end
end Go.Proofs.Ytmjigodhncjfjaa

namespace Go.Proofs.Ytmjigodhncjfjaa
open Go.RowKit Wr

def lastI (l : Bool) : Int := if l then 1 else 0
def headL (L : List Int) (l : Bool) (kind : Int) : List Int := L ++ numBits (lastI l) 1 ++ numBits kind 2
/-- a stored block -/
def blkL (L : List Int) (l : Bool) (P : List UInt8) : List Int := padL (headL L l 1 ++ numBits ((P.length : Int) - 1) 12) ++ byteBits P
def noteL (L : List Int) (P : List UInt8) : List Int := padL (headL L false 3 ++ numBits (P.length : Int) 8) ++ byteBits P
def emptyL (L : List Int) (l : Bool) : List Int := padL (headL L l 0)
theorem headL_length (L : List Int) (l : Bool) (kind : Int) : (headL L l kind).length = L.length + 3 := by
  unfold headL
  rw [List.length_append, List.length_append, numBits_length, numBits_length]
theorem padL_length (L : List Int) : (padL L).length = L.length + fillN L.length := by
  unfold padL
  rw [List.length_append, numBits_length]
theorem padL_whole (L : List Int) : (padL L).length % 8 = 0 := by
  rw [padL_length]
  unfold fillN
  omega
theorem padL_le (L : List Int) : (padL L).length ≤ L.length + 7 := by
  rw [padL_length]
  unfold fillN
  omega

section
variable {w : World} {B b t : Nat} {L : List Int} {P : List UInt8}

set_option maxHeartbeats 400000 in
theorem begin_W (h : WR w B b L P t) (l : Bool) (kind : Int) (h0 : 0 ≤ kind) (h3 : kind < 4) (hL : L.length ≤ 1000000000000) :
    Calls Try.prog 70 #[.pointer (some ⟨b, 0, none⟩), .int .i64 kind, .bool l] w fun e w' => e = .returned (.tuple #[]) ∧ WR w' B b (headL L l kind) P t ∧ Fr B b w w' := by
  have h1 := number_W h (lastI l) 1 (by cases l <;> decide) (by cases l <;> decide) (by omega) (by omega)
  have h2 := fun (W : World) (hW : WR W B b (L ++ numBits (lastI l) 1) P t) => number_W hW kind 2 h0 h3 (by omega) (by rw [List.length_append, numBits_length]; omega)
  unfold headL
  cases l
  all_goals
    go_enter Try.func70, Try.ntmps70
    go_wp2_with (first
      | (go_at_call_of 57 (Value.int .i64 2); refine (h2 _ hR1).mono ?_; rintro e w2 ⟨rfl, hR2, hfr2⟩)
      | (go_at_call 57; refine h1.mono ?_; rintro e w1 ⟨rfl, hR1, hfr1⟩))
    go_end0
    exact ⟨rfl, hR2, hfr1.trans hfr2⟩

theorem WR.drew (h : WR w B b L P t) : WR w.drew B b L P t := h
theorem WR.open (h : WR w B b L P t) : ∃ s v, WRow w b s v ∧ b < B ∧ B ≤ w.heap.size ∧ s.count = P.length ∧ s.have_ = (L.length % 8 : Nat) ∧ P.length ≤ 4096 ∧ (∀ i, i < P.length → s.wait i = ((P.getD i 0).toNat : Int)) := by
  obtain ⟨s, ⟨h1, h2, v, h3, _⟩, hl⟩ := h
  exact ⟨s, v, h3, h1, h2, hl.count, hl.have_, hl.plen, hl.wait⟩
theorem byteBits_take (P : List UInt8) (i : Nat) (h : i < P.length) : byteBits (P.take (i + 1)) = byteBits (P.take i) ++ numBits ((P.getD i 0).toNat : Int) 8 := by
  rw [List.take_add_one, byteBits_append, List.getD_eq_getElem?_getD, List.getElem?_eq_getElem h]
  show _ ++ (numBits _ 8 ++ []) = _
  rw [List.append_nil]
  rfl

theorem WR.empty (h : WR w B b L P t) : WR (w.setCell ⟨b, 4099, none⟩ (.int .i64 0)) B b L [] t := by
  obtain ⟨s, ⟨h1, h2, v, h3, h4⟩, hl⟩ := h
  have hon := (On.refl b w).set 4099 (.int .i64 0)
  exact ⟨{ s with count := 0 }, ⟨h1, Nat.le_trans h2 hon.size, v, h3.count 0, hon.owns h1 h4⟩, ⟨hl.bits, hl.have_, hl.hold, hl.out, hl.le, rfl, fun i hi => absurd hi (by simp), by simp⟩⟩

set_option maxRecDepth 100000 in
set_option maxHeartbeats 300000 in
theorem stored_W (h : WR w B b L P t) (l : Bool) (hP : P ≠ []) (hL : L.length ≤ 900000000000) :
    Calls Try.prog 67 #[.pointer (some ⟨b, 0, none⟩), .bool l] w fun e w' => e = .returned (.tuple #[]) ∧ WR w' B b (blkL L l P) [] t ∧ Fr B b w w' := by
  have hpos : 0 < P.length := List.length_pos_iff.2 hP
  have hpl : P.length ≤ 4096 := by obtain ⟨_, _, _, _, _, _, _, q, _⟩ := h.open; exact q
  have hH := headL_length L l 1
  have h1 := begin_W h l 1 (by omega) (by omega) (by omega)
  have h2 : ∀ (W : World), WR W B b (headL L l 1) P t → Calls Try.prog 57 #[.pointer (some ⟨b, 0, none⟩), .int .i64 ((P.length : Int) - 1), .int .i64 12] W fun e w' => e = .returned (.tuple #[]) ∧ WR w' B b (headL L l 1 ++ numBits ((P.length : Int) - 1) 12) P t ∧ Fr B b W w' := fun W hW => number_W hW ((P.length : Int) - 1) 12 (by omega) (by show (P.length : Int) - 1 < 4096; omega) (by omega) (by omega)
  have hH2 : (headL L l 1 ++ numBits ((P.length : Int) - 1) 12).length = L.length + 15 := by rw [List.length_append, numBits_length, hH]
  have h3 := fun (W : World) (hW : WR W B b (headL L l 1 ++ numBits ((P.length : Int) - 1) 12) P t) => fill_W hW (by omega)
  have hH3 := padL_le (headL L l 1 ++ numBits ((P.length : Int) - 1) 12)
  have HB : Hid (blkL L l P = padL (headL L l 1 ++ numBits ((P.length : Int) - 1) 12) ++ byteBits P) := rfl
  generalize padL (headL L l 1 ++ numBits ((P.length : Int) - 1) 12) = L3 at *
  generalize headL L l 1 ++ numBits ((P.length : Int) - 1) 12 = L2 at *
  generalize headL L l 1 = L1 at *
  obtain ⟨n, hn⟩ : ∃ n : Int, n = P.length := ⟨_, rfl⟩
  rw [← hn] at h2
  have HN : Hid (n = P.length) := hn
  have hn1 : 1 ≤ n ∧ n ≤ 4096 := by omega
  have hk : ∀ (W : World), WR W B b L1 P t → W.cell? ⟨b, 4099, none⟩ = some (.int .i64 n) := by
    intro W hW
    obtain ⟨s1, v1, r1, _, _, k1, _, _, _⟩ := hW.open
    have c1 := r1.c_count
    rw [k1, ← hn] at c1
    exact c1
  have hw : IntKind.i64.wrap (n - 1) = n - 1 := by rw [IntKind.wrap_i64]; omega
  clear hn hpos hP h hH
  go_enter Try.func67, Try.ntmps67
  go_wp2_with (first
    | (go_at_call 70; refine h1.mono ?_; rintro e w1 ⟨rfl, hR1, hfr1⟩; have c1 := hk _ hR1))
  clear hk
  go_region_with (go_at_call 57; refine (h2 _ hR1.drew).mono ?_; rintro e w2 ⟨rfl, hR2, hfr2⟩)
  clear c1 h1 h2
  go_wp2_with (first
    | (go_at_call 71; refine (h3 _ hR2).mono ?_; rintro e w3 ⟨rfl, hR3, hfr3⟩))
  have hF : Fr B b w w3 := (hfr1.drew.trans hfr2).trans hfr3
  clear hR1 hR2 hfr1 hfr2 hfr3 h3
  go_loopw [4] (fun vi wr => ∃ i : Nat, i ≤ P.length ∧ vi = .int .i64 i ∧ WR wr B b (L3 ++ byteBits (P.take i)) P t ∧ Fr B b w wr) (fun vi _ => P.length - (intOf vi).toNat)
  case atStart =>
    refine ⟨0, by omega, rfl, ?_, hF⟩
    show WR _ B b (L3 ++ []) P t
    rw [List.append_nil]
    exact hR3
  case round =>
    obtain ⟨i, hi, rfl, hRi, hfi⟩ := hrel
    clear hR3 hF
    obtain ⟨s1, v1, r1, hbB, hBw, k1, _, _, kw⟩ := hRi.open
    have c1 := r1.c_count
    rw [k1] at c1
    have hfz := r1.free
    by_cases hlt : i < P.length
    · have c2 := r1.c_wait i (by omega)
      rw [kw i hlt] at c2
      have cb := byte_bounds (P.getD i 0)
      have HT : Hid (L3 ++ byteBits (P.take (i + 1)) = L3 ++ byteBits (P.take i) ++ numBits ((P.getD i 0).toNat : Int) 8) := by rw [Hid, byteBits_take P i hlt, List.append_assoc]
      have hl4 : (byteBits (P.take i)).length ≤ 8 * 4096 := by rw [byteBits_length, List.length_take]; omega
      have hN : ∀ (W : World), WR W B b (L3 ++ byteBits (P.take i)) P t → Calls Try.prog 57 #[.pointer (some ⟨b, 0, none⟩), .int .i64 ((P.getD i 0).toNat : Int), .int .i64 8] W fun e w' => e = .returned (.tuple #[]) ∧ WR w' B b (L3 ++ byteBits (P.take i) ++ numBits ((P.getD i 0).toNat : Int) 8) P t ∧ Fr B b W w' := fun W hW => number_W hW _ 8 cb.1 (by show _ < (256 : Int); omega) (by omega) (by rw [List.length_append]; omega)
      clear kw r1 k1
      generalize ((P.getD i 0).toNat : Int) = c at *
      have hw2 : IntKind.i64.wrap c = c := by rw [IntKind.wrap_i64]; omega
      clear HB HN hw hL hH3 hl4
      go_wp2
      go_region_with (go_at_call 57; refine (hN _ hRi.drew).mono ?_; rintro e w4 ⟨rfl, hR4, hfr4⟩)
      go_wp2
      go_roundw
      case rel => exact ⟨i + 1, by omega, by go_num, by rw [HT.out]; exact hR4, hfi.drew.trans hfr4⟩
      case measure => simp [intOf]; omega
    · have hil : i = P.length := by omega
      have hR5 : WR wr B b (L3 ++ byteBits P) P t := by
        rw [hil, List.take_length] at hRi
        exact hRi
      have hR6 := hR5.empty
      rw [hil]
      clear hRi
      go_wp2
      go_end0
      rw [HB.out]
      exact ⟨rfl, hR6, hfi.set _ _⟩
end
end Go.Proofs.Ytmjigodhncjfjaa

namespace Go.Proofs.Ytmjigodhncjfjaa
open Go.RowKit Wr

def letL (L : List Int) (P : List UInt8) : List Int := if P = [] then L else blkL L false P
def flushL (L : List Int) (P : List UInt8) : List Int := if (letL L P).length % 8 = 0 then letL L P else emptyL (letL L P) false
def finL (L : List Int) (P : List UInt8) : List Int := padL (if P = [] then headL L true 0 else blkL L true P)
def addE (e : List Int × List UInt8) (c : UInt8) : List Int × List UInt8 := if 4096 ≤ e.2.length then (blkL e.1 false e.2, [c]) else (e.1, e.2 ++ [c])
def writeE (e : List Int × List UInt8) (l : List UInt8) : List Int × List UInt8 := l.foldl addE e
def phiE (e : List Int × List UInt8) : Nat := e.1.length + 8 * e.2.length

theorem blkL_length (L : List Int) (l : Bool) (P : List UInt8) : (blkL L l P).length ≤ L.length + 22 + 8 * P.length := by
  unfold blkL
  have h1 := padL_le (headL L l 1 ++ numBits ((P.length : Int) - 1) 12)
  have h2 := headL_length L l 1
  rw [List.length_append, numBits_length] at h1
  rw [List.length_append, byteBits_length]
  omega
theorem letL_length (L : List Int) (P : List UInt8) : (letL L P).length ≤ L.length + 22 + 8 * P.length := by
  unfold letL
  split
  · omega
  · exact blkL_length L false P
theorem addE_phi (e : List Int × List UInt8) (c : UInt8) : phiE (addE e c) ≤ phiE e + 30 := by
  unfold addE phiE
  split
  · have := blkL_length e.1 false e.2
    simp only [List.length_singleton]
    omega
  · simp only [List.length_append, List.length_singleton]
    omega
theorem writeE_phi : ∀ (l : List UInt8) (e : List Int × List UInt8), phiE (writeE e l) ≤ phiE e + 30 * l.length
  | [], e => by show phiE e ≤ _; simp
  | c :: l, e => by
    have h1 := addE_phi e c
    have h2 := writeE_phi l (addE e c)
    show phiE (writeE (addE e c) l) ≤ _
    rw [List.length_cons]
    omega

section
variable {w : World} {B b t : Nat} {L : List Int} {P : List UInt8}

theorem WR.push (h : WR w B b L P t) (c : UInt8) (hP : P.length < 4096) : WR ((w.setCell ⟨b, 3 + P.length, none⟩ (.int .u8 c.toNat)).setCell ⟨b, 4099, none⟩ (.int .i64 ((P.length : Int) + 1))) B b L (P ++ [c]) t := by
  obtain ⟨s, ⟨h1, h2, v, h3, h4⟩, hl⟩ := h
  have hon := ((On.refl b w).set (3 + P.length) (.int .u8 c.toNat)).set 4099 (.int .i64 ((P.length : Int) + 1))
  refine ⟨_, ⟨h1, Nat.le_trans h2 hon.size, v, (h3.wait P.length hP _).count _, hon.owns h1 h4⟩, ⟨hl.bits, hl.have_, hl.hold, hl.out, hl.le, ?_, ?_, ?_⟩⟩
  · show (P.length : Int) + 1 = _
    rw [List.length_append]; rfl
  · intro i hi
    rw [List.length_append, List.length_singleton] at hi
    show upd s.wait P.length (c.toNat : Int) i = _
    unfold upd
    rw [List.getD_eq_getElem?_getD]
    split
    · rename_i e
      subst e
      rw [List.getElem?_append_right (Nat.le_refl _), Nat.sub_self]
      rfl
    · rw [List.getElem?_append_left (by omega), ← List.getD_eq_getElem?_getD]
      exact hl.wait i (by omega)
  · rw [List.length_append, List.length_singleton]; omega

set_option maxHeartbeats 400000 in
theorem letOut_W (h : WR w B b L P t) (hL : L.length ≤ 900000000000) :
    Calls Try.prog 69 #[.pointer (some ⟨b, 0, none⟩)] w fun e w' => e = .returned (.tuple #[]) ∧ WR w' B b (letL L P) [] t ∧ Fr B b w w' := by
  obtain ⟨s1, v1, r1, hbB, hBw, k1, _, _, kw⟩ := h.open
  have c1 := r1.c_count
  rw [k1] at c1
  by_cases hP : P = []
  · have HL : Hid (letL L P = L) := by rw [Hid, letL, if_pos hP]
    subst hP
    have c2 : w.cell? ⟨b, 4099, none⟩ = some (.int .i64 0) := c1
    clear c1
    go_enter Try.func69, Try.ntmps69
    go_wp2
    go_end0
    rw [HL.out]
    exact ⟨rfl, h, Fr.refl _ _ _⟩
  · have HL : Hid (letL L P = blkL L false P) := by rw [Hid, letL, if_neg hP]
    have hpos : 0 < P.length := List.length_pos_iff.2 hP
    have hS := stored_W h false hP hL
    clear kw k1 hP
    go_enter Try.func69, Try.ntmps69
    go_wp2_with (go_at_call 67; refine hS.mono ?_; rintro e w1 ⟨rfl, hR1, hf1⟩)
    go_end0
    rw [HL.out]
    exact ⟨rfl, hR1, hf1⟩

set_option maxRecDepth 100000 in
set_option maxHeartbeats 1000000 in
theorem Write_W (h : W0 w b L P) (x : ByteArray) (hL : L.length + 8 * P.length + 30 * x.size ≤ 800000000000) :
    Calls Try.prog 58 #[.pointer (some ⟨b, 0, none⟩), .string x] w fun e w' => e = .returned (.string (outStr (outFrom (writeE (L, P) x.data.toList).1 (L.length / 8)))) ∧ W0 w' b (writeE (L, P) x.data.toList).1 (writeE (L, P) x.data.toList).2 ∧ On b w w' := by
  have h0 := h.wr
  go_enter Try.func58, Try.ntmps58
  go_wp2
  go_loopw [5] (fun vi wr => ∃ (k : Nat), k ≤ x.size ∧ vi = .int .i64 k ∧ WR wr w.heap.size b (writeE (L, P) (x.data.toList.take k)).1 (writeE (L, P) (x.data.toList.take k)).2 (L.length / 8) ∧ Fr w.heap.size b w wr) (fun vi _ => x.size - (intOf vi).toNat)
  case atStart => exact ⟨0, by omega, rfl, by rw [List.take_zero]; exact h0, Fr.refl _ _ _⟩
  case round =>
    obtain ⟨k, hk, rfl, hRk, hfk⟩ := hrel
    clear h0 h
    by_cases hlt : k < x.size
    · have hlen : k < x.data.toList.length := by simpa using hlt
      have HW : Hid (writeE (L, P) (x.data.toList.take (k + 1)) = addE (writeE (L, P) (x.data.toList.take k)) x[k]) := by
        rw [Hid, List.take_add_one, List.getElem?_eq_getElem hlen]
        unfold writeE
        rw [List.foldl_append]
        rfl
      have hphi := writeE_phi (x.data.toList.take k) (L, P)
      have hph2 : phiE (L, P) = L.length + 8 * P.length := rfl
      have hph3 : (x.data.toList.take k).length ≤ k := List.length_take_le _ _
      generalize writeE (L, P) (x.data.toList.take k) = e at *
      obtain ⟨L1, P1⟩ := e
      dsimp only at hRk
      have hph4 : phiE (L1, P1) = L1.length + 8 * P1.length := rfl
      obtain ⟨s1, v1, r1, hbB, hBw, k1, _, kp, _⟩ := hRk.open
      have c1 := r1.c_count
      rw [k1] at c1
      have hfz := r1.free
      by_cases hfull : 4096 ≤ P1.length
      · have hP1 : P1.length = 4096 := by omega
        have HA : Hid (addE (L1, P1) x[k] = (blkL L1 false P1, [] ++ [x[k]])) := by rw [Hid, addE, if_pos hfull]; rfl
        have hS := stored_W hRk false (fun q => by rw [q] at hP1; cases hP1) (by omega)
        rw [hP1] at c1
        have hU : ∀ W, WR W w.heap.size b (blkL L1 false P1) [] (L.length / 8) → W.cell? ⟨b, 4099, none⟩ = some (.int .i64 0) ∧ (∃ v, W.cell? ⟨b, 3, none⟩ = some v) ∧ ∀ o, W.frozen? ⟨b, o, none⟩ = false := by
          intro W hW
          obtain ⟨s2, v2, r2, _, _, k2, _, _, _⟩ := hW.open
          have c2 := r2.c_count
          rw [k2] at c2
          exact ⟨c2, ⟨_, r2.c_wait 0 (by omega)⟩, r2.free⟩
        clear r1 k1 kp hphi hph2 hph3 hph4
        go_wp2_with (first
          | (go_at_call 67; refine hS.mono ?_; rintro e w1 ⟨rfl, hR1, hf1⟩; obtain ⟨d1, ⟨v9, d2⟩, d3⟩ := hU _ hR1))
        clear hU hS c1
        have hpu := hR1.push x[k] (by decide)
        have hff := ((hfk.trans hf1).set 3 (.int .u8 (x[k].toNat : Int))).set 4099 (.int .i64 1)
        go_region
        go_wp2
        refine ⟨⟨k + 1, by omega, by go_num, ?_, hff.drew⟩, by simp [intOf]; omega⟩
        rw [HW.out, HA.out]
        exact hpu.drew
      · have HA : Hid (addE (L1, P1) x[k] = (L1, P1 ++ [x[k]])) := by rw [Hid, addE, if_neg hfull]
        have c2 := r1.c_wait P1.length (by omega)
        clear r1 k1 kp hphi hph2 hph3 hph4
        have hpu := hRk.push x[k] (by omega)
        have hff := (hfk.set (3 + P1.length) (.int .u8 (x[k].toNat : Int))).set 4099 (.int .i64 ((P1.length : Int) + 1))
        go_wp2
        go_region
        go_wp2
        refine ⟨⟨k + 1, by omega, by go_num, ?_, hff.drew⟩, by simp [intOf]; omega⟩
        rw [HW.out, HA.out]
        exact hpu.drew
    · have hkx : k = x.size := by omega
      have HE : Hid (x.data.toList.take k = x.data.toList) := by rw [Hid, hkx]; exact List.take_of_length_le (by simp)
      rw [HE.out] at hRk
      have hT := take_W hRk
      clear HE hRk
      go_wp2_with (first
        | (go_at_call 68; refine hT.mono ?_; rintro e w1 ⟨rfl, hR1, hf1⟩))
      go_ret
      have hf2 := hfk.trans hf1
      exact ⟨rfl, hR1, ⟨hf2.os, hf2.tape, hf2.output, hf2.size, hf2.block⟩⟩

set_option maxHeartbeats 400000 in
theorem Flush_W (h : W0 w b L P) (hL : L.length ≤ 800000000000) :
    Calls Try.prog 59 #[.pointer (some ⟨b, 0, none⟩)] w fun e w' => e = .returned (.string (outStr (outFrom (flushL L P) (L.length / 8)))) ∧ W0 w' b (flushL L P) [] ∧ On b w w' := by
  have h0 := h.wr
  have hpl : P.length ≤ 4096 := by obtain ⟨_, _, _, _, _, _, _, q, _⟩ := h0.open; exact q
  have h1 := letOut_W h0 (by omega)
  have hll := letL_length L P
  have HF : Hid (flushL L P = if (letL L P).length % 8 = 0 then letL L P else emptyL (letL L P) false) := rfl
  generalize letL L P = L1 at *
  have hc : ∀ W, WR W w.heap.size b L1 [] (L.length / 8) → W.cell? ⟨b, 2, none⟩ = some (.int .i64 (L1.length % 8 : Nat)) := by
    intro W hW
    obtain ⟨s1, v1, r1, _, _, _, k2, _, _⟩ := hW.open
    have c1 := r1.c_have
    rw [k2] at c1
    exact c1
  by_cases h8 : L1.length % 8 = 0
  · have HF2 : Hid (flushL L P = L1) := by rw [Hid, HF.out, if_pos h8]
    have h2 := fun W (hW : WR W w.heap.size b L1 [] (L.length / 8)) => take_W hW
    rw [h8] at hc
    clear HF h0
    go_enter Try.func59, Try.ntmps59
    go_wp2_with (first
      | (go_at_call 68; refine (h2 _ hR1).mono ?_; rintro e w2 ⟨rfl, hR2, hf2⟩)
      | (go_at_call 69; refine h1.mono ?_; rintro e w1 ⟨rfl, hR1, hf1⟩; have c1 := hc _ hR1))
    go_ret
    rw [HF2.out]
    have hf3 := hf1.trans hf2
    exact ⟨rfl, hR2, ⟨hf3.os, hf3.tape, hf3.output, hf3.size, hf3.block⟩⟩
  · have HF2 : Hid (flushL L P = padL (headL L1 false 0)) := by rw [Hid, HF.out, if_neg h8]; rfl
    have h2 := fun W (hW : WR W w.heap.size b L1 [] (L.length / 8)) => begin_W hW false 0 (by omega) (by omega) (by omega)
    have h3 := fun W (hW : WR W w.heap.size b (headL L1 false 0) [] (L.length / 8)) => fill_W hW (by rw [headL_length]; omega)
    have h4 := fun W (hW : WR W w.heap.size b (padL (headL L1 false 0)) [] (L.length / 8)) => take_W hW
    obtain ⟨r, hr⟩ : ∃ r : Int, r = (L1.length % 8 : Nat) := ⟨_, rfl⟩
    rw [← hr] at hc
    have hr0 : 0 < r := by omega
    have hr1 : r < 8 := by omega
    clear HF h0 hr h8
    go_enter Try.func59, Try.ntmps59
    go_wp2_with (first
      | (go_at_call 68; refine (h4 _ hR3).mono ?_; rintro e w4 ⟨rfl, hR4, hf4⟩)
      | (go_at_call 71; refine (h3 _ hR2).mono ?_; rintro e w3 ⟨rfl, hR3, hf3⟩)
      | (go_at_call 70; refine (h2 _ hR1).mono ?_; rintro e w2 ⟨rfl, hR2, hf2⟩)
      | (go_at_call 69; refine h1.mono ?_; rintro e w1 ⟨rfl, hR1, hf1⟩; have c1 := hc _ hR1))
    go_ret
    rw [HF2.out]
    have hf5 := ((hf1.trans hf2).trans hf3).trans hf4
    exact ⟨rfl, hR4, ⟨hf5.os, hf5.tape, hf5.output, hf5.size, hf5.block⟩⟩

set_option maxHeartbeats 400000 in
theorem Finish_W (h : W0 w b L P) (hL : L.length ≤ 800000000000) :
    Calls Try.prog 61 #[.pointer (some ⟨b, 0, none⟩)] w fun e w' => e = .returned (.string (outStr (outFrom (finL L P) (L.length / 8)))) ∧ On b w w' := by
  have h0 := h.wr
  obtain ⟨s1, v1, r1, hbB, hBw, k1, _, hpl, _⟩ := h0.open
  have c1 := r1.c_count
  rw [k1] at c1
  by_cases hP : P = []
  · have HF : Hid (finL L P = padL (headL L true 0)) := by rw [Hid, finL, if_pos hP]
    subst hP
    have c2 : w.cell? ⟨b, 4099, none⟩ = some (.int .i64 0) := c1
    have h1 := begin_W h0 true 0 (by omega) (by omega) (by omega)
    have h3 := fun W (hW : WR W w.heap.size b (headL L true 0) [] (L.length / 8)) => fill_W hW (by rw [headL_length]; omega)
    have h4 := fun W (hW : WR W w.heap.size b (padL (headL L true 0)) [] (L.length / 8)) => take_W hW
    clear c1 h0 k1
    go_enter Try.func61, Try.ntmps61
    go_wp2_with (first
      | (go_at_call 68; refine (h4 _ hR2).mono ?_; rintro e w3 ⟨rfl, hR3, hf3⟩)
      | (go_at_call 71; refine (h3 _ hR1).mono ?_; rintro e w2 ⟨rfl, hR2, hf2⟩)
      | (go_at_call 70; refine h1.mono ?_; rintro e w1 ⟨rfl, hR1, hf1⟩))
    go_ret
    rw [HF.out]
    have hf5 := (hf1.trans hf2).trans hf3
    exact ⟨rfl, ⟨hf5.os, hf5.tape, hf5.output, hf5.size, hf5.block⟩⟩
  · have HF : Hid (finL L P = padL (blkL L true P)) := by rw [Hid, finL, if_neg hP]
    have hpos : 0 < P.length := List.length_pos_iff.2 hP
    have h1 := stored_W h0 true hP (by omega)
    have hbl := blkL_length L true P
    have h3 := fun W (hW : WR W w.heap.size b (blkL L true P) [] (L.length / 8)) => fill_W hW (by omega)
    have h4 := fun W (hW : WR W w.heap.size b (padL (blkL L true P)) [] (L.length / 8)) => take_W hW
    clear h0 k1 hP
    go_enter Try.func61, Try.ntmps61
    go_wp2_with (first
      | (go_at_call 68; refine (h4 _ hR2).mono ?_; rintro e w3 ⟨rfl, hR3, hf3⟩)
      | (go_at_call 71; refine (h3 _ hR1).mono ?_; rintro e w2 ⟨rfl, hR2, hf2⟩)
      | (go_at_call 67; refine h1.mono ?_; rintro e w1 ⟨rfl, hR1, hf1⟩))
    go_ret
    rw [HF.out]
    have hf5 := (hf1.trans hf2).trans hf3
    exact ⟨rfl, ⟨hf5.os, hf5.tape, hf5.output, hf5.size, hf5.block⟩⟩
end
end Go.Proofs.Ytmjigodhncjfjaa

namespace Wr

theorem chunk_list (x : ByteArray) (p n : Nat) : ((x.extract p x.size).extract 0 n).data.toList = ((x.data.toList.drop p).take (x.size - p)).take n := by
  rw [Go.Lib.extract_data, Go.Lib.extract_data, List.drop_zero, Nat.sub_zero]
theorem chunk_list2 {x : ByteArray} {p n : Nat} (h : p + n ≤ x.size) : ((x.extract p x.size).extract 0 n).data.toList = (x.data.toList.drop p).take n := by
  rw [chunk_list, List.take_take, Nat.min_eq_left (by omega)]
theorem chunk_len {x : ByteArray} {p n : Nat} (h : p + n ≤ x.size) : ((x.extract p x.size).extract 0 n).data.toList.length = n := by
  rw [chunk_list2 h, List.length_take, List.length_drop]
  have : x.data.toList.length = x.size := by simp
  omega
theorem chunk_more {x : ByteArray} {p n : Nat} (h : p + n ≤ x.size) {cs : List (List UInt8)} (hf : cs.flatten = x.data.toList.take p) : (cs ++ [((x.extract p x.size).extract 0 n).data.toList]).flatten = x.data.toList.take (p + n) := by
  rw [List.flatten_append, hf, chunk_list2 h, List.take_add]
  simp
theorem tail_more {x : ByteArray} {p n m : Nat} (h : p + n ≤ x.size) (hm : m = x.size - p) : (x.extract p x.size).extract n m = x.extract (p + n) x.size := by
  rw [Go.Lib.extract_eq, Go.Lib.extract_data, Go.Lib.extract_eq, List.drop_take, List.drop_drop, List.take_take, hm]
  congr 3
  omega
theorem outStr_sz (l : List Int) : (outStr l).size = l.length := by
  have := congrArg List.length (outStr_list l)
  rw [List.length_map] at this
  rw [← this]
  simp
theorem str_back (x : ByteArray) : outStr (ints8 x.data.toList) = x := by
  have e : (outStr (ints8 x.data.toList)).data.toList = x.data.toList := by
    rw [outStr_list]
    unfold ints8
    rw [List.map_map]
    have : ∀ c : UInt8, ((fun n : Int => UInt8.ofNat n.toNat) ∘ fun c : UInt8 => (c.toNat : Int)) c = c := by
      intro c
      show UInt8.ofNat ((c.toNat : Int)).toNat = c
      rw [Int.toNat_natCast]
      exact UInt8.ofNat_toNat
    rw [show ((fun n : Int => UInt8.ofNat n.toNat) ∘ fun c : UInt8 => (c.toNat : Int)) = id from funext this, List.map_id]
  have := congrArg List.toArray e
  cases h : outStr (ints8 x.data.toList)
  rw [h] at this
  cases x
  simpa using this

theorem plain_dec (w : Int) (note : List UInt8) (cs : List (List UInt8)) (x S : ByteArray) (w0 : 0 ≤ w) (w8 : w ≤ 8) (hn : note.length ≤ 255) (hg : good cs) (hf : cs.flatten = x.data.toList) (hS : S.data.toList = bytesOf (valOf (plainBits w note cs)) (((plainBits w note cs).length + 7) / 8)) :
    outStr (feed initRd S.data.toList).out = x ∧ errno (feed initRd S.data.toList) = 0 := by
  obtain ⟨f1, f2⟩ := feed_full S.data.toList
  have hb := plain_bits w note cs
  have vb := valOf_bounds _ hb
  have hlen : (plainBits w note cs).length = 16 + 8 * note.length + 16 * cs.length + 8 * cs.flatten.length + 3 := by
    rw [← soFar_end, List.length_append, soFar_length, numBits_length]
  have h8 : ((8 * (((plainBits w note cs).length + 7) / 8) : Nat) : Int) = ((plainBits w note cs).length : Int) + 5 := by omega
  have hv : valOf (plainBits w note cs) < 2 ^ (8 * (((plainBits w note cs).length + 7) / 8)) := by
    rw [show 8 * (((plainBits w note cs).length + 7) / 8) = (plainBits w note cs).length + 5 by omega, pow_add2]
    have : (2 : Int) ^ 5 = 32 := rfl
    rw [this]
    have := vb.2
    omega
  obtain ⟨r1, r2⟩ := plain_read w note cs w0 w8 hn hg hb
  have e : full S.data.toList = drive { initRd with hold := valOf (plainBits w note cs), have_ := (plainBits w note cs).length + 5 } := by
    rw [hS, full_bytes _ _ vb.1 hv, ← h8]
    rfl
  rw [f1, f2, e, r1, r2, hf]
  exact ⟨str_back x, rfl⟩
end Wr

/- AN ENCODER's STREAM, READ. -/
namespace Go.Proofs.Ytmjigodhncjfjaa
open Go.RowKit Wr

/-- the bytes of a block, the last one too -/
theorem bytes2 : ∀ (c : List UInt8) (s : Rd) (rest : List Int) (m : Int), Inv s → s.part = 3 → s.left = c.length → c ≠ [] → s.hold = Wr.valOf (byteBits c ++ rest) → s.have_ = 8 * c.length + m → 0 ≤ m →
    ∃ u, Inv (endBlock u) ∧ drive s = drive (endBlock u) ∧ u.last = s.last ∧ u.hold = Wr.valOf rest ∧ u.have_ = m ∧ u.out = (if s.kind = 1 then s.out ++ ints8 c else s.out)
  | [], _, _, _, _, _, _, hc, _, _, _ => absurd rfl hc
  | c :: l, s, rest, m, hI, hp, hle, _, hh, hn, hm => by
    have hb := byte_bounds c
    rw [List.length_cons] at hle hn
    have hh2 : s.hold = (c.toNat : Int) + 2 ^ (8 : Int).toNat * Wr.valOf (byteBits l ++ rest) := by
      rw [hh]
      show Wr.valOf (numBits c.toNat 8 ++ byteBits l ++ rest) = _
      rw [List.append_assoc, val_num_head _ hb.1 (by show (c.toNat : Int) < 256; omega)]
      rfl
    have hw : width s = 8 := by unfold width; rw [if_neg (by omega), if_neg (by omega), if_neg (by omega), if_neg (by omega), if_neg (by omega)]
    obtain ⟨e1, i1⟩ := drive_num hI (c.toNat : Int) (Wr.valOf (byteBits l ++ rest)) 8 (8 * l.length + m) (by omega) (by omega) (by omega) hw hh2 hb.1 (by show (c.toNat : Int) < 256; omega) (by omega) (by omega)
    have eu : use { s with hold := Wr.valOf (byteBits l ++ rest), have_ := 8 * l.length + m } (c.toNat : Int) = useByte { s with hold := Wr.valOf (byteBits l ++ rest), have_ := 8 * l.length + m } (c.toNat : Int) := by
      unfold use
      rw [if_neg (show ¬ s.part = 0 by omega), if_neg (show ¬ s.part = 1 by omega), if_neg (show ¬ s.part = 2 by omega), if_pos (show s.part = 3 from hp)]
    rw [eu] at e1 i1
    obtain ⟨u, hu, hup, hula, hule, huh, hun, huk, huo⟩ : ∃ u : Rd, useByte { s with hold := Wr.valOf (byteBits l ++ rest), have_ := 8 * l.length + m } (c.toNat : Int) = (if u.left = 0 then endBlock u else u) ∧ u.part = 3 ∧ u.last = s.last ∧ u.left = l.length ∧ u.hold = Wr.valOf (byteBits l ++ rest) ∧ u.have_ = 8 * l.length + m ∧ u.kind = s.kind ∧ u.out = (if s.kind = 1 then s.out ++ [(c.toNat : Int)] else s.out) := by
      by_cases hk : s.kind = 1
      · refine ⟨put { s with hold := Wr.valOf (byteBits l ++ rest), have_ := 8 * l.length + m } (c.toNat : Int), ?_, hp, rfl, ?_, rfl, rfl, rfl, ?_⟩
        · unfold useByte
          rw [if_pos (show s.kind = 1 from hk)]
        · show s.left - 1 = _; omega
        · rw [if_pos hk]; rfl
      · refine ⟨{ s with hold := Wr.valOf (byteBits l ++ rest), have_ := 8 * l.length + m, left := s.left - 1 }, ?_, hp, rfl, ?_, rfl, rfl, rfl, ?_⟩
        · unfold useByte
          rw [if_neg (show ¬ s.kind = 1 from hk)]
        · show s.left - 1 = _; omega
        · rw [if_neg hk]
    rw [hu] at e1 i1
    by_cases hl : l = []
    · subst hl
      rw [if_pos (by rw [hule]; rfl)] at e1 i1
      refine ⟨u, i1, e1, hula, ?_, ?_, ?_⟩
      · rw [huh]; rfl
      · rw [hun, List.length_nil]; omega
      · rw [huo]; rfl
    · have hpos : 0 < l.length := List.length_pos_iff.2 hl
      rw [if_neg (by rw [hule]; omega)] at e1 i1
      obtain ⟨t, t1, t2, t3, t4, t5, t6⟩ := bytes2 l u rest m i1 hup hule hl huh hun hm
      refine ⟨t, t1, e1.trans t2, t3.trans hula, t4, t5, ?_⟩
      rw [t6, huk, huo]
      split
      · show s.out ++ [(c.toNat : Int)] ++ ints8 l = s.out ++ ((c.toNat : Int) :: ints8 l)
        rw [List.append_assoc]; rfl
      · rfl

/-- a block's head, the fill and its bytes -/
theorem head2 (l : Bool) (kind : Int) (s : Rd) (hI : Inv s) (hp : s.part = 1) (c : List UInt8) (z nb f m : Int) (rest : List Int)
    (hk : (kind = 1 ∧ nb = 12 ∧ z = (c.length : Int) - 1 ∧ c ≠ [] ∧ c.length ≤ 4096) ∨ (kind = 3 ∧ nb = 8 ∧ z = (c.length : Int) ∧ c.length ≤ 255))
    (hh : s.hold = (lastI l + 2 * kind) + 2 ^ (3 : Int).toNat * (z + 2 ^ nb.toNat * (0 + 2 ^ f.toNat * Wr.valOf (byteBits c ++ rest)))) (hn : s.have_ = 3 + nb + f + 8 * c.length + m) (m0 : 0 ≤ m) (hm8 : m % 8 = 0) (f0 : 0 ≤ f) (f8 : f < 8) :
    ∃ u, Inv (endBlock u) ∧ drive s = drive (endBlock u) ∧ u.last = l ∧ u.hold = Wr.valOf rest ∧ u.have_ = m ∧ u.out = (if kind = 1 then s.out ++ ints8 c else s.out) := by
  have hw1 : width s = 3 := by unfold width; rw [if_neg (by omega), if_pos hp]
  have hl : lastI l = 0 ∨ lastI l = 1 := by cases l <;> decide
  have hl2 : (lastI l == 1) = l := by cases l <;> rfl
  have hkb : 0 ≤ lastI l + 2 * kind ∧ lastI l + 2 * kind < 8 := by omega
  obtain ⟨e1, i1⟩ := drive_num hI (lastI l + 2 * kind) (z + 2 ^ nb.toNat * (0 + 2 ^ f.toNat * Wr.valOf (byteBits c ++ rest))) 3 (nb + f + 8 * c.length + m) (by omega) (by omega) (by omega) hw1 hh hkb.1 (by show lastI l + 2 * kind < 8; omega) (by omega) (by omega)
  have u1 : use { s with hold := z + 2 ^ nb.toNat * (0 + 2 ^ f.toNat * Wr.valOf (byteBits c ++ rest)), have_ := nb + f + 8 * c.length + m } (lastI l + 2 * kind) =
      { s with hold := z + 2 ^ nb.toNat * (0 + 2 ^ f.toNat * Wr.valOf (byteBits c ++ rest)), have_ := nb + f + 8 * c.length + m, last := l, kind := kind, part := 2 } := by
    unfold use
    rw [if_neg (show ¬ s.part = 0 by omega), if_pos (show s.part = 1 from hp)]
    unfold useBlock
    have e : (lastI l + 2 * kind) / 2 = kind := by omega
    have e2 : ((lastI l + 2 * kind) % 2 == 1) = l := by rw [show (lastI l + 2 * kind) % 2 = lastI l by omega]; exact hl2
    rw [e, e2]
    dsimp only
    rw [if_neg (by omega)]
  rw [u1] at e1 i1
  clear u1
  have hw2 : width { s with hold := z + 2 ^ nb.toNat * (0 + 2 ^ f.toNat * Wr.valOf (byteBits c ++ rest)), have_ := nb + f + 8 * c.length + m, last := l, kind := kind, part := 2 } = nb := by
    show (if kind = 3 then (8 : Int) else 12) = nb
    rcases hk with ⟨a, b, _⟩ | ⟨a, b, _⟩
    · rw [if_neg (by omega), b]
    · rw [if_pos a, b]
  have hz : 0 ≤ z ∧ z < 2 ^ nb.toNat := by
    rcases hk with ⟨a, b, d, e, f⟩ | ⟨a, b, d, f⟩
    · have : 0 < c.length := List.length_pos_iff.2 e
      rw [b]
      show 0 ≤ z ∧ z < 4096
      omega
    · rw [b]
      show 0 ≤ z ∧ z < 256
      omega
  obtain ⟨e2, i2⟩ := drive_num i1 z (0 + 2 ^ f.toNat * Wr.valOf (byteBits c ++ rest)) nb (f + 8 * c.length + m) (by show (2 : Int) ≠ 6; omega) (by show (2 : Int) ≠ 8; omega) (by show (2 : Int) ≤ 9; omega) hw2 rfl hz.1 hz.2 (by show nb + f + 8 * c.length + m = _; omega) (by omega)
  generalize hV : Wr.valOf (byteBits c ++ rest) = V at *
  have hpf := pow_pos2 f.toNat
  have u2 : use { s with hold := 0 + 2 ^ f.toNat * V, have_ := f + 8 * c.length + m, last := l, kind := kind, part := 2 } z =
      (if (c.length : Int) = 0 then endBlock ({ s with hold := V, have_ := 8 * c.length + m, last := l, kind := kind, part := 3, left := c.length } : Rd) else { s with hold := V, have_ := 8 * c.length + m, last := l, kind := kind, part := 3, left := c.length }) := by
    show useSize _ z = _
    unfold useSize
    rw [if_neg (show ¬ kind = 2 by omega)]
    have hleft : (if kind = 1 then z + 1 else z) = (c.length : Int) := by
      rcases hk with ⟨a, _, d, _⟩ | ⟨a, _, d, _⟩
      · rw [if_pos a]; omega
      · rw [if_neg (by omega)]; omega
    dsimp only
    rw [hleft]
    have hmod : (f + 8 * (c.length : Int) + m) % 8 = f := by omega
    have hf : fillOk { s with hold := 0 + 2 ^ f.toNat * V, have_ := f + 8 * c.length + m, last := l, kind := kind, part := 2, left := c.length } = true := by
      unfold fillOk
      dsimp only
      rw [hmod, Int.zero_add, Int.mul_emod_right]
      rfl
    have hft : fillTo { s with hold := 0 + 2 ^ f.toNat * V, have_ := f + 8 * c.length + m, last := l, kind := kind, part := 2, left := c.length } = { s with hold := V, have_ := 8 * c.length + m, last := l, kind := kind, part := 2, left := c.length } := by
      unfold fillTo
      rw [hf]
      dsimp only
      rw [hmod, Int.zero_add, Int.mul_ediv_cancel_left _ (by omega), show f + 8 * (c.length : Int) + m - f = 8 * c.length + m by omega]
      rfl
    rw [hf, hft]
    dsimp only
    rw [if_pos rfl]
  have e2' := e2
  have i2' := i2
  rw [u2] at e2' i2'
  clear e2 i2 u2
  by_cases h0 : (c.length : Int) = 0
  · have hc : c = [] := List.length_eq_zero_iff.1 (by omega)
    rw [if_pos h0] at e2' i2'
    refine ⟨_, i2', e1.trans e2', rfl, ?_, ?_, ?_⟩
    · show V = _; rw [← hV, hc]; rfl
    · show 8 * (c.length : Int) + m = m; omega
    · show s.out = _
      rcases hk with ⟨_, _, _, hne, _⟩ | ⟨a, _⟩
      · exact absurd hc hne
      · rw [if_neg (by omega)]
  · rw [if_neg h0] at e2' i2'
    have hne : c ≠ [] := fun e => h0 (by rw [e]; rfl)
    obtain ⟨t, t1, t2, t3, t4, t5, t6⟩ := bytes2 c _ rest m i2' rfl rfl hne hV.symm rfl m0
    exact ⟨t, t1, (e1.trans e2').trans t2, t3, t4, t5, t6⟩

theorem end_more {u : Rd} (h : u.last = false) : endBlock u = { u with part := 1 } := by unfold endBlock; rw [h]; rfl
theorem end_last {u : Rd} (h : u.last = true) (h0 : u.hold = 0) (h1 : u.have_ = 0) : drive (endBlock u) = endBlock u ∧ (endBlock u).out = u.out ∧ errnoBig (endBlock u) = 0 := by
  have hf : fillOk u = true := by unfold fillOk; rw [h0, h1]; rfl
  have e : endBlock u = { u with hold := 0, have_ := 0, part := 10 } := by
    unfold endBlock
    rw [if_pos h, if_pos hf]
    unfold fillTo
    rw [if_pos hf, h0, h1]
    rfl
  rw [e]
  exact ⟨drive_stop (Or.inl rfl), rfl, rfl⟩

/-- the reader over all these bits -/
def over (L : List Int) : Rd := { initRd with hold := Wr.valOf L, have_ := L.length }
theorem over_inv {L : List Int} (hb : isBits L) : Inv (over L) := by
  have vb := valOf_bounds _ hb
  have b := init_rest.1.1
  refine ⟨⟨vb.1, ?_, by show (0 : Int) ≤ (L.length : Int); omega, b.at0, b.at1, b.r0, b.r1, b.w1, b.near, b.l0, b.l1⟩, part_end (Or.inl ⟨rfl, rfl⟩)⟩
  show Wr.valOf L < 2 ^ (L.length : Int).toNat
  rw [Int.toNat_natCast]
  exact vb.2
/-- bits that are read as the beginning of a stream: a block is to begin behind them, and these bytes have come out -/
def Reads (L : List Int) (C : List UInt8) : Prop := isBits L ∧ ∀ R : List Int, isBits R → (L ++ R).length % 8 = 0 →
  ∃ t, Inv t ∧ t.part = 1 ∧ t.hold = Wr.valOf R ∧ t.have_ = R.length ∧ t.out = ints8 C ∧ drive (over (L ++ R)) = drive t

theorem reads_init (x : Int) (h0 : 0 ≤ x) (h8 : x ≤ 8) : Reads (numBits x 4) [] := by
  refine ⟨numBits_isBits _ _, fun R hR hlen => ?_⟩
  have hi := over_inv (isBits_cat (numBits_isBits x 4) hR)
  have hl : ((numBits x 4 ++ R).length : Int) = 4 + R.length := by rw [List.length_append, numBits_length]; omega
  have hv : Wr.valOf (numBits x 4 ++ R) = x + 2 ^ (4 : Int).toNat * Wr.valOf R := val_num_head R h0 (by show x < 16; omega)
  obtain ⟨e1, i1⟩ := drive_num hi x (Wr.valOf R) 4 R.length (by show (0 : Int) ≠ 6; omega) (by show (0 : Int) ≠ 8; omega) (by show (0 : Int) ≤ 9; omega) rfl hv h0 (by show x < 16; omega) hl (by omega)
  have u1 : use { over (numBits x 4 ++ R) with hold := Wr.valOf R, have_ := (R.length : Int) } x = { initRd with hold := Wr.valOf R, have_ := R.length, window := 16 * 2 ^ x.toNat, part := 1 } := by
    show useWindow _ x = _
    unfold useWindow
    rw [if_neg (by omega)]
    rfl
  rw [u1] at e1 i1
  exact ⟨_, i1, rfl, rfl, rfl, rfl, e1⟩

def tailL (l : Bool) (kind z : Int) (nb f : Nat) (P : List UInt8) (R : List Int) : List Int := numBits (lastI l) 1 ++ (numBits kind 2 ++ (numBits z nb ++ (numBits 0 f ++ (byteBits P ++ R))))
theorem blkL_eq (L : List Int) (l : Bool) (P : List UInt8) (R : List Int) : blkL L l P ++ R = L ++ tailL l 1 ((P.length : Int) - 1) 12 (fillN (L.length + 15)) P R := by
  have h : (headL L l 1 ++ numBits ((P.length : Int) - 1) 12).length = L.length + 15 := by rw [List.length_append, headL_length, numBits_length]
  unfold blkL padL tailL
  rw [h]
  unfold headL
  simp only [List.append_assoc]
theorem noteL_eq (L : List Int) (P : List UInt8) (R : List Int) : noteL L P ++ R = L ++ tailL false 3 (P.length : Int) 8 (fillN (L.length + 11)) P R := by
  have h : (headL L false 3 ++ numBits (P.length : Int) 8).length = L.length + 11 := by rw [List.length_append, headL_length, numBits_length]
  unfold noteL padL tailL
  rw [h]
  unfold headL
  simp only [List.append_assoc]
theorem emptyL_eq (L : List Int) (l : Bool) (R : List Int) : emptyL L l ++ R = L ++ (numBits (lastI l) 1 ++ (numBits 0 2 ++ (numBits 0 (fillN (L.length + 3)) ++ R))) := by
  unfold emptyL padL
  rw [headL_length]
  unfold headL
  simp only [List.append_assoc]
theorem tail_length (l : Bool) (kind z : Int) (nb f : Nat) (P : List UInt8) (R : List Int) : (tailL l kind z nb f P R).length = 3 + nb + f + 8 * P.length + R.length := by
  unfold tailL
  simp only [List.length_append, numBits_length, byteBits_length]
  omega
theorem tail_bits (l : Bool) (kind z : Int) (nb f : Nat) (P : List UInt8) {R : List Int} (h : isBits R) : isBits (tailL l kind z nb f P R) :=
  isBits_cat (numBits_isBits _ _) (isBits_cat (numBits_isBits _ _) (isBits_cat (numBits_isBits _ _) (isBits_cat (numBits_isBits _ _) (isBits_cat (byteBits_isBits _) h))))
theorem first_val (l : Bool) (kind : Int) (h0 : 0 ≤ kind) (h4 : kind < 4) (X : List Int) : Wr.valOf (numBits (lastI l) 1 ++ (numBits kind 2 ++ X)) = (lastI l + 2 * kind) + 2 ^ (3 : Int).toNat * Wr.valOf X := by
  have hl : 0 ≤ lastI l ∧ lastI l < 2 := by cases l <;> decide
  rw [val_num_head _ hl.1 (by show lastI l < 2; omega), val_num_head _ h0 (by show kind < 4; omega)]
  show lastI l + 2 * (kind + 4 * Wr.valOf X) = lastI l + 2 * kind + 8 * Wr.valOf X
  omega
theorem tail_val (l : Bool) (kind z : Int) (nb f : Nat) (P : List UInt8) (R : List Int) (h0 : 0 ≤ kind) (h4 : kind < 4) (z0 : 0 ≤ z) (z1 : z < 2 ^ nb) :
    Wr.valOf (tailL l kind z nb f P R) = (lastI l + 2 * kind) + 2 ^ (3 : Int).toNat * (z + 2 ^ (nb : Int).toNat * (0 + 2 ^ (f : Int).toNat * Wr.valOf (byteBits P ++ R))) := by
  unfold tailL
  rw [first_val l kind h0 h4, val_num_head _ z0 z1, val_num_head _ (Int.le_refl _) (pow_pos2 f)]
  rfl
theorem fillN_lt (n : Nat) : fillN n < 8 := by unfold fillN; omega
theorem fillN_add (n : Nat) : (n + fillN n) % 8 = 0 := by unfold fillN; omega

/-- a stored block, the last one too -/
theorem blk_reads {L : List Int} {C : List UInt8} (h : Reads L C) (l : Bool) (P : List UInt8) (hP : P ≠ []) (h4 : P.length ≤ 4096) (R : List Int) (hR : isBits R) (hlen : (blkL L l P ++ R).length % 8 = 0) :
    ∃ u, Inv (endBlock u) ∧ drive (over (blkL L l P ++ R)) = drive (endBlock u) ∧ u.last = l ∧ u.hold = Wr.valOf R ∧ u.have_ = R.length ∧ u.out = ints8 (C ++ P) := by
  rw [blkL_eq] at hlen ⊢
  have hpos : 0 < P.length := List.length_pos_iff.2 hP
  obtain ⟨t, t1, t2, t3, t4, t5, t6⟩ := h.2 _ (tail_bits l 1 ((P.length : Int) - 1) 12 (fillN (L.length + 15)) P hR) hlen
  have hfa := fillN_add (L.length + 15)
  have hfl := fillN_lt (L.length + 15)
  have htl := tail_length l 1 ((P.length : Int) - 1) 12 (fillN (L.length + 15)) P R
  rw [List.length_append, htl] at hlen
  rw [tail_val l 1 ((P.length : Int) - 1) 12 _ P R (by omega) (by omega) (by omega) (by show (P.length : Int) - 1 < 4096; omega)] at t3
  rw [htl] at t4
  obtain ⟨u, u1, u2, u3, u4, u5, u6⟩ := head2 l 1 t t1 t2 P ((P.length : Int) - 1) 12 (fillN (L.length + 15)) R.length R (Or.inl ⟨rfl, rfl, rfl, hP, h4⟩) t3 (by omega) (by omega) (by omega) (by omega) (by omega)
  refine ⟨u, u1, t6.trans u2, u3, u4, u5, ?_⟩
  rw [u6, if_pos rfl, t5]
  unfold ints8
  rw [List.map_append]
theorem note_reads {L : List Int} {C : List UInt8} (h : Reads L C) (P : List UInt8) (h4 : P.length ≤ 255) (R : List Int) (hR : isBits R) (hlen : (noteL L P ++ R).length % 8 = 0) :
    ∃ u, Inv (endBlock u) ∧ drive (over (noteL L P ++ R)) = drive (endBlock u) ∧ u.last = false ∧ u.hold = Wr.valOf R ∧ u.have_ = R.length ∧ u.out = ints8 C := by
  rw [noteL_eq] at hlen ⊢
  obtain ⟨t, t1, t2, t3, t4, t5, t6⟩ := h.2 _ (tail_bits false 3 (P.length : Int) 8 (fillN (L.length + 11)) P hR) hlen
  have hfa := fillN_add (L.length + 11)
  have hfl := fillN_lt (L.length + 11)
  have htl := tail_length false 3 (P.length : Int) 8 (fillN (L.length + 11)) P R
  rw [List.length_append, htl] at hlen
  rw [tail_val false 3 (P.length : Int) 8 _ P R (by omega) (by omega) (by omega) (by show (P.length : Int) < 256; omega)] at t3
  rw [htl] at t4
  obtain ⟨u, u1, u2, u3, u4, u5, u6⟩ := head2 false 3 t t1 t2 P (P.length : Int) 8 (fillN (L.length + 11)) R.length R (Or.inr ⟨rfl, rfl, rfl, h4⟩) t3 (by omega) (by omega) (by omega) (by omega) (by omega)
  refine ⟨u, u1, t6.trans u2, u3, u4, u5, ?_⟩
  rw [u6, if_neg (by omega), t5]
theorem empty_reads {L : List Int} {C : List UInt8} (h : Reads L C) (l : Bool) (R : List Int) (hR : isBits R) (hlen : (emptyL L l ++ R).length % 8 = 0) :
    ∃ u, Inv (endBlock u) ∧ drive (over (emptyL L l ++ R)) = drive (endBlock u) ∧ u.last = l ∧ u.hold = Wr.valOf R ∧ u.have_ = R.length ∧ u.out = ints8 C := by
  rw [emptyL_eq] at hlen ⊢
  have hb : isBits (numBits (lastI l) 1 ++ (numBits 0 2 ++ (numBits 0 (fillN (L.length + 3)) ++ R))) := isBits_cat (numBits_isBits _ _) (isBits_cat (numBits_isBits _ _) (isBits_cat (numBits_isBits _ _) hR))
  obtain ⟨t, t1, t2, t3, t4, t5, t6⟩ := h.2 _ hb hlen
  have hfa := fillN_add (L.length + 3)
  have hfl := fillN_lt (L.length + 3)
  have htl : (numBits (lastI l) 1 ++ (numBits 0 2 ++ (numBits 0 (fillN (L.length + 3)) ++ R))).length = 3 + fillN (L.length + 3) + R.length := by
    simp only [List.length_append, numBits_length]
    omega
  rw [List.length_append, htl] at hlen
  rw [first_val l 0 (by omega) (by omega), val_num_head _ (Int.le_refl _) (pow_pos2 _)] at t3
  rw [htl] at t4
  have hl : lastI l = 0 ∨ lastI l = 1 := by cases l <;> decide
  have hl2 : (lastI l == 1) = l := by cases l <;> rfl
  have hw1 : width t = 3 := by unfold width; rw [if_neg (by omega), if_pos t2]
  generalize hf : fillN (L.length + 3) = f at *
  obtain ⟨e1, i1⟩ := drive_num t1 (lastI l + 2 * 0) (0 + 2 ^ f * Wr.valOf R) 3 (f + R.length) (by omega) (by omega) (by omega) hw1 t3 (by omega) (by show lastI l + 2 * 0 < 8; omega) (by omega) (by omega)
  have hpf := pow_pos2 f
  have u1 : use { t with hold := 0 + 2 ^ f * Wr.valOf R, have_ := f + R.length } (lastI l + 2 * 0) = endBlock { t with hold := Wr.valOf R, have_ := R.length, last := l, kind := 0 } := by
    unfold use
    rw [if_neg (show ¬ t.part = 0 by omega), if_pos (show t.part = 1 from t2)]
    unfold useBlock
    have e : (lastI l + 2 * 0) / 2 = 0 := by omega
    have e2 : ((lastI l + 2 * 0) % 2 == 1) = l := by rw [show (lastI l + 2 * 0) % 2 = lastI l by omega]; exact hl2
    rw [e, e2]
    dsimp only
    rw [if_pos rfl]
    have hmod : ((f : Int) + (R.length : Int)) % 8 = f := by omega
    have hfk : fillOk { t with hold := 0 + 2 ^ f * Wr.valOf R, have_ := f + R.length, last := l, kind := 0 } = true := by
      unfold fillOk
      dsimp only
      rw [hmod, Int.toNat_natCast, Int.zero_add, Int.mul_emod_right]
      rfl
    have hft : fillTo { t with hold := 0 + 2 ^ f * Wr.valOf R, have_ := f + R.length, last := l, kind := 0 } = { t with hold := Wr.valOf R, have_ := R.length, last := l, kind := 0 } := by
      unfold fillTo
      rw [hfk]
      dsimp only
      rw [hmod, Int.toNat_natCast, Int.zero_add, Int.mul_ediv_cancel_left _ (by omega), show (f : Int) + (R.length : Int) - f = R.length by omega]
      rfl
    rw [hfk, hft]
    rfl
  rw [u1] at e1 i1
  exact ⟨_, i1, t6.trans e1, rfl, rfl, rfl, t5⟩

theorem reads_of {L' : List Int} {C' : List UInt8} (hb : isBits L') (h : ∀ R : List Int, isBits R → (L' ++ R).length % 8 = 0 → ∃ u, Inv (endBlock u) ∧ drive (over (L' ++ R)) = drive (endBlock u) ∧ u.last = false ∧ u.hold = Wr.valOf R ∧ u.have_ = R.length ∧ u.out = ints8 C') : Reads L' C' := by
  refine ⟨hb, fun R hR hlen => ?_⟩
  obtain ⟨u, u1, u2, u3, u4, u5, u6⟩ := h R hR hlen
  rw [end_more u3] at u1 u2
  exact ⟨_, u1, rfl, u4, u5, u6, u2⟩
theorem head_bits {L : List Int} (h : isBits L) (l : Bool) (k : Int) : isBits (headL L l k) := isBits_cat (isBits_cat h (numBits_isBits _ _)) (numBits_isBits _ _)
theorem pad_bits {L : List Int} (h : isBits L) : isBits (padL L) := isBits_cat h (numBits_isBits _ _)
theorem blkL_bits {L : List Int} (h : isBits L) (l : Bool) (P : List UInt8) : isBits (blkL L l P) := isBits_cat (pad_bits (isBits_cat (head_bits h _ _) (numBits_isBits _ _))) (byteBits_isBits _)
theorem reads_blk {L : List Int} {C : List UInt8} (h : Reads L C) (P : List UInt8) (hP : P ≠ []) (h4 : P.length ≤ 4096) : Reads (blkL L false P) (C ++ P) :=
  reads_of (blkL_bits h.1 _ _) (blk_reads h false P hP h4)
theorem reads_note {L : List Int} {C : List UInt8} (h : Reads L C) (P : List UInt8) (h4 : P.length ≤ 255) : Reads (noteL L P) C :=
  reads_of (isBits_cat (pad_bits (isBits_cat (head_bits h.1 _ _) (numBits_isBits _ _))) (byteBits_isBits _)) (note_reads h P h4)
theorem reads_empty {L : List Int} {C : List UInt8} (h : Reads L C) : Reads (emptyL L false) C :=
  reads_of (pad_bits (head_bits h.1 _ _)) (empty_reads h false)
end Go.Proofs.Ytmjigodhncjfjaa

namespace Go.Proofs.Ytmjigodhncjfjaa
open Go.RowKit Wr

/-- what was written: part of it lies in the bits, the rest waits -/
def EncInv (e : List Int × List UInt8) (S : List UInt8) : Prop := ∃ C, Reads e.1 C ∧ S = C ++ e.2 ∧ e.2.length ≤ 4096
theorem inv_init (x : Int) (h0 : 0 ≤ x) (h8 : x ≤ 8) : EncInv (numBits x 4, []) [] := ⟨[], reads_init x h0 h8, rfl, Nat.zero_le _⟩
theorem inv_add {e : List Int × List UInt8} {S : List UInt8} (h : EncInv e S) (c : UInt8) : EncInv (addE e c) (S ++ [c]) := by
  obtain ⟨C, h1, h2, h3⟩ := h
  unfold addE
  by_cases hf : 4096 ≤ e.2.length
  · rw [if_pos hf]
    refine ⟨C ++ e.2, reads_blk h1 e.2 (fun q => ?_) h3, by rw [h2], by simp⟩
    rw [q] at hf
    simp at hf
  · rw [if_neg hf]
    refine ⟨C, h1, by rw [h2, List.append_assoc], ?_⟩
    show (e.2 ++ [c]).length ≤ 4096
    rw [List.length_append, List.length_singleton]
    omega
theorem inv_write : ∀ (l : List UInt8) {e : List Int × List UInt8} {S : List UInt8}, EncInv e S → EncInv (writeE e l) (S ++ l)
  | [], e, S, h => by rw [List.append_nil]; exact h
  | c :: l, e, S, h => by
    have := inv_write l (inv_add h c)
    rw [List.append_assoc] at this
    exact this
theorem inv_let {L : List Int} {P S : List UInt8} (h : EncInv (L, P) S) : Reads (letL L P) S := by
  obtain ⟨C, h1, h2, h3⟩ := h
  unfold letL
  by_cases hP : P = []
  · rw [if_pos hP]
    rw [show S = C by rw [h2]; show C ++ P = C; rw [hP, List.append_nil]]
    exact h1
  · rw [if_neg hP, h2]
    exact reads_blk h1 P hP h3
theorem inv_note {L : List Int} {P S : List UInt8} (h : EncInv (L, P) S) (T : List UInt8) (hT : T.length ≤ 255) : EncInv (noteL (letL L P) T, []) S := ⟨S, reads_note (inv_let h) T hT, by rw [List.append_nil], Nat.zero_le _⟩
theorem inv_flush {L : List Int} {P S : List UInt8} (h : EncInv (L, P) S) : Reads (flushL L P) S ∧ (flushL L P).length % 8 = 0 := by
  unfold flushL
  by_cases h8 : (letL L P).length % 8 = 0
  · rw [if_pos h8]
    exact ⟨inv_let h, h8⟩
  · rw [if_neg h8]
    exact ⟨reads_empty (inv_let h), padL_whole _⟩
theorem inv_flushed {L : List Int} {P S : List UInt8} (h : EncInv (L, P) S) : EncInv (flushL L P, []) S := ⟨S, (inv_flush h).1, by rw [List.append_nil], Nat.zero_le _⟩
theorem pad_none {L : List Int} (h : L.length % 8 = 0) : padL L = L := by
  have e : fillN L.length = 0 := by unfold fillN; omega
  unfold padL
  rw [e]
  show L ++ [] = L
  rw [List.append_nil]
theorem blkL_whole (L : List Int) (l : Bool) (P : List UInt8) : (blkL L l P).length % 8 = 0 := by
  unfold blkL
  have := padL_whole (headL L l 1 ++ numBits ((P.length : Int) - 1) 12)
  rw [List.length_append, byteBits_length]
  omega
theorem finL_cases (L : List Int) (P : List UInt8) : finL L P = if P = [] then emptyL L true else blkL L true P := by
  unfold finL
  split
  · rfl
  · exact pad_none (blkL_whole _ _ _)
theorem finL_whole (L : List Int) (P : List UInt8) : (finL L P).length % 8 = 0 := padL_whole _
theorem bits_nil : isBits [] := fun b hb => by cases hb
theorem inv_fin {L : List Int} {P S : List UInt8} (h : EncInv (L, P) S) : isBits (finL L P) ∧ (drive (over (finL L P))).out = ints8 S ∧ errnoBig (drive (over (finL L P))) = 0 := by
  have hw := finL_whole L P
  obtain ⟨C, h1, h2, h3⟩ := h
  rw [finL_cases] at hw ⊢
  by_cases hP : P = []
  · rw [if_pos hP] at hw ⊢
    obtain ⟨u, u1, u2, u3, u4, u5, u6⟩ := empty_reads h1 true [] bits_nil (by rw [List.append_nil]; exact hw)
    rw [List.append_nil] at u2
    obtain ⟨e1, e2, e3⟩ := end_last u3 u4 u5
    rw [u2, e1, e2, u6]
    refine ⟨pad_bits (head_bits h1.1 _ _), ?_, e3⟩
    rw [show S = C by rw [h2]; show C ++ P = C; rw [hP, List.append_nil]]
  · rw [if_neg hP] at hw ⊢
    obtain ⟨u, u1, u2, u3, u4, u5, u6⟩ := blk_reads h1 true P hP h3 [] bits_nil (by rw [List.append_nil]; exact hw)
    rw [List.append_nil] at u2
    obtain ⟨e1, e2, e3⟩ := end_last u3 u4 u5
    rw [u2, e1, e2, u6, h2]
    exact ⟨blkL_bits h1.1 _ _, rfl, e3⟩

/- bytes -/
def Ext (L L' : List Int) : Prop := ∃ X, L' = L ++ X
theorem Ext.refl (L : List Int) : Ext L L := ⟨[], by rw [List.append_nil]⟩
theorem Ext.trans {a b c : List Int} (h : Ext a b) (k : Ext b c) : Ext a c := by
  obtain ⟨x, rfl⟩ := h
  obtain ⟨y, rfl⟩ := k
  exact ⟨x ++ y, List.append_assoc _ _ _⟩
theorem ext_more (L X : List Int) : Ext L (L ++ X) := ⟨X, rfl⟩
theorem ext_head (L : List Int) (l : Bool) (k : Int) : Ext L (headL L l k) := (ext_more _ _).trans (ext_more _ _)
theorem ext_pad (L : List Int) : Ext L (padL L) := ext_more _ _
theorem ext_blk (L : List Int) (l : Bool) (P : List UInt8) : Ext L (blkL L l P) := ((ext_head L l 1).trans (ext_more _ _)).trans ((ext_pad _).trans (ext_more _ _))
theorem ext_let (L : List Int) (P : List UInt8) : Ext L (letL L P) := by
  unfold letL
  split
  · exact Ext.refl L
  · exact ext_blk L false P
theorem ext_note (L : List Int) (P : List UInt8) : Ext L (noteL L P) := ((ext_head L false 3).trans (ext_more _ _)).trans ((ext_pad _).trans (ext_more _ _))
theorem ext_flush (L : List Int) (P : List UInt8) : Ext L (flushL L P) := by
  unfold flushL
  split
  · exact ext_let L P
  · exact (ext_let L P).trans ((ext_head _ _ _).trans (ext_pad _))
theorem ext_fin (L : List Int) (P : List UInt8) : Ext L (finL L P) := by
  unfold finL
  split
  · exact (ext_head L _ _).trans (ext_pad _)
  · exact (ext_blk L _ _).trans (ext_pad _)
theorem ext_add (e : List Int × List UInt8) (c : UInt8) : Ext e.1 (addE e c).1 := by
  unfold addE
  split
  · exact ext_blk _ _ _
  · exact Ext.refl _
theorem ext_write : ∀ (l : List UInt8) (e : List Int × List UInt8), Ext e.1 (writeE e l).1
  | [], _e => Ext.refl _
  | c :: l, e => (ext_add e c).trans (ext_write l (addE e c))

theorem bytes_ext {a b : ByteArray} (h : a.data.toList = b.data.toList) : a = b := by
  have := congrArg List.toArray h
  cases a
  cases b
  simpa using this
theorem outStr_cat (a b : List Int) : outStr (a ++ b) = outStr a ++ outStr b := by
  have h : (outStr (a ++ b)).data.toList = (outStr a ++ outStr b).data.toList := by
    rw [ByteArray.data_append, Array.toList_append, outStr_list, outStr_list, outStr_list, List.map_append]
  exact bytes_ext h
def bytesL (L : List Int) : ByteArray := outStr (outFrom L 0)
theorem bytesL_more {L L' : List Int} (h : Ext L L') : bytesL L ++ outStr (outFrom L' (L.length / 8)) = bytesL L' := by
  obtain ⟨X, rfl⟩ := h
  unfold bytesL
  rw [outFrom_more L X 0 (Nat.zero_le _), outStr_cat]
theorem bytesL_list (L : List Int) : (bytesL L).data.toList = bytesOf (Wr.valOf L) (L.length / 8) := by
  unfold bytesL outFrom
  rw [outStr_list, List.map_map, Nat.sub_zero]
  unfold bytesOf
  refine List.map_congr_left fun j _ => ?_
  show UInt8.ofNat (Wr.valOf L / 2 ^ (8 * (0 + j)) % 256).toNat = _
  rw [Nat.zero_add]
theorem bytesL_size (L : List Int) : (bytesL L).size = L.length / 8 := by
  unfold bytesL outFrom
  rw [outStr_sz, List.length_map, List.length_range, Nat.sub_zero]
theorem full_over {L : List Int} (hb : isBits L) (h8 : L.length % 8 = 0) : full (bytesL L).data.toList = drive (over L) := by
  have vb := valOf_bounds _ hb
  have e : 8 * (L.length / 8) = L.length := by omega
  rw [bytesL_list, full_bytes _ _ vb.1 (by rw [e]; exact vb.2)]
  have e2 : (8 : Int) * ((L.length / 8 : Nat) : Int) = (L.length : Int) := by omega
  rw [e2]
  rfl
/-- what is written comes back -/
theorem fin_back {L : List Int} {P : List UInt8} {S : ByteArray} (h : EncInv (L, P) S.data.toList) :
    outStr (feed initRd (bytesL (finL L P)).data.toList).out = S ∧ errno (feed initRd (bytesL (finL L P)).data.toList) = 0 := by
  obtain ⟨f1, f2⟩ := feed_full (bytesL (finL L P)).data.toList
  obtain ⟨b, o, v⟩ := inv_fin h
  rw [f1, f2, full_over b (finL_whole _ _), o, v]
  exact ⟨str_back S, rfl⟩
theorem finL_long (L : List Int) (P : List UInt8) : 0 < (bytesL (finL L P)).size := by
  rw [bytesL_size]
  have hw := finL_whole L P
  obtain ⟨X, hX⟩ := ext_fin L P
  have : 3 ≤ (finL L P).length := by
    rw [finL_cases]
    split
    · unfold emptyL; rw [padL_length, headL_length]; omega
    · unfold blkL; rw [List.length_append, padL_length, List.length_append, headL_length]; omega
  omega
end Go.Proofs.Ytmjigodhncjfjaa

/- AN ENCODER's STREAM, READ BY THE DOCUMENT. -/
namespace Go.Proofs.Ytmjigodhncjfjaa
open Go.RowKit Wr

/-- the document's reader at bit n -/
def atX (n : Nat) (w : Int) : Sr := ⟨n, 0, w⟩
/-- the text of these bits -/
structure TextOf (S : ByteArray) (M : List Int) : Prop where
  val : valB S.data.toList = Wr.valOf M
  len : 8 * S.size = M.length
theorem text_bytes {M : List Int} (hb : isBits M) (h8 : M.length % 8 = 0) : TextOf (bytesL M) M := by
  have vb := valOf_bounds _ hb
  have e : 8 * (M.length / 8) = M.length := by omega
  refine ⟨?_, ?_⟩
  · rw [bytesL_list, valB_bytes _ vb.1, e, Int.emod_eq_of_lt vb.1 vb.2]
  · rw [bytesL_size]; omega
theorem val_tail {L : List Int} (hb : isBits L) (X : List Int) : Wr.valOf (L ++ X) / 2 ^ L.length = Wr.valOf X := by
  have vb := valOf_bounds _ hb
  have hp := pow_pos2 L.length
  rw [valOf_append, Int.add_mul_ediv_left _ _ (by omega), Int.ediv_eq_zero_of_lt vb.1 vb.2]
  omega

section
variable {S : ByteArray} {L Y : List Int} {w : Int}
theorem rd_num {v : Int} {n : Nat} (h0 : 0 ≤ v) (h1 : v < 2 ^ n) (hL : isBits L) (h : TextOf S (L ++ (numBits v n ++ Y))) :
    numV S (atX L.length w) n = v ∧ numS S (atX L.length w) n = atX (L ++ numBits v n).length w ∧ TextOf S ((L ++ numBits v n) ++ Y) := by
  have hp := pow_pos2 n
  refine ⟨?_, ?_, ?_⟩
  · unfold numV atX
    rw [if_neg (fun q => q rfl)]
    dsimp only
    rw [h.val, val_tail hL, val_num_head _ h0 h1, Int.add_mul_emod_self_left, Int.emod_eq_of_lt h0 h1]
  · unfold numS atX
    have hl := h.len
    rw [List.length_append, List.length_append, numBits_length] at hl
    rw [if_neg (fun q => q rfl)]
    dsimp only
    rw [if_pos (by omega), List.length_append, numBits_length]
  · rw [List.append_assoc]; exact h
theorem rd_bit {v : Int} (h0 : 0 ≤ v) (h1 : v < 2) (hL : isBits L) (h : TextOf S (L ++ (numBits v 1 ++ Y))) :
    bitV S (atX L.length w) = v ∧ bitS S (atX L.length w) = atX (L ++ numBits v 1).length w ∧ TextOf S ((L ++ numBits v 1) ++ Y) := by
  obtain ⟨a, b, c⟩ := rd_num (n := 1) (w := w) h0 h1 hL h
  have hl := h.len
  rw [List.length_append, List.length_append, numBits_length] at hl
  refine ⟨?_, ?_, c⟩
  · rw [← a]
    unfold bitV numV atX
    dsimp only
    rw [if_neg (fun q => q rfl), if_neg (by omega), if_neg (fun q => q rfl)]
    rfl
  · unfold bitS atX
    rw [if_neg (fun q => q rfl)]
    dsimp only
    rw [if_neg (by omega), List.length_append, numBits_length]
theorem nums_zero (k : Nat) : numBits 0 (k + 1) = numBits 0 1 ++ numBits 0 k := by
  have e : ∀ n, numBits 0 n = List.replicate n 0 := fun n => by
    unfold numBits
    have : (fun i : Nat => (0 : Int) / 2 ^ i % 2) = fun _ => 0 := by funext i; rw [Int.zero_ediv]; rfl
    rw [this, List.map_const', List.length_range]
  rw [e, e, e]
  rfl
theorem rd_fill : ∀ (k : Nat) {L Y : List Int}, isBits L → TextOf S (L ++ (numBits 0 k ++ Y)) → fillK S k (atX L.length w) = atX (L ++ numBits 0 k).length w
  | 0, L, Y, _, _ => by
    show atX L.length w = atX (L ++ []).length w
    rw [List.append_nil]
  | k + 1, L, Y, hL, h => by
    rw [nums_zero, List.append_assoc] at h
    obtain ⟨a, b, c⟩ := rd_bit (w := w) (Int.le_refl 0) (by omega) hL h
    unfold fillK
    rw [if_neg (fun q => q rfl), a, b]
    have hn : needS (atX (L ++ numBits 0 1).length w) ((0 : Int) == 0) = atX (L ++ numBits 0 1).length w := by
      unfold needS
      rw [if_neg (fun q => by cases q.2)]
    rw [hn, rd_fill k (isBits_cat hL (numBits_isBits _ _)) c, nums_zero k, List.append_assoc]
theorem rd_bytes : ∀ (P : List UInt8) {L Y : List Int}, isBits L → TextOf S (L ++ (byteBits P ++ Y)) → bytesGo S P.length (atX L.length w) = (ints8 P, atX (L ++ byteBits P).length w)
  | [], L, Y, _, _ => by
    show (([] : List Int), atX L.length w) = ([], atX (L ++ []).length w)
    rw [List.append_nil]
  | c :: P, L, Y, hL, h => by
    have cb := byte_bounds c
    have hh : TextOf S (L ++ (numBits (c.toNat : Int) 8 ++ (byteBits P ++ Y))) := by
      have := h
      rw [show byteBits (c :: P) = numBits (c.toNat : Int) 8 ++ byteBits P from rfl, List.append_assoc] at this
      exact this
    obtain ⟨a, b, t⟩ := rd_num (w := w) cb.1 (show (c.toNat : Int) < 2 ^ 8 by show _ < (256 : Int); omega) hL hh
    have ih := rd_bytes P (isBits_cat hL (numBits_isBits _ _)) t
    show bytesGo S (P.length + 1) (atX L.length w) = _
    unfold bytesGo
    rw [if_neg (fun q => q rfl), a, b, if_neg (fun q => q rfl), ih]
    show ((c.toNat : Int) :: ints8 P, atX ((L ++ numBits (c.toNat : Int) 8) ++ byteBits P).length w) = (ints8 (c :: P), atX (L ++ byteBits (c :: P)).length w)
    rw [List.append_assoc]
    rfl
end

/-- bits that the document reads as the beginning of a stream -/
def farE : Nat → Int := fun j => if j < 4 then (j : Int) + 1 else 0
def drAt (n : Nat) (w : Int) (C : List UInt8) (N : List ByteArray) : Dr := ⟨atX n w, ints8 C, N, farE⟩
def DReads (L : List Int) (w : Int) (C : List UInt8) (N : List ByteArray) : Prop := isBits L ∧ ∀ (S : ByteArray) (R : List Int), TextOf S (L ++ R) →
  ∃ (g : Nat) (e : Bool), 8 * S.size + 2 ≤ g + L.length ∧ readGo S (8 * S.size + 2) false false (startD S) = readGo S g e false (drAt L.length w C N)

theorem dreads_init (x : Int) (h0 : 0 ≤ x) (h8 : x ≤ 8) : DReads (numBits x 4) x [] [] := by
  refine ⟨numBits_isBits _ _, fun S R h => ⟨8 * S.size + 2, false, by omega, ?_⟩⟩
  have hh : TextOf S ([] ++ (numBits x 4 ++ R)) := h
  obtain ⟨a, b, _⟩ := rd_num (w := -1) h0 (show x < 2 ^ 4 by show x < 16; omega) (bits_nil) hh
  have e0 : x0 = atX ([] : List Int).length (-1) := rfl
  have e1 : x1 S = atX 4 (-1) := by
    unfold x1
    rw [e0, a, b]
    show needS (atX (numBits x 4).length (-1)) _ = _
    rw [numBits_length]
    unfold needS
    rw [if_neg (fun q => by have := q.2; rw [decide_eq_false_iff_not] at this; omega)]
  have e2 : startD S = drAt 4 x [] [] := by
    unfold startD startX
    rw [e1, if_pos (show (atX 4 (-1)).state = 0 from rfl), e0, a]
    rfl
  rw [e2, numBits_length]

theorem dreads_of {L L' : List Int} {w : Int} {C C' : List UInt8} {N N' : List ByteArray} (h : DReads L w C N) (hb : isBits L') (hlen : L.length + 1 ≤ L'.length)
    (hx : ∃ X, L' = L ++ X) (hk : ∀ (S : ByteArray) (R : List Int), TextOf S (L' ++ R) → blockD S (drAt L.length w C N) = (false, drAt L'.length w C' N')) : DReads L' w C' N' := by
  obtain ⟨X, rfl⟩ := hx
  refine ⟨hb, fun S R ht => ?_⟩
  obtain ⟨g, e, h1, h2⟩ := h.2 S (X ++ R) (by rw [← List.append_assoc]; exact ht)
  have hl := ht.len
  rw [List.length_append] at hl
  match g, h1, h2 with
  | 0, h1, h2 => omega
  | g + 1, h1, h2 =>
    refine ⟨g, (drAt L.length w C N).x.at_ == 8 * S.size, by omega, ?_⟩
    rw [h2]
    show (if (drAt L.length w C N).x.state = 0 ∧ false = false then _ else _) = _
    rw [if_pos ⟨rfl, rfl⟩, hk S R ht]

/-- a block's head -/
theorem rd_head {S : ByteArray} {L Y : List Int} {w : Int} (l : Bool) {kind : Int} (h0 : 0 ≤ kind) (h4 : kind < 4) (hL : isBits L) (h : TextOf S (headL L l kind ++ Y)) :
    bitV S (atX L.length w) = lastI l ∧ numV S (bitS S (atX L.length w)) 2 = kind ∧ blockX S (atX L.length w) = atX (headL L l kind).length w := by
  have hl : 0 ≤ lastI l ∧ lastI l < 2 := by cases l <;> decide
  have h' : TextOf S (L ++ (numBits (lastI l) 1 ++ (numBits kind 2 ++ Y))) := by
    have := h
    unfold headL at this
    rw [List.append_assoc, List.append_assoc] at this
    exact this
  obtain ⟨a1, b1, c1⟩ := rd_bit (w := w) hl.1 hl.2 hL h'
  obtain ⟨a2, b2, c2⟩ := rd_num (w := w) h0 (show kind < 2 ^ 2 by show kind < 4; omega) (isBits_cat hL (numBits_isBits _ _)) c1
  unfold blockX
  rw [b1]
  exact ⟨a1, a2, b2⟩
theorem rd_pad {S : ByteArray} {M Y : List Int} {w : Int} (hM : isBits M) (h : TextOf S (padL M ++ Y)) : fillS S (atX M.length w) = atX (padL M).length w := by
  have h' : TextOf S (M ++ (numBits 0 (fillN M.length) ++ Y)) := by
    have := h
    unfold padL at this
    rw [List.append_assoc] at this
    exact this
  exact rd_fill (fillN M.length) hM h'
theorem lastI_beq (l : Bool) : (lastI l == 1) = l := by cases l <;> rfl

theorem block_stored {S : ByteArray} {L : List Int} {w : Int} {C : List UInt8} {N : List ByteArray} (l : Bool) (P : List UInt8) (hP : P ≠ []) (h4 : P.length ≤ 4096) (hL : isBits L) {R : List Int} (h : TextOf S (blkL L l P ++ R)) :
    blockD S (drAt L.length w C N) = (l, drAt (blkL L l P).length w (C ++ P) N) := by
  have hpos : 0 < P.length := List.length_pos_iff.2 hP
  have hH := head_bits hL l 1
  have h1 : TextOf S (headL L l 1 ++ (numBits ((P.length : Int) - 1) 12 ++ (numBits 0 (fillN (headL L l 1 ++ numBits ((P.length : Int) - 1) 12).length) ++ (byteBits P ++ R)))) := by
    have := h
    unfold blkL padL at this
    simp only [List.append_assoc] at this ⊢
    exact this
  obtain ⟨a1, a2, a3⟩ := rd_head (w := w) l (show (0 : Int) ≤ 1 by omega) (by omega) hL h1
  obtain ⟨b1, b2, b3⟩ := rd_num (w := w) (show 0 ≤ (P.length : Int) - 1 by omega) (show (P.length : Int) - 1 < 2 ^ 12 by show _ < (4096 : Int); omega) hH h1
  have hM : isBits (headL L l 1 ++ numBits ((P.length : Int) - 1) 12) := isBits_cat hH (numBits_isBits _ _)
  have h2 : TextOf S (padL (headL L l 1 ++ numBits ((P.length : Int) - 1) 12) ++ (byteBits P ++ R)) := by
    unfold padL
    rw [List.append_assoc]
    exact b3
  have c1 := rd_pad (w := w) hM h2
  have d1 := rd_bytes (w := w) P (pad_bits hM) h2
  have hs : storedR S (atX L.length w) = (ints8 P, atX (blkL L l P).length w) := by
    unfold storedR
    rw [a3, b1, b2, c1, show ((P.length : Int) - 1 + 1).toNat = P.length by omega, d1]
    rfl
  unfold blockD
  rw [show (drAt L.length w C N).x = atX L.length w from rfl, a3, if_neg (fun q => q rfl), a2, if_neg (by omega), if_pos rfl, a1, lastI_beq]
  show (l, ({ x := (storedR S (atX L.length w)).2, out := ints8 C ++ (storedR S (atX L.length w)).1, notes := N, far := farE } : Dr)) = _
  rw [hs]
  unfold drAt ints8
  rw [List.map_append]
theorem block_note {S : ByteArray} {L : List Int} {w : Int} {C : List UInt8} {N : List ByteArray} (T : ByteArray) (h4 : T.size ≤ 255) (hL : isBits L) {R : List Int} (h : TextOf S (noteL L T.data.toList ++ R)) :
    blockD S (drAt L.length w C N) = (false, drAt (noteL L T.data.toList).length w C (N ++ [T])) := by
  have hTs : T.data.toList.length = T.size := by simp
  have hH := head_bits hL false 3
  have h1 : TextOf S (headL L false 3 ++ (numBits (T.data.toList.length : Int) 8 ++ (numBits 0 (fillN (headL L false 3 ++ numBits (T.data.toList.length : Int) 8).length) ++ (byteBits T.data.toList ++ R)))) := by
    have := h
    unfold noteL padL at this
    simp only [List.append_assoc] at this ⊢
    exact this
  obtain ⟨a1, a2, a3⟩ := rd_head (w := w) false (show (0 : Int) ≤ 3 by omega) (by omega) hL h1
  obtain ⟨b1, b2, b3⟩ := rd_num (w := w) (show 0 ≤ (T.data.toList.length : Int) by omega) (show (T.data.toList.length : Int) < 2 ^ 8 by show _ < (256 : Int); omega) hH h1
  have hM : isBits (headL L false 3 ++ numBits (T.data.toList.length : Int) 8) := isBits_cat hH (numBits_isBits _ _)
  have h2 : TextOf S (padL (headL L false 3 ++ numBits (T.data.toList.length : Int) 8) ++ (byteBits T.data.toList ++ R)) := by
    unfold padL
    rw [List.append_assoc]
    exact b3
  have c1 := rd_pad (w := w) hM h2
  have d1 := rd_bytes (w := w) T.data.toList (pad_bits hM) h2
  have hs : noteR S (atX L.length w) = (ints8 T.data.toList, atX (noteL L T.data.toList).length w) := by
    unfold noteR
    rw [a3, b1, b2, c1, Int.toNat_natCast, d1]
    rfl
  unfold blockD
  rw [show (drAt L.length w C N).x = atX L.length w from rfl, a3, if_neg (fun q => q rfl), a2, if_neg (by omega), if_neg (by omega), if_neg (by omega), a1, lastI_beq]
  show (false, ({ x := (noteR S (atX L.length w)).2, out := ints8 C, notes := if (noteR S (atX L.length w)).2.state = 0 then N ++ [outStr (noteR S (atX L.length w)).1] else N, far := farE } : Dr)) = _
  rw [hs]
  show (false, ({ x := atX (noteL L T.data.toList).length w, out := ints8 C, notes := if (0 : Int) = 0 then N ++ [outStr (ints8 T.data.toList)] else N, far := farE } : Dr)) = _
  rw [if_pos rfl, str_back]
  rfl
theorem block_empty {S : ByteArray} {L : List Int} {w : Int} {C : List UInt8} {N : List ByteArray} (l : Bool) (hL : isBits L) {R : List Int} (h : TextOf S (emptyL L l ++ R)) :
    blockD S (drAt L.length w C N) = (l, drAt (if l then (headL L l 0).length else (emptyL L l).length) w C N) ∧ fillS S (atX (headL L l 0).length w) = atX (emptyL L l).length w := by
  have hH := head_bits hL l 0
  have h1 : TextOf S (headL L l 0 ++ (numBits 0 (fillN (headL L l 0).length) ++ R)) := by
    have := h
    unfold emptyL padL at this
    rw [List.append_assoc] at this
    exact this
  obtain ⟨a1, a2, a3⟩ := rd_head (w := w) l (show (0 : Int) ≤ 0 by omega) (by omega) hL h1
  have c1 := rd_pad (w := w) hH (show TextOf S (padL (headL L l 0) ++ R) from h)
  refine ⟨?_, c1⟩
  unfold blockD
  rw [show (drAt L.length w C N).x = atX L.length w from rfl, a3, if_neg (fun q => q rfl), a2, if_pos rfl, a1, lastI_beq]
  cases l
  · rw [if_pos (show lastI false = 0 from rfl), c1]
    rfl
  · rw [if_neg (show ¬ lastI true = 0 by decide)]
    rfl

theorem dreads_blk {L : List Int} {w : Int} {C : List UInt8} {N : List ByteArray} (h : DReads L w C N) (P : List UInt8) (hP : P ≠ []) (h4 : P.length ≤ 4096) : DReads (blkL L false P) w (C ++ P) N :=
  dreads_of h (blkL_bits h.1 _ _) (by unfold blkL; rw [List.length_append, padL_length, List.length_append, headL_length]; omega) (ext_blk L false P) (fun _ _ ht => block_stored false P hP h4 h.1 ht)
theorem dreads_note {L : List Int} {w : Int} {C : List UInt8} {N : List ByteArray} (h : DReads L w C N) (T : ByteArray) (h4 : T.size ≤ 255) : DReads (noteL L T.data.toList) w C (N ++ [T]) :=
  dreads_of h (isBits_cat (pad_bits (isBits_cat (head_bits h.1 _ _) (numBits_isBits _ _))) (byteBits_isBits _)) (by unfold noteL; rw [List.length_append, padL_length, List.length_append, headL_length]; omega) (ext_note L _) (fun _ _ ht => block_note T h4 h.1 ht)
theorem dreads_empty {L : List Int} {w : Int} {C : List UInt8} {N : List ByteArray} (h : DReads L w C N) : DReads (emptyL L false) w C N :=
  dreads_of h (pad_bits (head_bits h.1 _ _)) (by unfold emptyL; rw [padL_length, headL_length]; omega) ((ext_head L false 0).trans (ext_pad _)) (fun _ _ ht => (block_empty false h.1 ht).1)

/-- what was written, by the document -/
def DInv (e : List Int × List UInt8) (w : Int) (S : List UInt8) (N : List ByteArray) : Prop := ∃ C, DReads e.1 w C N ∧ S = C ++ e.2 ∧ e.2.length ≤ 4096
theorem dinv_init (x : Int) (h0 : 0 ≤ x) (h8 : x ≤ 8) : DInv (numBits x 4, []) x [] [] := ⟨[], dreads_init x h0 h8, rfl, Nat.zero_le _⟩
theorem dinv_add {e : List Int × List UInt8} {w : Int} {S : List UInt8} {N : List ByteArray} (h : DInv e w S N) (c : UInt8) : DInv (addE e c) w (S ++ [c]) N := by
  obtain ⟨C, h1, h2, h3⟩ := h
  unfold addE
  by_cases hf : 4096 ≤ e.2.length
  · rw [if_pos hf]
    refine ⟨C ++ e.2, dreads_blk h1 e.2 (fun q => ?_) h3, by rw [h2], by simp⟩
    rw [q] at hf
    simp at hf
  · rw [if_neg hf]
    refine ⟨C, h1, by rw [h2, List.append_assoc], ?_⟩
    show (e.2 ++ [c]).length ≤ 4096
    rw [List.length_append, List.length_singleton]
    omega
theorem dinv_write : ∀ (l : List UInt8) {e : List Int × List UInt8} {w : Int} {S : List UInt8} {N : List ByteArray}, DInv e w S N → DInv (writeE e l) w (S ++ l) N
  | [], e, w, S, N, h => by rw [List.append_nil]; exact h
  | c :: l, e, w, S, N, h => by
    have := dinv_write l (dinv_add h c)
    rw [List.append_assoc] at this
    exact this
theorem dinv_let {L : List Int} {P S : List UInt8} {w : Int} {N : List ByteArray} (h : DInv (L, P) w S N) : DReads (letL L P) w S N := by
  obtain ⟨C, h1, h2, h3⟩ := h
  unfold letL
  by_cases hP : P = []
  · rw [if_pos hP]
    rw [show S = C by rw [h2]; show C ++ P = C; rw [hP, List.append_nil]]
    exact h1
  · rw [if_neg hP, h2]
    exact dreads_blk h1 P hP h3
theorem dinv_note {L : List Int} {P S : List UInt8} {w : Int} {N : List ByteArray} (h : DInv (L, P) w S N) (T : ByteArray) (hT : T.size ≤ 255) : DInv (noteL (letL L P) T.data.toList, []) w S (N ++ [T]) := ⟨S, dreads_note (dinv_let h) T hT, by rw [List.append_nil], Nat.zero_le _⟩
theorem dinv_flush {L : List Int} {P S : List UInt8} {w : Int} {N : List ByteArray} (h : DInv (L, P) w S N) : DReads (flushL L P) w S N ∧ (flushL L P).length % 8 = 0 := by
  unfold flushL
  by_cases h8 : (letL L P).length % 8 = 0
  · rw [if_pos h8]
    exact ⟨dinv_let h, h8⟩
  · rw [if_neg h8]
    exact ⟨dreads_empty (dinv_let h), padL_whole _⟩
theorem dinv_flushed {L : List Int} {P S : List UInt8} {w : Int} {N : List ByteArray} (h : DInv (L, P) w S N) : DInv (flushL L P, []) w S N := ⟨S, (dinv_flush h).1, by rw [List.append_nil], Nat.zero_le _⟩

/-- behind a flush -/
theorem doc_flush {L : List Int} {P : List UInt8} {S : ByteArray} {w : Int} {N : List ByteArray} (h : DInv (L, P) w S.data.toList N) :
    outStr (readD (bytesL (flushL L P))).out = S ∧ (readD (bytesL (flushL L P))).x.w = w ∧ ((readR (bytesL (flushL L P))).1 && ((readD (bytesL (flushL L P))).x.state == 1)) = true := by
  obtain ⟨h1, h2⟩ := dinv_flush h
  generalize flushL L P = M at *
  have ht := text_bytes h1.1 h2
  obtain ⟨g, e, g1, g2⟩ := h1.2 (bytesL M) [] (by rw [List.append_nil]; exact ht)
  have hl := ht.len
  have hb : bitS (bytesL M) (atX M.length w) = ⟨M.length, 1, w⟩ := by
    unfold bitS atX
    dsimp only
    rw [if_neg (fun q => q rfl), if_pos (by omega)]
  have hx : blockX (bytesL M) (atX M.length w) = ⟨M.length, 1, w⟩ := by
    unfold blockX
    rw [hb]
    unfold numS
    rw [if_pos (show (1 : Int) ≠ 0 by omega)]
  have hbd : blockD (bytesL M) (drAt M.length w S.data.toList N) = (false, ⟨⟨M.length, 1, w⟩, ints8 S.data.toList, N, farE⟩) := by
    unfold blockD
    rw [show (drAt M.length w S.data.toList N).x = atX M.length w from rfl, hx, if_pos (show (1 : Int) ≠ 0 by omega)]
    rfl
  have hR : readR (bytesL M) = (true, ⟨⟨M.length, 1, w⟩, ints8 S.data.toList, N, farE⟩) := by
    unfold readR
    rw [g2]
    match g, g1 with
    | 0, g1 => omega
    | 1, g1 => omega
    | g + 2, g1 =>
      show (if (drAt M.length w S.data.toList N).x.state = 0 ∧ false = false then _ else _) = _
      rw [if_pos ⟨rfl, rfl⟩, hbd]
      show (if (1 : Int) = 0 ∧ false = false then _ else _) = _
      rw [if_neg (fun q => by have := q.1; omega)]
      show ((M.length == 8 * (bytesL M).size), _) = _
      rw [show (M.length == 8 * (bytesL M).size) = true by rw [beq_iff_eq]; omega]
  have hD : readD (bytesL M) = ⟨⟨M.length, 1, w⟩, ints8 S.data.toList, N, farE⟩ := by
    unfold readD
    rw [hR]
    have : fillS (bytesL M) ⟨M.length, 1, w⟩ = ⟨M.length, 1, w⟩ := fillK_stop _ _ (by show (1 : Int) ≠ 0; omega)
    dsimp only
    rw [this]
  rw [hD, hR]
  exact ⟨str_back S, rfl, rfl⟩
/-- at the end -/
theorem doc_fin {L : List Int} {P : List UInt8} {S : ByteArray} {w : Int} {N : List ByteArray} (h : DInv (L, P) w S.data.toList N) :
    outStr (readD (bytesL (finL L P))).out = S ∧ (readD (bytesL (finL L P))).x.w = w ∧ readV (bytesL (finL L P)) = 0 ∧ (readD (bytesL (finL L P))).notes = N := by
  obtain ⟨C, h1, h2, h3⟩ := h
  have h2' : S.data.toList = C ++ P := h2
  have hw := finL_whole L P
  have key : ∀ (n : Nat), isBits (finL L P) → Ext L (finL L P) → L.length + 1 ≤ (finL L P).length → blockD (bytesL (finL L P)) (drAt L.length w C N) = (true, drAt n w (C ++ P) N) → fillS (bytesL (finL L P)) (atX n w) = atX (finL L P).length w →
      outStr (readD (bytesL (finL L P))).out = S ∧ (readD (bytesL (finL L P))).x.w = w ∧ readV (bytesL (finL L P)) = 0 ∧ (readD (bytesL (finL L P))).notes = N := by
    intro n hb hx hle hbd hf
    generalize finL L P = M at *
    obtain ⟨X, rfl⟩ := hx
    have ht := text_bytes hb hw
    obtain ⟨g, e, g0, g2⟩ := h1.2 (bytesL (L ++ X)) X ht
    have g1 : 8 * (bytesL (L ++ X)).size + 2 ≤ g + L.length := g0
    clear g0
    have hl := ht.len
    have hR : (readR (bytesL (L ++ X))).2 = drAt n w (C ++ P) N := by
      unfold readR
      rw [g2]
      match g, g1 with
      | 0, g1 => omega
      | 1, g1 =>
        show (if (drAt L.length w C N).x.state = 0 ∧ false = false then _ else _ : Bool × Dr).2 = _
        rw [if_pos ⟨rfl, rfl⟩, hbd]
        rfl
      | g + 2, g1 =>
        show (if (drAt L.length w C N).x.state = 0 ∧ false = false then _ else _ : Bool × Dr).2 = _
        rw [if_pos ⟨rfl, rfl⟩, hbd]
        show (if (drAt n w (C ++ P) N).x.state = 0 ∧ true = false then _ else _ : Bool × Dr).2 = _
        rw [if_neg (fun q => by cases q.2)]
    have hD : readD (bytesL (L ++ X)) = drAt (L ++ X).length w (C ++ P) N := by
      unfold readD
      rw [hR]
      show ({ x := fillS (bytesL (L ++ X)) (atX n w), out := ints8 (C ++ P), notes := N, far := farE } : Dr) = _
      rw [hf]
      rfl
    have hV : readV (bytesL (L ++ X)) = 0 := by
      unfold readV
      rw [hD]
      rw [if_neg (fun q => by have h9 : (L ++ X).length < 8 * (bytesL (L ++ X)).size := q.2; omega)]
      rfl
    rw [hV, hD]
    refine ⟨?_, rfl, rfl, rfl⟩
    show outStr (ints8 (C ++ P)) = S
    rw [← h2']
    exact str_back S
  rw [finL_cases] at hw key ⊢
  by_cases hP : P = []
  · rw [if_pos hP] at hw key ⊢
    have hb : isBits (emptyL L true) := pad_bits (head_bits h1.1 _ _)
    have ht := text_bytes hb hw
    obtain ⟨b1, b2⟩ := block_empty (w := w) (C := C) (N := N) (R := []) true h1.1 (by rw [List.append_nil]; exact ht)
    rw [if_pos rfl] at b1
    rw [show C ++ P = C by rw [hP, List.append_nil]] at key
    exact key _ hb ((ext_head L true 0).trans (ext_pad _)) (by unfold emptyL; rw [padL_length, headL_length]; omega) b1 b2
  · rw [if_neg hP] at hw key ⊢
    have hb : isBits (blkL L true P) := blkL_bits h1.1 _ _
    have ht := text_bytes hb hw
    have b1 := block_stored (w := w) (C := C) (N := N) (R := []) true P hP h3 h1.1 (by rw [List.append_nil]; exact ht)
    refine key _ hb (ext_blk L true P) (by unfold blkL; rw [List.length_append, padL_length, List.length_append, headL_length]; omega) b1 ?_
    have hz : (8 - (blkL L true P).length % 8) % 8 = 0 := by omega
    show fillK (bytesL (blkL L true P)) ((8 - (blkL L true P).length % 8) % 8) _ = _
    rw [hz]
    rfl
end Go.Proofs.Ytmjigodhncjfjaa

namespace Go.Proofs.Ytmjigodhncjfjaa
open Go.RowKit Wr

section
variable {w : World} {B b t : Nat} {L : List Int} {P : List UInt8}

set_option maxRecDepth 100000 in
set_option maxHeartbeats 1000000 in
theorem Note_W (h : W0 w b L P) (x : ByteArray) (hx : x.size ≤ 255) (hL : L.length ≤ 800000000000) :
    Calls Try.prog 60 #[.pointer (some ⟨b, 0, none⟩), .string x] w fun e w' => e = .returned (.string (outStr (outFrom (noteL (letL L P) x.data.toList) (L.length / 8)))) ∧ W0 w' b (noteL (letL L P) x.data.toList) [] ∧ On b w w' := by
  have h0 := h.wr
  have hpl : P.length ≤ 4096 := by obtain ⟨_, _, _, _, _, _, _, q, _⟩ := h0.open; exact q
  have h1 := letOut_W h0 (by omega)
  have hll := letL_length L P
  have hxs : x.data.toList.length = x.size := by simp
  have HF : Hid (noteL (letL L P) x.data.toList = padL (headL (letL L P) false 3 ++ numBits (x.size : Int) 8) ++ byteBits x.data.toList) := by rw [Hid, ← hxs]; rfl
  generalize letL L P = L1 at *
  have hH := headL_length L1 false 3
  have h2 := fun W (hW : WR W w.heap.size b L1 [] (L.length / 8)) => begin_W hW false 3 (by omega) (by omega) (by omega)
  have h3 : ∀ W, WR W w.heap.size b (headL L1 false 3) [] (L.length / 8) → Calls Try.prog 57 #[.pointer (some ⟨b, 0, none⟩), .int .i64 (x.size : Int), .int .i64 8] W fun e w' => e = .returned (.tuple #[]) ∧ WR w' w.heap.size b (headL L1 false 3 ++ numBits (x.size : Int) 8) [] (L.length / 8) ∧ Fr w.heap.size b W w' := fun W hW => number_W hW (x.size : Int) 8 (by omega) (by show (x.size : Int) < 256; omega) (by omega) (by omega)
  have hH2 : (headL L1 false 3 ++ numBits (x.size : Int) 8).length = L1.length + 11 := by rw [List.length_append, numBits_length, hH]
  have h4 := fun W (hW : WR W w.heap.size b (headL L1 false 3 ++ numBits (x.size : Int) 8) [] (L.length / 8)) => fill_W hW (by omega)
  have hH3 := padL_le (headL L1 false 3 ++ numBits (x.size : Int) 8)
  generalize padL (headL L1 false 3 ++ numBits (x.size : Int) 8) = L3 at *
  generalize headL L1 false 3 ++ numBits (x.size : Int) 8 = L2 at *
  generalize headL L1 false 3 = LH at *
  have HS : Hid (x.data.toList.length = x.size) := hxs
  clear h0 h hH hxs
  go_enter Try.func60, Try.ntmps60
  go_wp2_with (first
    | (go_at_call 71; refine (h4 _ hR3).mono ?_; rintro e w4 ⟨rfl, hR4, hf4⟩)
    | (go_at_call 57; refine (h3 _ hR2).mono ?_; rintro e w3 ⟨rfl, hR3, hf3⟩)
    | (go_at_call 70; refine (h2 _ hR1).mono ?_; rintro e w2 ⟨rfl, hR2, hf2⟩)
    | (go_at_call 69; refine h1.mono ?_; rintro e w1 ⟨rfl, hR1, hf1⟩))
  have hF : Fr w.heap.size b w w4 := ((hf1.trans hf2).trans hf3).trans hf4
  clear hR1 hR2 hR3 hf1 hf2 hf3 hf4 h1 h2 h3 h4
  go_loopw [5] (fun vi wr => ∃ k : Nat, k ≤ x.size ∧ vi = .int .i64 k ∧ WR wr w.heap.size b (L3 ++ byteBits (x.data.toList.take k)) [] (L.length / 8) ∧ Fr w.heap.size b w wr) (fun vi _ => x.size - (intOf vi).toNat)
  case atStart =>
    refine ⟨0, by omega, rfl, ?_, hF⟩
    show WR _ w.heap.size b (L3 ++ []) [] _
    rw [List.append_nil]
    exact hR4
  case round =>
    obtain ⟨k, hk, rfl, hRk, hfk⟩ := hrel
    clear hR4 hF
    have hl4 : (byteBits (x.data.toList.take k)).length ≤ 8 * 255 := by
      have := HS.out
      rw [byteBits_length, List.length_take]; omega
    by_cases hlt : k < x.size
    · have hlen : k < x.data.toList.length := by simpa using hlt
      have cb := byte_bounds x[k]
      have HT : Hid (L3 ++ byteBits (x.data.toList.take (k + 1)) = L3 ++ byteBits (x.data.toList.take k) ++ numBits (x[k].toNat : Int) 8) := by
        rw [Hid, byteBits_take _ k hlen, List.append_assoc, List.getD_eq_getElem?_getD, List.getElem?_eq_getElem hlen]
        rfl
      have hN : ∀ (W : World), WR W w.heap.size b (L3 ++ byteBits (x.data.toList.take k)) [] (L.length / 8) → Calls Try.prog 57 #[.pointer (some ⟨b, 0, none⟩), .int .i64 (x[k].toNat : Int), .int .i64 8] W fun e w' => e = .returned (.tuple #[]) ∧ WR w' w.heap.size b (L3 ++ byteBits (x.data.toList.take k) ++ numBits (x[k].toNat : Int) 8) [] (L.length / 8) ∧ Fr w.heap.size b W w' := fun W hW => number_W hW _ 8 cb.1 (by show _ < (256 : Int); omega) (by omega) (by rw [List.length_append]; omega)
      have hw2 : IntKind.i64.wrap (x[k].toNat : Int) = (x[k].toNat : Int) := by rw [IntKind.wrap_i64]; omega
      clear HF hL hH3 hl4 hH2 hll
      go_wp2
      go_region_with (go_at_call 57; refine (hN _ hRk.drew).mono ?_; rintro e w5 ⟨rfl, hR5, hfr5⟩)
      go_wp2
      go_roundw
      case rel => exact ⟨k + 1, by omega, by go_num, by rw [HT.out]; exact hR5, hfk.drew.trans hfr5⟩
      case measure => simp [intOf]; omega
    · have hR5 : WR wr w.heap.size b (L3 ++ byteBits x.data.toList) [] (L.length / 8) := by
        rw [List.take_of_length_le (by have := HS.out; omega)] at hRk
        exact hRk
      have hT := take_W hR5
      clear hRk hR5
      go_wp2_with (first
        | (go_at_call 68; refine hT.mono ?_; rintro e w1 ⟨rfl, hR1, hf1⟩))
      go_ret
      rw [HF.out]
      have hf2 := hfk.trans hf1
      exact ⟨rfl, hR1, ⟨hf2.os, hf2.tape, hf2.output, hf2.size, hf2.block⟩⟩

/-- a number that makes no byte -/
theorem small_W {s : Wt} {v : Value} (hr : WRow w b s v) (x n : Int) (h1 : s.have_ = 0) (h3 : s.hold = 0) (h5 : 0 ≤ x) (h6 : x < 4096) (h7 : 0 ≤ n) (h8 : n ≤ 7) :
    Calls Try.prog 57 #[.pointer (some ⟨b, 0, none⟩), .int .i64 x, .int .i64 n] w fun e w' => e = .returned (.tuple #[]) ∧ WRow w' b { s with hold := x, have_ := n } v ∧ On b w w' := by
  have c0 := hr.c_hold
  have c1 := hr.c_have
  have hfz := hr.free
  rw [h3] at c0
  rw [h1] at c1
  clear h1 h3
  go_enter Try.func57, Try.ntmps57
  go_wp2
  go_region
  go_wp2
  go_loopg [] 0 (fun g wr => wr = ((w.setCell ⟨b, 1, none⟩ (.int .i64 x)).setCell ⟨b, 2, none⟩ (.int .i64 n)).drew)
  case atStart => rfl
  case round =>
    subst hrel
    go_wp2
    go_end0
    exact ⟨rfl, (hr.hold x).have_ n, (((On.refl b w).set _ _).set _ _).drew⟩
end

def initWt : Wt := ⟨[], 0, 0, fun _ => 0, 0⟩
def writerCells : Array Value := ((List.range 4100).map (wtCells initWt (.slice none 0 0))).toArray
theorem writer_cells : Try.zeroCells118 = writerCells := by kernel_rfl
theorem writerCells_size : writerCells.size = 4100 := by simp [writerCells]
theorem writer_row (w : World) : WRow (w.alloc (.cells writerCells 118)) w.heap.size initWt (.slice none 0 0) := by
  have h := World.rowIs_alloc w writerCells 118 (wtCells initWt (.slice none 0 0)) (fun i hi => by
    rw [writerCells_size] at hi
    unfold writerCells
    simp [hi])
  rw [writerCells_size] at h
  exact h
theorem rel_init (x : Int) (h0 : 0 ≤ x) (h8 : x ≤ 8) : Rel { initWt with hold := x, have_ := 4 } (numBits x 4) [] 0 := by
  have hv : Wr.valOf (numBits x 4) = x := valOf_num_lt h0 (by show x < 16; omega)
  have hl := numBits_length x 4
  refine ⟨numBits_isBits _ _, by rw [hl]; rfl, ?_, ?_, Nat.zero_le _, rfl, fun i hi => absurd hi (by simp), by simp⟩
  · rw [hl, hv]
    show x = x / 2 ^ 0
    rw [Int.pow_zero, Int.ediv_one]
  · unfold outFrom
    rw [hl]
    rfl

set_option maxRecDepth 100000 in
set_option maxHeartbeats 1000000 in
theorem wNew_any (w : World) (x : Int) (h0 : 0 ≤ x) (h8 : x ≤ 8) : Calls Try.prog 42 #[.int .i64 x] w fun e w' => ∃ b, e = .returned (.pointer (some ⟨b, 0, none⟩)) ∧ w.heap.size ≤ b ∧ W0 w' b (numBits x 4) [] ∧ Below w.heap.size w w' := by
  have hrow := writer_row w
  rw [← writer_cells] at hrow
  have hS := small_W hrow x 4 rfl rfl h0 (by omega) (by omega) (by omega)
  go_enter Try.func42, Try.ntmps42
  go_wp2_with (first
    | (go_at_call 57; refine hS.mono ?_; rintro e w1 ⟨rfl, hR1, hf1⟩))
  go_ret
  refine ⟨w.heap.size, rfl, Nat.le_refl _, ⟨_, hR1, ?_⟩, ?_⟩
  · rw [numBits_length]
    exact rel_init x h0 h8
  · have hsz : (w.alloc (.cells Try.zeroCells118 118)).heap.size = w.heap.size + 1 := by simp
    exact ⟨hf1.os, hf1.tape, hf1.output, by have := hf1.size; omega, fun k hk => (hf1.block k (by omega) (by omega)).trans (Below.heap_alloc _ _ _ hk)⟩
end Go.Proofs.Ytmjigodhncjfjaa

namespace Go.Proofs.Ytmjigodhncjfjaa
open Go.RowKit Wr

def EncAt (w : World) (q : Nat) (r : Option Nat) : Prop := w.rowIs q 91 1 (fun _ => .pointer (r.map fun b => ⟨b, 0, none⟩))
theorem On.encAt {b q : Nat} {w w' : World} {r : Option Nat} (h : On b w w') (hq : q ≠ b) (hd : EncAt w q r) : EncAt w' q r := World.rowIs.of_block hd (h.block q (World.rowIs.lt hd) hq)
theorem W0.lt {w : World} {b : Nat} {L : List Int} {P : List UInt8} (h : W0 w b L P) : b < w.heap.size := by
  obtain ⟨s, hr, _⟩ := h
  exact hr.lt
theorem W0.of_block {w w' : World} {b : Nat} {L : List Int} {P : List UInt8} (h : W0 w b L P) (e : w'.heap[b]? = w.heap[b]?) : W0 w' b L P := by
  obtain ⟨s, hr, hl⟩ := h
  exact ⟨s, hr.of_block e, hl⟩
theorem W0.alloc {w : World} {b : Nat} {L : List Int} {P : List UInt8} (h : W0 w b L P) (o : Obj) : W0 (w.alloc o) b L P := by
  obtain ⟨s, hr, hl⟩ := h
  exact ⟨s, hr.alloc o, hl⟩
theorem W0.plen {w : World} {b : Nat} {L : List Int} {P : List UInt8} (h : W0 w b L P) : P.length ≤ 4096 := by
  obtain ⟨s, hr, hl⟩ := h
  exact hl.plen
theorem W0.bits {w : World} {b : Nat} {L : List Int} {P : List UInt8} (h : W0 w b L P) : isBits L := by
  obtain ⟨s, hr, hl⟩ := h
  exact hl.bits

set_option maxHeartbeats 400000 in
theorem NewEncoder_good (w : World) (x l : Int) (h0 : 0 ≤ x) (h8 : x ≤ 8) (l0 : 0 ≤ l) (l2 : l ≤ 2) :
    Calls Try.prog 29 #[.int .i64 x, .int .i64 l] w fun e w' => ∃ q b, e = .returned (.tuple #[.pointer (some ⟨q, 0, none⟩), .int .i64 0]) ∧ w.heap.size ≤ b ∧ b < q ∧ W0 w' b (numBits x 4) [] ∧ EncAt w' q (some b) ∧ Below w.heap.size w w' := by
  have hN := fun W => wNew_any W x h0 h8
  go_enter Try.func29, Try.ntmps29
  go_wp2_with (first
    | (go_at_call 42; refine (hN _).mono ?_; rintro e w1 ⟨b, rfl, hb0, hr1, hb1⟩))
  go_ret2
  refine ⟨w1.heap.size, b, rfl, hb0, hr1.lt, hr1.alloc _, ?_, hb1.alloc hb1.size _⟩
  exact World.rowIs_alloc w1 _ 91 (fun _ => .pointer (some ⟨b, 0, none⟩)) (fun i hi => by
    match i, hi with
    | 0, _ => rfl)

set_option maxHeartbeats 400000 in
theorem NewEncoder_bad (w : World) (x l : Int) (h : ¬ (0 ≤ x ∧ x ≤ 8 ∧ 0 ≤ l ∧ l ≤ 2)) :
    Calls Try.prog 29 #[.int .i64 x, .int .i64 l] w fun e w' => e = .returned (.tuple #[.pointer none, .int .i64 4]) ∧ w' = w := by
  by_cases h1 : x < 0
  · go_enter Try.func29, Try.ntmps29
    go_wp2
    go_ret2
    exact ⟨rfl, rfl⟩
  by_cases h2 : 8 < x
  · go_enter Try.func29, Try.ntmps29
    go_wp2
    go_ret2
    exact ⟨rfl, rfl⟩
  by_cases h3 : l < 0
  · go_enter Try.func29, Try.ntmps29
    go_wp2
    go_ret2
    exact ⟨rfl, rfl⟩
  have h4 : 2 < l := by omega
  clear h
  go_enter Try.func29, Try.ntmps29
  go_wp2
  go_ret2
  exact ⟨rfl, rfl⟩

section
variable {w : World} {q b : Nat} {L : List Int} {P : List UInt8}

set_option maxHeartbeats 400000 in
theorem EncWrite_open (hd : EncAt w q (some b)) (h : W0 w b L P) (x : ByteArray) (hL : L.length + 8 * P.length + 30 * x.size ≤ 800000000000) :
    Calls Try.prog 43 #[.pointer (some ⟨q, 0, none⟩), .string x] w fun e w' => e = .returned (.tuple #[.string (outStr (outFrom (writeE (L, P) x.data.toList).1 (L.length / 8))), .int .i64 0]) ∧ W0 w' b (writeE (L, P) x.data.toList).1 (writeE (L, P) x.data.toList).2 ∧ On b w w' := by
  have c0 : w.cell? ⟨q, 0, none⟩ = some (.pointer (some ⟨b, 0, none⟩)) := World.rowIs.cell hd (by omega)
  have hW := Write_W h x hL
  generalize writeE (L, P) x.data.toList = r at *
  go_enter Try.func43, Try.ntmps43
  go_wp2_with (first
    | (go_at_call 58; refine hW.mono ?_; rintro e w1 ⟨rfl, hr1, hon1⟩))
  go_ret2
  exact ⟨rfl, hr1, hon1⟩

set_option maxHeartbeats 400000 in
theorem EncFlush_open (hd : EncAt w q (some b)) (h : W0 w b L P) (hL : L.length ≤ 800000000000) :
    Calls Try.prog 44 #[.pointer (some ⟨q, 0, none⟩)] w fun e w' => e = .returned (.tuple #[.string (outStr (outFrom (flushL L P) (L.length / 8))), .int .i64 0]) ∧ W0 w' b (flushL L P) [] ∧ On b w w' := by
  have c0 : w.cell? ⟨q, 0, none⟩ = some (.pointer (some ⟨b, 0, none⟩)) := World.rowIs.cell hd (by omega)
  have hW := Flush_W h hL
  generalize flushL L P = r at *
  go_enter Try.func44, Try.ntmps44
  go_wp2_with (first
    | (go_at_call 59; refine hW.mono ?_; rintro e w1 ⟨rfl, hr1, hon1⟩))
  go_ret2
  exact ⟨rfl, hr1, hon1⟩

set_option maxHeartbeats 400000 in
theorem EncNote_open (hd : EncAt w q (some b)) (h : W0 w b L P) (x : ByteArray) (hx : x.size ≤ 255) (hL : L.length ≤ 800000000000) :
    Calls Try.prog 45 #[.pointer (some ⟨q, 0, none⟩), .string x] w fun e w' => e = .returned (.tuple #[.string (outStr (outFrom (noteL (letL L P) x.data.toList) (L.length / 8))), .int .i64 0]) ∧ W0 w' b (noteL (letL L P) x.data.toList) [] ∧ On b w w' := by
  have c0 : w.cell? ⟨q, 0, none⟩ = some (.pointer (some ⟨b, 0, none⟩)) := World.rowIs.cell hd (by omega)
  have hW := Note_W h x hx hL
  generalize noteL (letL L P) x.data.toList = r at *
  go_enter Try.func45, Try.ntmps45
  go_wp2_with (first
    | (go_at_call 60; refine hW.mono ?_; rintro e w1 ⟨rfl, hr1, hon1⟩))
  go_ret2
  exact ⟨rfl, hr1, hon1⟩

set_option maxHeartbeats 400000 in
theorem EncNote_long (hd : EncAt w q (some b)) (x : ByteArray) (hx : 255 < x.size) :
    Calls Try.prog 45 #[.pointer (some ⟨q, 0, none⟩), .string x] w fun e w' => e = .returned (.tuple #[.string ByteArray.empty, .int .i64 5]) ∧ w' = w := by
  have c0 : w.cell? ⟨q, 0, none⟩ = some (.pointer (some ⟨b, 0, none⟩)) := World.rowIs.cell hd (by omega)
  go_enter Try.func45, Try.ntmps45
  go_wp2
  go_ret2
  exact ⟨rfl, rfl⟩

set_option maxHeartbeats 400000 in
theorem EncFinish_open (hd : EncAt w q (some b)) (hqb : q ≠ b) (h : W0 w b L P) (hL : L.length ≤ 800000000000) :
    Calls Try.prog 46 #[.pointer (some ⟨q, 0, none⟩)] w fun e w' => e = .returned (.tuple #[.string (outStr (outFrom (finL L P) (L.length / 8))), .int .i64 0]) ∧ EncAt w' q none ∧ ∃ w1, On b w w1 ∧ On q w1 w' := by
  have c0 : w.cell? ⟨q, 0, none⟩ = some (.pointer (some ⟨b, 0, none⟩)) := World.rowIs.cell hd (by omega)
  have hW := Finish_W h hL
  generalize finL L P = r at *
  go_enter Try.func46, Try.ntmps46
  go_wp2_with (first
    | (go_at_call 61; refine hW.mono ?_; rintro e w1 ⟨rfl, hon1⟩; have hd1 := hon1.encAt hqb hd; have c1 : w1.cell? ⟨q, 0, none⟩ = some (.pointer (some ⟨b, 0, none⟩)) := World.rowIs.cell hd1 (by omega); have hfz := World.rowIs.frozen hd1))
  go_ret2
  refine ⟨rfl, ?_, w1, hon1, (On.refl q w1).set _ _⟩
  refine (World.rowIs.set hd1 0 (.pointer none)).congr fun i hi => ?_
  match i, hi with
  | 0, _ => rfl

set_option maxHeartbeats 400000 in
theorem EncWrite_done (hd : EncAt w q none) (x : ByteArray) : Calls Try.prog 43 #[.pointer (some ⟨q, 0, none⟩), .string x] w fun e w' => e = .returned (.tuple #[.string ByteArray.empty, .int .i64 6]) ∧ w' = w := by
  have c0 : w.cell? ⟨q, 0, none⟩ = some (.pointer none) := World.rowIs.cell hd (by omega)
  go_enter Try.func43, Try.ntmps43
  go_wp2
  go_ret2
  exact ⟨rfl, rfl⟩
set_option maxHeartbeats 400000 in
theorem EncNote_done (hd : EncAt w q none) (x : ByteArray) : Calls Try.prog 45 #[.pointer (some ⟨q, 0, none⟩), .string x] w fun e w' => e = .returned (.tuple #[.string ByteArray.empty, .int .i64 6]) ∧ w' = w := by
  have c0 : w.cell? ⟨q, 0, none⟩ = some (.pointer none) := World.rowIs.cell hd (by omega)
  go_enter Try.func45, Try.ntmps45
  go_wp2
  go_ret2
  exact ⟨rfl, rfl⟩
set_option maxHeartbeats 400000 in
theorem EncFlush_done (hd : EncAt w q none) : Calls Try.prog 44 #[.pointer (some ⟨q, 0, none⟩)] w fun e w' => e = .returned (.tuple #[.string ByteArray.empty, .int .i64 6]) ∧ w' = w := by
  have c0 : w.cell? ⟨q, 0, none⟩ = some (.pointer none) := World.rowIs.cell hd (by omega)
  go_enter Try.func44, Try.ntmps44
  go_wp2
  go_ret2
  exact ⟨rfl, rfl⟩
set_option maxHeartbeats 400000 in
theorem EncFinish_done (hd : EncAt w q none) : Calls Try.prog 46 #[.pointer (some ⟨q, 0, none⟩)] w fun e w' => e = .returned (.tuple #[.string ByteArray.empty, .int .i64 6]) ∧ w' = w := by
  have c0 : w.cell? ⟨q, 0, none⟩ = some (.pointer none) := World.rowIs.cell hd (by omega)
  go_enter Try.func46, Try.ntmps46
  go_wp2
  go_ret2
  exact ⟨rfl, rfl⟩
end
end Go.Proofs.Ytmjigodhncjfjaa

namespace Go.Proofs.Ytmjigodhncjfjaa
open Go.RowKit Wr

structure Mw where
  win : Int
  plain : ByteArray
  notes : List ByteArray
  out : ByteArray
  done : Bool
def mdCells (q : Nat) (s : Mw) (vn : Value) (o : Nat) : Value :=
  if o = 0 then .pointer (some ⟨q, 0, none⟩) else if o = 1 then .int .i64 s.win else if o = 2 then .string s.plain else if o = 3 then vn
  else if o = 4 then .string s.out else .bool s.done
def MdRow (w : World) (k q : Nat) (s : Mw) (vn : Value) : Prop := w.rowIs k 61 6 (mdCells q s vn)
def StrRow (w : World) (v : Value) (N : List ByteArray) : Prop := w.ownsRow 0 9 1 v N.length (N.map Value.string)

theorem strs_cells {w : World} {v : Value} {N : List ByteArray} (h : StrRow w v N) : ∃ a c, v = .slice a N.length c ∧ (0 < N.length → ∃ g, a = some ⟨g, 0, none⟩ ∧ ∀ i, i < N.length → w.cell? ⟨g, i, none⟩ = some (.string (N.getD i ByteArray.empty))) := by
  obtain ⟨h1, h2⟩ := h
  rcases h2 with ⟨h3, h4⟩ | ⟨g, cap, cur, hv, _, hh, hn, hc, hs, ht⟩
  · exact ⟨none, 0, by rw [h3, h4], fun q => absurd q (by omega)⟩
  · refine ⟨some ⟨g, 0, none⟩, cap, hv, fun _ => ⟨g, rfl, fun i hi => ?_⟩⟩
    rw [cell_of_row w g i cur 9 (0, 0) hh, ← Array.getElem?_toList]
    have e : (cur.toList.take (N.length * 1))[i]? = (N.map Value.string)[i]? := by rw [ht]
    rw [List.getElem?_take, if_pos (by omega)] at e
    rw [e, List.getElem?_map, List.getD_eq_getElem?_getD, List.getElem?_eq_getElem hi]
    rfl

set_option maxHeartbeats 1000000 in
theorem sameTexts_any {w : World} {va vb : Value} {N : List ByteArray} (ha : StrRow w va N) (hb : StrRow w vb N) (hN : N.length ≤ 1099511627776) :
    Calls Try.prog 62 #[va, vb] w fun e w' => e = .returned (.bool true) ∧ ∃ n, w' = w.drewN n := by
  obtain ⟨a, ac, rfl, hA⟩ := strs_cells ha
  obtain ⟨b, bc, rfl, hB⟩ := strs_cells hb
  clear ha hb
  go_enter Try.func62, Try.ntmps62
  go_wp2
  go_loopw [5] (fun vi wr => ∃ i : Nat, i ≤ N.length ∧ vi = .int .i64 i ∧ ∃ n, wr = w.drewN n) (fun vi _ => N.length - (intOf vi).toNat)
  case atStart => exact ⟨0, by omega, rfl, 0, rfl⟩
  case round =>
    obtain ⟨i, hi, rfl, n, rfl⟩ := hrel
    by_cases hlt : i < N.length
    · obtain ⟨ga, rfl, hA2⟩ := hA (by omega)
      obtain ⟨gb, rfl, hB2⟩ := hB (by omega)
      have c1 := hA2 i hlt
      have c2 := hB2 i hlt
      clear hA hB hA2 hB2
      generalize N.getD i ByteArray.empty = t at *
      go_wp2
      go_region
      all_goals
        go_wp2
        exact ⟨⟨i + 1, by omega, by go_num, n + 1, rfl⟩, by simp [intOf]; omega⟩
    · go_wp2
      go_ret
      exact ⟨rfl, n, rfl⟩

theorem below_md {k q : Nat} {w w' : World} {s : Mw} {vn : Value} (h : Below w.heap.size w w') (hd : MdRow w k q s vn) : MdRow w' k q s vn := World.rowIs.of_block hd (h.block k (World.rowIs.lt hd))
theorem owns_blw {w w' : World} {B : Nat} {e : TypeId} {size : Nat} {v : Value} {n : Nat} {xs : List Value} (ho : w.ownsRow B e size v n xs) (hB : Below w.heap.size w w') : w'.ownsRow B e size v n xs :=
  owns_of_block ho fun g hg => hB.block g (by
    obtain ⟨_, h2⟩ := ho
    rcases h2 with ⟨h3, _⟩ | ⟨g', cap, cur, hv, _, hh, _⟩
    · rw [h3] at hg; cases hg
    · rw [hv] at hg
      have e1 : g' = g := by simpa [Value.ownBlock] using hg
      subst e1
      rcases Nat.lt_or_ge g' w.heap.size with hl | hl
      · exact hl
      · rw [Array.getElem?_eq_none hl] at hh; cases hh)
theorem owns_zero {w : World} {B : Nat} {e : TypeId} {size : Nat} {v : Value} {n : Nat} {xs : List Value} (ho : w.ownsRow B e size v n xs) : w.ownsRow 0 e size v n xs := by
  obtain ⟨h1, h2⟩ := ho
  rcases h2 with h3 | ⟨g, cap, cur, hv, _, r⟩
  · exact ⟨h1, Or.inl h3⟩
  · exact ⟨h1, Or.inr ⟨g, cap, cur, hv, Nat.zero_le _, r⟩⟩

set_option maxRecDepth 100000 in
set_option maxHeartbeats 1000000 in
theorem stands_flush {w : World} {k q : Nat} {s : Mw} {vn : Value} (h : MdRow w k q s vn) (hs : s.out.size ≤ 268435456) (h1 : outStr (readD s.out).out = s.plain) (h2 : (readD s.out).x.w = s.win) (h3 : ((readR s.out).1 && ((readD s.out).x.state == 1)) = true) :
    Calls Try.prog 47 #[.pointer (some ⟨k, 0, none⟩), .int .i64 2] w fun e w' => e = .returned (.bool true) ∧ Below w.heap.size w w' := by
  have c0 : w.cell? ⟨k, 4, none⟩ = some (.string s.out) := World.rowIs.cell h (by omega)
  have hR := fun (W : World) => Rread_any W s.out hs
  rw [h1, h2, h3] at hR
  generalize readV s.out = V at *
  generalize (readD s.out).notes = NN at *
  have hkl : k < w.heap.size := World.rowIs.lt h
  have HH : Hid (MdRow w k q s vn) := h
  clear h1 h2 h3 h
  go_enter Try.func47, Try.ntmps47
  go_wp2_with (first
    | (go_at_call 41; refine (hR _).mono ?_; rintro e w1 ⟨vr, rfl, hown, hb1⟩; obtain ⟨ra, rc, rfl⟩ := owns_slice hown; have hr1 := below_md hb1 HH.out; have d1 : w1.cell? ⟨k, 2, none⟩ = some (.string s.plain) := World.rowIs.cell hr1 (by omega); have d2 : w1.cell? ⟨k, 1, none⟩ = some (.int .i64 s.win) := World.rowIs.cell hr1 (by omega)))
  have hk1 : k < w1.heap.size := World.rowIs.lt hr1
  have hkn : w1.heap.size ≠ k := by omega
  go_region_held3 (fun W => W.cell? ⟨w1.heap.size, 0, none⟩ = some (.string s.plain) ∧ W.cell? ⟨w1.heap.size, 2, none⟩ = some (.int .i64 s.win) ∧ W.cell? ⟨w1.heap.size, 4, none⟩ = some (.bool true) ∧ W.cell? ⟨k, 2, none⟩ = some (.string s.plain) ∧ W.cell? ⟨k, 1, none⟩ = some (.int .i64 s.win)) (go_keep) (fail)
  go_wp2
  go_ret
  exact ⟨rfl, (hb1.alloc hb1.size _).drew⟩

set_option maxRecDepth 100000 in
set_option maxHeartbeats 1000000 in
theorem stands_fin {w : World} {k q : Nat} {s : Mw} {vn : Value} (h : MdRow w k q s vn) (hn : StrRow w vn s.notes) (hnl : s.notes.length ≤ 1099511627776) (hs : s.out.size ≤ 268435456) (h1 : outStr (readD s.out).out = s.plain) (h2 : (readD s.out).x.w = s.win) (h3 : readV s.out = 0) (h4 : (readD s.out).notes = s.notes) :
    Calls Try.prog 47 #[.pointer (some ⟨k, 0, none⟩), .int .i64 4] w fun e w' => e = .returned (.bool true) ∧ Below w.heap.size w w' := by
  have c0 : w.cell? ⟨k, 4, none⟩ = some (.string s.out) := World.rowIs.cell h (by omega)
  have hR := fun (W : World) => Rread_any W s.out hs
  rw [h1, h2, h3, h4] at hR
  generalize ((readR s.out).1 && ((readD s.out).x.state == 1)) = eb at *
  have hkl : k < w.heap.size := World.rowIs.lt h
  obtain ⟨na, nc, rfl⟩ := owns_slice hn
  have HH : Hid (MdRow w k q s (.slice na s.notes.length nc) ∧ StrRow w (.slice na s.notes.length nc) s.notes) := ⟨h, hn⟩
  clear h1 h2 h3 h4 h hn
  go_enter Try.func47, Try.ntmps47
  go_wp2_with (first
    | (go_at_call 41; refine (hR _).mono ?_; rintro e w1 ⟨vr, rfl, hown, hb1⟩; obtain ⟨ra, rc, rfl⟩ := owns_slice hown; have hr1 := below_md hb1 HH.out.1; have d1 : w1.cell? ⟨k, 2, none⟩ = some (.string s.plain) := World.rowIs.cell hr1 (by omega); have d2 : w1.cell? ⟨k, 1, none⟩ = some (.int .i64 s.win) := World.rowIs.cell hr1 (by omega); have d3 : w1.cell? ⟨k, 3, none⟩ = some (.slice na s.notes.length nc) := World.rowIs.cell hr1 (by omega)))
  have hk1 : k < w1.heap.size := World.rowIs.lt hr1
  have hkn : w1.heap.size ≠ k := by omega
  have hS := fun o => sameTexts_any (w := (w1.alloc o).drew) ((owns_zero hown).alloc o) ((owns_blw HH.out.2 hb1).alloc o) hnl
  go_region_held3 (fun W => W.cell? ⟨w1.heap.size, 3, none⟩ = some (.slice ra s.notes.length rc) ∧ W.cell? ⟨k, 3, none⟩ = some (.slice na s.notes.length nc)) (go_keep)
    (first | (go_at_call 62; refine (hS _).mono ?_; rintro e w2 ⟨rfl, n2, rfl⟩))
  clear hS hR
  go_wp2
  go_region_held3 (fun W => W.cell? ⟨w1.heap.size, 0, none⟩ = some (.string s.plain) ∧ W.cell? ⟨w1.heap.size, 1, none⟩ = some (.int .i64 0) ∧ W.cell? ⟨w1.heap.size, 2, none⟩ = some (.int .i64 s.win) ∧ W.cell? ⟨k, 2, none⟩ = some (.string s.plain) ∧ W.cell? ⟨k, 1, none⟩ = some (.int .i64 s.win)) (go_keep) (fail)
  go_wp2
  go_ret
  have hb2 := hb1.alloc hb1.size (.cells #[.string s.plain, .int .i64 0, .int .i64 s.win, .slice ra s.notes.length rc, .bool eb] 84)
  exact ⟨rfl, ⟨hb2.os, hb2.tape, hb2.output, hb2.size, hb2.block⟩⟩

set_option maxHeartbeats 400000 in
theorem stands_none (w : World) (k : Nat) (kind : Int) (h2 : kind ≠ 2) (h4 : kind ≠ 4) : Calls Try.prog 47 #[.pointer (some ⟨k, 0, none⟩), .int .i64 kind] w fun e w' => e = .returned (.bool true) ∧ w' = w := by
  have b2 : (kind != 2) = true := by simpa using h2
  have b4 : (kind != 4) = true := by simpa using h4
  go_enter Try.func47, Try.ntmps47
  go_wp2
  go_ret
  exact ⟨rfl, rfl⟩

theorem MdRow.out {w : World} {k q : Nat} {s : Mw} {vn : Value} (h : MdRow w k q s vn) (x : ByteArray) : MdRow (w.setCell ⟨k, 4, none⟩ (.string x)) k q { s with out := x } vn :=
  (World.rowIs.set h _ _).congr fun i hi => by
    match i, hi with
    | 0, _ => rfl
    | 1, _ => rfl
    | 2, _ => rfl
    | 3, _ => rfl
    | 4, _ => rfl
    | 5, _ => rfl
theorem MdRow.plain {w : World} {k q : Nat} {s : Mw} {vn : Value} (h : MdRow w k q s vn) (x : ByteArray) : MdRow (w.setCell ⟨k, 2, none⟩ (.string x)) k q { s with plain := x } vn :=
  (World.rowIs.set h _ _).congr fun i hi => by
    match i, hi with
    | 0, _ => rfl
    | 1, _ => rfl
    | 2, _ => rfl
    | 3, _ => rfl
    | 4, _ => rfl
    | 5, _ => rfl
theorem MdRow.notes {w : World} {k q : Nat} {s : Mw} {vn : Value} (h : MdRow w k q s vn) (x : Value) (N : List ByteArray) : MdRow (w.setCell ⟨k, 3, none⟩ x) k q { s with notes := N } x :=
  (World.rowIs.set h _ _).congr fun i hi => by
    match i, hi with
    | 0, _ => rfl
    | 1, _ => rfl
    | 2, _ => rfl
    | 3, _ => rfl
    | 4, _ => rfl
    | 5, _ => rfl
theorem MdRow.done {w : World} {k q : Nat} {s : Mw} {vn : Value} (h : MdRow w k q s vn) (x : Bool) : MdRow (w.setCell ⟨k, 5, none⟩ (.bool x)) k q { s with done := x } vn :=
  (World.rowIs.set h _ _).congr fun i hi => by
    match i, hi with
    | 0, _ => rfl
    | 1, _ => rfl
    | 2, _ => rfl
    | 3, _ => rfl
    | 4, _ => rfl
    | 5, _ => rfl

/-- an encoder that the law writes to -/
structure Md (w : World) (k q b : Nat) (L : List Int) (P : List UInt8) (s : Mw) (vn : Value) : Prop where
  row : MdRow w k q s vn
  enc : EncAt w q (if s.done then none else some b)
  wr : s.done = false → W0 w b L P ∧ s.out = bytesL L ∧ DInv (L, P) s.win s.plain.data.toList s.notes
  strs : StrRow w vn s.notes
  kq : k ≠ q
  kb : k ≠ b
  qb : q ≠ b
/-- what a call on it may change -/
structure Mv (k q b : Nat) (vn : Value) (w : World) (vn' : Value) (w' : World) : Prop where
  os : w'.os = w.os
  tape : w'.tape = w.tape
  output : w'.output = w.output
  size : w.heap.size ≤ w'.heap.size
  block : ∀ i, i < w.heap.size → i ≠ k → i ≠ q → i ≠ b → some i ≠ vn.ownBlock → w'.heap[i]? = w.heap[i]?
  own : vn'.ownBlock = vn.ownBlock ∨ ∃ g, vn'.ownBlock = some g ∧ w.heap.size ≤ g
theorem Mv.of_on {k q b j : Nat} {vn : Value} {w w' : World} (h : On j w w') (hj : j = k ∨ j = q ∨ j = b) : Mv k q b vn w vn w' :=
  ⟨h.os, h.tape, h.output, h.size, fun i hi h1 h2 h3 _ => h.block i hi (by rcases hj with rfl | rfl | rfl <;> assumption), Or.inl rfl⟩
theorem Mv.of_below {k q b : Nat} {vn : Value} {w w' : World} (h : Below w.heap.size w w') : Mv k q b vn w vn w' := ⟨h.os, h.tape, h.output, h.size, fun i hi _ _ _ _ => h.block i hi, Or.inl rfl⟩
theorem Mv.trans {k q b : Nat} {vn vn' vn'' : Value} {w w' w'' : World} (h : Mv k q b vn w vn' w') (h2 : Mv k q b vn' w' vn'' w'') : Mv k q b vn w vn'' w'' := by
  refine ⟨h2.os.trans h.os, h2.tape.trans h.tape, h2.output.trans h.output, Nat.le_trans h.size h2.size, fun i hi a1 a2 a3 a4 => (h2.block i (Nat.lt_of_lt_of_le hi h.size) a1 a2 a3 ?_).trans (h.block i hi a1 a2 a3 a4), ?_⟩
  · rcases h.own with e | ⟨g, e, hg⟩
    · rw [e]; exact a4
    · rw [e]; intro q; injection q with q; omega
  · rcases h2.own with e | ⟨g, e, hg⟩
    · rw [e]; exact h.own
    · exact Or.inr ⟨g, e, Nat.le_trans h.size hg⟩
end Go.Proofs.Ytmjigodhncjfjaa

namespace Go.Proofs.Ytmjigodhncjfjaa
open Go.RowKit Wr

theorem outFrom_size (L : List Int) (t : Nat) : (outStr (outFrom L t)).size ≤ L.length / 8 := by
  rw [outStr_sz]
  unfold outFrom
  rw [List.length_map, List.length_range]
  omega
theorem EncAt.on {w w' : World} {q k : Nat} {r : Option Nat} (h : EncAt w q r) (hon : On k w w') (hk : q ≠ k) : EncAt w' q r := hon.encAt hk h
theorem W0.on {w w' : World} {b k : Nat} {L : List Int} {P : List UInt8} (h : W0 w b L P) (hon : On k w w') (hk : b ≠ k) : W0 w' b L P := h.of_block (hon.block b h.lt hk)

theorem StrRow.on {w w' : World} {j : Nat} {vn : Value} {N : List ByteArray} (h : StrRow w vn N) (ho : On j w w') (hj : some j ≠ vn.ownBlock) : StrRow w' vn N :=
  owns_of_block h fun g hg => ho.block g (by
    obtain ⟨_, h2⟩ := h
    rcases h2 with ⟨h3, _⟩ | ⟨g', cap, cur, hv, _, hh, _⟩
    · rw [h3] at hg; cases hg
    · rw [hv] at hg
      have e1 : g' = g := by simpa [Value.ownBlock] using hg
      subst e1
      rcases Nat.lt_or_ge g' w.heap.size with hl | hl
      · exact hl
      · rw [Array.getElem?_eq_none hl] at hh; cases hh) (fun e => hj (by rw [hg, e]))
theorem str_ne {w : World} {vn : Value} {N : List ByteArray} (ho : StrRow w vn N) {f : Nat} {t : TypeId} {m : Nat} {c : Nat → Value} (hr : w.rowIs f t m c) (hte : t ≠ 9) : some f ≠ vn.ownBlock := by
  intro h
  obtain ⟨_, h2⟩ := ho
  rcases h2 with ⟨h3, _⟩ | ⟨g, cap, cur, hv, _, hh, _⟩
  · rw [h3] at h; cases h
  · rw [hv] at h
    have e1 : f = g := by simpa [Value.ownBlock] using h
    obtain ⟨c', hc, _⟩ := hr
    rw [e1, hh] at hc
    injection hc with hc
    injection hc with _ h4 _
    exact hte h4.symm

theorem W0.row9 {w : World} {b : Nat} {L : List Int} {P : List UInt8} (h : W0 w b L P) : True ∧ w.rowIs b 118 4100 (wtCells h.choose (.slice none 0 0)) := ⟨trivial, h.choose_spec.1⟩
/-- the op that came in, in its block -/
theorem op_row (w : World) (c kind : Int) (T : ByteArray) : (w.alloc (.cells #[.int .i64 c, .int .i64 kind, .string T] 64)).rowIs w.heap.size 64 3 (fun i => if i = 0 then .int .i64 c else if i = 1 then .int .i64 kind else .string T) :=
  World.rowIs_alloc w #[.int .i64 c, .int .i64 kind, .string T] 64 _ (fun i hi => by
    match i, hi with
    | 0, _ => rfl
    | 1, _ => rfl
    | 2, _ => rfl)
theorem op_cells {w w1 : World} {c kind : Int} {T : ByteArray} (h : w1.heap[w.heap.size]? = (w.alloc (.cells #[.int .i64 c, .int .i64 kind, .string T] 64)).heap[w.heap.size]?) : w1.cell? ⟨w.heap.size, 1, none⟩ = some (.int .i64 kind) ∧ w1.cell? ⟨w.heap.size, 2, none⟩ = some (.string T) := by
  have hr := World.rowIs.of_block (op_row w c kind T) h
  exact ⟨World.rowIs.cell hr (by omega), World.rowIs.cell hr (by omega)⟩
theorem md_cells {w : World} {k q : Nat} {s : Mw} {vn : Value} (h : MdRow w k q s vn) : w.cell? ⟨k, 4, none⟩ = some (.string s.out) ∧ w.cell? ⟨k, 2, none⟩ = some (.string s.plain) ∧ w.cell? ⟨k, 5, none⟩ = some (.bool s.done) ∧ w.cell? ⟨k, 3, none⟩ = some vn ∧ ∀ o, w.frozen? ⟨k, o, none⟩ = false :=
  ⟨World.rowIs.cell h (by omega), World.rowIs.cell h (by omega), World.rowIs.cell h (by omega), World.rowIs.cell h (by omega), World.rowIs.frozen h⟩

set_option maxHeartbeats 400000 in
theorem does_other {w : World} {k q b : Nat} {L : List Int} {P : List UInt8} {s : Mw} {vn : Value} (_h : Md w k q b L P s vn) (c kind : Int) (T : ByteArray) (h1 : kind ≠ 1) (h2 : kind ≠ 2) (h3 : kind ≠ 3) (h4 : kind ≠ 4) :
    Calls Try.prog 31 #[.pointer (some ⟨k, 0, none⟩), .agg #[.int .i64 c, .int .i64 kind, .string T]] w fun e w' => e = .returned (.bool true) ∧ Below w.heap.size w w' := by
  have b1 : (kind == 1) = false := beq_eq_false_iff_ne.2 h1
  have b2 : (kind == 2) = false := beq_eq_false_iff_ne.2 h2
  have b3 : (kind == 3) = false := beq_eq_false_iff_ne.2 h3
  have b4 : (kind == 4) = false := beq_eq_false_iff_ne.2 h4
  go_enter Try.func31, Try.ntmps31
  go_wp2
  go_ret
  exact ⟨rfl, (Below.refl _ w).alloc (Nat.le_refl _) _⟩

set_option maxRecDepth 100000 in
set_option maxHeartbeats 1000000 in
theorem does_write {w : World} {k q b : Nat} {L : List Int} {P : List UInt8} {s : Mw} {vn : Value} (h : Md w k q b L P s vn) (hd : s.done = false) (c : Int) (T : ByteArray) (hL : L.length + 8 * P.length + 30 * T.size ≤ 1000000000) (hS : s.plain.size + T.size ≤ 1000000000) :
    Calls Try.prog 31 #[.pointer (some ⟨k, 0, none⟩), .agg #[.int .i64 c, .int .i64 1, .string T]] w fun e w' => e = .returned (.bool true) ∧ Md w' k q b (writeE (L, P) T.data.toList).1 (writeE (L, P) T.data.toList).2 { s with plain := s.plain ++ T, out := bytesL (writeE (L, P) T.data.toList).1 } vn ∧ Mv k q b vn w vn w' := by
  obtain ⟨win, plain, notes, out, done⟩ := s
  dsimp only at hd hS
  subst hd
  obtain ⟨w1, hout, hdi⟩ := h.wr rfl
  have hrow := h.row
  have henc : EncAt w q (some b) := h.enc
  have c0 : w.cell? ⟨k, 0, none⟩ = some (.pointer (some ⟨q, 0, none⟩)) := World.rowIs.cell hrow (by omega)
  have hfz := World.rowIs.frozen hrow
  have hk : k < w.heap.size := World.rowIs.lt hrow
  have honA : ∀ o, On k w ((w.alloc o).drew) := fun o => ((On.refl k w).alloc o).drew
  have hEA := fun o => henc.on (honA o) h.kq.symm
  have hWA := fun o => w1.on (honA o) h.kb.symm
  have hRA : ∀ o, MdRow ((w.alloc o).drew) k q ⟨win, plain, notes, out, false⟩ vn := fun o => World.rowIs.alloc hrow o
  have hE := fun W (h1 : EncAt W q (some b)) (h2 : W0 W b L P) => EncWrite_open h1 h2 T (by omega)
  have HX := ext_write T.data.toList (L, P)
  have HM := bytesL_more HX
  have hphi := writeE_phi T.data.toList (L, P)
  have hph2 : phiE (L, P) = L.length + 8 * P.length := rfl
  have hTs : T.data.toList.length = T.size := by simp
  have HI : Hid (DInv (writeE (L, P) T.data.toList) win (plain ++ T).data.toList notes) := by
    rw [Hid, ByteArray.data_append, Array.toList_append]
    exact dinv_write _ hdi
  generalize writeE (L, P) T.data.toList = e at *
  obtain ⟨L', P'⟩ := e
  dsimp only at *
  have hph3 : phiE (L', P') = L'.length + 8 * P'.length := rfl
  have hsz := outFrom_size L' (L.length / 8)
  have hso : out.size = L.length / 8 := by rw [hout, bytesL_size]
  have HM2 : Hid (out ++ outStr (outFrom L' (L.length / 8)) = bytesL L') := by rw [Hid, hout]; exact HM
  generalize outStr (outFrom L' (L.length / 8)) = y at *
  have hcat : out.size + y.size ≤ 9223372036854775807 := by omega
  have hcat2 : plain.size + T.size ≤ 9223372036854775807 := by omega
  have HW : Hid (Md w k q b L P ⟨win, plain, notes, out, false⟩ vn) := h
  have hN := fun (W : World) => num_any W 0 (by omega) (by omega)
  have hSt := fun (W : World) => stands_none W k 1 (by omega) (by omega)
  clear h HM HX hphi hph2 hph3 hTs hsz hso hdi hout w1 henc
  go_enter Try.func31, Try.ntmps31
  go_wp2
  go_region_with (go_at_call 43; refine (hE _ (hEA _) (hWA _)).mono ?_; rintro e w1 ⟨rfl, hw1, hon1⟩; have hr1 : MdRow w1 k q ⟨win, plain, notes, out, false⟩ vn := World.rowIs.of_block (hRA _) (hon1.block k (World.rowIs.lt (hRA _)) HW.out.kb); have he1 := hon1.encAt HW.out.qb (hEA _))
  all_goals
    have hbw : b < w.heap.size := HW.out.wr rfl |>.1.lt
    obtain ⟨o1, o2⟩ := op_cells (c := c) (kind := 1) (T := T) (hon1.block w.heap.size (by simp) (by omega))
    obtain ⟨m1, m2, m3, m4, m5⟩ := md_cells hr1
    dsimp only at m1 m2 m3
    have hkn : w.heap.size ≠ k := by omega
    clear hE hEA hWA hRA m4
    go_wp2_with (first
      | (go_at_call 15; refine (hN _).mono ?_; rintro e w8 ⟨rfl, hw8⟩; obtain rfl := hw8.symm)
      | (go_at_call 47; refine (hSt _).mono ?_; rintro e w9 ⟨rfl, rfl⟩))
    go_region
    all_goals
      go_wp2_with (first
        | (go_at_call 47; refine (hSt _).mono ?_; rintro e w9 ⟨rfl, rfl⟩))
      go_ret
      have hon2 := (((On.refl k w1).set 4 (.string (out ++ y))).set 2 (.string (plain ++ T))).drew
      have hfin : MdRow (((w1.setCell ⟨k, 4, none⟩ (.string (out ++ y))).setCell ⟨k, 2, none⟩ (.string (plain ++ T))).drew) k q ⟨win, plain ++ T, notes, bytesL L', false⟩ vn := by
        have := (hr1.out (out ++ y)).plain (plain ++ T)
        rw [HM2.out] at this ⊢
        exact this
      have hs1 : StrRow w1 vn notes := StrRow.on (show StrRow ((w.alloc (.cells #[.int .i64 c, .int .i64 1, .string T] 64)).drew) vn notes from HW.out.strs.alloc _) hon1 (str_ne HW.out.strs (W0.row9 (HW.out.wr rfl).1).2 (by decide))
      exact ⟨rfl, ⟨hfin, hon2.encAt HW.out.kq.symm he1, fun _ => ⟨hw1.on hon2 HW.out.kb.symm, rfl, HI.out⟩, hs1.on hon2 (str_ne hs1 hr1 (by decide)), HW.out.kq, HW.out.kb, HW.out.qb⟩, ((Mv.of_below ((Below.refl _ w).alloc (Nat.le_refl _) _).drew).trans (Mv.of_on hon1 (Or.inr (Or.inr rfl)))).trans (Mv.of_on hon2 (Or.inl rfl))⟩

set_option maxRecDepth 100000 in
set_option maxHeartbeats 1000000 in
theorem does_flush {w : World} {k q b : Nat} {L : List Int} {P : List UInt8} {s : Mw} {vn : Value} (h : Md w k q b L P s vn) (hd : s.done = false) (c : Int) (T : ByteArray) (hL : L.length + 8 * P.length ≤ 1000000000) :
    Calls Try.prog 31 #[.pointer (some ⟨k, 0, none⟩), .agg #[.int .i64 c, .int .i64 2, .string T]] w fun e w' => e = .returned (.bool true) ∧ Md w' k q b (flushL L P) [] { s with out := bytesL (flushL L P) } vn ∧ Mv k q b vn w vn w' := by
  obtain ⟨win, plain, notes, out, done⟩ := s
  dsimp only at hd
  subst hd
  obtain ⟨w1, hout, hdi⟩ := h.wr rfl
  dsimp only at hout hdi
  have hrow := h.row
  have henc : EncAt w q (some b) := h.enc
  have c0 : w.cell? ⟨k, 0, none⟩ = some (.pointer (some ⟨q, 0, none⟩)) := World.rowIs.cell hrow (by omega)
  have hfz := World.rowIs.frozen hrow
  have hk : k < w.heap.size := World.rowIs.lt hrow
  have hbw : b < w.heap.size := w1.lt
  have honA : ∀ o, On k w (w.alloc o) := fun o => (On.refl k w).alloc o
  have hEA := fun o => henc.on (honA o) h.kq.symm
  have hWA := fun o => w1.on (honA o) h.kb.symm
  have hRA : ∀ o, MdRow (w.alloc o) k q ⟨win, plain, notes, out, false⟩ vn := fun o => World.rowIs.alloc hrow o
  have hE := fun W (h1 : EncAt W q (some b)) (h2 : W0 W b L P) => EncFlush_open h1 h2 (by omega)
  have HM := bytesL_more (ext_flush L P)
  have HI : Hid (DInv (flushL L P, []) win plain.data.toList notes) := dinv_flushed hdi
  obtain ⟨q1, q2, q3⟩ := doc_flush hdi
  have hpl := w1.plen
  have hfl : (flushL L P).length ≤ L.length + 32 + 8 * P.length := by
    have h8 := letL_length L P
    unfold flushL
    split
    · omega
    · unfold emptyL
      have h3 := padL_le (headL (letL L P) false 0)
      rw [headL_length] at h3
      omega
  generalize flushL L P = L' at *
  have hsz := outFrom_size L' (L.length / 8)
  have hso : out.size = L.length / 8 := by rw [hout, bytesL_size]
  have HM2 : Hid (out ++ outStr (outFrom L' (L.length / 8)) = bytesL L') := by rw [Hid, hout]; exact HM
  have hbz := bytesL_size L'
  generalize outStr (outFrom L' (L.length / 8)) = y at *
  have hcat : out.size + y.size ≤ 9223372036854775807 := by omega
  have hN := fun (W : World) => num_any W 0 (by omega) (by omega)
  have hSt := fun (W : World) (hW : MdRow W k q ⟨win, plain, notes, bytesL L', false⟩ vn) => stands_flush hW (by show (bytesL L').size ≤ _; omega) q1 q2 q3
  have HW : Hid (Md w k q b L P ⟨win, plain, notes, out, false⟩ vn) := h
  have hkn : w.heap.size ≠ k := by omega
  clear h HM hfl hsz hso hdi hout w1 henc q1 q2 q3 hbz
  go_enter Try.func31, Try.ntmps31
  go_wp2_with (first
    | (go_at_call 15; refine (hN _).mono ?_; rintro e w8 ⟨rfl, hw8⟩; obtain rfl := hw8.symm)
    | (go_at_call 44; refine (hE _ (hEA _) (hWA _)).mono ?_; rintro e w1 ⟨rfl, hw1, hon1⟩; have hr1 : MdRow w1 k q ⟨win, plain, notes, out, false⟩ vn := World.rowIs.of_block (hRA _) (hon1.block k (World.rowIs.lt (hRA _)) HW.out.kb); have he1 := hon1.encAt HW.out.qb (hEA _); obtain ⟨o1, o2⟩ := op_cells (c := c) (kind := 2) (T := T) (hon1.block w.heap.size (by simp) (by omega)); obtain ⟨m1, m2, m3, m4, m5⟩ := md_cells hr1; dsimp only at m1 m2 m3; have hr2 : MdRow (w1.setCell ⟨k, 4, none⟩ (.string (out ++ y))) k q ⟨win, plain, notes, bytesL L', false⟩ vn := (by have h9 := hr1.out (out ++ y); rw [HM2.out] at h9 ⊢; exact h9); have hs1 : StrRow w1 vn notes := StrRow.on (show StrRow (w.alloc (.cells #[.int .i64 c, .int .i64 2, .string T] 64)) vn notes from HW.out.strs.alloc _) hon1 (str_ne HW.out.strs (W0.row9 (HW.out.wr rfl).1).2 (by decide)))
    | (go_at_call 47; refine (hSt _ hr2).mono ?_; rintro e w9 ⟨rfl, hb9⟩))
  go_ret
  have hon2 := (On.refl k w1).set 4 (.string (out ++ y))
  have hs2 : StrRow (w1.setCell ⟨k, 4, none⟩ (.string (out ++ y))) vn notes := hs1.on hon2 (str_ne hs1 hr1 (by decide))
  have he2 := hon2.encAt HW.out.kq.symm he1
  have hw2 := hw1.on hon2 HW.out.kb.symm
  exact ⟨rfl, ⟨below_md hb9 hr2, World.rowIs.of_block he2 (hb9.block q (World.rowIs.lt he2)), fun _ => ⟨hw2.of_block (hb9.block b hw2.lt), rfl, HI.out⟩, owns_blw hs2 hb9, HW.out.kq, HW.out.kb, HW.out.qb⟩, (((Mv.of_below ((Below.refl _ w).alloc (Nat.le_refl _) _)).trans (Mv.of_on hon1 (Or.inr (Or.inr rfl)))).trans (Mv.of_on hon2 (Or.inl rfl))).trans (Mv.of_below hb9)⟩
end Go.Proofs.Ytmjigodhncjfjaa

namespace Go.Proofs.Ytmjigodhncjfjaa
open Go.RowKit Wr

set_option maxRecDepth 100000 in
set_option maxHeartbeats 1000000 in
theorem does_finish {w : World} {k q b : Nat} {L : List Int} {P : List UInt8} {s : Mw} {vn : Value} (h : Md w k q b L P s vn) (hd : s.done = false) (c : Int) (T : ByteArray) (hL : L.length + 8 * P.length ≤ 1000000000) (hnl : s.notes.length ≤ 1099511627776) :
    Calls Try.prog 31 #[.pointer (some ⟨k, 0, none⟩), .agg #[.int .i64 c, .int .i64 4, .string T]] w fun e w' => e = .returned (.bool true) ∧ Md w' k q b L P { s with out := bytesL (finL L P), done := true } vn ∧ Mv k q b vn w vn w' := by
  obtain ⟨win, plain, notes, out, done⟩ := s
  dsimp only at hd hnl
  subst hd
  obtain ⟨w1, hout, hdi⟩ := h.wr rfl
  dsimp only at hout hdi
  have hrow := h.row
  have henc : EncAt w q (some b) := h.enc
  have c0 : w.cell? ⟨k, 0, none⟩ = some (.pointer (some ⟨q, 0, none⟩)) := World.rowIs.cell hrow (by omega)
  have hfz := World.rowIs.frozen hrow
  have hk : k < w.heap.size := World.rowIs.lt hrow
  have hql : q < w.heap.size := World.rowIs.lt henc
  have hbw : b < w.heap.size := w1.lt
  have honA : ∀ o, On k w (w.alloc o) := fun o => (On.refl k w).alloc o
  have hEA := fun o => henc.on (honA o) h.kq.symm
  have hWA := fun o => w1.on (honA o) h.kb.symm
  have hRA : ∀ o, MdRow (w.alloc o) k q ⟨win, plain, notes, out, false⟩ vn := fun o => World.rowIs.alloc hrow o
  have hE := fun W (h1 : EncAt W q (some b)) (h2 : W0 W b L P) => EncFinish_open h1 h.qb h2 (by omega)
  have HM := bytesL_more (ext_fin L P)
  obtain ⟨q1, q2, q3, q4⟩ := doc_fin hdi
  have hfl : (finL L P).length ≤ L.length + 22 + 8 * P.length := by
    have h1 := blkL_length L true P
    rw [finL_cases]
    split
    · unfold emptyL
      have h3 := padL_le (headL L true 0)
      rw [headL_length] at h3
      omega
    · omega
  generalize finL L P = L' at *
  have hsz := outFrom_size L' (L.length / 8)
  have hso : out.size = L.length / 8 := by rw [hout, bytesL_size]
  have HM2 : Hid (out ++ outStr (outFrom L' (L.length / 8)) = bytesL L') := by rw [Hid, hout]; exact HM
  have hbz := bytesL_size L'
  generalize outStr (outFrom L' (L.length / 8)) = y at *
  have hcat : out.size + y.size ≤ 9223372036854775807 := by omega
  have hN := fun (W : World) => num_any W 0 (by omega) (by omega)
  have hSt := fun (W : World) (hW : MdRow W k q ⟨win, plain, notes, bytesL L', true⟩ vn) (hs : StrRow W vn notes) => stands_fin hW hs hnl (by show (bytesL L').size ≤ _; omega) q1 q2 q3 q4
  have HW : Hid (Md w k q b L P ⟨win, plain, notes, out, false⟩ vn) := h
  have hbne := str_ne h.strs (W0.row9 (h.wr rfl).1).2 (by decide)
  have hqne := str_ne h.strs henc (by decide)
  have hkne := str_ne h.strs hrow (by decide)
  have HNE : Hid (some b ≠ vn.ownBlock ∧ some q ≠ vn.ownBlock ∧ some k ≠ vn.ownBlock) := ⟨hbne, hqne, hkne⟩
  have hkn : w.heap.size ≠ k := by omega
  clear h HM hfl hsz hso hdi hout w1 henc q1 q2 q3 q4 hbz hbne hqne hkne
  go_enter Try.func31, Try.ntmps31
  go_wp2_with (first
    | (go_at_call 15; refine (hN _).mono ?_; rintro e w8 ⟨rfl, hw8⟩; obtain rfl := hw8.symm)
    | (go_at_call 46; refine (hE _ (hEA _) (hWA _)).mono ?_; rintro e w1 ⟨rfl, he1, wm, honb, honq⟩; have hr0 : MdRow wm k q ⟨win, plain, notes, out, false⟩ vn := World.rowIs.of_block (hRA _) (honb.block k (World.rowIs.lt (hRA _)) HW.out.kb); have hr1 : MdRow w1 k q ⟨win, plain, notes, out, false⟩ vn := World.rowIs.of_block hr0 (honq.block k (World.rowIs.lt hr0) HW.out.kq); obtain ⟨o1, o2⟩ := op_cells (w := w) (w1 := w1) (c := c) (kind := 4) (T := T) ((honq.block w.heap.size (by have := honb.size; simp at this; omega) (by omega)).trans (honb.block w.heap.size (by simp) (by omega))); obtain ⟨m1, m2, m3, m4, m5⟩ := md_cells hr1; dsimp only at m1 m2 m3; have hr2 : MdRow ((w1.setCell ⟨k, 4, none⟩ (.string (out ++ y))).setCell ⟨k, 5, none⟩ (.bool true)) k q ⟨win, plain, notes, bytesL L', true⟩ vn := (by have h9 := (hr1.out (out ++ y)).done true; rw [HM2.out] at h9 ⊢; exact h9); have hs1 : StrRow w1 vn notes := StrRow.on (StrRow.on (show StrRow (w.alloc (.cells #[.int .i64 c, .int .i64 4, .string T] 64)) vn notes from HW.out.strs.alloc _) honb HNE.out.1) honq HNE.out.2.1; have hon2 := ((On.refl k w1).set 4 (.string (out ++ y))).set 5 (.bool true); have hs2 : StrRow ((w1.setCell ⟨k, 4, none⟩ (.string (out ++ y))).setCell ⟨k, 5, none⟩ (.bool true)) vn notes := hs1.on hon2 HNE.out.2.2)
    | (go_at_call 47; refine (hSt _ hr2 hs2).mono ?_; rintro e w9 ⟨rfl, hb9⟩))
  go_ret
  have he2 := hon2.encAt HW.out.kq.symm he1
  exact ⟨rfl, ⟨below_md hb9 hr2, World.rowIs.of_block he2 (hb9.block q (World.rowIs.lt he2)), fun q => (by cases q), owns_blw hs2 hb9, HW.out.kq, HW.out.kb, HW.out.qb⟩, ((((Mv.of_below ((Below.refl _ w).alloc (Nat.le_refl _) _)).trans (Mv.of_on honb (Or.inr (Or.inr rfl)))).trans (Mv.of_on honq (Or.inr (Or.inl rfl)))).trans (Mv.of_on hon2 (Or.inl rfl))).trans (Mv.of_below hb9)⟩

set_option maxRecDepth 100000 in
set_option maxHeartbeats 400000 in
theorem does_done1 {w : World} {k q b : Nat} {L : List Int} {P : List UInt8} {s : Mw} {vn : Value} (h : Md w k q b L P s vn) (hd : s.done = true) (c : Int) (T : ByteArray) :
    Calls Try.prog 31 #[.pointer (some ⟨k, 0, none⟩), .agg #[.int .i64 c, .int .i64 1, .string T]] w fun e w' => e = .returned (.bool true) ∧ Below w.heap.size w w' := by
  obtain ⟨win, plain, notes, out, done⟩ := s
  dsimp only at hd
  subst hd
  have hrow := h.row
  have henc : EncAt w q none := h.enc
  have c0 : w.cell? ⟨k, 0, none⟩ = some (.pointer (some ⟨q, 0, none⟩)) := World.rowIs.cell hrow (by omega)
  have hfz := World.rowIs.frozen hrow
  have hk : k < w.heap.size := World.rowIs.lt hrow
  obtain ⟨m1, m2, m3, m4, m5⟩ := md_cells hrow
  dsimp only at m1 m2 m3
  have hE := fun (o : Obj) => EncWrite_done (w := ((w.alloc o).drew)) (World.rowIs.alloc henc o) T
  have hN := fun (W : World) => num_any W 6 (by omega) (by omega)
  clear h henc hrow
  go_enter Try.func31, Try.ntmps31
  go_wp2
  go_region_with (go_at_call 43; refine (hE _).mono ?_; rintro e w1 ⟨rfl, hw1⟩; obtain rfl := hw1.symm)
  all_goals
    go_wp2_with (first
      | (go_at_call 15; refine (hN _).mono ?_; rintro e w8 ⟨rfl, hw8⟩; obtain rfl := hw8.symm))
    go_ret
    exact ⟨rfl, ((Below.refl _ w).alloc (Nat.le_refl _) _).drew⟩

set_option maxRecDepth 100000 in
set_option maxHeartbeats 400000 in
theorem does_done2 {w : World} {k q b : Nat} {L : List Int} {P : List UInt8} {s : Mw} {vn : Value} (h : Md w k q b L P s vn) (hd : s.done = true) (c : Int) (T : ByteArray) :
    Calls Try.prog 31 #[.pointer (some ⟨k, 0, none⟩), .agg #[.int .i64 c, .int .i64 2, .string T]] w fun e w' => e = .returned (.bool true) ∧ Below w.heap.size w w' := by
  obtain ⟨win, plain, notes, out, done⟩ := s
  dsimp only at hd
  subst hd
  have hrow := h.row
  have henc : EncAt w q none := h.enc
  have c0 : w.cell? ⟨k, 0, none⟩ = some (.pointer (some ⟨q, 0, none⟩)) := World.rowIs.cell hrow (by omega)
  have hfz := World.rowIs.frozen hrow
  have hk : k < w.heap.size := World.rowIs.lt hrow
  obtain ⟨m1, m2, m3, m4, m5⟩ := md_cells hrow
  dsimp only at m1 m2 m3
  have hE := fun (o : Obj) => EncFlush_done (w := (w.alloc o)) (World.rowIs.alloc henc o) 
  have hN := fun (W : World) => num_any W 6 (by omega) (by omega)
  clear h henc hrow
  go_enter Try.func31, Try.ntmps31
  go_wp2_with (first
    | (go_at_call 15; refine (hN _).mono ?_; rintro e w8 ⟨rfl, hw8⟩; obtain rfl := hw8.symm)
    | (go_at_call 44; refine (hE _).mono ?_; rintro e w1 ⟨rfl, hw1⟩; obtain rfl := hw1.symm))
  go_ret
  exact ⟨rfl, (Below.refl _ w).alloc (Nat.le_refl _) _⟩

set_option maxRecDepth 100000 in
set_option maxHeartbeats 400000 in
theorem does_done3 {w : World} {k q b : Nat} {L : List Int} {P : List UInt8} {s : Mw} {vn : Value} (h : Md w k q b L P s vn) (hd : s.done = true) (c : Int) (T : ByteArray) :
    Calls Try.prog 31 #[.pointer (some ⟨k, 0, none⟩), .agg #[.int .i64 c, .int .i64 3, .string T]] w fun e w' => e = .returned (.bool true) ∧ Below w.heap.size w w' := by
  obtain ⟨win, plain, notes, out, done⟩ := s
  dsimp only at hd
  subst hd
  have hrow := h.row
  have henc : EncAt w q none := h.enc
  have c0 : w.cell? ⟨k, 0, none⟩ = some (.pointer (some ⟨q, 0, none⟩)) := World.rowIs.cell hrow (by omega)
  have hfz := World.rowIs.frozen hrow
  have hk : k < w.heap.size := World.rowIs.lt hrow
  obtain ⟨m1, m2, m3, m4, m5⟩ := md_cells hrow
  dsimp only at m1 m2 m3
  have hE := fun (o : Obj) => EncNote_done (w := ((w.alloc o).drew)) (World.rowIs.alloc henc o) T
  have hN := fun (W : World) => num_any W 6 (by omega) (by omega)
  clear h henc hrow
  go_enter Try.func31, Try.ntmps31
  go_wp2
  go_region_with (go_at_call 45; refine (hE _).mono ?_; rintro e w1 ⟨rfl, hw1⟩; obtain rfl := hw1.symm)
  all_goals
    go_wp2_with (first
      | (go_at_call 15; refine (hN _).mono ?_; rintro e w8 ⟨rfl, hw8⟩; obtain rfl := hw8.symm))
    go_ret
    exact ⟨rfl, ((Below.refl _ w).alloc (Nat.le_refl _) _).drew⟩

set_option maxRecDepth 100000 in
set_option maxHeartbeats 400000 in
theorem does_done4 {w : World} {k q b : Nat} {L : List Int} {P : List UInt8} {s : Mw} {vn : Value} (h : Md w k q b L P s vn) (hd : s.done = true) (c : Int) (T : ByteArray) :
    Calls Try.prog 31 #[.pointer (some ⟨k, 0, none⟩), .agg #[.int .i64 c, .int .i64 4, .string T]] w fun e w' => e = .returned (.bool true) ∧ Below w.heap.size w w' := by
  obtain ⟨win, plain, notes, out, done⟩ := s
  dsimp only at hd
  subst hd
  have hrow := h.row
  have henc : EncAt w q none := h.enc
  have c0 : w.cell? ⟨k, 0, none⟩ = some (.pointer (some ⟨q, 0, none⟩)) := World.rowIs.cell hrow (by omega)
  have hfz := World.rowIs.frozen hrow
  have hk : k < w.heap.size := World.rowIs.lt hrow
  obtain ⟨m1, m2, m3, m4, m5⟩ := md_cells hrow
  dsimp only at m1 m2 m3
  have hE := fun (o : Obj) => EncFinish_done (w := (w.alloc o)) (World.rowIs.alloc henc o) 
  have hN := fun (W : World) => num_any W 6 (by omega) (by omega)
  clear h henc hrow
  go_enter Try.func31, Try.ntmps31
  go_wp2_with (first
    | (go_at_call 15; refine (hN _).mono ?_; rintro e w8 ⟨rfl, hw8⟩; obtain rfl := hw8.symm)
    | (go_at_call 46; refine (hE _).mono ?_; rintro e w1 ⟨rfl, hw1⟩; obtain rfl := hw1.symm))
  go_ret
  exact ⟨rfl, (Below.refl _ w).alloc (Nat.le_refl _) _⟩

set_option maxRecDepth 100000 in
set_option maxHeartbeats 400000 in
theorem does_long {w : World} {k q b : Nat} {L : List Int} {P : List UInt8} {s : Mw} {vn : Value} (h : Md w k q b L P s vn) (hd : s.done = false) (c : Int) (T : ByteArray) (hT : 255 < T.size) :
    Calls Try.prog 31 #[.pointer (some ⟨k, 0, none⟩), .agg #[.int .i64 c, .int .i64 3, .string T]] w fun e w' => e = .returned (.bool true) ∧ Below w.heap.size w w' := by
  obtain ⟨win, plain, notes, out, done⟩ := s
  dsimp only at hd
  subst hd
  have hrow := h.row
  have henc : EncAt w q (some b) := h.enc
  have c0 : w.cell? ⟨k, 0, none⟩ = some (.pointer (some ⟨q, 0, none⟩)) := World.rowIs.cell hrow (by omega)
  have hfz := World.rowIs.frozen hrow
  have hk : k < w.heap.size := World.rowIs.lt hrow
  obtain ⟨m1, m2, m3, m4, m5⟩ := md_cells hrow
  dsimp only at m1 m2 m3
  have hE := fun (o : Obj) => EncNote_long (w := ((w.alloc o).drew)) (World.rowIs.alloc henc o) T hT
  have hN := fun (W : World) => num_any W 5 (by omega) (by omega)
  clear h henc hrow
  go_enter Try.func31, Try.ntmps31
  go_wp2
  go_region_with (go_at_call 45; refine (hE _).mono ?_; rintro e w1 ⟨rfl, hw1⟩; obtain rfl := hw1.symm)
  all_goals
    go_wp2_with (first
      | (go_at_call 15; refine (hN _).mono ?_; rintro e w8 ⟨rfl, hw8⟩; obtain rfl := hw8.symm))
    go_ret
    exact ⟨rfl, ((Below.refl _ w).alloc (Nat.le_refl _) _).drew⟩
end Go.Proofs.Ytmjigodhncjfjaa

namespace Go.Proofs.Ytmjigodhncjfjaa
open Go.RowKit Wr

theorem info_str9 : (Try.prog.info? 9).map (fun i => (i.zero, i.size, i.bytes)) = some (some (.string ByteArray.empty), 1, 16) := by kernel_rfl

theorem str_lt {w : World} {vn : Value} {N : List ByteArray} (h : StrRow w vn N) {g : Nat} (hg : vn.ownBlock = some g) : g < w.heap.size := by
  obtain ⟨_, h2⟩ := h
  rcases h2 with ⟨h3, _⟩ | ⟨g', cap, cur, hv, _, hh, _⟩
  · rw [h3] at hg; cases hg
  · rw [hv] at hg
    have e1 : g' = g := by simpa [Value.ownBlock] using hg
    subst e1
    rcases Nat.lt_or_ge g' w.heap.size with hl | hl
    · exact hl
    · rw [Array.getElem?_eq_none hl] at hh; cases hh

set_option maxRecDepth 100000 in
set_option maxHeartbeats 1000000 in
theorem does_note {w : World} {k q b : Nat} {L : List Int} {P : List UInt8} {s : Mw} {vn : Value} (h : Md w k q b L P s vn) (hd : s.done = false) (c : Int) (T : ByteArray) (hT : T.size ≤ 255) (hL : L.length + 8 * P.length ≤ 1000000000) (hnl : s.notes.length ≤ 1000000000) :
    Calls Try.prog 31 #[.pointer (some ⟨k, 0, none⟩), .agg #[.int .i64 c, .int .i64 3, .string T]] w fun e w' => e = .returned (.bool true) ∧ ∃ vn', Md w' k q b (noteL (letL L P) T.data.toList) [] { s with out := bytesL (noteL (letL L P) T.data.toList), notes := s.notes ++ [T] } vn' ∧ Mv k q b vn w vn' w' := by
  obtain ⟨win, plain, notes, out, done⟩ := s
  dsimp only at hd hnl
  subst hd
  obtain ⟨w1, hout, hdi⟩ := h.wr rfl
  dsimp only at hout hdi
  obtain ⟨i0, hi, hz0, hz1, hz2⟩ := info_parts info_str9
  have HIi : Hid (Try.prog.info? 9 = some i0 ∧ i0.zero = some (.string ByteArray.empty) ∧ i0.size = 1 ∧ i0.bytes = 16) := ⟨hi, hz0, hz1, hz2⟩
  clear hi hz0 hz1 hz2
  have hrow := h.row
  have henc : EncAt w q (some b) := h.enc
  have c0 : w.cell? ⟨k, 0, none⟩ = some (.pointer (some ⟨q, 0, none⟩)) := World.rowIs.cell hrow (by omega)
  have hfz := World.rowIs.frozen hrow
  have hk : k < w.heap.size := World.rowIs.lt hrow
  have hql : q < w.heap.size := World.rowIs.lt henc
  have hbw : b < w.heap.size := w1.lt
  have honA : ∀ o, On k w ((w.alloc o).drew) := fun o => ((On.refl k w).alloc o).drew
  have hEA := fun o => henc.on (honA o) h.kq.symm
  have hWA := fun o => w1.on (honA o) h.kb.symm
  have hRA : ∀ o, MdRow ((w.alloc o).drew) k q ⟨win, plain, notes, out, false⟩ vn := fun o => World.rowIs.alloc hrow o
  have hE := fun W (h1 : EncAt W q (some b)) (h2 : W0 W b L P) => EncNote_open h1 h2 T hT (by omega)
  have HM := bytesL_more ((ext_let L P).trans (ext_note (letL L P) T.data.toList))
  have HI : Hid (DInv (noteL (letL L P) T.data.toList, []) win plain.data.toList (notes ++ [T])) := dinv_note hdi T hT
  have hNT : T.data.toList.length = T.size := by simp
  have hfl : (noteL (letL L P) T.data.toList).length ≤ L.length + 5000 + 8 * P.length := by
    have h1 := letL_length L P
    unfold noteL
    have h2 := padL_le (headL (letL L P) false 3 ++ numBits (T.data.toList.length : Int) 8)
    rw [List.length_append, numBits_length, headL_length] at h2
    rw [List.length_append, byteBits_length]
    omega
  generalize noteL (letL L P) T.data.toList = L' at *
  have hsz := outFrom_size L' (L.length / 8)
  have hso : out.size = L.length / 8 := by rw [hout, bytesL_size]
  have HM2 : Hid (out ++ outStr (outFrom L' (L.length / 8)) = bytesL L') := by rw [Hid, hout]; exact HM
  generalize outStr (outFrom L' (L.length / 8)) = y at *
  have hcat : out.size + y.size ≤ 9223372036854775807 := by omega
  have hN := fun (W : World) => num_any W 0 (by omega) (by omega)
  have hSt := fun (W : World) => stands_none W k 3 (by omega) (by omega)
  have HW : Hid (Md w k q b L P ⟨win, plain, notes, out, false⟩ vn) := h
  have HNE : Hid (some b ≠ vn.ownBlock ∧ some q ≠ vn.ownBlock ∧ some k ≠ vn.ownBlock) := ⟨str_ne h.strs (W0.row9 (h.wr rfl).1).2 (by decide), str_ne h.strs henc (by decide), str_ne h.strs hrow (by decide)⟩
  have hkn : w.heap.size ≠ k := by omega
  obtain ⟨na, nc, hvn⟩ := owns_slice h.strs
  subst hvn
  clear h HM hfl hsz hso hdi hout w1 henc hNT
  go_enter Try.func31, Try.ntmps31
  go_wp2
  go_region_with (go_at_call 45; refine (hE _ (hEA _) (hWA _)).mono ?_; rintro e w1 ⟨rfl, hw1, hon1⟩; have hr1 : MdRow w1 k q ⟨win, plain, notes, out, false⟩ _ := World.rowIs.of_block (hRA _) (hon1.block k (World.rowIs.lt (hRA _)) HW.out.kb); have he1 := hon1.encAt HW.out.qb (hEA _))
  all_goals
    obtain ⟨o1, o2⟩ := op_cells (c := c) (kind := 3) (T := T) (hon1.block w.heap.size (by simp) (by omega))
    obtain ⟨m1, m2, m3, m4, m5⟩ := md_cells hr1
    dsimp only at m1 m2 m3 m4
    have hs1 : StrRow w1 (.slice na notes.length nc) notes := StrRow.on (show StrRow ((w.alloc (.cells #[.int .i64 c, .int .i64 3, .string T] 64)).drew) (.slice na notes.length nc) notes from HW.out.strs.alloc _) hon1 HNE.out.1
    clear hE hEA hWA hRA
    go_wp2_with (first
      | (go_at_call 15; refine (hN _).mono ?_; rintro e w8 ⟨rfl, hw8⟩; obtain rfl := hw8.symm))
    have hon2 := (On.refl k w1).set 4 (.string (out ++ y))
    have hr3 : MdRow (w1.setCell ⟨k, 4, none⟩ (.string (out ++ y))) k q ⟨win, plain, notes, bytesL L', false⟩ (.slice na notes.length nc) := by
      have h9 := hr1.out (out ++ y)
      rw [HM2.out] at h9 ⊢
      exact h9
    have hs3 : StrRow (w1.setCell ⟨k, 4, none⟩ (.string (out ++ y))) (.slice na notes.length nc) notes := hs1.on hon2 HNE.out.2.2
    have he3 := hon2.encAt HW.out.kq.symm he1
    have hw3 := hw1.on hon2 HW.out.kb.symm
    have p2 : (w1.setCell ⟨k, 4, none⟩ (.string (out ++ y))).cell? ⟨w.heap.size, 2, none⟩ = some (.string T) := (World.cell?_setCell_other _ _ _ _ (by intro q; injection q with q1 _ _; omega)).trans o2
    have p1 : (w1.setCell ⟨k, 4, none⟩ (.string (out ++ y))).cell? ⟨w.heap.size, 1, none⟩ = some (.int .i64 3) := (World.cell?_setCell_other _ _ _ _ (by intro q; injection q with q1 _ _; omega)).trans o1
    have hwl : w.heap.size < (w1.setCell ⟨k, 4, none⟩ (.string (out ++ y))).heap.size := by
      have z1 := hon1.size
      have z2 := hon2.size
      simp at z1
      omega
    have hmv : Mv k q b (.slice na notes.length nc) w (.slice na notes.length nc) (w1.setCell ⟨k, 4, none⟩ (.string (out ++ y))) := ((Mv.of_below ((Below.refl _ w).alloc (Nat.le_refl _) _).drew).trans (Mv.of_on hon1 (Or.inr (Or.inr rfl)))).trans (Mv.of_on hon2 (Or.inl rfl))
    generalize w1.setCell ⟨k, 4, none⟩ (.string (out ++ y)) = w3 at *
    obtain ⟨n1, n2, n3, n4, n5⟩ := md_cells hr3
    dsimp only at n1 n2 n3 n4
    have h1n : ∀ u ∈ [Value.string T], u.oneCell' = true := by intro u hu; simp at hu; subst hu; rfl
    have hDd : Hid (StrRow w3.drew (.slice na notes.length nc) notes) := hs3
    have hrd : MdRow w3.drew k q ⟨win, plain, notes, bytesL L', false⟩ (.slice na notes.length nc) := hr3
    have hk3 : k < w3.heap.size := World.rowIs.lt hr3
    clear hs3 hs1 m1 m2 m3 m4 m5 o1 o2 hr1 hw1 he1 hon1 hon2
    go_region_law (refine step_append_own_at rfl (.tmp 112) (.tmp 115) 59 rfl 0 9 i0 (.string ByteArray.empty) 1 16 Try.underlying59 HIi.out.1 HIi.out.2.1 HIi.out.2.2.1 HIi.out.2.2.2 rfl (by decide) (.slice na notes.length nc) notes.length (notes.map Value.string) (by simp [Act.eval]) (hDd.out.alloc _) ⟨w3.heap.size, 0, none⟩ 1 1 [.string T] (by simp [Act.eval]) rfl (cell_one_new _ _ _) h1n (by unfold maxLen; omega) (by omega) (Nat.zero_le _) ?_; intro v' w4 hown' hgrow hat; obtain ⟨g2, cap2, hv2⟩ := owns_shape hown'; subst hv2; have hrm := World.rowIs.of_block (World.rowIs.alloc hrd _) (hgrow.block k (by simp; omega) HNE.out.2.2); have cm : w4.cell? ⟨k, 3, none⟩ = some (.slice na notes.length nc) := World.rowIs.cell hrm (by omega); have hfm := World.rowIs.frozen hrm)
    all_goals
      have hX : ∀ i, i < w3.heap.size → some i ≠ (Value.slice na notes.length nc).ownBlock → w4.heap[i]? = w3.heap[i]? := fun i hi hn => (hgrow.block i (by simp; omega) hn).trans (Below.heap_alloc _ _ _ hi)
      have hwn : some w.heap.size ≠ (Value.slice na notes.length nc).ownBlock := fun e => by
        have := str_lt HW.out.strs e.symm
        omega
      have p4 : w4.cell? ⟨w.heap.size, 1, none⟩ = some (.int .i64 3) := (World.cell?_of_block (w := w3) (a := ⟨w.heap.size, 1, none⟩) (hX w.heap.size hwl hwn)).trans p1
      have hz4 : w3.heap.size ≤ w4.heap.size := by
        have := hgrow.size
        simp at this
        omega
      have he4 : EncAt w4 q (some b) := World.rowIs.of_block he3 (hX q (World.rowIs.lt he3) HNE.out.2.1)
      have hw4 : W0 w4 b L' [] := hw3.of_block (hX b hw3.lt HNE.out.1)
      have hkv : some k ≠ (Value.slice (some ⟨g2, 0, none⟩) (notes.length + 1) cap2).ownBlock := fun e => by
        rcases hat with e2 | e2
        · exact HNE.out.2.2 (e.trans e2)
        · rw [e2] at e
          injection e with e
          simp at e
          omega
      have hmv4 : Mv k q b (.slice na notes.length nc) w3 (.slice (some ⟨g2, 0, none⟩) (notes.length + 1) cap2) w4 := by
        refine ⟨hgrow.os, hgrow.tape, hgrow.output, hz4, fun i hi _ _ _ hn => hX i hi hn, ?_⟩
        rcases hat with e2 | e2
        · exact Or.inl e2
        · refine Or.inr ⟨_, e2, ?_⟩
          simp
      have hs4 : StrRow w4 (.slice (some ⟨g2, 0, none⟩) (notes.length + 1) cap2) (notes ++ [T]) := by
        unfold StrRow
        rw [List.length_append, List.map_append]
        exact hown'
      have hrm4 : MdRow w4 k q ⟨win, plain, notes, bytesL L', false⟩ (.slice na notes.length nc) := hrm
      have hr5 := hrm4.notes (.slice (some ⟨g2, 0, none⟩) (notes.length + 1) cap2) (notes ++ [T])
      have hon5 := (On.refl k w4).set 3 (.slice (some ⟨g2, 0, none⟩) (notes.length + 1) cap2)
      clear hgrow hat hown' hrm hX
      go_wp2_with (first
        | (go_at_call 47; refine (hSt _).mono ?_; rintro e w9 ⟨rfl, hw9⟩; obtain rfl := hw9.symm))
      go_ret
      exact ⟨rfl, _, ⟨hr5, hon5.encAt HW.out.kq.symm he4, fun _ => ⟨hw4.on hon5 HW.out.kb.symm, rfl, HI.out⟩, hs4.on hon5 hkv, HW.out.kq, HW.out.kb, HW.out.qb⟩, (hmv.trans hmv4).trans (Mv.of_on hon5 (Or.inl rfl))⟩
end Go.Proofs.Ytmjigodhncjfjaa

namespace Go.Proofs.Ytmjigodhncjfjaa
open Go.RowKit Wr

theorem Md.below {w w' : World} {k q b : Nat} {L : List Int} {P : List UInt8} {s : Mw} {vn : Value} (h : Md w k q b L P s vn) (hB : Below w.heap.size w w') : Md w' k q b L P s vn :=
  ⟨below_md hB h.row, World.rowIs.of_block h.enc (hB.block q (World.rowIs.lt h.enc)), fun e => ⟨(h.wr e).1.of_block (hB.block b (h.wr e).1.lt), (h.wr e).2⟩, owns_blw h.strs hB, h.kq, h.kb, h.qb⟩
structure RoomM (L : List Int) (P : List UInt8) (s : Mw) (n : Nat) : Prop where
  phi : L.length + 8 * P.length + 30 * n ≤ 1000000000
  plain : s.plain.size + n ≤ 1000000000
  notes : s.notes.length + n ≤ 1000000000
theorem RoomM.less {L : List Int} {P : List UInt8} {s : Mw} {n m : Nat} (h : RoomM L P s n) (hm : m ≤ n) : RoomM L P s m := ⟨by have := h.phi; omega, by have := h.plain; omega, by have := h.notes; omega⟩

theorem does_any {w : World} {k q b : Nat} {L : List Int} {P : List UInt8} {s : Mw} {vn : Value} (h : Md w k q b L P s vn) (c kind : Int) (T : ByteArray) {n : Nat} (hr : RoomM L P s (n + T.size + 4)) :
    Calls Try.prog 31 #[.pointer (some ⟨k, 0, none⟩), .agg #[.int .i64 c, .int .i64 kind, .string T]] w fun e w' => e = .returned (.bool true) ∧ ∃ L' P' s' vn', Md w' k q b L' P' s' vn' ∧ Mv k q b vn w vn' w' ∧ RoomM L' P' s' n := by
  have h1 := hr.phi
  have h2 := hr.plain
  have h3 := hr.notes
  have hsame : ∀ (f : Ending → World → Prop), (∀ e w', f e w' → e = .returned (.bool true) ∧ Below w.heap.size w w') → ∀ e w', f e w' → e = .returned (.bool true) ∧ ∃ L' P' s' vn', Md w' k q b L' P' s' vn' ∧ Mv k q b vn w vn' w' ∧ RoomM L' P' s' n := fun f hf e w' hh => by
    obtain ⟨e1, e2⟩ := hf e w' hh
    exact ⟨e1, L, P, s, vn, h.below e2, Mv.of_below e2, hr.less (by omega)⟩
  by_cases k1 : kind = 1
  · subst k1
    cases hd : s.done
    · have hphi := writeE_phi T.data.toList (L, P)
      have hTs : T.data.toList.length = T.size := by simp
      have e0 : phiE (L, P) = L.length + 8 * P.length := rfl
      refine (does_write h hd c T (by omega) (by omega)).mono ?_
      rintro e w' ⟨rfl, m1, m2⟩
      refine ⟨rfl, _, _, _, _, m1, m2, ⟨?_, ?_, by show s.notes.length + n ≤ _; omega⟩⟩
      · show phiE (writeE (L, P) T.data.toList) + _ ≤ _
        omega
      · show (s.plain ++ T).size + n ≤ _
        rw [ByteArray.size_append]
        omega
    · exact (does_done1 h hd c T).mono (hsame _ fun _ _ q => q)
  by_cases k2 : kind = 2
  · subst k2
    cases hd : s.done
    · refine (does_flush h hd c T (by omega)).mono ?_
      rintro e w' ⟨rfl, m1, m2⟩
      refine ⟨rfl, _, _, _, _, m1, m2, ⟨?_, by show s.plain.size + n ≤ _; omega, by show s.notes.length + n ≤ _; omega⟩⟩
      have h8 := letL_length L P
      have h9 : (flushL L P).length ≤ (letL L P).length + 10 := by
        unfold flushL
        split
        · omega
        · unfold emptyL
          have h3 := padL_le (headL (letL L P) false 0)
          rw [headL_length] at h3
          omega
      show (flushL L P).length + 8 * 0 + 30 * n ≤ _
      omega
    · exact (does_done2 h hd c T).mono (hsame _ fun _ _ q => q)
  by_cases k3 : kind = 3
  · subst k3
    cases hd : s.done
    · by_cases hT : T.size ≤ 255
      · refine (does_note h hd c T hT (by omega) (by omega)).mono ?_
        rintro e w' ⟨rfl, vn', m1, m2⟩
        refine ⟨rfl, _, _, _, _, m1, m2, ⟨?_, by show s.plain.size + n ≤ _; omega, by show (s.notes ++ [T]).length + n ≤ _; rw [List.length_append, List.length_singleton]; omega⟩⟩
        have h8 := letL_length L P
        have hTs : T.data.toList.length = T.size := by simp
        have h9 : (noteL (letL L P) T.data.toList).length ≤ (letL L P).length + 18 + 8 * T.size := by
          unfold noteL
          have h2 := padL_le (headL (letL L P) false 3 ++ numBits (T.data.toList.length : Int) 8)
          rw [List.length_append, numBits_length, headL_length] at h2
          rw [List.length_append, byteBits_length]
          omega
        show (noteL (letL L P) T.data.toList).length + 8 * 0 + 30 * n ≤ _
        omega
      · exact (does_long h hd c T (by omega)).mono (hsame _ fun _ _ q => q)
    · exact (does_done3 h hd c T).mono (hsame _ fun _ _ q => q)
  by_cases k4 : kind = 4
  · subst k4
    cases hd : s.done
    · refine (does_finish h hd c T (by omega) (by omega)).mono ?_
      rintro e w' ⟨rfl, m1, m2⟩
      exact ⟨rfl, _, _, _, _, m1, m2, ⟨by omega, by show s.plain.size + n ≤ _; omega, by show s.notes.length + n ≤ _; omega⟩⟩
    · exact (does_done4 h hd c T).mono (hsame _ fun _ _ q => q)
  exact (does_other h c kind T k1 k2 k3 k4).mono (hsame _ fun _ _ q => q)

/-- a new one -/
theorem md_new {w : World} {q b : Nat} {x : Int} (h0 : 0 ≤ x) (h8 : x ≤ 8) (hw : W0 w b (numBits x 4) []) (he : EncAt w q (some b)) (hbq : b < q) :
    Md (w.alloc (.cells #[.pointer (some ⟨q, 0, none⟩), .int .i64 x, .string ⟨#[]⟩, .slice none 0 0, .string ⟨#[]⟩, .bool false] 61)) w.heap.size q b (numBits x 4) [] ⟨x, ByteArray.empty, [], ByteArray.empty, false⟩ (.slice none 0 0) := by
  have hq := World.rowIs.lt he
  have hb := hw.lt
  refine ⟨?_, World.rowIs.alloc he _, fun _ => ⟨hw.alloc _, ?_, dinv_init x h0 h8⟩, World.ownsRow_nil _ _ _ _, by omega, by omega, by omega⟩
  · exact World.rowIs_alloc w #[.pointer (some ⟨q, 0, none⟩), .int .i64 x, .string ⟨#[]⟩, .slice none 0 0, .string ⟨#[]⟩, .bool false] 61 _ (fun i hi => by
      match i, hi with
      | 0, _ => rfl
      | 1, _ => rfl
      | 2, _ => rfl
      | 3, _ => rfl
      | 4, _ => rfl
      | 5, _ => rfl)
  · show ByteArray.empty = outStr (outFrom (numBits x 4) 0)
    unfold outFrom
    rw [numBits_length]
    rfl
theorem Mv.below {k q b : Nat} {vn vn' : Value} {w0 w w' : World} (h : Mv k q b vn w vn' w') (hk : w0.heap.size ≤ k) (hq : w0.heap.size ≤ q) (hb : w0.heap.size ≤ b) (hv : ∀ g, vn.ownBlock = some g → w0.heap.size ≤ g) (hB : Below w0.heap.size w0 w) : Below w0.heap.size w0 w' ∧ ∀ g, vn'.ownBlock = some g → w0.heap.size ≤ g := by
  have hz := hB.size
  refine ⟨hB.trans ⟨h.os, h.tape, h.output, h.size, fun i hi => h.block i (by omega) (by omega) (by omega) (by omega) (fun e => by have := hv i e.symm; omega)⟩, fun g hg => ?_⟩
  rcases h.own with e | ⟨g', e, hg'⟩
  · rw [e] at hg; exact hv g hg
  · rw [e] at hg
    injection hg with hg
    omega
theorem none_own : ∀ (B : Nat) g, (Value.slice none 0 0).ownBlock = some g → B ≤ g := fun _ g h => by cases h

theorem room_new (x : Int) (n : Nat) (hn : n ≤ 20000000 := by decide) : RoomM (numBits x 4) [] ⟨x, ByteArray.empty, [], ByteArray.empty, false⟩ n := by
  have h := numBits_length x 4
  have h0 : (ByteArray.empty).size = 0 := rfl
  refine ⟨?_, ?_, ?_⟩
  · show (numBits x 4).length + 8 * 0 + 30 * n ≤ _
    omega
  · show (ByteArray.empty).size + n ≤ _
    omega
  · show 0 + n ≤ _
    omega
set_option maxRecDepth 100000 in
set_option maxHeartbeats 1000000 in
theorem lbegins_any (w : World) : Calls Try.prog 28 #[] w fun e w' => e = .returned (.bool true) ∧ Below w.heap.size w w' := by
  have hN := fun (W : World) => num_any W 0 (by omega) (by omega)
  have h1 := NewEncoder_good w 0 0 (by omega) (by omega) (by omega) (by omega)
  go_enter Try.func28, Try.ntmps28
  go_wp2_with (first
    | (go_at_call 29; refine h1.mono ?_; rintro e w1 ⟨q, b, rfl, hb0, hbq, hw1, he1, hB1⟩; have hm1 := md_new (by omega) (by omega) hw1 he1 hbq; have hz1 := hB1.size)
    | (go_at_call 15; refine (hN _).mono ?_; rintro e w8 ⟨rfl, hw8⟩; obtain rfl := hw8.symm)
    | (go_at_call 31; first
        | (refine (does_any (n := 0) hm3 0 4 ⟨#[]⟩ (hr3.less (by decide))).mono ?_; rintro e w4 ⟨rfl, L4, P4, s4, v4, hm4, hv4, hr4⟩)
        | (refine (does_any (n := 100) hm2 0 4 ⟨#[]⟩ (hr2.less (by decide))).mono ?_; rintro e w3 ⟨rfl, L3, P3, s3, v3, hm3, hv3, hr3⟩)
        | (refine (does_any (n := 200) hm1 0 1 ⟨#[97, 98, 99]⟩ (room_new _ _)).mono ?_; rintro e w2 ⟨rfl, L2, P2, s2, v2, hm2, hv2, hr2⟩)))
  go_ret
  have c1 := hB1.alloc hz1 (.cells #[.pointer (some ⟨q, 0, none⟩), .int .i64 0, .string ⟨#[]⟩, .slice none 0 0, .string ⟨#[]⟩, .bool false] 61)
  have c2 := hv2.below (w0 := w) (by omega) (by omega) hb0 (none_own _) c1
  have c3 := hv3.below (w0 := w) (by omega) (by omega) hb0 c2.2 c2.1
  have c4 := hv4.below (w0 := w) (by omega) (by omega) hb0 c3.2 c3.1
  exact ⟨rfl, c4.1⟩
end Go.Proofs.Ytmjigodhncjfjaa

namespace Go.Proofs.Ytmjigodhncjfjaa
open Go.RowKit Wr

def pickN (c n : Int) : Int := if c < 0 then (-(c + 1)) % n else c % n
theorem pickN_bounds (c n : Int) (hn : 1 ≤ n) : 0 ≤ pickN c n ∧ pickN c n < n := by
  unfold pickN
  split
  · exact ⟨Int.emod_nonneg _ (by omega), Int.emod_lt_of_pos _ (by omega)⟩
  · exact ⟨Int.emod_nonneg _ (by omega), Int.emod_lt_of_pos _ (by omega)⟩
set_option maxHeartbeats 400000 in
theorem lpick_any (w : World) (c n : Int) (h1 : -9223372036854775808 ≤ c) (h2 : c ≤ 9223372036854775807) (h3 : 1 ≤ n) (h4 : n ≤ 1000000) :
    Calls Try.prog 24 #[.int .i64 c, .int .i64 n] w fun e w' => e = .returned (.int .i64 (pickN c n)) ∧ w' = w := by
  by_cases hc : c < 0
  · have HE : Hid (pickN c n = -((c + 1).tmod n)) := by
      rw [Hid, pickN, if_pos hc, ← Int.neg_tmod, Int.tmod_eq_emod_of_nonneg (by omega)]
    go_enter Try.func24, Try.ntmps24
    go_wp2
    go_ret
    rw [HE.out]
    exact ⟨rfl, rfl⟩
  · have HE : Hid (pickN c n = c % n) := by rw [Hid, pickN, if_neg hc]
    go_enter Try.func24, Try.ntmps24
    go_wp2
    go_ret
    rw [HE.out]
    exact ⟨rfl, rfl⟩
set_option maxHeartbeats 400000 in
theorem Param_good (w : World) (x l : Int) (h0 : 0 ≤ x) (h8 : x ≤ 8) (l0 : 0 ≤ l) (l2 : l ≤ 2) : Calls Try.prog 30 #[.int .i64 x, .int .i64 l] w fun e w' => e = .returned (.int .i64 0) ∧ w' = w := by
  go_enter Try.func30, Try.ntmps30
  go_wp2
  go_ret
  exact ⟨rfl, rfl⟩
set_option maxHeartbeats 400000 in
theorem Param_bad (w : World) (x l : Int) (h : ¬ (0 ≤ x ∧ x ≤ 8 ∧ 0 ≤ l ∧ l ≤ 2)) : Calls Try.prog 30 #[.int .i64 x, .int .i64 l] w fun e w' => e = .returned (.int .i64 4) ∧ w' = w := by
  by_cases h1 : x < 0
  · go_enter Try.func30, Try.ntmps30
    go_wp2
    go_ret
    exact ⟨rfl, rfl⟩
  by_cases h2 : 8 < x
  · go_enter Try.func30, Try.ntmps30
    go_wp2
    go_ret
    exact ⟨rfl, rfl⟩
  by_cases h3 : l < 0
  · go_enter Try.func30, Try.ntmps30
    go_wp2
    go_ret
    exact ⟨rfl, rfl⟩
  have h4 : 2 < l := by omega
  clear h
  go_enter Try.func30, Try.ntmps30
  go_wp2
  go_ret
  exact ⟨rfl, rfl⟩

structure EN where
  L : List Int
  P : List UInt8
  s : Mw
  v : Value
def updE (st : Nat → EN) (j : Nat) (x : EN) (i : Nat) : EN := if i = j then x else st i
structure Two (w : World) (B : Nat) (fs : Nat → Nat × Nat × Nat) (st : Nat → EN) (n : Nat) : Prop where
  md : ∀ i, i < 2 → Md w (fs i).1 (fs i).2.1 (fs i).2.2 (st i).L (st i).P (st i).s (st i).v
  room : ∀ i, i < 2 → RoomM (st i).L (st i).P (st i).s n
  own : ∀ i, i < 2 → ∀ g, (st i).v.ownBlock = some g → B ≤ g
  ne : ∀ i j, i < 2 → j < 2 → i ≠ j → ∀ g, (st i).v.ownBlock = some g → (st j).v.ownBlock ≠ some g
  nb : ∀ i j, i < 2 → j < 2 → ∀ g, (st i).v.ownBlock = some g → g ≠ (fs j).2.2
  lt : ∀ j, j < 2 → (fs j).2.2 < w.heap.size
def Apart (fs : Nat → Nat × Nat × Nat) : Prop := ∀ i j, i < 2 → j < 2 → i ≠ j → (fs i).1 ≠ (fs j).1 ∧ (fs i).1 ≠ (fs j).2.1 ∧ (fs i).1 ≠ (fs j).2.2 ∧ (fs i).2.1 ≠ (fs j).1 ∧ (fs i).2.1 ≠ (fs j).2.1 ∧ (fs i).2.1 ≠ (fs j).2.2 ∧ (fs i).2.2 ≠ (fs j).1 ∧ (fs i).2.2 ≠ (fs j).2.1 ∧ (fs i).2.2 ≠ (fs j).2.2
theorem Two.step {w w' : World} {B : Nat} {fs : Nat → Nat × Nat × Nat} {st : Nat → EN} {n m : Nat} (h : Two w B fs st n) (ha : Apart fs) {j : Nat} (hj : j < 2) {x : EN} (hm : Md w' (fs j).1 (fs j).2.1 (fs j).2.2 x.L x.P x.s x.v) (hv : Mv (fs j).1 (fs j).2.1 (fs j).2.2 (st j).v w x.v w') (hr : RoomM x.L x.P x.s m) (hmn : m ≤ n) (hB : B ≤ w.heap.size) : Two w' B fs (updE st j x) m := by
  refine ⟨fun i hi => ?_, fun i hi => ?_, fun i hi g hg => ?_, fun i i' hi hi' hne g hg => ?_, fun i i' hi hi' g hg => ?_, fun i hi => Nat.lt_of_lt_of_le (h.lt i hi) hv.size⟩
  · by_cases e : i = j
    · subst e; unfold updE; rw [if_pos rfl]; exact hm
    · unfold updE; rw [if_neg e]
      have hh := ha i j hi hj e
      have h1 := h.md i hi
      have hjm := h.md j hj
      have bl : ∀ a, a < w.heap.size → a ≠ (fs j).1 → a ≠ (fs j).2.1 → a ≠ (fs j).2.2 → some a ≠ (st j).v.ownBlock → w'.heap[a]? = w.heap[a]? := fun a b1 b2 b3 b4 b5 => hv.block a b1 b2 b3 b4 b5
      have e1 := bl _ (World.rowIs.lt h1.row) hh.1 hh.2.1 hh.2.2.1 (str_ne hjm.strs h1.row (by decide))
      have e2 := bl _ (World.rowIs.lt h1.enc) hh.2.2.2.1 hh.2.2.2.2.1 hh.2.2.2.2.2.1 (str_ne hjm.strs h1.enc (by decide))
      refine ⟨World.rowIs.of_block h1.row e1, World.rowIs.of_block h1.enc e2, fun q => ⟨(h1.wr q).1.of_block (bl _ (h1.wr q).1.lt hh.2.2.2.2.2.2.1 hh.2.2.2.2.2.2.2.1 hh.2.2.2.2.2.2.2.2 (str_ne hjm.strs (W0.row9 (h1.wr q).1).2 (by decide))), (h1.wr q).2⟩, owns_of_block h1.strs fun g hg => bl g (str_lt h1.strs hg) ?_ ?_ ?_ ?_, h1.kq, h1.kb, h1.qb⟩
      · intro q; exact str_ne h1.strs hjm.row (by decide) (by rw [← q, hg])
      · intro q; exact str_ne h1.strs hjm.enc (by decide) (by rw [← q, hg])
      · exact h.nb i j hi hj g hg
      · intro q; exact h.ne i j hi hj e g hg q.symm
  · by_cases e : i = j
    · subst e; unfold updE; rw [if_pos rfl]; exact hr
    · unfold updE; rw [if_neg e]; exact (h.room i hi).less hmn
  · by_cases e : i = j
    · subst e; unfold updE at hg; rw [if_pos rfl] at hg
      rcases hv.own with q | ⟨g', q, hg'⟩
      · rw [q] at hg; exact h.own i hi g hg
      · rw [q] at hg; injection hg with hg; omega
    · unfold updE at hg; rw [if_neg e] at hg; exact h.own i hi g hg
  · by_cases e : i = j
    · subst e
      unfold updE at hg ⊢
      rw [if_pos rfl] at hg
      rw [if_neg (fun q => hne q.symm)]
      rcases hv.own with q | ⟨g', q, hg'⟩
      · rw [q] at hg; exact h.ne i i' hi hi' hne g hg
      · rw [q] at hg; injection hg with hg
        intro q2
        have := str_lt (h.md i' hi').strs q2
        omega
    · unfold updE at hg ⊢
      rw [if_neg e] at hg
      by_cases e' : i' = j
      · rw [if_pos e']
        rcases hv.own with q | ⟨g', q, hg'⟩
        · rw [q]
          exact h.ne i j hi hj e g hg
        · rw [q]
          intro q2
          injection q2 with q2
          have := str_lt (h.md i hi).strs hg
          omega
      · exfalso; omega
  · by_cases e : i = j
    · subst e
      unfold updE at hg
      rw [if_pos rfl] at hg
      rcases hv.own with q | ⟨g', q, hg'⟩
      · rw [q] at hg; exact h.nb i i' hi hi' g hg
      · rw [q] at hg; injection hg with hg
        have := h.lt i' hi'
        omega
    · unfold updE at hg
      rw [if_neg e] at hg
      exact h.nb i i' hi hi' g hg

/-- a slice of ops -/
def IsOps (W : World) (a : Option Addr) (len : Nat) (c : Nat → Int × Int × ByteArray) : Prop :=
  len ≤ 9223372036854775807 ∧ (0 < len → ∃ cb co, a = some ⟨cb, co, none⟩ ∧ cb < W.heap.size ∧ ∀ i, i < len → W.cell? ⟨cb, co + i * 3, none⟩ = some (.int .i64 (c i).1) ∧ W.cell? ⟨cb, co + i * 3 + 1, none⟩ = some (.int .i64 (c i).2.1) ∧ W.cell? ⟨cb, co + i * 3 + 2, none⟩ = some (.string (c i).2.2) ∧ -9223372036854775808 ≤ (c i).1 ∧ (c i).1 ≤ 9223372036854775807)
def bulkO (c : Nat → Int × Int × ByteArray) : Nat → Nat
  | 0 => 0
  | n + 1 => bulkO c n + ((c n).2.2.size + 4)
theorem bulkO_le (c : Nat → Int × Int × ByteArray) {n m : Nat} (h : n ≤ m) : bulkO c n ≤ bulkO c m := by
  induction m with
  | zero => rw [Nat.le_zero.1 h]; exact Nat.le_refl _
  | succ m ih =>
    by_cases e : n = m + 1
    · rw [e]; exact Nat.le_refl _
    · have := ih (by omega)
      show _ ≤ bulkO c m + _
      omega

set_option maxRecDepth 100000 in
set_option maxHeartbeats 1000000 in
theorem Encodes_bad (w : World) (x l : Int) (a : Option Addr) (len cap : Nat) (x0 : -9223372036854775808 ≤ x) (x1 : x ≤ 9223372036854775807) (h : ¬ (0 ≤ x ∧ x ≤ 8 ∧ 0 ≤ l ∧ l ≤ 2)) :
    Calls Try.prog 7 #[.int .i64 x, .int .i64 l, .slice a len cap] w fun e w' => e = .returned (.bool true) ∧ Below w.heap.size w w' := by
  have hBg := lbegins_any w
  have hpb := pickN_bounds x 3 (by omega)
  have hPk := fun W => lpick_any W x 3 x0 x1 (by omega) (by omega)
  generalize pickN x 3 = pw at *
  have hE1 := fun W => NewEncoder_bad W x l h
  have hP1 := fun W => Param_bad W x l h
  have hN4 := fun (W : World) => num_any W 4 (by omega) (by omega)
  have hN0 := fun (W : World) => num_any W 0 (by omega) (by omega)
  clear h
  by_cases hl : 0 ≤ l ∧ l ≤ 8
  · have hE2 := fun W => NewEncoder_good W l pw hl.1 hl.2 hpb.1 (by omega)
    have hP2 := fun W => Param_good W l pw hl.1 hl.2 hpb.1 (by omega)
    go_enter Try.func7, Try.ntmps7
    go_wp2_with (first
      | (go_at_call 28; refine hBg.mono ?_; rintro e w1 ⟨rfl, hB1⟩)
      | (go_at_call 24; refine (hPk _).mono ?_; rintro e w8 ⟨rfl, hw8⟩; obtain rfl := hw8.symm)
      | (go_at_call_of 29 (Value.int .i64 x); refine (hE1 _).mono ?_; rintro e w7 ⟨rfl, hw7⟩; obtain rfl := hw7.symm)
      | (go_at_call_of 29 (Value.int .i64 pw); refine (hE2 _).mono ?_; rintro e w3 ⟨q2, b2, rfl, hb2, hbq2, hw2, he2, hB3⟩)
      | (go_at_call_of 30 (Value.int .i64 x); refine (hP1 _).mono ?_; rintro e w8 ⟨rfl, hw8⟩; obtain rfl := hw8.symm)
      | (go_at_call_of 30 (Value.int .i64 pw); refine (hP2 _).mono ?_; rintro e w8 ⟨rfl, hw8⟩; obtain rfl := hw8.symm)
      | (go_at_call_of 15 (Value.int .i64 4); refine (hN4 _).mono ?_; rintro e w8 ⟨rfl, hw8⟩; obtain rfl := hw8.symm)
      | (go_at_call_of 15 (Value.int .i64 0); refine (hN0 _).mono ?_; rintro e w8 ⟨rfl, hw8⟩; obtain rfl := hw8.symm))
    go_ret
    exact ⟨rfl, hB1.trans (hB3.mono hB1.size)⟩
  · have hE2 := fun W => NewEncoder_bad W l pw (by omega)
    have hP2 := fun W => Param_bad W l pw (by omega)
    go_enter Try.func7, Try.ntmps7
    go_wp2_with (first
      | (go_at_call 28; refine hBg.mono ?_; rintro e w1 ⟨rfl, hB1⟩)
      | (go_at_call 24; refine (hPk _).mono ?_; rintro e w8 ⟨rfl, hw8⟩; obtain rfl := hw8.symm)
      | (go_at_call_of 29 (Value.int .i64 x); refine (hE1 _).mono ?_; rintro e w7 ⟨rfl, hw7⟩; obtain rfl := hw7.symm)
      | (go_at_call_of 29 (Value.int .i64 pw); refine (hE2 _).mono ?_; rintro e w7 ⟨rfl, hw7⟩; obtain rfl := hw7.symm)
      | (go_at_call_of 30 (Value.int .i64 x); refine (hP1 _).mono ?_; rintro e w8 ⟨rfl, hw8⟩; obtain rfl := hw8.symm)
      | (go_at_call_of 30 (Value.int .i64 pw); refine (hP2 _).mono ?_; rintro e w8 ⟨rfl, hw8⟩; obtain rfl := hw8.symm)
      | (go_at_call_of 15 (Value.int .i64 4); refine (hN4 _).mono ?_; rintro e w8 ⟨rfl, hw8⟩; obtain rfl := hw8.symm)
      | (go_at_call_of 15 (Value.int .i64 0); refine (hN0 _).mono ?_; rintro e w8 ⟨rfl, hw8⟩; obtain rfl := hw8.symm))
    go_ret
    exact ⟨rfl, hB1⟩
end Go.Proofs.Ytmjigodhncjfjaa

namespace Go.Proofs.Ytmjigodhncjfjaa
open Go.RowKit Wr

theorem fed_lt2 {w : World} {g : Nat} {G : Obj} (h : w.heap[g]? = some G) : g < w.heap.size := by
  rcases Nat.lt_or_ge g w.heap.size with hl | hl
  · exact hl
  · rw [Array.getElem?_eq_none hl] at h; cases h
theorem str_ne2 {w : World} {vn : Value} {N : List ByteArray} (ho : StrRow w vn N) {g : Nat} {c : Array Value} {t : TypeId} {z : Nat × Nat} (hg : w.heap[g]? = some (.cells c t z)) (ht : t ≠ 9) : some g ≠ vn.ownBlock := by
  intro h
  obtain ⟨_, h2⟩ := ho
  rcases h2 with ⟨h3, _⟩ | ⟨g', cap, cur, hv, _, hh, _⟩
  · rw [h3] at h; cases h
  · rw [hv] at h
    have e1 : g = g' := by simpa [Value.ownBlock] using h
    rw [e1, hh] at hg
    injection hg with hg
    injection hg with _ h4 _
    exact ht h4.symm
def fsE (k1 q1 b1 k2 q2 b2 : Nat) (i : Nat) : Nat × Nat × Nat := if i = 0 then (k1, q1, b1) else (k2, q2, b2)
def stE (x l : Int) (i : Nat) : EN := if i = 0 then ⟨numBits x 4, [], ⟨x, ByteArray.empty, [], ByteArray.empty, false⟩, .slice none 0 0⟩ else ⟨numBits l 4, [], ⟨l, ByteArray.empty, [], ByteArray.empty, false⟩, .slice none 0 0⟩
def madeO (q : Nat) (x : Int) : Obj := .cells #[.pointer (some ⟨q, 0, none⟩), .int .i64 x, .string ⟨#[]⟩, .slice none 0 0, .string ⟨#[]⟩, .bool false] 61
theorem two_start {w0 w2 w3 : World} {x l : Int} {q1 b1 q2 b2 : Nat} {n : Nat} (hn : n ≤ 20000000) (h0 : 0 ≤ x) (h8 : x ≤ 8) (l0 : 0 ≤ l) (l8 : l ≤ 8) (hw1 : W0 w2 b1 (numBits x 4) []) (he1 : EncAt w2 q1 (some b1)) (hbq1 : b1 < q1) (hb2 : w2.heap.size ≤ b2) (hbq2 : b2 < q2) (hw2 : W0 w3 b2 (numBits l 4) []) (he2 : EncAt w3 q2 (some b2)) (hB3 : Below w2.heap.size w2 w3) (o : Obj) :
    Two (((w3.alloc (madeO q1 x)).alloc (madeO q2 l)).alloc o) w0.heap.size (fsE w3.heap.size q1 b1 (w3.heap.size + 1) q2 b2) (stE x l) n ∧ Apart (fsE w3.heap.size q1 b1 (w3.heap.size + 1) q2 b2) := by
  have e1 : EncAt w3 q1 (some b1) := World.rowIs.of_block he1 (hB3.block q1 (World.rowIs.lt he1))
  have v1 : W0 w3 b1 (numBits x 4) [] := hw1.of_block (hB3.block b1 hw1.lt)
  have z3 := hB3.size
  have y1 := World.rowIs.lt he1
  have y2 := World.rowIs.lt he2
  have m1 := md_new h0 h8 v1 e1 hbq1
  have m2 := md_new (w := w3.alloc (madeO q1 x)) l0 l8 (hw2.alloc _) (World.rowIs.alloc he2 _) hbq2
  have hz : (w3.alloc (madeO q1 x)).heap.size = w3.heap.size + 1 := by simp
  rw [hz] at m2
  have m1' := (m1.below ((Below.refl _ _).alloc (Nat.le_refl _) (madeO q2 l))).below ((Below.refl _ _).alloc (Nat.le_refl _) o)
  have m2' := m2.below ((Below.refl _ _).alloc (Nat.le_refl _) o)
  refine ⟨⟨fun i hi => ?_, fun i hi => ?_, fun i hi g hg => ?_, fun i j hi hj hne g hg => ?_, fun i j hi hj g hg => ?_, fun j hj => ?_⟩, fun i j hi hj hne => ?_⟩
  · match i, hi with
    | 0, _ => exact m1'
    | 1, _ => exact m2'
  · match i, hi with
    | 0, _ => exact room_new x n hn
    | 1, _ => exact room_new l n hn
  · match i, hi with
    | 0, _ => cases hg
    | 1, _ => cases hg
  · match i, hi with
    | 0, _ => cases hg
    | 1, _ => cases hg
  · match i, hi with
    | 0, _ => cases hg
    | 1, _ => cases hg
  · have hs : ∀ o2, (((w3.alloc (madeO q1 x)).alloc (madeO q2 l)).alloc o2).heap.size = w3.heap.size + 3 := fun o2 => by simp
    rw [hs]
    match j, hj with
    | 0, _ => show b1 < _; omega
    | 1, _ => show b2 < _; omega
  · match i, hi, j, hj with
    | 0, _, 0, _ => exact absurd rfl hne
    | 1, _, 1, _ => exact absurd rfl hne
    | 0, _, 1, _ =>
      show w3.heap.size ≠ w3.heap.size + 1 ∧ w3.heap.size ≠ q2 ∧ w3.heap.size ≠ b2 ∧ q1 ≠ w3.heap.size + 1 ∧ q1 ≠ q2 ∧ q1 ≠ b2 ∧ b1 ≠ w3.heap.size + 1 ∧ b1 ≠ q2 ∧ b1 ≠ b2
      omega
    | 1, _, 0, _ =>
      show w3.heap.size + 1 ≠ w3.heap.size ∧ w3.heap.size + 1 ≠ q1 ∧ w3.heap.size + 1 ≠ b1 ∧ q2 ≠ w3.heap.size ∧ q2 ≠ q1 ∧ q2 ≠ b1 ∧ b2 ≠ w3.heap.size ∧ b2 ≠ q1 ∧ b2 ≠ b1
      omega

theorem Two.below {w w' : World} {B : Nat} {fs : Nat → Nat × Nat × Nat} {st : Nat → EN} {n : Nat} (h : Two w B fs st n) (hB : Below w.heap.size w w') : Two w' B fs st n :=
  ⟨fun i hi => (h.md i hi).below hB, h.room, h.own, h.ne, h.nb, fun j hj => Nat.lt_of_lt_of_le (h.lt j hj) hB.size⟩

set_option maxRecDepth 100000 in
set_option maxHeartbeats 1000000 in
theorem Encodes_good (w : World) (x l : Int) (a : Option Addr) (len cap : Nat) (c : Nat → Int × Int × ByteArray) (h0 : 0 ≤ x) (h8 : x ≤ 8) (l0 : 0 ≤ l) (l2 : l ≤ 2) (hc : IsOps w a len c) (hb : bulkO c len ≤ 2097152) :
    Calls Try.prog 7 #[.int .i64 x, .int .i64 l, .slice a len cap] w fun e w' => e = .returned (.bool true) ∧ Below w.heap.size w w' := by
  have hBg := lbegins_any w
  have hpb := pickN_bounds x 3 (by omega)
  have hPk := fun W => lpick_any W x 3 (by omega) (by omega) (by omega) (by omega)
  generalize pickN x 3 = pw at *
  have hE1 := fun W => NewEncoder_good W x l h0 h8 l0 l2
  have hP1 := fun W => Param_good W x l h0 h8 l0 l2
  have hE2 := fun W => NewEncoder_good W l pw l0 (by omega) hpb.1 (by omega)
  have hP2 := fun W => Param_good W l pw l0 (by omega) hpb.1 (by omega)
  have hN0 := fun (W : World) => num_any W 0 (by omega) (by omega)
  go_enter Try.func7, Try.ntmps7
  go_wp2_with (first
    | (go_at_call 28; refine hBg.mono ?_; rintro e w1 ⟨rfl, hB1⟩; have z1 := hB1.size)
    | (go_at_call 24; refine (hPk _).mono ?_; rintro e w8 ⟨rfl, hw8⟩; obtain rfl := hw8.symm)
    | (go_at_call_of 29 (Value.int .i64 pw); refine (hE2 _).mono ?_; rintro e w3 ⟨q2, b2, rfl, hb2, hbq2, hw2, he2, hB3⟩; have z3 := hB3.size)
    | (go_at_call_of 29 (Value.int .i64 x); refine (hE1 _).mono ?_; rintro e w2 ⟨q1, b1, rfl, hb1, hbq1, hw1, he1, hB2⟩; have z2 := hB2.size)
    | (go_at_call_of 30 (Value.int .i64 pw); refine (hP2 _).mono ?_; rintro e w8 ⟨rfl, hw8⟩; obtain rfl := hw8.symm)
    | (go_at_call_of 30 (Value.int .i64 x); refine (hP1 _).mono ?_; rintro e w8 ⟨rfl, hw8⟩; obtain rfl := hw8.symm)
    | (go_at_call_of 15 (Value.int .i64 0); refine (hN0 _).mono ?_; rintro e w8 ⟨rfl, hw8⟩; obtain rfl := hw8.symm))
  obtain ⟨hT, hAp⟩ := two_start (w0 := w) (n := bulkO c len + 40) (by omega) h0 h8 l0 (by omega) hw1 he1 hbq1 hb2 hbq2 hw2 he2 hB3 (.cells #[.pointer (some ⟨w3.heap.size, 0, none⟩), .pointer (some ⟨w3.heap.size + 1, 0, none⟩)] 58)
  have hB4 : Below w.heap.size w (((w3.alloc (madeO q1 x)).alloc (madeO q2 l)).alloc (.cells #[.pointer (some ⟨w3.heap.size, 0, none⟩), .pointer (some ⟨w3.heap.size + 1, 0, none⟩)] 58)) := ((((hB1.trans (hB2.mono z1)).trans (hB3.mono (by omega))).alloc (by omega) _).alloc (by simp; omega) _).alloc (by simp; omega) _
  have hG : (((w3.alloc (madeO q1 x)).alloc (madeO q2 l)).alloc (.cells #[.pointer (some ⟨w3.heap.size, 0, none⟩), .pointer (some ⟨w3.heap.size + 1, 0, none⟩)] 58)).heap[w3.heap.size + 1 + 1]? = some (.cells #[.pointer (some ⟨w3.heap.size, 0, none⟩), .pointer (some ⟨w3.heap.size + 1, 0, none⟩)] 58 (0, 0)) := by
    have := heap_alloc_last ((w3.alloc (madeO q1 x)).alloc (madeO q2 l)) (.cells #[.pointer (some ⟨w3.heap.size, 0, none⟩), .pointer (some ⟨w3.heap.size + 1, 0, none⟩)] 58)
    simpa using this
  have hge : ∀ j, j < 2 → w.heap.size ≤ (fsE w3.heap.size q1 b1 (w3.heap.size + 1) q2 b2 j).1 ∧ w.heap.size ≤ (fsE w3.heap.size q1 b1 (w3.heap.size + 1) q2 b2 j).2.1 ∧ w.heap.size ≤ (fsE w3.heap.size q1 b1 (w3.heap.size + 1) q2 b2 j).2.2 := fun j hj => by
    match j, hj with
    | 0, _ => show w.heap.size ≤ w3.heap.size ∧ w.heap.size ≤ q1 ∧ w.heap.size ≤ b1; omega
    | 1, _ => show w.heap.size ≤ w3.heap.size + 1 ∧ w.heap.size ≤ q2 ∧ w.heap.size ≤ b2; omega
  have hgn : ∀ j, j < 2 → w3.heap.size + 1 + 1 ≠ (fsE w3.heap.size q1 b1 (w3.heap.size + 1) q2 b2 j).1 ∧ w3.heap.size + 1 + 1 ≠ (fsE w3.heap.size q1 b1 (w3.heap.size + 1) q2 b2 j).2.1 ∧ w3.heap.size + 1 + 1 ≠ (fsE w3.heap.size q1 b1 (w3.heap.size + 1) q2 b2 j).2.2 := fun j hj => by
    have y1 := World.rowIs.lt he1
    have y2 := World.rowIs.lt he2
    match j, hj with
    | 0, _ => show w3.heap.size + 1 + 1 ≠ w3.heap.size ∧ w3.heap.size + 1 + 1 ≠ q1 ∧ w3.heap.size + 1 + 1 ≠ b1; omega
    | 1, _ => show w3.heap.size + 1 + 1 ≠ w3.heap.size + 1 ∧ w3.heap.size + 1 + 1 ≠ q2 ∧ w3.heap.size + 1 + 1 ≠ b2; omega
  have hgp : ∀ j, j < 2 → (#[Value.pointer (some ⟨w3.heap.size, 0, none⟩), .pointer (some ⟨w3.heap.size + 1, 0, none⟩)] : Array Value)[j]? = some (.pointer (some ⟨(fsE w3.heap.size q1 b1 (w3.heap.size + 1) q2 b2 j).1, 0, none⟩)) := fun j hj => by
    match j, hj with
    | 0, _ => rfl
    | 1, _ => rfl
  have hT0 := hT
  have hB40 := hB4
  have hG0 := hG
  clear hT hB4 hG
  unfold madeO at hT0 hB40 hG0
  clear hw1 he1 hw2 he2 hB3 hB2 hB1 hE1 hE2 hP1 hP2 hN0 hPk hBg
  generalize fsE w3.heap.size q1 b1 (w3.heap.size + 1) q2 b2 = fs at *
  generalize #[Value.pointer (some ⟨w3.heap.size, 0, none⟩), .pointer (some ⟨w3.heap.size + 1, 0, none⟩)] = GA at *
  generalize ((w3.alloc _).alloc _).alloc _ = w4 at *
  generalize w3.heap.size + 1 + 1 = g at *
  have hGc : ∀ W : World, W.heap[g]? = some (.cells GA 58 (0, 0)) → ∀ j, j < 2 → W.cell? ⟨g, j, none⟩ = some (.pointer (some ⟨(fs j).1, 0, none⟩)) := fun W hW j hj => by
    rw [cell_of_row W g j GA 58 (0, 0) hW]
    exact hgp j hj
  clear hgp
  go_loopw [15] (fun vi wr => ∃ (n : Nat) (st : Nat → EN), n ≤ len ∧ vi = .int .i64 n ∧ Two wr w.heap.size fs st (bulkO c len - bulkO c n + 40) ∧ wr.heap[g]? = some (.cells GA 58 (0, 0)) ∧ Below w.heap.size w wr) (fun vi _ => len - (intOf vi).toNat)
  case atStart => exact ⟨0, _, by omega, rfl, hT0, hG0, hB40⟩
  case round =>
    obtain ⟨n, st, hn, rfl, hTn, hGn, hBn⟩ := hrel
    clear hT0 hG0 hB40
    by_cases hlt : n < len
    · obtain ⟨cb, co, rfl, hcb, hcells⟩ := hc.2 (by omega)
      obtain ⟨u1, u2, u3, u4, u5⟩ := hcells n hlt
      have y1 : wr.cell? ⟨cb, co + n * 3, none⟩ = some (.int .i64 (c n).1) := (hBn.cell (p := ⟨cb, co + n * 3, none⟩) hcb).trans u1
      have y2 : wr.cell? ⟨cb, co + n * 3 + 1, none⟩ = some (.int .i64 (c n).2.1) := (hBn.cell (p := ⟨cb, co + n * 3 + 1, none⟩) hcb).trans u2
      have y3 : wr.cell? ⟨cb, co + n * 3 + 2, none⟩ = some (.string (c n).2.2) := (hBn.cell (p := ⟨cb, co + n * 3 + 2, none⟩) hcb).trans u3
      have hbn : bulkO c (n + 1) = bulkO c n + ((c n).2.2.size + 4) := rfl
      have hbl := bulkO_le c (show n + 1 ≤ len by omega)
      have hpb2 := pickN_bounds (c n).1 2 (by omega)
      have hPk := fun W => lpick_any W (c n).1 2 u4 u5 (by omega) (by omega)
      obtain ⟨j, hj⟩ := Int.eq_ofNat_of_zero_le hpb2.1
      rw [hj] at hPk hpb2
      have hj2 : j < 2 := by omega
      have y4 := hGc _ hGn j hj2
      have hTd := hTn.below ((Below.refl _ wr).drew)
      have hK := does_any (n := bulkO c len - bulkO c (n + 1) + 40) (hTd.md j hj2) (c n).1 (c n).2.1 (c n).2.2 ((hTd.room j hj2).less (by omega))
      have hln := hc.1
      have hg9 := hge j hj2
      have hn9 := hgn j hj2
      have hcbr : cb < wr.heap.size := Nat.lt_of_lt_of_le hcb hBn.size
      have hgr := fed_lt2 hGn
      have hgs := str_ne2 (hTd.md j hj2).strs (show wr.drew.heap[g]? = _ from hGn) (by decide)
      have hcs : some cb ≠ (st j).v.ownBlock := fun e => by have := hTd.own j hj2 cb e.symm; omega
      have hAt : ∀ W v', Mv (fs j).1 (fs j).2.1 (fs j).2.2 (st j).v wr.drew v' W → W.heap[g]? = wr.heap[g]? ∧ (∀ o, W.cell? ⟨cb, o, none⟩ = wr.cell? ⟨cb, o, none⟩) ∧ (∀ o, W.cell? ⟨g, o, none⟩ = wr.cell? ⟨g, o, none⟩) := fun W v' h => by
        have e1 : W.heap[g]? = wr.heap[g]? := h.block g hgr hn9.1 hn9.2.1 hn9.2.2 hgs
        have e2 : W.heap[cb]? = wr.heap[cb]? := h.block cb hcbr (by omega) (by omega) (by omega) hcs
        exact ⟨e1, fun o => World.cell?_of_block (w := wr) (a := ⟨cb, o, none⟩) e2, fun o => World.cell?_of_block (w := wr) (a := ⟨g, o, none⟩) e1⟩
      have j0 : (0 : Int) ≤ (j : Int) := by omega
      have j1 : (j : Int) < 2 := by omega
      have n0 : (0 : Int) ≤ (n : Int) := by omega
      have nl : (n : Int) < (len : Int) := by omega
      have HTD : Hid (Two wr.drew w.heap.size fs st (bulkO c len - bulkO c n + 40)) := hTd
      have HLE : Hid (bulkO c len - bulkO c (n + 1) + 40 ≤ bulkO c len - bulkO c n + 40) := by rw [Hid]; omega
      clear hcells u1 u2 u3 u4 u5 hj hTn hTd hbn hbl
      generalize (c n).1 = z at *
      generalize (c n).2.1 = kind at *
      generalize (c n).2.2 = T at *
      generalize hf9 : (fs j).1 = k9 at *
      have H9 : Hid ((fs j).1 = k9) := hf9
      clear hf9 hGc
      go_wp2
      go_region_held3 (fun W => W.cell? ⟨cb, co + n * 3, none⟩ = some (.int .i64 z) ∧ W.cell? ⟨cb, co + n * 3 + 1, none⟩ = some (.int .i64 kind) ∧ W.cell? ⟨cb, co + n * 3 + 2, none⟩ = some (.string T) ∧ W.cell? ⟨g, j, none⟩ = some (.pointer (some ⟨k9, 0, none⟩))) (go_keep)
        (first
          | (go_at_call 24; refine (hPk _).mono ?_; rintro e w9 ⟨rfl, rfl⟩)
          | (go_at_call 31; refine hK.mono ?_; rintro e w2' ⟨rfl, L', P', s', v', hm', hv', hr'⟩; obtain ⟨hG2, z1', z2'⟩ := hAt _ _ hv'; have r1 := (z1' (co + n * 3)).trans y1; have r2 := (z1' (co + n * 3 + 1)).trans y2; have r3 := (z1' (co + n * 3 + 2)).trans y3; have r4 := (z2' j).trans y4; clear z1' z2'))
      have hTnew : Two w2' w.heap.size fs (updE st j ⟨L', P', s', v'⟩) (bulkO c len - bulkO c (n + 1) + 40) := HTD.out.step hAp hj2 (x := ⟨L', P', s', v'⟩) (by rw [H9.out]; exact hm') (by rw [H9.out]; exact hv') hr' HLE.out hBn.size
      have hBnew : Below w.heap.size w w2' := hBn.drew.trans ⟨hv'.os, hv'.tape, hv'.output, hv'.size, fun i hi => hv'.block i (Nat.lt_of_lt_of_le hi hBn.size) (by omega) (by omega) (by omega) (fun e => by have := HTD.out.own j hj2 i e.symm; omega)⟩
      have hGnew := hG2.trans hGn
      clear r1 r2 r3 r4 y1 y2 y3 y4 hK hPk hAt
      go_wp2
      exact ⟨⟨n + 1, _, by omega, by go_num, hTnew, hGnew, hBnew⟩, by simp [intOf]; omega⟩
    · have hTe : Two wr w.heap.size fs st 40 := ⟨hTn.md, fun i hi => (hTn.room i hi).less (by omega), hTn.own, hTn.ne, hTn.nb, hTn.lt⟩
      clear hTn
      go_wp2
      go_loopw [17] (fun vi wq => ∃ (m : Nat) (st : Nat → EN), m ≤ 2 ∧ vi = .int .i64 m ∧ Two wq w.heap.size fs st (40 - 10 * m) ∧ wq.heap[g]? = some (.cells GA 58 (0, 0)) ∧ Below w.heap.size w wq) (fun vi _ => 2 - (intOf vi).toNat)
      case atStart => exact ⟨0, _, by omega, rfl, hTe, hGn, hBn⟩
      case round =>
        obtain ⟨m, st2, hm, rfl, hTm, hGm, hBm⟩ := hrel
        clear hTe hGn hBn
        by_cases hl2 : m < 2
        · have y4 := hGc _ hGm m hl2
          have hz0 : (⟨#[]⟩ : ByteArray).size = 0 := rfl
          have hK := does_any (n := 40 - 10 * (m + 1)) (hTm.md m hl2) 0 4 ⟨#[]⟩ ((hTm.room m hl2).less (by omega))
          have hg9 := hge m hl2
          have hn9 := hgn m hl2
          have hgr := fed_lt2 hGm
          have hgs := str_ne2 (hTm.md m hl2).strs hGm (by decide)
          have HTD : Hid (Two wr w.heap.size fs st2 (40 - 10 * m)) := hTm
          have m0 : (0 : Int) ≤ (m : Int) := by omega
          have m1 : (m : Int) < 2 := by omega
          clear hTm hGc
          generalize hf9 : (fs m).1 = k9 at *
          have H9 : Hid ((fs m).1 = k9) := hf9
          clear hf9
          go_wp2_with (first
            | (go_at_call 31; refine hK.mono ?_; rintro e w2' ⟨rfl, L', P', s', v', hm', hv', hr'⟩))
          have hTnew : Two w2' w.heap.size fs (updE st2 m ⟨L', P', s', v'⟩) (40 - 10 * (m + 1)) := HTD.out.step hAp hl2 (x := ⟨L', P', s', v'⟩) (by rw [H9.out]; exact hm') (by rw [H9.out]; exact hv') hr' (by omega) hBm.size
          have hBnew : Below w.heap.size w w2' := hBm.trans ⟨hv'.os, hv'.tape, hv'.output, hv'.size, fun i hi => hv'.block i (Nat.lt_of_lt_of_le hi hBm.size) (by omega) (by omega) (by omega) (fun e => by have := HTD.out.own m hl2 i e.symm; omega)⟩
          have hGnew := (hv'.block g hgr hn9.1 hn9.2.1 hn9.2.2 hgs).trans hGm
          exact ⟨⟨m + 1, _, by omega, by go_num, hTnew, hGnew, hBnew⟩, by simp [intOf]; omega⟩
        · clear hGc
          go_wp2
          go_ret
          exact ⟨rfl, hBm⟩

theorem Encodes_any (w : World) (x l : Int) (a : Option Addr) (len cap : Nat) (c : Nat → Int × Int × ByteArray) (x0 : -9223372036854775808 ≤ x) (x1 : x ≤ 9223372036854775807) (hc : IsOps w a len c) (hb : bulkO c len ≤ 2097152) :
    Calls Try.prog 7 #[.int .i64 x, .int .i64 l, .slice a len cap] w fun e w' => e = .returned (.bool true) ∧ Below w.heap.size w w' := by
  by_cases h : 0 ≤ x ∧ x ≤ 8 ∧ 0 ≤ l ∧ l ≤ 2
  · exact Encodes_good w x l a len cap c h.1 h.2.1 h.2.2.1 h.2.2.2 hc hb
  · exact Encodes_bad w x l a len cap x0 x1 h
end Go.Proofs.Ytmjigodhncjfjaa

namespace Go.Proofs.Ytmjigodhncjfjaa
open Go.RowKit Wr
open Go.ChangeShapes Go.WideShapes Go.ChangeAt Go.Deep

theorem cellsF_op : Try.prog.cellsOf 64 = 3 := by kernel_rfl
theorem cellsF_int : Try.prog.cellsOf 3 = 1 := by kernel_rfl
theorem cellsF_string : Try.prog.cellsOf 9 = 1 := by kernel_rfl
theorem cellF_lt {w : World} {p : Addr} {v : Value} (h : w.cell? p = some v) : p.block < w.heap.size := by
  by_cases hp : p.block < w.heap.size
  · exact hp
  · exfalso
    rw [World.cell?] at h
    simp [hp] at h
theorem intF_bounds {n : Int} (h : (Lit.int .i64 n).wf = true) : -9223372036854775808 ≤ n ∧ n ≤ 9223372036854775807 := by
  have := bounds_i64 h
  omega
theorem bulkF_append {H : Type} : ∀ (a b : List (DataW H)), Rows.uptoBulkAll (a ++ b) = Rows.uptoBulkAll a + Rows.uptoBulkAll b
  | [], b => by simp [Rows.uptoBulkAll]
  | d :: a, b => by
    show Rows.uptoBulk d + Rows.uptoBulkAll (a ++ b) = Rows.uptoBulk d + Rows.uptoBulkAll a + Rows.uptoBulkAll b
    rw [bulkF_append a b]
    omega
theorem bulkO_sum {H : Type} (D : Nat → DataW H) (c : Nat → Int × Int × ByteArray) : ∀ n : Nat, (∀ i, i < n → (c i).2.2.size + 4 ≤ Rows.uptoBulk (D i)) → bulkO c n ≤ Rows.uptoBulkAll ((List.range n).map D)
  | 0, _ => Nat.zero_le _
  | n + 1, h => by
    rw [List.range_succ, List.map_append, bulkF_append]
    have h1 := bulkO_sum D c n (fun i hi => h i (by omega))
    have h2 := h n (by omega)
    show bulkO c n + ((c n).2.2.size + 4) ≤ _ + (Rows.uptoBulk (D n) + 0)
    omega

set_option maxRecDepth 100000 in
theorem open_ops {H : Type} {enc : TypeId × Value → H} {W : World} {a : Option Addr} {len cap : Nat} {d : DataW H} {p : List MemPlace}
    (h : DataW.Trod enc Try.prog W 0 (fun _ => true) true 53 (.slice a len cap) d p) : ∃ c, IsOps W a len c ∧ bulkO c len ≤ Rows.uptoBulk d := by
  obtain ⟨fuel, hf⟩ := h
  rcases open_slice Try.underlying53 hf with ⟨hcs, _⟩ | ⟨x, l, cp, m, n, D, Pl, hcs, _, hl, hm, hmm, hx, hall⟩
  · simp [Value.cells] at hcs
    obtain ⟨rfl, rfl, rfl⟩ := hcs
    exact ⟨fun _ => (0, 0, ByteArray.empty), ⟨by omega, fun h => absurd h (by omega)⟩, Nat.zero_le _⟩
  · simp [Value.cells] at hcs
    obtain ⟨rfl, rfl, rfl⟩ := hcs
    simp only [if_true] at hmm
    subst hmm
    have each : ∀ i, i < len → ∃ q : Int × Int × ByteArray, W.cell? (x.add (i * 3)) = some (.int .i64 q.1) ∧ W.cell? (x.add (i * 3 + 1)) = some (.int .i64 q.2.1) ∧ W.cell? (x.add (i * 3 + 2)) = some (.string q.2.2) ∧ D i = .agg [.lit (.int .i64 q.1), .lit (.int .i64 q.2.1), .lit (.string q.2.2.data.toList)] ∧ (Lit.int .i64 q.1).wf = true := by
      intro i hi
      obtain ⟨cs', h1, h2⟩ := hall i (by omega)
      rw [cellsF_op] at h1
      obtain ⟨_, hlen, hcell⟩ := World.cells?_some h1
      obtain ⟨y0, y1, y2, n', hxy, _, g0, g1, g2⟩ := trod_struct3 Try.underlying64 h2
      match cs', hlen with
      | [v0, v1, v2], _ =>
        obtain ⟨z, e1, e2, ew⟩ := DataW.trod_int Try.underlying3 g0
        obtain ⟨z2, e3, e4, _⟩ := DataW.trod_int Try.underlying3 g1
        obtain ⟨s, e5, e6, _⟩ := DataW.trod_string Try.underlying9 g2
        simp [cellsF_int, cellsF_string] at e1 e3 e5
        have c0 := hcell 0 (by omega)
        have c1 := hcell 1 (by omega)
        have c2 := hcell 2 (by omega)
        rw [add_add] at c0 c1 c2
        simp only [Prod.mk.injEq] at hxy
        subst e1 e3 e5
        refine ⟨(z, z2, s), by simpa using c0, by simpa using c1, by simpa using c2, ?_, ew⟩
        rw [hxy.1, e2, e4, e6]
    obtain ⟨q, hq⟩ := choose_lt each
    simp only [Prod.mk.injEq] at hx
    obtain ⟨rfl, _⟩ := hx
    refine ⟨q, ⟨by unfold maxLen at hm; omega, fun h0 => ?_⟩, ?_⟩
    · obtain ⟨xb, xo, xs⟩ := x
      have hspot : xs = none := by simpa [Addr.add] using World.cell?_spot (hq 0 (by omega)).1
      subst hspot
      refine ⟨xb, xo, rfl, ?_, fun i hi => ?_⟩
      · have h1 := (hq 0 (by omega)).1
        rw [Addr.add_lit] at h1
        exact cellF_lt h1
      · obtain ⟨c0, c1, c2, _, ew⟩ := hq i hi
        rw [Addr.add_lit] at c0 c1 c2
        exact ⟨c0, c1, c2, intF_bounds ew⟩
    · have hs := bulkO_sum D q len (fun i hi => by
        rw [(hq i hi).2.2.2.1]
        show _ ≤ (1 + (1 + (_ + 1 + 0))) + 1
        have e : (q i).2.2.data.toList.length = (q i).2.2.size := by simp
        omega)
      show _ ≤ Rows.uptoBulkAll _ + Rows.uptoBulkAll _ + 1
      omega
end Go.Proofs.Ytmjigodhncjfjaa
/- THE STATEMENT 'Rows.EncodesUptoSaid'. -/
namespace Go.Proofs.Ytmjigodhncjfjaa.encodes
open Go.ChangeShapes Go.WideShapes Go.ChangeAt Go.RowKit
open Go.ChangeMaps (open_string shut_string)

theorem own : ownKnob Try.prog.godebug = none := by kernel_rfl
theorem laidOut : laidOutB Try.prog = true := by kernel_rfl
theorem small {H : Type} {n0 : Int} {n1 : Int} {d2 : DataW H} (hk : Rows.uptoSmall H [.lit (.int .i64 n0), .lit (.int .i64 n1), d2] = true) : Rows.uptoBulk d2 ≤ 1048576 := by
  have h : Rows.uptoBulkAll [.lit (.int .i64 n0), .lit (.int .i64 n1), d2] ≤ 1048576 := of_decide_eq_true hk
  simp only [Rows.uptoBulkAll, Rows.uptoBulk] at h
  omega

set_option maxRecDepth 100000 in
theorem contract (H : Type) (enc : TypeId × Value → H) (W : World) (base : Nat) (args : Array Value) (ds gs : List (DataW H)) (before : List MemPlace)
    (hval0 : ∀ (j : Nat) t v, Try.f7.params[j]? = some t → args[j]? = some v → Value.okWide Try.prog W .any base t v)
    (hW : DataW.Whole enc Try.prog Try.f7.params.toList Rows.encodesSpec.vars false W args.toList ds gs before) (hk : Rows.uptoSmall H (ds ++ gs) = true) :
    Calls Try.prog 7 args W fun e W' => ∃ v, e = .returned v ∧ Rows.encodesSpec.post enc Try.prog Try.f7 false true false false W args v W' := by
  have hval : ∀ (j : Nat) t v, Try.f7.params[j]? = some t → args[j]? = some v → Value.okWide Try.prog W .any base t v := hval0
  have hW' := hW
  obtain ⟨p, q, hA0, hV, rfl, hfz, hnd⟩ := hW
  have hA : DataW.TrodAll enc Try.prog W 0 (fun _ => true) true Try.f7.params.toList args.toList ds p := hA0
  rw [Try.params7] at hA hval
  obtain ⟨v0, vs0, d0, ds0, p0, q0, hargs, rfl, rfl, h0, r0⟩ := trodAll_cons hA
  obtain ⟨v1, vs1, d1, ds1, p1, q1, rfl, rfl, rfl, h1, r1⟩ := trodAll_cons r0
  obtain ⟨v2, vs2, d2, ds2, p2, q2, rfl, rfl, rfl, h2, r2⟩ := trodAll_cons r1
  obtain ⟨rfl, rfl, rfl⟩ := trodAll_nil r2
  obtain rfl : args = #[v0, v1, v2] := by cases args; simp_all
  obtain ⟨rfl, rfl⟩ := trodVars_none hV
  obtain ⟨a0, rfl, rfl, rfl, w0⟩ := open_int Try.underlying3 (hval 0 3 v0 rfl rfl) h0
  have b0 := intF_bounds w0
  obtain ⟨a1, rfl, rfl, rfl, w1⟩ := open_int Try.underlying3 (hval 1 3 v1 rfl rfl) h1
  obtain ⟨a2, len2, cap2, rfl⟩ := okWide_slice Try.underlying53 (hval 2 53 v2 rfl rfl)
  have k2 := h2
  have lt2 : ∀ x ∈ p2, x.block < W.heap.size := by obtain ⟨m, hm⟩ := k2; exact DataW.trod_lt m _ _ _ hm
  obtain ⟨c2, hc2, hb2⟩ := open_ops h2
  clear hA0 hval0
  simp only [List.append_nil] at hW' hk
  have hs := small hk
  refine (Encodes_any W a0 a1 a2 len2 cap2 c2 b0.1 b0.2 hc2 (by omega)).mono fun e W' ⟨he, bel⟩ => ?_
  subst he
  exact ⟨_, rfl, _, _, _, [], _, [], hW', trodAll_mk1 (shut_bool Try.underlying4 _), (trodAll_cons_mk (shut_int Try.underlying3 w0) (trodAll_cons_mk (shut_int Try.underlying3 w1) (trodAll_cons_mk (Below.trod laidOut (by kernel_rfl) (of_decide_eq_true (by kernel_rfl)) k2 bel lt2) trodAll_mk0))), rfl, bel.frame _, fun h => by cases h⟩

set_option maxRecDepth 100000 in
theorem lifted (os : Os) (started : os.Started) (H : Type) (enc : TypeId × Value → H) (F : Stop.Interp) :
    ReturnsInHanded {} Try.checked os 7 .any ((Rows.OpenSpec.upto Rows.encodesSpec).pre6 enc Try.prog Try.f7 Rows.encodesUptoRow.domain false) (((Rows.OpenSpec.upto Rows.encodesSpec).at F).post enc Try.prog Try.f7 false true false false) := by
  refine returnsInHanded_of_cond (C := Try.checked) (s := Rows.OpenSpec.upto Rows.encodesSpec) (k := Rows.uptoSmall) rfl own started (by kernel_rfl) Try.func7
    (OpenSpec.witness (enc := enc) (C := Try.checked) (s := Rows.OpenSpec.upto Rows.encodesSpec) (k := Rows.uptoSmall) rfl false ⟨#[], #[.int .i64 0, .int .i64 0, .slice none 0 0], []⟩ 8 (by kernel_rfl) (by kernel_rfl) (by kernel_rfl)
      (x := ([.lit (.int .i64 0), .lit (.int .i64 0), .nil], [], [])) (by kernel_rfl) rfl (by kernel_rfl)) ?_
  intro W base args ds gs before hval hW _ hk _
  exact contract H enc W base args ds gs before hval hW hk

theorem proved : Rows.EncodesUptoSaid :=
  OpenClaim.holds_of_cond 7 Try.f7 rfl rfl rfl rfl rfl rfl rfl ⟨rfl, rfl, rfl, rfl, rfl⟩ rfl rfl rfl rfl rfl (by kernel_rfl) Try.func7 (by kernel_rfl)
    (of_decide_eq_true (by kernel_rfl)) (by unfold Func.isWrapper; first | (rw [if_pos (by decide +kernel)]; kernel_rfl) | (rw [if_neg (by decide +kernel)]; exact ⟨rfl, rfl⟩))
    (fun os started H enc _ F => lifted os started H enc F)
end Go.Proofs.Ytmjigodhncjfjaa.encodes
