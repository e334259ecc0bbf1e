import Derived.Test.YtmpfgdmdnghhgaaW17
import Derived.Test.YtmpfgdmdnghhgaaRing
import Derived.Test.YtmpfgdmdnghhgaaS2
import Derived.Deep.RegionLaw
import Derived.Maps.AppendAt
/- A ROW OF BITS, wherever it lies: Number, Fill, Even, Size, Take. -/
namespace Go.Proofs.Ytmpfgdmdnghhgaa
open Go.RowKit Wr

theorem step_append_own_w {P : Program} {ops : Array Oper} {o : Oper} {a : Act} {w : World} {K : Act → World → Prop} {Q : Exit → Act → World → Prop} {E : Prop}
    (hg : o.guard = none) (s x : Operand) (t : TypeId) (hop : o.op = Op.call { callee := Callee.builtin Builtin.append, args := #[s, x], argTypes := #[t, t] })
    (base : Nat) (e : TypeId) (i : TypeInfo) (z : Value) (size bytes : Nat) (ht : P.underlying t = some (.slice e)) (hi : P.info? e = some i) (hz : i.zero = some z) (hsize : i.size = size) (hby : i.bytes = bytes) (hzs : z.cells.size = size) (hsz : 0 < size)
    (v : Value) (n : Nat) (xs : List Value) (hs : a.eval s = v) (hown : w.ownsRow base e size v n xs)
    (ad : Addr) (m c : Nat) (news : List Value) (hx : a.eval x = .slice (some ad) m c) (hl : news.length = m * size) (hnews : ∀ j u, news[j]? = some u → w.cell? (ad.add j) = some u) (h1 : ∀ u ∈ news, u.oneCell' = true)
    (h63 : n + m ≤ maxLen) (hbytes : (n + m) * bytes ≤ 140737488355328) (hbase : base ≤ w.heap.size)
    (hK : ∀ v' w', w'.ownsRow base e size v' (n + m) (xs ++ news) → w.grownBy w' v.ownBlock → (v'.ownBlock = v.ownBlock ∨ v'.ownBlock = some w.heap.size) → K (a.put o.dst v') w') :
    if Region.wanted o (yielded ops a.tmps) = true then Oper.wp P o a w K Q else E := by
  have hw : Region.wanted o (yielded ops a.tmps) = true := by simp [Region.wanted, hg]
  rw [if_pos hw]
  obtain ⟨v', w', hr, h2, h3, _, h5⟩ := run_append_own_at (P := P) w base t o.type e i z size bytes ht hi hz hsize hby hzs hsz v n xs hown ad m c news hl hnews h1 h63 hbytes hbase
  unfold Oper.wp execOp
  simp only [hop, resolve, invoke, builtin, Sem.run_bind, Sem.run_pure, Result.andThen_ok, List.map_toArray, List.map_cons, List.map_nil, hs, hx, hr]
  exact hK v' w' h2 h3 h5

/-- a row of bits -/
structure Br where
  out : List Int
  hold : Int
  have_ : Int

/-- cells of which the first three are a row of bits -/
structure IsBox (F : Value → Int → Int → Nat → Value) (n : Nat) : Prop where
  fit : 3 ≤ n
  c0 : ∀ v h k, F v h k 0 = v
  c1 : ∀ v h k, F v h k 1 = .int .i64 h
  c2 : ∀ v h k, F v h k 2 = .int .i64 k
  rest : ∀ v h k v' h' k' j, 3 ≤ j → F v h k j = F v' h' k' j

theorem IsBox.set0 {F : Value → Int → Int → Nat → Value} {n : Nat} (hF : IsBox F n) {w : World} {b : Nat} {T : TypeId} {v : Value} {h k : Int} (hr : w.rowIs b T n (F v h k)) (x : Value) : (w.setCell ⟨b, 0, none⟩ x).rowIs b T n (F x h k) :=
  (World.rowIs.set hr 0 x).congr fun j _ => by
    by_cases e0 : j = 0
    · subst e0; rw [if_pos rfl, hF.c0]
    rw [if_neg e0]
    by_cases e1 : j = 1
    · subst e1; rw [hF.c1, hF.c1]
    by_cases e2 : j = 2
    · subst e2; rw [hF.c2, hF.c2]
    exact hF.rest _ _ _ _ _ _ j (by omega)
theorem IsBox.set1 {F : Value → Int → Int → Nat → Value} {n : Nat} (hF : IsBox F n) {w : World} {b : Nat} {T : TypeId} {v : Value} {h k : Int} (hr : w.rowIs b T n (F v h k)) (x : Int) : (w.setCell ⟨b, 1, none⟩ (.int .i64 x)).rowIs b T n (F v x k) :=
  (World.rowIs.set hr 1 (.int .i64 x)).congr fun j _ => by
    by_cases e0 : j = 0
    · subst e0; rw [if_neg (by omega), hF.c0, hF.c0]
    by_cases e1 : j = 1
    · subst e1; rw [if_pos rfl, hF.c1]
    rw [if_neg e1]
    by_cases e2 : j = 2
    · subst e2; rw [hF.c2, hF.c2]
    exact hF.rest _ _ _ _ _ _ j (by omega)
theorem IsBox.set2 {F : Value → Int → Int → Nat → Value} {n : Nat} (hF : IsBox F n) {w : World} {b : Nat} {T : TypeId} {v : Value} {h k : Int} (hr : w.rowIs b T n (F v h k)) (x : Int) : (w.setCell ⟨b, 2, none⟩ (.int .i64 x)).rowIs b T n (F v h x) :=
  (World.rowIs.set hr 2 (.int .i64 x)).congr fun j _ => by
    by_cases e0 : j = 0
    · subst e0; rw [if_neg (by omega), hF.c0, hF.c0]
    by_cases e1 : j = 1
    · subst e1; rw [if_neg (by omega), hF.c1, hF.c1]
    by_cases e2 : j = 2
    · subst e2; rw [if_pos rfl, hF.c2]
    rw [if_neg e2]
    exact hF.rest _ _ _ _ _ _ j (by omega)

/-- bytes of its own -/
def ownsB (w : World) (v : Value) (l : List Int) : Prop := w.ownsRow 0 5 1 v l.length (l.map (Value.int .u8))
def BRep (w : World) (T : TypeId) (n : Nat) (F : Value → Int → Int → Nat → Value) (b : Nat) (r : Br) (v : Value) : Prop :=
  w.rowIs b T n (F v r.hold r.have_) ∧ ownsB w v r.out ∧ v.ownBlock ≠ some b
/-- the row's own block is the one that it was, or a new one -/
def Own (w : World) (v v' : Value) : Prop := v'.ownBlock = v.ownBlock ∨ ∃ g, v'.ownBlock = some g ∧ w.heap.size ≤ g
theorem Own.refl (w : World) (v : Value) : Own w v v := Or.inl rfl
theorem Own.trans {w w' : World} {v v' v'' : Value} (h : Own w v v') (k : Own w' v' v'') (hs : w.heap.size ≤ w'.heap.size) : Own w v v'' := by
  rcases k with k | ⟨g, k1, k2⟩
  · rcases h with h | ⟨g, h1, h2⟩
    · exact Or.inl (k.trans h)
    · exact Or.inr ⟨g, k.trans h1, h2⟩
  · exact Or.inr ⟨g, k1, by omega⟩
/-- what a change of the row may touch -/
def BT (b : Nat) (v : Value) : Nat → Prop := fun k => k = b ∨ v.ownBlock = some k
theorem BT.next {w : World} {b : Nat} {v v' : Value} (h : Own w v v') : ∀ j, j < w.heap.size → BT b v' j → BT b v j := by
  intro j hj hb
  rcases hb with e | e
  · exact Or.inl e
  · rcases h with h | ⟨g, h1, h2⟩
    · exact Or.inr (h.symm.trans e)
    · rw [h1] at e
      injection e with e
      omega

/-- a number of n bits is added -/
def spill (s : Br) (j : Nat) : Br := ⟨s.out ++ (List.range j).map (fun i => s.hold / 2 ^ (8 * i) % 256), s.hold / 2 ^ (8 * j), s.have_ - 8 * j⟩
def numP (s : Br) (v n : Int) : Br := spill ⟨s.out, s.hold + v * 2 ^ s.have_.toNat, s.have_ + n⟩ ((s.have_ + n) / 8).toNat
theorem spill_zero (s : Br) : spill s 0 = s := by
  unfold spill
  have e : (2 : Int) ^ (8 * 0) = 1 := rfl
  rw [e, Int.ediv_one, show s.have_ - 8 * ((0 : Nat) : Int) = s.have_ by omega]
  simp
theorem spill_succ (s : Br) (j : Nat) : spill s (j + 1) = ⟨(spill s j).out ++ [(spill s j).hold % 256], (spill s j).hold / 256, (spill s j).have_ - 8⟩ := by
  unfold spill
  have e : (2 : Int) ^ (8 * (j + 1)) = 2 ^ (8 * j) * 256 := by rw [show 8 * (j + 1) = 8 * j + 8 by omega, pow_add2]; rfl
  rw [e, List.range_succ, List.map_append, ← List.append_assoc]
  dsimp only
  rw [Int.ediv_ediv_of_nonneg (by have := pow_pos2 (8 * j); omega), show s.have_ - 8 * ((j + 1 : Nat) : Int) = s.have_ - 8 * (j : Int) - 8 by omega]
  rfl

section
variable {w : World} {T : TypeId} {n0 : Nat} {F : Value → Int → Int → Nat → Value} {b : Nat} {s : Br} {v : Value}

set_option maxHeartbeats 1000000 in
theorem bnum_any (hF : IsBox F n0) (hR : BRep w T n0 F b s v) (x n : Int) (h1 : 0 ≤ s.have_) (h2 : s.have_ < 8) (h3 : 0 ≤ s.hold) (h4 : s.hold < 256) (h5 : 0 ≤ x) (h6 : x < 4096) (h7 : 0 ≤ n) (h8 : n ≤ 12) (h9 : s.out.length ≤ 17592186044416) :
    Calls Try.prog 43 #[.pointer (some ⟨b, 0, none⟩), .int .i64 x, .int .i64 n] w fun e w' => e = .returned (.tuple #[]) ∧ ∃ v', BRep w' T n0 F b (numP s x n) v' ∧ Own w v v' ∧ Tch (BT b v) w w' := by
  obtain ⟨hr, hown, hne⟩ := hR
  obtain ⟨i0, hi, hz0, hz1, hz2⟩ := info_parts info_u8
  have HI : Hid (Try.prog.info? 5 = some i0 ∧ i0.zero = some (.int .u8 0) ∧ i0.size = 1 ∧ i0.bytes = 1) := ⟨hi, hz0, hz1, hz2⟩
  clear hi hz0 hz1 hz2
  have hn3 := hF.fit
  have c0 : w.cell? ⟨b, 1, none⟩ = some (.int .i64 s.hold) := by rw [World.rowIs.cell hr (i := 1) (by omega), hF.c1]
  have c1 : w.cell? ⟨b, 2, none⟩ = some (.int .i64 s.have_) := by rw [World.rowIs.cell hr (i := 2) (by omega), hF.c2]
  have hfz := World.rowIs.frozen hr
  have hp := pow_lt64 s.have_.toNat (by omega)
  go_enter Try.func43, Try.ntmps43
  have q2 : (2 : Int) ^ s.have_.toNat ≤ 128 := by
    have := pow_mono (show s.have_.toNat ≤ 7 by omega)
    exact this
  have m0 : 0 ≤ x * 2 ^ s.have_.toNat := Int.mul_nonneg h5 (by omega)
  have m1 : x * 2 ^ s.have_.toNat ≤ 4095 * 2 ^ s.have_.toNat := Int.mul_le_mul_of_nonneg_right (by omega) (by omega)
  go_wp2
  go_region
  go_wp2
  generalize hs1 : (⟨s.out, s.hold + x * 2 ^ s.have_.toNat, s.have_ + n⟩ : Br) = s1
  have e1 : s1.hold = s.hold + x * 2 ^ s.have_.toNat := by rw [← hs1]
  have e2 : s1.have_ = s.have_ + n := by rw [← hs1]
  have e3 : s1.out = s.out := by rw [← hs1]
  have HN : Hid (numP s x n = spill s1 ((s.have_ + n) / 8).toNat) := by rw [Hid, ← hs1]; rfl
  go_loopg [] ((s.have_ + n) / 8).toNat (fun g wr => ∃ (j : Nat) (u : Value), j + g = ((s.have_ + n) / 8).toNat ∧ BRep wr T n0 F b (spill s1 j) u ∧ Own w v u ∧ Tch (BT b v) w wr)
  case atStart =>
    have ht := (((Tch.refl (BT b v) w).set ⟨b, 1, none⟩ (.int .i64 (s.hold + x * 2 ^ s.have_.toNat)) (fun _ => Or.inl rfl)).set ⟨b, 2, none⟩ (.int .i64 (s.have_ + n)) (fun _ => Or.inl rfl)).drew
    have ht2 := (((Tch.refl (· = b) w).set ⟨b, 1, none⟩ (.int .i64 (s.hold + x * 2 ^ s.have_.toNat)) (fun _ => rfl)).set ⟨b, 2, none⟩ (.int .i64 (s.have_ + n)) (fun _ => rfl)).drew
    refine ⟨0, v, by omega, ⟨?_, ?_, hne⟩, Own.refl _ _, ht⟩
    · rw [spill_zero, ← hs1]
      exact hF.set2 (hF.set1 hr _) _
    · rw [spill_zero, e3]
      exact ht2.owns hown (fun k hk e => hne (by rw [hk, e]))
  case round =>
    obtain ⟨j, u, hj, hRj, how, hfr⟩ := hrel
    have t1 : (spill s1 j).hold = (s.hold + x * 2 ^ s.have_.toNat) / 2 ^ (8 * j) := by show s1.hold / 2 ^ (8 * j) = _; rw [e1]
    have t2 : (spill s1 j).have_ = s.have_ + n - 8 * j := by show s1.have_ - 8 * j = _; rw [e2]
    have t3 : (spill s1 j).out.length = s.out.length + j := by show (s1.out ++ (List.range j).map _).length = _; rw [List.length_append, List.length_map, List.length_range, e3]
    have t4 := spill_succ s1 j
    have pj := pow_pos2 (8 * j)
    have t5 : 0 ≤ (spill s1 j).hold := by rw [t1]; exact Int.ediv_nonneg (by omega) (by omega)
    have t6 : (spill s1 j).hold ≤ s.hold + x * 2 ^ s.have_.toNat := by
      rw [t1]
      exact Int.ediv_le_self _ (by omega)
    have HT : Hid ((spill s1 j).have_ = s.have_ + n - 8 * j ∧ spill s1 (j + 1) = ⟨(spill s1 j).out ++ [(spill s1 j).hold % 256], (spill s1 j).hold / 256, (spill s1 j).have_ - 8⟩) := ⟨t2, t4⟩
    have hlo : (spill s1 j).out.length ≤ 17592186044500 := by omega
    have t7 : (spill s1 j).have_ ≤ 19 ∧ -100 ≤ (spill s1 j).have_ := by omega
    clear t1 t2 t3 t4
    generalize hte : spill s1 j = t at *
    have HTE : Hid (spill s1 j = t) := hte
    clear hte
    obtain ⟨hrj, hownj, hnej⟩ := hRj
    clear hown hr c0 c1 hfz
    have d0 : wr.cell? ⟨b, 1, none⟩ = some (.int .i64 t.hold) := by rw [World.rowIs.cell hrj (i := 1) (by omega), hF.c1]
    have d1 : wr.cell? ⟨b, 2, none⟩ = some (.int .i64 t.have_) := by rw [World.rowIs.cell hrj (i := 2) (by omega), hF.c2]
    have d2 : wr.cell? ⟨b, 0, none⟩ = some u := by rw [World.rowIs.cell hrj (i := 0) (by omega), hF.c0]
    have hfz := World.rowIs.frozen hrj
    by_cases hgo : 8 ≤ t.have_
    · have h1n : ∀ u ∈ [Value.int .u8 (t.hold % 256)], u.oneCell' = true := by intro u hu; simp at hu; subst hu; rfl
      obtain ⟨qa, qc, rfl⟩ : ∃ a c, u = .slice a t.out.length c := by
        rcases hownj.2 with ⟨h3, h4⟩ | ⟨g, cap, cur, hv, _⟩
        · exact ⟨none, 0, by rw [h3, h4]⟩
        · exact ⟨_, _, hv⟩
      have hDd : Hid (wr.drew.ownsRow 0 5 1 (.slice qa t.out.length qc) t.out.length (t.out.map (Value.int .u8))) := hownj
      have hwr : Hid (wr.drew.rowIs b T n0 (F (.slice qa t.out.length qc) t.hold t.have_)) := hrj
      have hbr := World.rowIs.lt hrj
      have hnej2 : Hid ((Value.slice qa t.out.length qc).ownBlock ≠ some b) := hnej
      clear hownj hrj hnej
      go_wp2
      go_region_law (refine step_append_own_w rfl (.tmp 39) (.tmp 45) 37 rfl 0 5 i0 (.int .u8 0) 1 1 Try.underlying37 HI.out.1 HI.out.2.1 HI.out.2.2.1 HI.out.2.2.2 rfl (by decide) (.slice qa t.out.length qc) t.out.length (t.out.map (Value.int .u8)) (by simp [Act.eval]) (hDd.out.alloc _) ⟨wr.heap.size, 0, none⟩ 1 1 [.int .u8 (t.hold % 256)] (by simp [Act.eval]) rfl (cell_one_new _ _ _) h1n (by unfold maxLen; omega) (by omega) (by simp) ?_; intro v' w1' hown' hgrow hat; obtain ⟨g2, cap2, hv2⟩ := owns_shape hown'; subst hv2; have hrm := World.rowIs.of_block (hwr.out.alloc _) (hgrow.block b (by simp; omega) (fun e => hnej2.out e.symm)); have cm := World.rowIs.cell hrm (i := 0) (by omega); have hfm := World.rowIs.frozen hrm; have ch := World.rowIs.cell hrm (i := 1) (by omega); have cn := World.rowIs.cell hrm (i := 2) (by omega); rw [hF.c0] at cm; rw [hF.c1] at ch; rw [hF.c2] at cn)
      all_goals
        have hsz : wr.heap.size ≤ ((wr.drew.alloc (.cells #[.int .u8 (t.hold % 256)] 5)).heap.size) := by simp
        have hown2 : Own wr (.slice qa t.out.length qc) (.slice (some ⟨g2, 0, none⟩) (t.out.length + 1) cap2) := by
          rcases hat with e | e
          · exact Or.inl e
          · exact Or.inr ⟨_, e, hsz⟩
        have hgb : Hid ((Value.slice (some ⟨g2, 0, none⟩) (t.out.length + 1) cap2).ownBlock ≠ some b) := by
          rcases hat with e | e
          · rw [Hid, e]; exact hnej2.out
          · rw [Hid, e]
            intro q
            injection q with q
            have h9 : wr.heap.size ≤ b := Nat.le_trans hsz (Nat.le_of_eq q)
            omega
        have htr : Tch (BT b (.slice qa t.out.length qc)) wr w1' := (((Tch.refl _ wr).drew).alloc _).grown hgrow (fun j _ e => Or.inr e)
        have hfr1 : Tch (BT b v) w w1' := hfr.trans htr (BT.next how)
        have how1 := how.trans hown2 hfr.size
        clear hgrow hat hsz htr hown2 how
        go_wp2
        have ht2 := (((Tch.refl (· = b) w1').set ⟨b, 0, none⟩ (Value.slice (some ⟨g2, 0, none⟩) (t.out.length + 1) cap2) (fun _ => rfl)).set ⟨b, 1, none⟩ (.int .i64 (t.hold / 256)) (fun _ => rfl)).set ⟨b, 2, none⟩ (.int .i64 (t.have_ - 8)) (fun _ => rfl)
        have HT2 := HT.out
        go_roundg (gk - 1)
        case measure => omega
        case rel =>
          refine ⟨j + 1, .slice (some ⟨g2, 0, none⟩) (t.out.length + 1) cap2, by omega, ?_, how1, hfr1.trans ht2 (fun _ _ e => Or.inl e)⟩
          rw [HT2.2]
          refine ⟨hF.set2 (hF.set1 (hF.set0 hrm _) _) _, ?_, hgb.out⟩
          have := ht2.owns hown' (fun k hk e => hgb.out (by rw [hk, e]))
          unfold ownsB
          simpa using this
    · have HT2 := HT.out
      go_wp2
      go_end0
      have ej : j = ((s.have_ + n) / 8).toNat := by omega
      refine ⟨rfl, u, ?_, how, hfr⟩
      rw [HN.out, ← ej, HTE.out]
      exact ⟨hrj, hownj, hnej⟩

set_option maxHeartbeats 400000 in
theorem bfill_any (hF : IsBox F n0) (hR : BRep w T n0 F b s v) (h1 : 0 ≤ s.have_) (h2 : s.have_ < 8) (h3 : 0 ≤ s.hold) (h4 : s.hold < 256) (h9 : s.out.length ≤ 17592186044416) :
    Calls Try.prog 58 #[.pointer (some ⟨b, 0, none⟩)] w fun e w' => e = .returned (.tuple #[]) ∧ ∃ v', BRep w' T n0 F b (if 0 < s.have_ then numP s 0 (8 - s.have_) else s) v' ∧ Own w v v' ∧ Tch (BT b v) w w' := by
  have hR0 := hR
  obtain ⟨hr, hown, hne⟩ := hR
  have hn3 := hF.fit
  have c1 : w.cell? ⟨b, 2, none⟩ = some (.int .i64 s.have_) := by rw [World.rowIs.cell hr (i := 2) (by omega), hF.c2]
  have hfz := World.rowIs.frozen hr
  by_cases h0 : 0 < s.have_
  · rw [if_pos h0]
    have hN := bnum_any hF hR0 0 (8 - s.have_) h1 h2 h3 h4 (by omega) (by omega) (by omega) (by omega) h9
    clear hR0 hown hr
    go_enter Try.func58, Try.ntmps58
    go_wp2_with (first
      | (go_at_call 43; refine hN.mono ?_; rintro e w1 ⟨rfl, v1, hR1, ho1, hfr1⟩))
    go_end0
    exact ⟨rfl, v1, hR1, ho1, hfr1⟩
  · rw [if_neg h0]
    go_enter Try.func58, Try.ntmps58
    go_wp2
    go_end0
    exact ⟨rfl, v, hR0, Own.refl _ _, Tch.refl _ _⟩

set_option maxHeartbeats 400000 in
theorem beven_any (hF : IsBox F n0) (hR : BRep w T n0 F b s v) :
    Calls Try.prog 56 #[.pointer (some ⟨b, 0, none⟩)] w fun e w' => e = .returned (.bool (decide (s.have_ = 0))) ∧ w' = w := by
  obtain ⟨hr, hown, hne⟩ := hR
  have hn3 := hF.fit
  have c1 : w.cell? ⟨b, 2, none⟩ = some (.int .i64 s.have_) := by rw [World.rowIs.cell hr (i := 2) (by omega), hF.c2]
  by_cases h0 : s.have_ = 0
  · have HD : Hid (decide (s.have_ = 0) = true) := decide_eq_true h0
    rw [h0] at c1
    go_enter Try.func56, Try.ntmps56
    go_wp2
    go_ret
    rw [HD.out]
    exact ⟨rfl, rfl⟩
  · have HD : Hid (decide (s.have_ = 0) = false) := decide_eq_false h0
    have hb : (s.have_ == 0) = false := beq_eq_false_iff_ne.2 h0
    go_enter Try.func56, Try.ntmps56
    go_wp2
    go_ret
    rw [HD.out]
    exact ⟨rfl, rfl⟩

set_option maxHeartbeats 400000 in
theorem bsize_any (hF : IsBox F n0) (hR : BRep w T n0 F b s v) (h1 : 0 ≤ s.have_) (h2 : s.have_ < 8) (h9 : s.out.length ≤ 17592186044416) :
    Calls Try.prog 84 #[.pointer (some ⟨b, 0, none⟩)] w fun e w' => e = .returned (.int .i64 (8 * s.out.length + s.have_)) ∧ Tch NoOld w w' := by
  obtain ⟨hr, hown, hne⟩ := hR
  have hn3 := hF.fit
  have c1 : w.cell? ⟨b, 2, none⟩ = some (.int .i64 s.have_) := by rw [World.rowIs.cell hr (i := 2) (by omega), hF.c2]
  have c0 : w.cell? ⟨b, 0, none⟩ = some v := by rw [World.rowIs.cell hr (i := 0) (by omega), hF.c0]
  have hfz := World.rowIs.frozen hr
  obtain ⟨qa, qc, rfl⟩ : ∃ a c, v = .slice a s.out.length c := by
    rcases hown.2 with ⟨h3, h4⟩ | ⟨g, cap, cur, hv, _⟩
    · exact ⟨none, 0, by rw [h3, h4]⟩
    · exact ⟨_, _, hv⟩
  clear hown hr
  generalize s.out.length = l at *
  generalize s.have_ = k at *
  go_enter Try.func84, Try.ntmps84
  go_wp2
  go_region
  go_wp2
  go_ret
  exact ⟨rfl, (Tch.refl _ _).drew⟩

set_option maxHeartbeats 400000 in
theorem btake_any (hF : IsBox F n0) (hR : BRep w T n0 F b s v) :
    Calls Try.prog 54 #[.pointer (some ⟨b, 0, none⟩)] w fun e w' => e = .returned (.string (outStr s.out)) ∧ BRep w' T n0 F b ⟨[], s.hold, s.have_⟩ (.slice none 0 0) ∧ Tch (· = b) w w' := by
  obtain ⟨hr, hown, hne⟩ := hR
  have hn3 := hF.fit
  have c0 : w.cell? ⟨b, 0, none⟩ = some v := by rw [World.rowIs.cell hr (i := 0) (by omega), hF.c0]
  have hfz := World.rowIs.frozen hr
  have hcv := run_out hown
  have hw1 := hF.set0 hr (.slice none 0 0)
  have ht := (Tch.refl (· = b) w).set ⟨b, 0, none⟩ (.slice none 0 0) (fun _ => rfl)
  obtain ⟨qa, qc, rfl⟩ : ∃ a c, v = .slice a s.out.length c := by
    rcases hown.2 with ⟨h3, h4⟩ | ⟨g, cap, cur, hv, _⟩
    · exact ⟨none, 0, by rw [h3, h4]⟩
    · exact ⟨_, _, hv⟩
  clear hown hr
  go_enter Try.func54, Try.ntmps54
  go_wp2
  go_ret
  exact ⟨rfl, ⟨hw1, World.ownsRow_nil _ _ _ _, fun q => by cases q⟩, ht⟩
end
end Go.Proofs.Ytmpfgdmdnghhgaa
