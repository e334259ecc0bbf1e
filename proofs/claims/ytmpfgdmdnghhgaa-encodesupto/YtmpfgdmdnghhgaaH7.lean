import Derived.Test.YtmpfgdmdnghhgaaH5
namespace Go.Proofs.Ytmpfgdmdnghhgaa
open Go.RowKit Wr

structure RoomM (u : St) (P : List UInt8) (s : Mw) (n : Nat) : Prop where
  phi : u.L.length + 8 * P.length + 30 * n ≤ 1000000000
  plain : s.plain.size + n ≤ 1000000000
  notes : s.notes.length + n ≤ 1000000000
theorem RoomM.less {u : St} {P : List UInt8} {s : Mw} {n m : Nat} (h : RoomM u P s n) (hm : m ≤ n) : RoomM u P s m := ⟨by have := h.phi; omega, by have := h.plain; omega, by have := h.notes; omega⟩

theorem does_any {w : World} {k q b : Nat} {wv : Value} {u : St} {P : List UInt8} {s : Mw} {vn : Value} (h : Md w k q b wv u P s vn) (c kind : Int) (T : ByteArray) {n : Nat} (hr : RoomM u P s (n + T.size + 4)) :
    Calls Try.prog 26 #[.pointer (some ⟨k, 0, none⟩), .agg #[.int .i64 c, .int .i64 kind, .string T]] w fun e w' => e = .returned (.bool true) ∧ ∃ wv' u' P' s' vn', Md w' k q b wv' u' P' s' vn' ∧ Mv k q b wv vn w wv' vn' w' ∧ RoomM u' P' s' n := by
  have h1 := hr.phi
  have h2 := hr.plain
  have h3 := hr.notes
  have hsame : ∀ (f : Ending → World → Prop), (∀ e w', f e w' → e = .returned (.bool true) ∧ Below w.heap.size w w') → ∀ e w', f e w' → e = .returned (.bool true) ∧ ∃ wv' u' P' s' vn', Md w' k q b wv' u' P' s' vn' ∧ Mv k q b wv vn w wv' vn' w' ∧ RoomM u' P' s' n := fun f hf e w' hh => by
    obtain ⟨e1, e2⟩ := hf e w' hh
    exact ⟨e1, wv, u, P, s, vn, h.below e2, Mv.of_below e2, hr.less (by omega)⟩
  by_cases k1 : kind = 1
  · subst k1
    cases hd : s.done
    · have hphi := writeS_phi T.data.toList (u, P)
      have hTs : T.data.toList.length = T.size := by simp
      have e0 : phiS (u, P) = u.L.length + 8 * P.length := rfl
      refine (does_write h hd c T (by omega) (by omega)).mono ?_
      rintro e w' ⟨rfl, wv', m1, m2⟩
      refine ⟨rfl, _, _, _, _, _, m1, m2, ⟨?_, ?_, by show s.notes.length + n ≤ _; omega⟩⟩
      · show phiS (writeS (u, P) T.data.toList) + _ ≤ _
        omega
      · show (s.plain ++ T).size + n ≤ _
        rw [ByteArray.size_append]
        omega
    · exact (does_done1 h hd c T).mono (hsame _ fun _ _ q => q)
  by_cases k2 : kind = 2
  · subst k2
    cases hd : s.done
    · refine (does_flush h hd c T (by omega)).mono ?_
      rintro e w' ⟨rfl, wv', m1, m2⟩
      refine ⟨rfl, _, _, _, _, _, m1, m2, ⟨?_, by show s.plain.size + n ≤ _; omega, by show s.notes.length + n ≤ _; omega⟩⟩
      have h8 := flushS_length u P
      show (flushS u P).L.length + 8 * 0 + 30 * n ≤ _
      omega
    · exact (does_done2 h hd c T).mono (hsame _ fun _ _ q => q)
  by_cases k3 : kind = 3
  · subst k3
    cases hd : s.done
    · by_cases hT : T.size ≤ 255
      · refine (does_note h hd c T hT (by omega) (by omega)).mono ?_
        rintro e w' ⟨rfl, wv', vn', m1, m2⟩
        refine ⟨rfl, _, _, _, _, _, m1, m2, ⟨?_, by show s.plain.size + n ≤ _; omega, by show (s.notes ++ [T]).length + n ≤ _; rw [List.length_append, List.length_singleton]; omega⟩⟩
        have h8 := letS_length u P
        have hTs : T.data.toList.length = T.size := by simp
        have h9 := noteL_length (letS u P).L T.data.toList
        show (noteL (letS u P).L T.data.toList).length + 8 * 0 + 30 * n ≤ _
        omega
      · exact (does_long h hd c T (by omega)).mono (hsame _ fun _ _ q => q)
    · exact (does_done3 h hd c T).mono (hsame _ fun _ _ q => q)
  by_cases k4 : kind = 4
  · subst k4
    cases hd : s.done
    · refine (does_finish h hd c T (by omega) (by omega)).mono ?_
      rintro e w' ⟨rfl, m1, m2⟩
      exact ⟨rfl, _, _, _, _, _, m1, m2, ⟨by omega, by show s.plain.size + n ≤ _; omega, by show s.notes.length + n ≤ _; omega⟩⟩
    · exact (does_done4 h hd c T).mono (hsame _ fun _ _ q => q)
  exact (does_other k c kind T k1 k2 k3 k4).mono (hsame _ fun _ _ q => q)

/-- a new one -/
theorem md_new {w : World} {q b : Nat} {x l : Int} (h0 : 0 ≤ x) (h8 : x ≤ 8) (hw : W0 w b (iniS x l) [] (.slice none 0 0)) (he : EncAt w q (some b)) (hbq : b < q) :
    Md (w.alloc (.cells #[.pointer (some ⟨q, 0, none⟩), .int .i64 x, .string ⟨#[]⟩, .slice none 0 0, .string ⟨#[]⟩, .bool false] 61)) w.heap.size q b (.slice none 0 0) (iniS x l) [] ⟨x, ByteArray.empty, [], ByteArray.empty, false⟩ (.slice none 0 0) := by
  have hq := World.rowIs.lt he
  have hb := hw.lt
  have hA : ∀ o, Tch NoOld w (w.alloc o) := fun o => (Tch.refl NoOld w).alloc o
  refine ⟨?_, World.rowIs.alloc he _, fun _ => ⟨hw.keep (hA _) (fun e => e) (fun _ _ e => e), ?_, dinv_init x l h0 h8⟩, World.ownsRow_nil _ _ _ _, by omega, by omega, by omega, (fun e => by cases e), (fun e => by cases e), Nat.lt_of_lt_of_le hb (hA _).size, (fun g hg => by cases hg)⟩
  · exact World.rowIs_alloc w #[.pointer (some ⟨q, 0, none⟩), .int .i64 x, .string ⟨#[]⟩, .slice none 0 0, .string ⟨#[]⟩, .bool false] 61 _ (fun i hi => by
      match i, hi with
      | 0, _ => rfl
      | 1, _ => rfl
      | 2, _ => rfl
      | 3, _ => rfl
      | 4, _ => rfl
      | 5, _ => rfl)
  · show ByteArray.empty = outStr (outFrom (numBits x 4) 0)
    unfold outFrom
    rw [numBits_length]
    rfl
theorem Mv.below {k q b : Nat} {wv vn wv' vn' : Value} {w0 w w' : World} (h : Mv k q b wv vn w wv' vn' w') (hg : ∀ j, RG k q b wv vn j → w0.heap.size ≤ j) (hB : Below w0.heap.size w0 w) : Below w0.heap.size w0 w' ∧ ∀ j, RG k q b wv' vn' j → w0.heap.size ≤ j := by
  have hz := hB.size
  refine ⟨hB.trans ⟨h.t.os, h.t.tape, h.t.output, h.t.size, fun i hi => h.t.block i (by omega) (fun e => by have := hg i e; omega)⟩, fun j hj => ?_⟩
  rcases RG.old h.wo h.vo hj with e | e
  · exact hg j e
  · omega
theorem rg_new {B k q b : Nat} (hk : B ≤ k) (hq : B ≤ q) (hb : B ≤ b) : ∀ j, RG k q b (.slice none 0 0) (.slice none 0 0) j → B ≤ j := by
  intro j hj
  rcases hj with e | e | (e | e) | e
  · omega
  · omega
  · omega
  · cases e
  · cases e

theorem room_new (x l : Int) (n : Nat) (hn : n ≤ 20000000 := by decide) : RoomM (iniS x l) [] ⟨x, ByteArray.empty, [], ByteArray.empty, false⟩ n := by
  have h := numBits_length x 4
  have h0 : (ByteArray.empty).size = 0 := rfl
  refine ⟨?_, ?_, ?_⟩
  · show (numBits x 4).length + 8 * 0 + 30 * n ≤ _
    omega
  · show (ByteArray.empty).size + n ≤ _
    omega
  · show 0 + n ≤ _
    omega
set_option maxRecDepth 100000 in
set_option maxHeartbeats 1000000 in
theorem lbegins_any (w : World) : Calls Try.prog 23 #[] w fun e w' => e = .returned (.bool true) ∧ Below w.heap.size w w' := by
  have hN := fun (W : World) => num_any W 0 (by omega) (by omega)
  have h1 := NewEncoder_good w 0 0 (by omega) (by omega) (by omega) (by omega)
  go_enter Try.func23, Try.ntmps23
  go_wp2_with (first
    | (go_at_call 24; refine h1.mono ?_; rintro e w1 ⟨q, b, rfl, hb0, hbq, hw1, he1, hT1⟩; have hB1 := Tch.below hT1; have hm1 := md_new (by omega) (by omega) hw1 he1 hbq; have hz1 := hB1.size)
    | (go_at_call 10; refine (hN _).mono ?_; rintro e w8 ⟨rfl, hw8⟩; obtain rfl := hw8.symm)
    | (go_at_call 26; first
        | (refine (does_any (n := 0) hm3 0 4 ⟨#[]⟩ (hr3.less (by decide))).mono ?_; rintro e w4 ⟨rfl, y4, u4, P4, s4, v4, hm4, hv4, hr4⟩)
        | (refine (does_any (n := 100) hm2 0 4 ⟨#[]⟩ (hr2.less (by decide))).mono ?_; rintro e w3 ⟨rfl, y3, u3, P3, s3, v3, hm3, hv3, hr3⟩)
        | (refine (does_any (n := 200) hm1 0 1 ⟨#[97, 98, 99]⟩ (room_new _ _ _)).mono ?_; rintro e w2 ⟨rfl, y2, u2, P2, s2, v2, hm2, hv2, hr2⟩)))
  go_ret
  have c1 := hB1.alloc hz1 (.cells #[.pointer (some ⟨q, 0, none⟩), .int .i64 0, .string ⟨#[]⟩, .slice none 0 0, .string ⟨#[]⟩, .bool false] 61)
  have c2 := hv2.below (w0 := w) (rg_new (by omega) (by omega) hb0) c1
  have c3 := hv3.below (w0 := w) c2.2 c2.1
  have c4 := hv4.below (w0 := w) c3.2 c3.1
  exact ⟨rfl, c4.1⟩
end Go.Proofs.Ytmpfgdmdnghhgaa

namespace Go.Proofs.Ytmpfgdmdnghhgaa
open Go.RowKit Wr

def pickN (c n : Int) : Int := if c < 0 then (-(c + 1)) % n else c % n
theorem pickN_bounds (c n : Int) (hn : 1 ≤ n) : 0 ≤ pickN c n ∧ pickN c n < n := by
  unfold pickN
  split
  · exact ⟨Int.emod_nonneg _ (by omega), Int.emod_lt_of_pos _ (by omega)⟩
  · exact ⟨Int.emod_nonneg _ (by omega), Int.emod_lt_of_pos _ (by omega)⟩
set_option maxHeartbeats 400000 in
theorem lpick_any (w : World) (c n : Int) (h1 : -9223372036854775808 ≤ c) (h2 : c ≤ 9223372036854775807) (h3 : 1 ≤ n) (h4 : n ≤ 1000000) :
    Calls Try.prog 19 #[.int .i64 c, .int .i64 n] w fun e w' => e = .returned (.int .i64 (pickN c n)) ∧ w' = w := by
  by_cases hc : c < 0
  · have HE : Hid (pickN c n = -((c + 1).tmod n)) := by
      rw [Hid, pickN, if_pos hc, ← Int.neg_tmod, Int.tmod_eq_emod_of_nonneg (by omega)]
    go_enter Try.func19, Try.ntmps19
    go_wp2
    go_ret
    rw [HE.out]
    exact ⟨rfl, rfl⟩
  · have HE : Hid (pickN c n = c % n) := by rw [Hid, pickN, if_neg hc]
    go_enter Try.func19, Try.ntmps19
    go_wp2
    go_ret
    rw [HE.out]
    exact ⟨rfl, rfl⟩
set_option maxHeartbeats 400000 in
theorem Param_good (w : World) (x l : Int) (h0 : 0 ≤ x) (h8 : x ≤ 8) (l0 : 0 ≤ l) (l2 : l ≤ 2) : Calls Try.prog 25 #[.int .i64 x, .int .i64 l] w fun e w' => e = .returned (.int .i64 0) ∧ w' = w := by
  go_enter Try.func25, Try.ntmps25
  go_wp2
  go_ret
  exact ⟨rfl, rfl⟩
set_option maxHeartbeats 400000 in
theorem Param_bad (w : World) (x l : Int) (h : ¬ (0 ≤ x ∧ x ≤ 8 ∧ 0 ≤ l ∧ l ≤ 2)) : Calls Try.prog 25 #[.int .i64 x, .int .i64 l] w fun e w' => e = .returned (.int .i64 4) ∧ w' = w := by
  by_cases h1 : x < 0
  · go_enter Try.func25, Try.ntmps25
    go_wp2
    go_ret
    exact ⟨rfl, rfl⟩
  by_cases h2 : 8 < x
  · go_enter Try.func25, Try.ntmps25
    go_wp2
    go_ret
    exact ⟨rfl, rfl⟩
  by_cases h3 : l < 0
  · go_enter Try.func25, Try.ntmps25
    go_wp2
    go_ret
    exact ⟨rfl, rfl⟩
  have h4 : 2 < l := by omega
  clear h
  go_enter Try.func25, Try.ntmps25
  go_wp2
  go_ret
  exact ⟨rfl, rfl⟩

structure EN where
  y : Value
  u : St
  P : List UInt8
  s : Mw
  v : Value
def rgE (fs : Nat → Nat × Nat × Nat) (st : Nat → EN) (i : Nat) : Nat → Prop := RG (fs i).1 (fs i).2.1 (fs i).2.2 (st i).y (st i).v
def updE (st : Nat → EN) (j : Nat) (x : EN) (i : Nat) : EN := if i = j then x else st i
/-- two encoders, apart from one another and from block g -/
structure Two (w : World) (B g : Nat) (fs : Nat → Nat × Nat × Nat) (st : Nat → EN) (n : Nat) : Prop where
  md : ∀ i, i < 2 → Md w (fs i).1 (fs i).2.1 (fs i).2.2 (st i).y (st i).u (st i).P (st i).s (st i).v
  room : ∀ i, i < 2 → RoomM (st i).u (st i).P (st i).s n
  own : ∀ i, i < 2 → ∀ a, rgE fs st i a → B ≤ a
  ne : ∀ i j, i < 2 → j < 2 → i ≠ j → ∀ a, rgE fs st i a → ¬ rgE fs st j a
  ng : ∀ i, i < 2 → ¬ rgE fs st i g
  gl : g < w.heap.size
theorem Two.step {w w' : World} {B g : Nat} {fs : Nat → Nat × Nat × Nat} {st : Nat → EN} {n m : Nat} (h : Two w B g fs st n) {j : Nat} (hj : j < 2) {x : EN} (hm : Md w' (fs j).1 (fs j).2.1 (fs j).2.2 x.y x.u x.P x.s x.v) (hv : Mv (fs j).1 (fs j).2.1 (fs j).2.2 (st j).y (st j).v w x.y x.v w') (hr : RoomM x.u x.P x.s m) (hmn : m ≤ n) (hB : B ≤ w.heap.size) : Two w' B g fs (updE st j x) m := by
  have hsame : ∀ i, i ≠ j → updE st j x i = st i := fun i e => if_neg e
  have hself : updE st j x j = x := if_pos rfl
  have hrgs : ∀ i, i ≠ j → rgE fs (updE st j x) i = rgE fs st i := fun i e => by unfold rgE; rw [hsame i e]
  have hrgj : ∀ a, rgE fs (updE st j x) j a → rgE fs st j a ∨ w.heap.size ≤ a := fun a ha => by
    unfold rgE at ha
    rw [hself] at ha
    exact RG.old hv.wo hv.vo ha
  refine ⟨fun i hi => ?_, fun i hi => ?_, fun i hi a ha => ?_, fun i i' hi hi' hne a ha hb => ?_, fun i hi ha => ?_, Nat.lt_of_lt_of_le h.gl hv.t.size⟩
  · by_cases e : i = j
    · subst e; rw [hself]; exact hm
    · rw [hsame i e]
      exact (h.md i hi).keepT hv.t (fun a ha => h.ne i j hi hj e a ha)
  · by_cases e : i = j
    · subst e; rw [hself]; exact hr
    · rw [hsame i e]; exact (h.room i hi).less hmn
  · by_cases e : i = j
    · subst e
      rcases hrgj a ha with q | q
      · exact h.own i hi a q
      · omega
    · rw [hrgs i e] at ha; exact h.own i hi a ha
  · by_cases e : i = j
    · subst e
      rw [hrgs i' (fun q => hne q.symm)] at hb
      rcases hrgj a ha with q | q
      · exact h.ne i i' hi hi' hne a q hb
      · have := (h.md i' hi').rg_lt hb
        omega
    · rw [hrgs i e] at ha
      by_cases e' : i' = j
      · subst e'
        rcases hrgj a hb with q | q
        · exact h.ne i i' hi hi' hne a ha q
        · have := (h.md i hi).rg_lt ha
          omega
      · exfalso; omega
  · by_cases e : i = j
    · subst e
      rcases hrgj g ha with q | q
      · exact h.ng i hi q
      · have := h.gl
        omega
    · rw [hrgs i e] at ha; exact h.ng i hi ha

/-- a slice of ops -/
def IsOps (W : World) (a : Option Addr) (len : Nat) (c : Nat → Int × Int × ByteArray) : Prop :=
  len ≤ 9223372036854775807 ∧ (0 < len → ∃ cb co, a = some ⟨cb, co, none⟩ ∧ cb < W.heap.size ∧ ∀ i, i < len → W.cell? ⟨cb, co + i * 3, none⟩ = some (.int .i64 (c i).1) ∧ W.cell? ⟨cb, co + i * 3 + 1, none⟩ = some (.int .i64 (c i).2.1) ∧ W.cell? ⟨cb, co + i * 3 + 2, none⟩ = some (.string (c i).2.2) ∧ -9223372036854775808 ≤ (c i).1 ∧ (c i).1 ≤ 9223372036854775807)
def bulkO (c : Nat → Int × Int × ByteArray) : Nat → Nat
  | 0 => 0
  | n + 1 => bulkO c n + ((c n).2.2.size + 4)
theorem bulkO_le (c : Nat → Int × Int × ByteArray) {n m : Nat} (h : n ≤ m) : bulkO c n ≤ bulkO c m := by
  induction m with
  | zero => rw [Nat.le_zero.1 h]; exact Nat.le_refl _
  | succ m ih =>
    by_cases e : n = m + 1
    · rw [e]; exact Nat.le_refl _
    · have := ih (by omega)
      show _ ≤ bulkO c m + _
      omega

set_option maxRecDepth 100000 in
set_option maxHeartbeats 1000000 in
theorem Encodes_bad (w : World) (x l : Int) (a : Option Addr) (len cap : Nat) (x0 : -9223372036854775808 ≤ x) (x1 : x ≤ 9223372036854775807) (h : ¬ (0 ≤ x ∧ x ≤ 8 ∧ 0 ≤ l ∧ l ≤ 2)) :
    Calls Try.prog 7 #[.int .i64 x, .int .i64 l, .slice a len cap] w fun e w' => e = .returned (.bool true) ∧ Below w.heap.size w w' := by
  have hBg := lbegins_any w
  have hpb := pickN_bounds x 3 (by omega)
  have hPk := fun W => lpick_any W x 3 x0 x1 (by omega) (by omega)
  generalize pickN x 3 = pw at *
  have hE1 := fun W => NewEncoder_bad W x l h
  have hP1 := fun W => Param_bad W x l h
  have hN4 := fun (W : World) => num_any W 4 (by omega) (by omega)
  have hN0 := fun (W : World) => num_any W 0 (by omega) (by omega)
  clear h
  by_cases hl : 0 ≤ l ∧ l ≤ 8
  · have hE2 := fun W => NewEncoder_good W l pw hl.1 hl.2 hpb.1 (by omega)
    have hP2 := fun W => Param_good W l pw hl.1 hl.2 hpb.1 (by omega)
    go_enter Try.func7, Try.ntmps7
    go_wp2_with (first
      | (go_at_call 23; refine hBg.mono ?_; rintro e w1 ⟨rfl, hB1⟩)
      | (go_at_call 19; refine (hPk _).mono ?_; rintro e w8 ⟨rfl, hw8⟩; obtain rfl := hw8.symm)
      | (go_at_call_of 24 (Value.int .i64 x); refine (hE1 _).mono ?_; rintro e w7 ⟨rfl, hw7⟩; obtain rfl := hw7.symm)
      | (go_at_call_of 24 (Value.int .i64 pw); refine (hE2 _).mono ?_; rintro e w3 ⟨q2, b2, rfl, hb2, hbq2, hw2, he2, hT3⟩; have hB3 := Tch.below hT3)
      | (go_at_call_of 25 (Value.int .i64 x); refine (hP1 _).mono ?_; rintro e w8 ⟨rfl, hw8⟩; obtain rfl := hw8.symm)
      | (go_at_call_of 25 (Value.int .i64 pw); refine (hP2 _).mono ?_; rintro e w8 ⟨rfl, hw8⟩; obtain rfl := hw8.symm)
      | (go_at_call_of 10 (Value.int .i64 4); refine (hN4 _).mono ?_; rintro e w8 ⟨rfl, hw8⟩; obtain rfl := hw8.symm)
      | (go_at_call_of 10 (Value.int .i64 0); refine (hN0 _).mono ?_; rintro e w8 ⟨rfl, hw8⟩; obtain rfl := hw8.symm))
    go_ret
    exact ⟨rfl, hB1.trans (hB3.mono hB1.size)⟩
  · have hE2 := fun W => NewEncoder_bad W l pw (by omega)
    have hP2 := fun W => Param_bad W l pw (by omega)
    go_enter Try.func7, Try.ntmps7
    go_wp2_with (first
      | (go_at_call 23; refine hBg.mono ?_; rintro e w1 ⟨rfl, hB1⟩)
      | (go_at_call 19; refine (hPk _).mono ?_; rintro e w8 ⟨rfl, hw8⟩; obtain rfl := hw8.symm)
      | (go_at_call_of 24 (Value.int .i64 x); refine (hE1 _).mono ?_; rintro e w7 ⟨rfl, hw7⟩; obtain rfl := hw7.symm)
      | (go_at_call_of 24 (Value.int .i64 pw); refine (hE2 _).mono ?_; rintro e w7 ⟨rfl, hw7⟩; obtain rfl := hw7.symm)
      | (go_at_call_of 25 (Value.int .i64 x); refine (hP1 _).mono ?_; rintro e w8 ⟨rfl, hw8⟩; obtain rfl := hw8.symm)
      | (go_at_call_of 25 (Value.int .i64 pw); refine (hP2 _).mono ?_; rintro e w8 ⟨rfl, hw8⟩; obtain rfl := hw8.symm)
      | (go_at_call_of 10 (Value.int .i64 4); refine (hN4 _).mono ?_; rintro e w8 ⟨rfl, hw8⟩; obtain rfl := hw8.symm)
      | (go_at_call_of 10 (Value.int .i64 0); refine (hN0 _).mono ?_; rintro e w8 ⟨rfl, hw8⟩; obtain rfl := hw8.symm))
    go_ret
    exact ⟨rfl, hB1⟩
end Go.Proofs.Ytmpfgdmdnghhgaa
