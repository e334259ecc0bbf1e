import Derived.Test.YtmpfgdmdnghhgaaK2
import Derived.Test.YtmpfgdmdnghhgaaS5
import Derived.Test.YtmpfgdmdnghhgaaB1
/- COMMANDS WALKED: what is built, Letters. -/
namespace Go.Proofs.Ytmpfgdmdnghhgaa
open Go.RowKit Wr

theorem info_cmd : (Try.prog.info? 139).map (fun i => (i.zero, i.size, i.bytes)) = some (some (.agg #[.int .i64 0, .int .i64 0, .int .i64 0, .int .i64 0]), 4, 32) := by kernel_rfl
theorem built_let (x : Int) : Try.prog.built 139 [(0, .int .i64 x)] = some #[.int .i64 x, .int .i64 0, .int .i64 0, .int .i64 0] := by kernel_rfl
theorem built_copy (x y z u : Int) : Try.prog.built 139 [(0, .int .i64 x), (1, .int .i64 y), (2, .int .i64 z), (3, .int .i64 u)] = some #[.int .i64 x, .int .i64 y, .int .i64 z, .int .i64 u] := by kernel_rfl
def cmV (c : Cm) : List Value := [.int .i64 c.letter, .int .i64 c.length, .int .i64 c.far, .int .i64 c.dist]
def cmsV (l : List Cm) : List Value := l.flatMap cmV
theorem cmsV_more (l : List Cm) (c : Cm) : cmsV (l ++ [c]) = cmsV l ++ cmV c := by simp [cmsV]
/-- a list of commands of its own -/
def OwnsC (w : World) (v : Value) (l : List Cm) : Prop := w.ownsRow 0 139 4 v l.length (cmsV l)
def Fresh (w : World) (v : Value) : Prop := ∀ k, v.ownBlock = some k → w.heap.size ≤ k
theorem cell_four (w : World) (a b c d : Value) (t : TypeId) : ∀ j u, [a, b, c, d][j]? = some u → (w.alloc (.cells #[a, b, c, d] t)).cell? ((⟨w.heap.size, 0, none⟩ : Addr).add j) = some u := by
  intro j u h
  rw [Addr.add_mid, Nat.zero_add]
  have hr := World.rowIs_alloc w #[a, b, c, d] t (fun i => [a, b, c, d].getD i default) (fun i hi => by
    have : i = 0 ∨ i = 1 ∨ i = 2 ∨ i = 3 := by simp at hi; omega
    rcases this with rfl | rfl | rfl | rfl <;> rfl)
  have hj : j < 4 := by
    have := (List.getElem?_eq_some_iff.1 h).1
    simpa using this
  rw [World.rowIs.cell hr (i := j) (by simpa using hj)]
  congr 1
  rw [List.getD_eq_getElem?_getD, h]
  rfl
theorem pB_get (P : List UInt8) (i : Nat) (h : i < P.length) : pB P i = (P[i].toNat : Int) := by
  unfold pB
  rw [List.getD_eq_getElem?_getD, List.getElem?_eq_getElem h]
  rfl

set_option maxRecDepth 100000 in
set_option maxHeartbeats 800000 in
theorem Letters_c (w : World) (g cap : Nat) (P : List UInt8) (hb : Bts w g P) (hPl : P.length ≤ 4096) :
    Calls Try.prog 81 #[.slice (some ⟨g, 0, none⟩) P.length cap] w fun e w' => ∃ v, e = .returned v ∧ OwnsC w' v (lettersC P) ∧ Fresh w v ∧ Tch NoOld w w' := by
  obtain ⟨i0, hi, hz0, hz1, hz2⟩ := info_parts info_cmd
  have HI : Hid (Try.prog.info? 139 = some i0 ∧ i0.zero = some (.agg #[.int .i64 0, .int .i64 0, .int .i64 0, .int .i64 0]) ∧ i0.size = 4 ∧ i0.bytes = 32) := ⟨hi, hz0, hz1, hz2⟩
  clear hi hz0 hz1 hz2
  go_enter Try.func81, Try.ntmps81
  go_wp2
  go_loopw [3, 4] (fun vl vi wr => ∃ i : Nat, i ≤ P.length ∧ vi = .int .i64 i ∧ OwnsC wr vl (lettersC (P.take i)) ∧ Fresh w vl ∧ Tch NoOld w wr) (fun _ vi _ => P.length - (intOf vi).toNat)
  case atStart => exact ⟨0, by omega, rfl, World.ownsRow_nil _ _ _ _, (fun k hk => by cases hk), Tch.refl _ _⟩
  case round =>
    obtain ⟨i, hi, rfl, ho, hfr, ht⟩ := hrel
    by_cases hlt : i < P.length
    · have k1 := (hb.keep ht (fun q => q)) i hlt
      have b1 := pB_bounds P i
      have HL : Hid (lettersC (P.take (i + 1)) = lettersC (P.take i) ++ [letC (pB P i)]) := by
        rw [Hid, List.take_add_one, List.getElem?_eq_getElem hlt, pB_get P i hlt]
        unfold lettersC
        rw [List.map_append]
        rfl
      have hln : (lettersC (P.take i)).length ≤ 4096 := by
        unfold lettersC
        rw [List.length_map, List.length_take]
        omega
      have HB := built_let (pB P i)
      have HBH : Hid (Try.prog.built 139 [(0, .int .i64 (pB P i))] = some #[.int .i64 (pB P i), .int .i64 0, .int .i64 0, .int .i64 0]) := HB
      have HO : Hid (wr.ownsRow 0 139 4 u3 (lettersC (P.take i)).length (cmsV (lettersC (P.take i)))) := ho
      have H1 : Hid (∀ u ∈ cmV (letC (pB P i)), u.oneCell' = true) := by
        intro u hu
        simp [cmV] at hu
        rcases hu with rfl | rfl | rfl | rfl <;> rfl
      clear HB ho hb
      generalize lettersC (P.take i) = l at *
      generalize pB P i = x at *
      go_wp2_with (first
        | (refine wpList_append_own_at _ rfl (.tmp 11) (.tmp 18) 127 rfl 0 139 i0 (.agg #[.int .i64 0, .int .i64 0, .int .i64 0, .int .i64 0]) 4 32 Try.underlying127 HI.out.1 HI.out.2.1 HI.out.2.2.1 HI.out.2.2.2 rfl (by decide) u3 l.length (cmsV l) (by simp [Act.eval]) (HO.out.alloc _) ⟨wr.heap.size, 0, none⟩ 1 1 (cmV (letC x)) (by simp [Act.eval]) rfl (cell_four _ _ _ _ _ _) H1.out (by unfold maxLen; omega) (by omega) (by simp) ?_; intro v' w1 hown' hgrow hnil hat)
        | (refine wpList_build_to rfl 139 _ rfl [(0, .int .i64 x)] (by simp [Act.eval]) _ HBH.out ?_))
      have hsz : wr.heap.size ≤ (wr.alloc (.cells #[.int .i64 x, .int .i64 0, .int .i64 0, .int .i64 0] 139)).heap.size := by simp
      have hts := ht.size
      go_roundw
      case rel =>
        refine ⟨i + 1, by omega, by go_num, ?_, ?_, ?_⟩
        · rw [HL.out]
          unfold OwnsC
          rw [cmsV_more, List.length_append, List.length_singleton]
          exact hown'
        · intro k hk
          rcases hat with e | e
          · exact hfr k (e.symm.trans hk)
          · rw [e] at hk
            injection hk with hk
            have : wr.heap.size ≤ k := Nat.le_trans hsz (Nat.le_of_eq hk)
            omega
        · exact (ht.alloc _).grown hgrow (fun j hj e => by have := hfr j e; omega)
      case measure => simp [intOf]; omega
    · have hil : i = P.length := by omega
      subst hil
      rw [List.take_length] at ho
      go_wp2
      go_ret
      exact ⟨_, rfl, ho, hfr, ht⟩
end Go.Proofs.Ytmpfgdmdnghhgaa

/- COMMANDS WALKED: newFinder, copyOf. -/
namespace Go.Proofs.Ytmpfgdmdnghhgaa
open Go.RowKit Wr

set_option maxRecDepth 1000000 in
theorem built_finder (g n cap : Nat) (win : Int) : Try.prog.built 158 [(0, .slice (some ⟨g, 0, none⟩) n cap), (1, .int .i64 win)] = some (cellsL 5122 (fndV (.slice (some ⟨g, 0, none⟩) n cap) win (fun _ => 0) (fun _ => 0))).toArray := by kernel_rfl
end Go.Proofs.Ytmpfgdmdnghhgaa

/- COMMANDS WALKED: newFinder, copyOf. -/
namespace Go.Proofs.Ytmpfgdmdnghhgaa
open Go.RowKit Wr

set_option maxRecDepth 100000 in
set_option maxHeartbeats 400000 in
theorem newFinder_any (w : World) (g n cap : Nat) (win : Int) :
    Calls Try.prog 105 #[.slice (some ⟨g, 0, none⟩) n cap, .int .i64 win] w fun e w' => e = .returned (.pointer (some ⟨w.heap.size, 0, none⟩)) ∧ FRow w' w.heap.size (.slice (some ⟨g, 0, none⟩) n cap) win fd0 ∧ Tch NoOld w w' := by
  have HB : Hid (Try.prog.built 158 [(0, .slice (some ⟨g, 0, none⟩) n cap), (1, .int .i64 win)] = some (cellsL 5122 (fndV (.slice (some ⟨g, 0, none⟩) n cap) win (fun _ => 0) (fun _ => 0))).toArray) := built_finder g n cap win
  have r0 := rowIs_new w 158 5122 (fndV (.slice (some ⟨g, 0, none⟩) n cap) win (fun _ => 0) (fun _ => 0))
  have t0 := (Tch.refl NoOld w).alloc (.cells (cellsL 5122 (fndV (.slice (some ⟨g, 0, none⟩) n cap) win (fun _ => 0) (fun _ => 0))).toArray 158)
  go_enter Try.func105, Try.ntmps105
  go_wp2_with (refine wpList_build_to rfl 158 _ rfl [(0, .slice (some ⟨g, 0, none⟩) n cap), (1, .int .i64 win)] (by simp [Act.eval]) _ HB.out ?_)
  go_ret
  exact ⟨rfl, r0, t0⟩

def cmA (c : Cm) : Value := .agg #[.int .i64 c.letter, .int .i64 c.length, .int .i64 c.far, .int .i64 c.dist]
theorem TCmd : RowTy 139 4 zInt := rowTy_of (by kernel_rfl) (by kernel_rfl) (by kernel_rfl)
def cmI (c : Cm) : Nat → Int := fun o => if o = 0 then c.letter else if o = 1 then c.length else if o = 2 then c.far else c.dist
theorem cmA_cells (c : Cm) : cmA c = .agg (cellsL 4 (iV (cmI c))).toArray := rfl

set_option maxRecDepth 100000 in
set_option maxHeartbeats 800000 in
theorem copyOf_any (w : World) (b : Nat) (far : Nat → Int) (l d : Int) (hr : RRow w b far) (h0 : 0 ≤ l) (h1 : l ≤ 520) (hd0 : 0 ≤ d) (hd1 : d ≤ 4096) :
    Calls Try.prog 107 #[.int .i64 l, .int .i64 d, .pointer (some ⟨b, 0, none⟩)] w fun e w' => e = .returned (cmA (copyC l d far).1) ∧ RRow w' b (copyC l d far).2 ∧ Tch (· = b) w w' := by
  have hbw := World.rowIs.lt hr
  have r0 := rowIs_new w 139 4 zInt
  have t0 := (Tch.refl NoOld w).alloc (.cells (cellsL 4 zInt).toArray 139)
  have hr0 : RRow (w.alloc (.cells (cellsL 4 zInt).toArray 139)) b far := t0.rowIs hr (fun q => q)
  have hfl : forLen l ≤ 15 := by
    have : ∀ g k, flGo l g k ≤ k + g := by
      intro g
      induction g with
      | zero => intro k; exact Nat.le_refl _
      | succ g ih =>
        intro k
        unfold flGo
        split
        · omega
        · have := ih (k + 1)
          omega
    have := this 15 0
    show flGo l 15 0 ≤ 15
    omega
  generalize hw1 : w.alloc (.cells (cellsL 4 zInt).toArray 139) = w1 at *
  have hL := ForLength_any w1 l h0 h1
  have hF := rFind_any hr0 d
  have HB : ∀ x z : Int, Hid (Try.prog.built 139 [(0, .int .i64 x), (1, .int .i64 l), (2, .int .i64 z), (3, .int .i64 d)] = some #[.int .i64 x, .int .i64 l, .int .i64 z, .int .i64 d]) := fun x z => built_copy x l z d
  have HFin : Hid (∀ (w3 : World) (c : Cm), w3.rowIs w.heap.size 139 4 zInt → (w3.setCells w.heap.size 0 (cellsL 4 (iV (cmI c)))).rowIs w.heap.size 139 4 (iV (cmI c))) := fun w3 F h => rowIs_setAll h _
  unfold nearI nearB at hF
  cases hn : nearOf far d with
  | some i =>
    rw [hn] at hF
    obtain ⟨i4, hi⟩ := nearOf_ok hn
    have HC : Hid (copyC l d far = (⟨256 + (forLen l : Nat), l, (i : Int), d⟩, useR far i)) := by
      unfold Hid copyC
      rw [hn]
    have hU := rUse_any hr0 i i4
    have HB1 := HB (256 + (forLen l : Nat)) i
    have HCM : Hid (cmA ⟨256 + (forLen l : Nat), l, (i : Int), d⟩ = .agg (cellsL 4 (iV (cmI ⟨256 + (forLen l : Nat), l, (i : Int), d⟩))).toArray) := rfl
    clear HB hn
    generalize forLen l = k at *
    go_enter Try.func107, Try.ntmps107
    go_wp2_with (first
      | (refine wpList_store_row (n := 4) (G := iV (cmI ⟨256 + (k : Nat), l, (i : Int), d⟩)) rfl 139 _ _ rfl rfl rfl rP TCmd (fun _ _ => rfl) ?_)
      | (refine wpList_build_to rfl 139 _ rfl [(0, .int .i64 (256 + (k : Nat))), (1, .int .i64 l), (2, .int .i64 i), (3, .int .i64 d)] (by simp [Act.eval]) _ HB1.out ?_)
      | (go_at_call 95; refine hU.mono ?_; rintro e w2 ⟨rfl, r2, t2⟩; have rP := t2.rowIs r0 (by show ¬ w.heap.size = b; omega))
      | (go_at_call 124; refine hF.mono ?_; rintro e w' ⟨rfl, rfl⟩)
      | (go_at_call 123; refine hL.mono ?_; rintro e w' ⟨rfl, rfl⟩)
      | (refine wpList_alloc_row rfl 139 rfl TCmd ?_; rw [hw1]))
    refine bodyPost_ret (post_row TCmd rfl _ rfl (HFin.out _ _ rP)) rfl ?_
    rw [HC.out]
    have tt : Tch (· = b) w w2 := (t0.mono (fun _ _ q => q.elim)).trans t2 (fun _ _ q => q)
    exact ⟨rfl, ((Tch.refl (· = w.heap.size) w2).cells w.heap.size (fun _ => rfl) _ 0).rowIs r2 (by show ¬ b = w.heap.size; omega), tt.cells w.heap.size (fun q => absurd q (Nat.lt_irrefl _)) _ 0⟩
  | none =>
    rw [hn] at hF
    have HC : Hid (copyC l d far = (⟨256 + (forLen l : Nat), l, (forDist d : Nat), d⟩, nearAdd far d)) := by
      unfold Hid copyC
      rw [hn]
    have hU := rAdd_any hr0 d
    have hD := ForDistance_any w1 d hd0 hd1
    have HB1 := HB (256 + (forLen l : Nat)) (forDist d : Nat)
    clear HB hn
    generalize forLen l = k at *
    generalize forDist d = i at *
    go_enter Try.func107, Try.ntmps107
    go_wp2_with (first
      | (refine wpList_store_row (n := 4) (G := iV (cmI ⟨256 + (k : Nat), l, (i : Nat), d⟩)) rfl 139 _ _ rfl rfl rfl rP TCmd (fun _ _ => rfl) ?_)
      | (refine wpList_build_to rfl 139 _ rfl [(0, .int .i64 (256 + (k : Nat))), (1, .int .i64 l), (2, .int .i64 (i : Nat)), (3, .int .i64 d)] (by simp [Act.eval]) _ HB1.out ?_)
      | (go_at_call 76; refine hU.mono ?_; rintro e w2 ⟨rfl, r2, t2⟩; have rP := t2.rowIs r0 (by show ¬ w.heap.size = b; omega))
      | (go_at_call 125; refine hD.mono ?_; rintro e w' ⟨rfl, rfl⟩)
      | (go_at_call 124; refine hF.mono ?_; rintro e w' ⟨rfl, rfl⟩)
      | (go_at_call 123; refine hL.mono ?_; rintro e w' ⟨rfl, rfl⟩)
      | (refine wpList_alloc_row rfl 139 rfl TCmd ?_; rw [hw1]))
    refine bodyPost_ret (post_row TCmd rfl _ rfl (HFin.out _ _ rP)) rfl ?_
    rw [HC.out]
    have tt : Tch (· = b) w w2 := (t0.mono (fun _ _ q => q.elim)).trans t2 (fun _ _ q => q)
    exact ⟨rfl, ((Tch.refl (· = w.heap.size) w2).cells w.heap.size (fun _ => rfl) _ 0).rowIs r2 (by show ¬ b = w.heap.size; omega), tt.cells w.heap.size (fun q => absurd q (Nat.lt_irrefl _)) _ 0⟩
end Go.Proofs.Ytmpfgdmdnghhgaa
