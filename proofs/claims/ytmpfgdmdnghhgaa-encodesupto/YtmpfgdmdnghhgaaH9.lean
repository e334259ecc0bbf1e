import Derived.Test.YtmpfgdmdnghhgaaH7
import Derived.Test.YtmpfgdmdnghhgaaRows
import Derived.WalkKit
import Derived.ProofKit
import Derived.OpenShut
import Derived.ShutString
import Derived.ChangeOld
import Derived.Below
import Derived.JoinedCond
import Derived.Deep.Slices
import Derived.Deep.Strs
namespace Go.Proofs.Ytmpfgdmdnghhgaa
open Go.RowKit Wr

theorem fed_lt2 {w : World} {g : Nat} {G : Obj} (h : w.heap[g]? = some G) : g < w.heap.size := by
  rcases Nat.lt_or_ge g w.heap.size with hl | hl
  · exact hl
  · rw [Array.getElem?_eq_none hl] at h; cases h
def fsE (k1 q1 b1 k2 q2 b2 : Nat) (i : Nat) : Nat × Nat × Nat := if i = 0 then (k1, q1, b1) else (k2, q2, b2)
def stE (x l m : Int) (i : Nat) : EN := if i = 0 then ⟨.slice none 0 0, iniS x l, [], ⟨x, ByteArray.empty, [], ByteArray.empty, false⟩, .slice none 0 0⟩ else ⟨.slice none 0 0, iniS l m, [], ⟨l, ByteArray.empty, [], ByteArray.empty, false⟩, .slice none 0 0⟩
def madeO (q : Nat) (x : Int) : Obj := .cells #[.pointer (some ⟨q, 0, none⟩), .int .i64 x, .string ⟨#[]⟩, .slice none 0 0, .string ⟨#[]⟩, .bool false] 61
theorem rg_is {k q b j : Nat} (h : RG k q b (.slice none 0 0) (.slice none 0 0) j) : j = k ∨ j = q ∨ j = b := by
  rcases h with e | e | (e | e) | e
  · exact Or.inl e
  · exact Or.inr (Or.inl e)
  · exact Or.inr (Or.inr e)
  · cases e
  · cases e
theorem two_start {B : Nat} {w2 w3 : World} {x l m : Int} {q1 b1 q2 b2 : Nat} {n : Nat} (hn : n ≤ 20000000) (h0 : 0 ≤ x) (h8 : x ≤ 8) (l0 : 0 ≤ l) (l8 : l ≤ 8) (hB0 : B ≤ b1) (_hB2 : B ≤ w2.heap.size) (hw1 : W0 w2 b1 (iniS x l) [] (.slice none 0 0)) (he1 : EncAt w2 q1 (some b1)) (hbq1 : b1 < q1) (hb2 : w2.heap.size ≤ b2) (hbq2 : b2 < q2) (hw2 : W0 w3 b2 (iniS l m) [] (.slice none 0 0)) (he2 : EncAt w3 q2 (some b2)) (hB3 : Below w2.heap.size w2 w3) (o : Obj) :
    Two (((w3.alloc (madeO q1 x)).alloc (madeO q2 l)).alloc o) B (w3.heap.size + 1 + 1) (fsE w3.heap.size q1 b1 (w3.heap.size + 1) q2 b2) (stE x l m) n := by
  have tA := Tch.ofBelow hB3
  have e1 : EncAt w3 q1 (some b1) := he1.keep tA (fun e => e)
  have v1 : W0 w3 b1 (iniS x l) [] (.slice none 0 0) := hw1.keep tA (fun e => e) (fun _ _ e => e)
  have z3 := hB3.size
  have y1 := World.rowIs.lt he1
  have y2 := World.rowIs.lt he2
  have m1 := md_new h0 h8 v1 e1 hbq1
  have tB : Tch NoOld w3 (w3.alloc (madeO q1 x)) := (Tch.refl NoOld w3).alloc _
  have m2 := md_new (w := w3.alloc (madeO q1 x)) l0 l8 (hw2.keep tB (fun e => e) (fun _ _ e => e)) (World.rowIs.alloc he2 _) hbq2
  have hz : (w3.alloc (madeO q1 x)).heap.size = w3.heap.size + 1 := by simp
  rw [hz] at m2
  have m1' := (m1.below ((Below.refl _ _).alloc (Nat.le_refl _) (madeO q2 l))).below ((Below.refl _ _).alloc (Nat.le_refl _) o)
  have m2' := m2.below ((Below.refl _ _).alloc (Nat.le_refl _) o)
  have hs : ∀ o2, (((w3.alloc (madeO q1 x)).alloc (madeO q2 l)).alloc o2).heap.size = w3.heap.size + 3 := fun o2 => by simp
  have r0 : ∀ a, rgE (fsE w3.heap.size q1 b1 (w3.heap.size + 1) q2 b2) (stE x l m) 0 a → a = w3.heap.size ∨ a = q1 ∨ a = b1 := fun a ha => rg_is ha
  have r1 : ∀ a, rgE (fsE w3.heap.size q1 b1 (w3.heap.size + 1) q2 b2) (stE x l m) 1 a → a = w3.heap.size + 1 ∨ a = q2 ∨ a = b2 := fun a ha => rg_is ha
  refine ⟨fun i hi => ?_, fun i hi => ?_, fun i hi a ha => ?_, fun i j hi hj hne a ha hb => ?_, fun i hi ha => ?_, by rw [hs]; omega⟩
  · match i, hi with
    | 0, _ => exact m1'
    | 1, _ => exact m2'
  · match i, hi with
    | 0, _ => exact room_new x l n hn
    | 1, _ => exact room_new l m n hn
  · match i, hi with
    | 0, _ => have := r0 a ha; omega
    | 1, _ => have := r1 a ha; omega
  · match i, hi, j, hj with
    | 0, _, 0, _ => exact absurd rfl hne
    | 1, _, 1, _ => exact absurd rfl hne
    | 0, _, 1, _ => have := r0 a ha; have := r1 a hb; omega
    | 1, _, 0, _ => have := r1 a ha; have := r0 a hb; omega
  · match i, hi with
    | 0, _ => have := r0 _ ha; omega
    | 1, _ => have := r1 _ ha; omega

theorem Two.below {w w' : World} {B g : Nat} {fs : Nat → Nat × Nat × Nat} {st : Nat → EN} {n : Nat} (h : Two w B g fs st n) (hB : Below w.heap.size w w') : Two w' B g fs st n :=
  ⟨fun i hi => (h.md i hi).below hB, h.room, h.own, h.ne, h.ng, Nat.lt_of_lt_of_le h.gl hB.size⟩

set_option maxRecDepth 100000 in
set_option maxHeartbeats 1000000 in
theorem Encodes_good (w : World) (x l : Int) (a : Option Addr) (len cap : Nat) (c : Nat → Int × Int × ByteArray) (h0 : 0 ≤ x) (h8 : x ≤ 8) (l0 : 0 ≤ l) (l2 : l ≤ 2) (hc : IsOps w a len c) (hb : bulkO c len ≤ 2097152) :
    Calls Try.prog 7 #[.int .i64 x, .int .i64 l, .slice a len cap] w fun e w' => e = .returned (.bool true) ∧ Below w.heap.size w w' := by
  have hBg := lbegins_any w
  have hpb := pickN_bounds x 3 (by omega)
  have hPk := fun W => lpick_any W x 3 (by omega) (by omega) (by omega) (by omega)
  generalize pickN x 3 = pw at *
  have hE1 := fun W => NewEncoder_good W x l h0 h8 l0 l2
  have hP1 := fun W => Param_good W x l h0 h8 l0 l2
  have hE2 := fun W => NewEncoder_good W l pw l0 (by omega) hpb.1 (by omega)
  have hP2 := fun W => Param_good W l pw l0 (by omega) hpb.1 (by omega)
  have hN0 := fun (W : World) => num_any W 0 (by omega) (by omega)
  go_enter Try.func7, Try.ntmps7
  go_wp2_with (first
    | (go_at_call 23; refine hBg.mono ?_; rintro e w1 ⟨rfl, hB1⟩; have z1 := hB1.size)
    | (go_at_call 19; refine (hPk _).mono ?_; rintro e w8 ⟨rfl, hw8⟩; obtain rfl := hw8.symm)
    | (go_at_call_of 24 (Value.int .i64 pw); refine (hE2 _).mono ?_; rintro e w3 ⟨q2, b2, rfl, hb2, hbq2, hw2, he2, hT3⟩; have hB3 := Tch.below hT3; have z3 := hB3.size)
    | (go_at_call_of 24 (Value.int .i64 x); refine (hE1 _).mono ?_; rintro e w2 ⟨q1, b1, rfl, hb1, hbq1, hw1, he1, hT2⟩; have hB2 := Tch.below hT2; have z2 := hB2.size)
    | (go_at_call_of 25 (Value.int .i64 pw); refine (hP2 _).mono ?_; rintro e w8 ⟨rfl, hw8⟩; obtain rfl := hw8.symm)
    | (go_at_call_of 25 (Value.int .i64 x); refine (hP1 _).mono ?_; rintro e w8 ⟨rfl, hw8⟩; obtain rfl := hw8.symm)
    | (go_at_call_of 10 (Value.int .i64 0); refine (hN0 _).mono ?_; rintro e w8 ⟨rfl, hw8⟩; obtain rfl := hw8.symm))
  have hT := two_start (B := w.heap.size) (n := bulkO c len + 40) (by omega) h0 h8 l0 (by omega) (by omega) (by omega) hw1 he1 hbq1 hb2 hbq2 hw2 he2 hB3 (.cells #[.pointer (some ⟨w3.heap.size, 0, none⟩), .pointer (some ⟨w3.heap.size + 1, 0, none⟩)] 58)
  have hB4 : Below w.heap.size w (((w3.alloc (madeO q1 x)).alloc (madeO q2 l)).alloc (.cells #[.pointer (some ⟨w3.heap.size, 0, none⟩), .pointer (some ⟨w3.heap.size + 1, 0, none⟩)] 58)) := ((((hB1.trans (hB2.mono z1)).trans (hB3.mono (by omega))).alloc (by omega) _).alloc (by simp; omega) _).alloc (by simp; omega) _
  have hG : (((w3.alloc (madeO q1 x)).alloc (madeO q2 l)).alloc (.cells #[.pointer (some ⟨w3.heap.size, 0, none⟩), .pointer (some ⟨w3.heap.size + 1, 0, none⟩)] 58)).heap[w3.heap.size + 1 + 1]? = some (.cells #[.pointer (some ⟨w3.heap.size, 0, none⟩), .pointer (some ⟨w3.heap.size + 1, 0, none⟩)] 58 (0, 0)) := by
    have := heap_alloc_last ((w3.alloc (madeO q1 x)).alloc (madeO q2 l)) (.cells #[.pointer (some ⟨w3.heap.size, 0, none⟩), .pointer (some ⟨w3.heap.size + 1, 0, none⟩)] 58)
    simpa using this
  have hgp : ∀ j, j < 2 → (#[Value.pointer (some ⟨w3.heap.size, 0, none⟩), .pointer (some ⟨w3.heap.size + 1, 0, none⟩)] : Array Value)[j]? = some (.pointer (some ⟨(fsE w3.heap.size q1 b1 (w3.heap.size + 1) q2 b2 j).1, 0, none⟩)) := fun j hj => by
    match j, hj with
    | 0, _ => rfl
    | 1, _ => rfl
  have hT0 := hT
  have hB40 := hB4
  have hG0 := hG
  clear hT hB4 hG
  unfold madeO at hT0 hB40 hG0
  clear hw1 he1 hw2 he2 hB3 hB2 hB1 hT2 hT3 hE1 hE2 hP1 hP2 hN0 hPk hBg
  generalize fsE w3.heap.size q1 b1 (w3.heap.size + 1) q2 b2 = fs at *
  generalize #[Value.pointer (some ⟨w3.heap.size, 0, none⟩), .pointer (some ⟨w3.heap.size + 1, 0, none⟩)] = GA at *
  generalize ((w3.alloc _).alloc _).alloc _ = w4 at *
  generalize w3.heap.size + 1 + 1 = g at *
  have hGc : ∀ W : World, W.heap[g]? = some (.cells GA 58 (0, 0)) → ∀ j, j < 2 → W.cell? ⟨g, j, none⟩ = some (.pointer (some ⟨(fs j).1, 0, none⟩)) := fun W hW j hj => by
    rw [cell_of_row W g j GA 58 (0, 0) hW]
    exact hgp j hj
  clear hgp
  go_loopw [15] (fun vi wr => ∃ (n : Nat) (st : Nat → EN), n ≤ len ∧ vi = .int .i64 n ∧ Two wr w.heap.size g fs st (bulkO c len - bulkO c n + 40) ∧ wr.heap[g]? = some (.cells GA 58 (0, 0)) ∧ Below w.heap.size w wr) (fun vi _ => len - (intOf vi).toNat)
  case atStart => exact ⟨0, _, by omega, rfl, hT0, hG0, hB40⟩
  case round =>
    obtain ⟨n, st, hn, rfl, hTn, hGn, hBn⟩ := hrel
    clear hT0 hG0 hB40
    by_cases hlt : n < len
    · obtain ⟨cb, co, rfl, hcb, hcells⟩ := hc.2 (by omega)
      obtain ⟨u1, u2, u3, u4, u5⟩ := hcells n hlt
      have y1 : wr.cell? ⟨cb, co + n * 3, none⟩ = some (.int .i64 (c n).1) := (hBn.cell (p := ⟨cb, co + n * 3, none⟩) hcb).trans u1
      have y2 : wr.cell? ⟨cb, co + n * 3 + 1, none⟩ = some (.int .i64 (c n).2.1) := (hBn.cell (p := ⟨cb, co + n * 3 + 1, none⟩) hcb).trans u2
      have y3 : wr.cell? ⟨cb, co + n * 3 + 2, none⟩ = some (.string (c n).2.2) := (hBn.cell (p := ⟨cb, co + n * 3 + 2, none⟩) hcb).trans u3
      have hbn : bulkO c (n + 1) = bulkO c n + ((c n).2.2.size + 4) := rfl
      have hbl := bulkO_le c (show n + 1 ≤ len by omega)
      have hpb2 := pickN_bounds (c n).1 2 (by omega)
      have hPk := fun W => lpick_any W (c n).1 2 u4 u5 (by omega) (by omega)
      obtain ⟨j, hj⟩ := Int.eq_ofNat_of_zero_le hpb2.1
      rw [hj] at hPk hpb2
      have hj2 : j < 2 := by omega
      have y4 := hGc _ hGn j hj2
      have hTd := hTn.below ((Below.refl _ wr).drew)
      have hK := does_any (n := bulkO c len - bulkO c (n + 1) + 40) (hTd.md j hj2) (c n).1 (c n).2.1 (c n).2.2 ((hTd.room j hj2).less (by omega))
      have hln := hc.1
      have hcbr : cb < wr.heap.size := Nat.lt_of_lt_of_le hcb hBn.size
      have hgr := fed_lt2 hGn
      have hAt : ∀ W y' v', Mv (fs j).1 (fs j).2.1 (fs j).2.2 (st j).y (st j).v wr.drew y' v' W → W.heap[g]? = wr.heap[g]? ∧ (∀ o, W.cell? ⟨cb, o, none⟩ = wr.cell? ⟨cb, o, none⟩) ∧ (∀ o, W.cell? ⟨g, o, none⟩ = wr.cell? ⟨g, o, none⟩) := fun W y' v' h => by
        have e1 : W.heap[g]? = wr.heap[g]? := h.t.block g hgr (hTd.ng j hj2)
        have e2 : W.heap[cb]? = wr.heap[cb]? := h.t.block cb hcbr (fun e => by have := hTd.own j hj2 cb e; omega)
        exact ⟨e1, fun o => World.cell?_of_block (w := wr) (a := ⟨cb, o, none⟩) e2, fun o => World.cell?_of_block (w := wr) (a := ⟨g, o, none⟩) e1⟩
      have j0 : (0 : Int) ≤ (j : Int) := by omega
      have j1 : (j : Int) < 2 := by omega
      have n0 : (0 : Int) ≤ (n : Int) := by omega
      have nl : (n : Int) < (len : Int) := by omega
      have HTD : Hid (Two wr.drew w.heap.size g fs st (bulkO c len - bulkO c n + 40)) := hTd
      have HLE : Hid (bulkO c len - bulkO c (n + 1) + 40 ≤ bulkO c len - bulkO c n + 40) := by rw [Hid]; omega
      clear hcells u1 u2 u3 u4 u5 hj hTn hTd hbn hbl
      generalize (c n).1 = z at *
      generalize (c n).2.1 = kind at *
      generalize (c n).2.2 = T at *
      generalize hf9 : (fs j).1 = k9 at *
      have H9 : Hid ((fs j).1 = k9) := hf9
      clear hf9 hGc
      go_wp2
      go_region_held3 (fun W => W.cell? ⟨cb, co + n * 3, none⟩ = some (.int .i64 z) ∧ W.cell? ⟨cb, co + n * 3 + 1, none⟩ = some (.int .i64 kind) ∧ W.cell? ⟨cb, co + n * 3 + 2, none⟩ = some (.string T) ∧ W.cell? ⟨g, j, none⟩ = some (.pointer (some ⟨k9, 0, none⟩))) (go_keep)
        (first
          | (go_at_call 19; refine (hPk _).mono ?_; rintro e w9 ⟨rfl, rfl⟩)
          | (go_at_call 26; refine hK.mono ?_; rintro e w2' ⟨rfl, y', L', P', s', v', hm', hv', hr'⟩; obtain ⟨hG2, z1', z2'⟩ := hAt _ _ _ hv'; have r1 := (z1' (co + n * 3)).trans y1; have r2 := (z1' (co + n * 3 + 1)).trans y2; have r3 := (z1' (co + n * 3 + 2)).trans y3; have r4 := (z2' j).trans y4; clear z1' z2'))
      have hTnew : Two w2' w.heap.size g fs (updE st j ⟨y', L', P', s', v'⟩) (bulkO c len - bulkO c (n + 1) + 40) := HTD.out.step hj2 (x := ⟨y', L', P', s', v'⟩) (by rw [H9.out]; exact hm') (by rw [H9.out]; exact hv') hr' HLE.out hBn.size
      have hBnew : Below w.heap.size w w2' := hBn.drew.trans ⟨hv'.t.os, hv'.t.tape, hv'.t.output, hv'.t.size, fun i hi => hv'.t.block i (Nat.lt_of_lt_of_le hi hBn.size) (fun e => by rw [← H9.out] at e; have := HTD.out.own j hj2 i e; omega)⟩
      have hGnew := hG2.trans hGn
      clear r1 r2 r3 r4 y1 y2 y3 y4 hK hPk hAt
      go_wp2
      exact ⟨⟨n + 1, _, by omega, by go_num, hTnew, hGnew, hBnew⟩, by simp [intOf]; omega⟩
    · have hTe : Two wr w.heap.size g fs st 40 := ⟨hTn.md, fun i hi => (hTn.room i hi).less (by omega), hTn.own, hTn.ne, hTn.ng, hTn.gl⟩
      clear hTn
      go_wp2
      go_loopw [17] (fun vi wq => ∃ (m : Nat) (st : Nat → EN), m ≤ 2 ∧ vi = .int .i64 m ∧ Two wq w.heap.size g fs st (40 - 10 * m) ∧ wq.heap[g]? = some (.cells GA 58 (0, 0)) ∧ Below w.heap.size w wq) (fun vi _ => 2 - (intOf vi).toNat)
      case atStart => exact ⟨0, _, by omega, rfl, hTe, hGn, hBn⟩
      case round =>
        obtain ⟨m, st2, hm, rfl, hTm, hGm, hBm⟩ := hrel
        clear hTe hGn hBn
        by_cases hl2 : m < 2
        · have y4 := hGc _ hGm m hl2
          have hz0 : (⟨#[]⟩ : ByteArray).size = 0 := rfl
          have hK := does_any (n := 40 - 10 * (m + 1)) (hTm.md m hl2) 0 4 ⟨#[]⟩ ((hTm.room m hl2).less (by omega))
          have hgr := fed_lt2 hGm
          have HTD : Hid (Two wr w.heap.size g fs st2 (40 - 10 * m)) := hTm
          have m0 : (0 : Int) ≤ (m : Int) := by omega
          have m1 : (m : Int) < 2 := by omega
          clear hTm hGc
          generalize hf9 : (fs m).1 = k9 at *
          have H9 : Hid ((fs m).1 = k9) := hf9
          clear hf9
          go_wp2_with (first
            | (go_at_call 26; refine hK.mono ?_; rintro e w2' ⟨rfl, y', L', P', s', v', hm', hv', hr'⟩))
          have hTnew : Two w2' w.heap.size g fs (updE st2 m ⟨y', L', P', s', v'⟩) (40 - 10 * (m + 1)) := HTD.out.step hl2 (x := ⟨y', L', P', s', v'⟩) (by rw [H9.out]; exact hm') (by rw [H9.out]; exact hv') hr' (by omega) hBm.size
          have hBnew : Below w.heap.size w w2' := hBm.trans ⟨hv'.t.os, hv'.t.tape, hv'.t.output, hv'.t.size, fun i hi => hv'.t.block i (Nat.lt_of_lt_of_le hi hBm.size) (fun e => by rw [← H9.out] at e; have := HTD.out.own m hl2 i e; omega)⟩
          have hGnew := (hv'.t.block g hgr (by rw [← H9.out]; exact HTD.out.ng m hl2)).trans hGm
          exact ⟨⟨m + 1, _, by omega, by go_num, hTnew, hGnew, hBnew⟩, by simp [intOf]; omega⟩
        · clear hGc
          go_wp2
          go_ret
          exact ⟨rfl, hBm⟩

theorem Encodes_any (w : World) (x l : Int) (a : Option Addr) (len cap : Nat) (c : Nat → Int × Int × ByteArray) (x0 : -9223372036854775808 ≤ x) (x1 : x ≤ 9223372036854775807) (hc : IsOps w a len c) (hb : bulkO c len ≤ 2097152) :
    Calls Try.prog 7 #[.int .i64 x, .int .i64 l, .slice a len cap] w fun e w' => e = .returned (.bool true) ∧ Below w.heap.size w w' := by
  by_cases h : 0 ≤ x ∧ x ≤ 8 ∧ 0 ≤ l ∧ l ≤ 2
  · exact Encodes_good w x l a len cap c h.1 h.2.1 h.2.2.1 h.2.2.2 hc hb
  · exact Encodes_bad w x l a len cap x0 x1 h
end Go.Proofs.Ytmpfgdmdnghhgaa

namespace Go.Proofs.Ytmpfgdmdnghhgaa
open Go.RowKit Wr
open Go.ChangeShapes Go.WideShapes Go.ChangeAt Go.Deep

theorem cellsF_op : Try.prog.cellsOf 64 = 3 := by kernel_rfl
theorem cellsF_int : Try.prog.cellsOf 3 = 1 := by kernel_rfl
theorem cellsF_string : Try.prog.cellsOf 9 = 1 := by kernel_rfl
theorem cellF_lt {w : World} {p : Addr} {v : Value} (h : w.cell? p = some v) : p.block < w.heap.size := by
  by_cases hp : p.block < w.heap.size
  · exact hp
  · exfalso
    rw [World.cell?] at h
    simp [hp] at h
theorem intF_bounds {n : Int} (h : (Lit.int .i64 n).wf = true) : -9223372036854775808 ≤ n ∧ n ≤ 9223372036854775807 := by
  have := bounds_i64 h
  omega
theorem bulkF_append {H : Type} : ∀ (a b : List (DataW H)), Rows.uptoBulkAll (a ++ b) = Rows.uptoBulkAll a + Rows.uptoBulkAll b
  | [], b => by simp [Rows.uptoBulkAll]
  | d :: a, b => by
    show Rows.uptoBulk d + Rows.uptoBulkAll (a ++ b) = Rows.uptoBulk d + Rows.uptoBulkAll a + Rows.uptoBulkAll b
    rw [bulkF_append a b]
    omega
theorem bulkO_sum {H : Type} (D : Nat → DataW H) (c : Nat → Int × Int × ByteArray) : ∀ n : Nat, (∀ i, i < n → (c i).2.2.size + 4 ≤ Rows.uptoBulk (D i)) → bulkO c n ≤ Rows.uptoBulkAll ((List.range n).map D)
  | 0, _ => Nat.zero_le _
  | n + 1, h => by
    rw [List.range_succ, List.map_append, bulkF_append]
    have h1 := bulkO_sum D c n (fun i hi => h i (by omega))
    have h2 := h n (by omega)
    show bulkO c n + ((c n).2.2.size + 4) ≤ _ + (Rows.uptoBulk (D n) + 0)
    omega

set_option maxRecDepth 100000 in
theorem open_ops {H : Type} {enc : TypeId × Value → H} {W : World} {a : Option Addr} {len cap : Nat} {d : DataW H} {p : List MemPlace}
    (h : DataW.Trod enc Try.prog W 0 (fun _ => true) true 53 (.slice a len cap) d p) : ∃ c, IsOps W a len c ∧ bulkO c len ≤ Rows.uptoBulk d := by
  obtain ⟨fuel, hf⟩ := h
  rcases open_slice Try.underlying53 hf with ⟨hcs, _⟩ | ⟨x, l, cp, m, n, D, Pl, hcs, _, hl, hm, hmm, hx, hall⟩
  · simp [Value.cells] at hcs
    obtain ⟨rfl, rfl, rfl⟩ := hcs
    exact ⟨fun _ => (0, 0, ByteArray.empty), ⟨by omega, fun h => absurd h (by omega)⟩, Nat.zero_le _⟩
  · simp [Value.cells] at hcs
    obtain ⟨rfl, rfl, rfl⟩ := hcs
    simp only [if_true] at hmm
    subst hmm
    have each : ∀ i, i < len → ∃ q : Int × Int × ByteArray, W.cell? (x.add (i * 3)) = some (.int .i64 q.1) ∧ W.cell? (x.add (i * 3 + 1)) = some (.int .i64 q.2.1) ∧ W.cell? (x.add (i * 3 + 2)) = some (.string q.2.2) ∧ D i = .agg [.lit (.int .i64 q.1), .lit (.int .i64 q.2.1), .lit (.string q.2.2.data.toList)] ∧ (Lit.int .i64 q.1).wf = true := by
      intro i hi
      obtain ⟨cs', h1, h2⟩ := hall i (by omega)
      rw [cellsF_op] at h1
      obtain ⟨_, hlen, hcell⟩ := World.cells?_some h1
      obtain ⟨y0, y1, y2, n', hxy, _, g0, g1, g2⟩ := trod_struct3 Try.underlying64 h2
      match cs', hlen with
      | [v0, v1, v2], _ =>
        obtain ⟨z, e1, e2, ew⟩ := DataW.trod_int Try.underlying3 g0
        obtain ⟨z2, e3, e4, _⟩ := DataW.trod_int Try.underlying3 g1
        obtain ⟨s, e5, e6, _⟩ := DataW.trod_string Try.underlying9 g2
        simp [cellsF_int, cellsF_string] at e1 e3 e5
        have c0 := hcell 0 (by omega)
        have c1 := hcell 1 (by omega)
        have c2 := hcell 2 (by omega)
        rw [add_add] at c0 c1 c2
        simp only [Prod.mk.injEq] at hxy
        subst e1 e3 e5
        refine ⟨(z, z2, s), by simpa using c0, by simpa using c1, by simpa using c2, ?_, ew⟩
        rw [hxy.1, e2, e4, e6]
    obtain ⟨q, hq⟩ := choose_lt each
    simp only [Prod.mk.injEq] at hx
    obtain ⟨rfl, _⟩ := hx
    refine ⟨q, ⟨by unfold maxLen at hm; omega, fun h0 => ?_⟩, ?_⟩
    · obtain ⟨xb, xo, xs⟩ := x
      have hspot : xs = none := by simpa [Addr.add] using World.cell?_spot (hq 0 (by omega)).1
      subst hspot
      refine ⟨xb, xo, rfl, ?_, fun i hi => ?_⟩
      · have h1 := (hq 0 (by omega)).1
        rw [Addr.add_lit] at h1
        exact cellF_lt h1
      · obtain ⟨c0, c1, c2, _, ew⟩ := hq i hi
        rw [Addr.add_lit] at c0 c1 c2
        exact ⟨c0, c1, c2, intF_bounds ew⟩
    · have hs := bulkO_sum D q len (fun i hi => by
        rw [(hq i hi).2.2.2.1]
        show _ ≤ (1 + (1 + (_ + 1 + 0))) + 1
        have e : (q i).2.2.data.toList.length = (q i).2.2.size := by simp
        omega)
      show _ ≤ Rows.uptoBulkAll _ + Rows.uptoBulkAll _ + 1
      omega
end Go.Proofs.Ytmpfgdmdnghhgaa
/- THE STATEMENT 'Rows.EncodesUptoSaid'. -/
namespace Go.Proofs.Ytmpfgdmdnghhgaa.encodes
open Go.ChangeShapes Go.WideShapes Go.ChangeAt Go.RowKit
open Go.ChangeMaps (open_string shut_string)

theorem own : ownKnob Try.prog.godebug = none := by kernel_rfl
theorem laidOut : laidOutB Try.prog = true := by kernel_rfl
theorem small {H : Type} {n0 : Int} {n1 : Int} {d2 : DataW H} (hk : Rows.uptoSmall H [.lit (.int .i64 n0), .lit (.int .i64 n1), d2] = true) : Rows.uptoBulk d2 ≤ 1048576 := by
  have h : Rows.uptoBulkAll [.lit (.int .i64 n0), .lit (.int .i64 n1), d2] ≤ 1048576 := of_decide_eq_true hk
  simp only [Rows.uptoBulkAll, Rows.uptoBulk] at h
  omega

set_option maxRecDepth 100000 in
theorem contract (H : Type) (enc : TypeId × Value → H) (W : World) (base : Nat) (args : Array Value) (ds gs : List (DataW H)) (before : List MemPlace)
    (hval0 : ∀ (j : Nat) t v, Try.f7.params[j]? = some t → args[j]? = some v → Value.okWide Try.prog W .any base t v)
    (hW : DataW.Whole enc Try.prog Try.f7.params.toList Rows.encodesSpec.vars false W args.toList ds gs before) (hk : Rows.uptoSmall H (ds ++ gs) = true) :
    Calls Try.prog 7 args W fun e W' => ∃ v, e = .returned v ∧ Rows.encodesSpec.post enc Try.prog Try.f7 false true false false W args v W' := by
  have hval : ∀ (j : Nat) t v, Try.f7.params[j]? = some t → args[j]? = some v → Value.okWide Try.prog W .any base t v := hval0
  have hW' := hW
  obtain ⟨p, q, hA0, hV, rfl, hfz, hnd⟩ := hW
  have hA : DataW.TrodAll enc Try.prog W 0 (fun _ => true) true Try.f7.params.toList args.toList ds p := hA0
  rw [Try.params7] at hA hval
  obtain ⟨v0, vs0, d0, ds0, p0, q0, hargs, rfl, rfl, h0, r0⟩ := trodAll_cons hA
  obtain ⟨v1, vs1, d1, ds1, p1, q1, rfl, rfl, rfl, h1, r1⟩ := trodAll_cons r0
  obtain ⟨v2, vs2, d2, ds2, p2, q2, rfl, rfl, rfl, h2, r2⟩ := trodAll_cons r1
  obtain ⟨rfl, rfl, rfl⟩ := trodAll_nil r2
  obtain rfl : args = #[v0, v1, v2] := by cases args; simp_all
  obtain ⟨rfl, rfl⟩ := trodVars_none hV
  obtain ⟨a0, rfl, rfl, rfl, w0⟩ := open_int Try.underlying3 (hval 0 3 v0 rfl rfl) h0
  have b0 := intF_bounds w0
  obtain ⟨a1, rfl, rfl, rfl, w1⟩ := open_int Try.underlying3 (hval 1 3 v1 rfl rfl) h1
  obtain ⟨a2, len2, cap2, rfl⟩ := okWide_slice Try.underlying53 (hval 2 53 v2 rfl rfl)
  have k2 := h2
  have lt2 : ∀ x ∈ p2, x.block < W.heap.size := by obtain ⟨m, hm⟩ := k2; exact DataW.trod_lt m _ _ _ hm
  obtain ⟨c2, hc2, hb2⟩ := open_ops h2
  clear hA0 hval0
  simp only [List.append_nil] at hW' hk
  have hs := small hk
  refine (Encodes_any W a0 a1 a2 len2 cap2 c2 b0.1 b0.2 hc2 (by omega)).mono fun e W' ⟨he, bel⟩ => ?_
  subst he
  exact ⟨_, rfl, _, _, _, [], _, [], hW', trodAll_mk1 (shut_bool Try.underlying4 _), (trodAll_cons_mk (shut_int Try.underlying3 w0) (trodAll_cons_mk (shut_int Try.underlying3 w1) (trodAll_cons_mk (Below.trod laidOut (by kernel_rfl) (of_decide_eq_true (by kernel_rfl)) k2 bel lt2) trodAll_mk0))), rfl, bel.frame _, fun h => by cases h⟩

set_option maxRecDepth 100000 in
theorem lifted (os : Os) (started : os.Started) (H : Type) (enc : TypeId × Value → H) (F : Stop.Interp) :
    ReturnsInHanded {} Try.checked os 7 .any ((Rows.OpenSpec.upto Rows.encodesSpec).pre6 enc Try.prog Try.f7 Rows.encodesUptoRow.domain false) (((Rows.OpenSpec.upto Rows.encodesSpec).at F).post enc Try.prog Try.f7 false true false false) := by
  refine returnsInHanded_of_cond (C := Try.checked) (s := Rows.OpenSpec.upto Rows.encodesSpec) (k := Rows.uptoSmall) rfl own started (by kernel_rfl) Try.func7
    (OpenSpec.witness (enc := enc) (C := Try.checked) (s := Rows.OpenSpec.upto Rows.encodesSpec) (k := Rows.uptoSmall) rfl false ⟨#[], #[.int .i64 0, .int .i64 0, .slice none 0 0], []⟩ 8 (by kernel_rfl) (by kernel_rfl) (by kernel_rfl)
      (x := ([.lit (.int .i64 0), .lit (.int .i64 0), .nil], [], [])) (by kernel_rfl) rfl (by kernel_rfl)) ?_
  intro W base args ds gs before hval hW _ hk _
  exact contract H enc W base args ds gs before hval hW hk

theorem proved : Rows.EncodesUptoSaid :=
  OpenClaim.holds_of_cond 7 Try.f7 rfl rfl rfl rfl rfl rfl rfl ⟨rfl, rfl, rfl, rfl, rfl⟩ rfl rfl rfl rfl rfl (by kernel_rfl) Try.func7 (by kernel_rfl)
    (of_decide_eq_true (by kernel_rfl)) (by unfold Func.isWrapper; first | (rw [if_pos (by decide +kernel)]; kernel_rfl) | (rw [if_neg (by decide +kernel)]; exact ⟨rfl, rfl⟩))
    (fun os started H enc _ F => lifted os started H enc F)
end Go.Proofs.Ytmpfgdmdnghhgaa.encodes
