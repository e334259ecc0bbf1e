import Derived.Test.YtmpfgdmdnghhgaaGreatQ1
import Derived.Test.YtmpfgdmdnghhgaaGreatRows
import Derived.WalkKit
import Derived.ProofKit
import Derived.OpenShut
import Derived.ShutString
import Derived.ChangeOld
import Derived.Below
import Derived.JoinedCond
import Derived.Deep.SlicePairs
namespace Go.Proofs.YtmpfgdmdnghhgaaGreat
open Go.RowKit Wr


/-- a slice of calls -/
def IsCalls (W : World) (a : Option Addr) (len : Nat) (c : Nat → Int × ByteArray) : Prop :=
  len ≤ 9223372036854775807 ∧ (0 < len → ∃ cb co, a = some ⟨cb, co, none⟩ ∧ cb < W.heap.size ∧ ∀ i, i < len → W.cell? ⟨cb, co + i * 2, none⟩ = some (.int .i64 (c i).1) ∧ W.cell? ⟨cb, co + i * 2 + 1, none⟩ = some (.string (c i).2))
def bulk (c : Nat → Int × ByteArray) : Nat → Nat
  | 0 => 0
  | n + 1 => bulk c n + ((c n).2.size + 4)
def runS (c : Nat → Int × ByteArray) (r : Rn) : Nat → Rn
  | 0 => r
  | n + 1 => callS (c n).1 (c n).2 (runS c r n)
def initS (x l : Int) : Rn := ⟨iniS (windowP x) (levelP l), [], ⟨ByteArray.empty, ByteArray.empty, 0, 0, 0⟩⟩
theorem bulk_le (c : Nat → Int × ByteArray) {n m : Nat} (h : n ≤ m) : bulk c n ≤ bulk c m := by
  induction m with
  | zero => rw [Nat.le_zero.1 h]; exact Nat.le_refl _
  | succ m ih =>
    by_cases e : n = m + 1
    · rw [e]; exact Nat.le_refl _
    · have := ih (by omega)
      show _ ≤ bulk c m + _
      omega
theorem init_roomy (x l : Int) (n : Nat) (hn : n ≤ 11000000000) : Roomy (initS x l) n := by
  have h : (numBits (windowP x) 4).length = 4 := numBits_length _ _
  have h0 : (ByteArray.empty).size = 0 := rfl
  refine ⟨?_, ?_, ⟨Int.le_refl _, ?_⟩, ⟨Int.le_refl _, ?_⟩, ⟨Int.le_refl _, ?_⟩⟩
  · show (numBits (windowP x) 4).length + 8 * 0 + 30 * n ≤ _
    omega
  · show (ByteArray.empty).size + n ≤ _
    omega
  · show (0 : Int) + n ≤ _
    omega
  · show (0 : Int) + n ≤ _
    omega
  · show (0 : Int) + n ≤ _
    omega

theorem below3 {B : Nat} {k q b : Nat} {wv : Value} {w w' w'' : World} (h : Below B w w') (t : Tch (T3 k q b wv) w' w'') (h1 : B ≤ k) (h2 : B ≤ q) (h3 : B ≤ b) (h4 : ∀ g, wv.ownBlock = some g → B ≤ g) (hB : B ≤ w'.heap.size) : Below B w w'' :=
  h.trans ⟨t.os, t.tape, t.output, t.size, fun i hi => t.block i (by omega) (fun e => by
    rcases e with e | e | e | e
    · omega
    · omega
    · omega
    · have := h4 i e
      omega)⟩
theorem Own.ge {B : Nat} {w : World} {v v' : Value} (h : Own w v v') (hB : B ≤ w.heap.size) (hv : ∀ g, v.ownBlock = some g → B ≤ g) : ∀ g, v'.ownBlock = some g → B ≤ g := by
  intro g hg
  rcases h with h | ⟨g', h1, h2⟩
  · exact hv g (by rw [← h]; exact hg)
  · rw [h1] at hg
    injection hg with hg
    omega
/-- what was written is what the document reads -/
def REnc (r : Rn) : Prop := ∃ x N, DInv (r.u, r.P) x r.k.plain.data.toList N

/-- a work whose row of bytes is no older than B -/
def WorkN (B : Nat) (w : World) (k q b : Nat) (u : St) (P : List UInt8) (s : Wo) : Prop := ∃ wv, Work w k q b wv u P s ∧ ∀ g, wv.ownBlock = some g → B ≤ g
/-- of what is older than B, all is as it was but these three -/
structure On3n (B k q b : Nat) (w w' : World) : Prop where
  os : w'.os = w.os
  tape : w'.tape = w.tape
  output : w'.output = w.output
  size : w.heap.size ≤ w'.heap.size
  block : ∀ i, i < B → i ≠ k → i ≠ q → i ≠ b → w'.heap[i]? = w.heap[i]?
section
variable {B : Nat} {w w' : World} {k q b : Nat} {u : St} {P : List UInt8} {s : Wo}
theorem WorkN.row (h : WorkN B w k q b u P s) : WkRow w k q s := by
  obtain ⟨_, h, _⟩ := h
  exact h.row
theorem WorkN.out (h : WorkN B w k q b u P s) : s.out = bytesL u.L := by
  obtain ⟨_, h, _⟩ := h
  exact h.out
theorem Work.lts {wv : Value} (h : Work w k q b wv u P s) : k < w.heap.size ∧ q < w.heap.size ∧ b < w.heap.size := ⟨World.rowIs.lt h.row, World.rowIs.lt h.enc, h.wr.lt⟩
theorem Work.keepT {A : Nat → Prop} {wv : Value} (h : Work w k q b wv u P s) (t : Tch A w w') (h1 : ¬ A k) (h2 : ¬ A q) (h3 : ¬ A b) (h4 : ∀ g, wv.ownBlock = some g → ¬ A g) : Work w' k q b wv u P s :=
  ⟨t.rowIs h.row h1, t.rowIs h.enc h2, h.wr.keep t h3 h4, h.kq, h.kb, h.qb, h.vk, h.vq, h.out, h.inv⟩
theorem Work.below {wv : Value} (h : Work w k q b wv u P s) (hB : Below w.heap.size w w') : Work w' k q b wv u P s := h.keepT (Tch.ofBelow hB) (fun q => q) (fun q => q) (fun q => q) (fun _ _ q => q)
theorem WorkN.below (h : WorkN B w k q b u P s) (hB : Below w.heap.size w w') : WorkN B w' k q b u P s := by
  obtain ⟨wv, h1, h2⟩ := h
  exact ⟨wv, h1.below hB, h2⟩
theorem WorkN.keepT {A : Nat → Prop} (h : WorkN B w k q b u P s) (t : Tch A w w') (h1 : ¬ A k) (h2 : ¬ A q) (h3 : ¬ A b) (h4 : ∀ g, B ≤ g → ¬ A g) : WorkN B w' k q b u P s := by
  obtain ⟨wv, g1, g2⟩ := h
  exact ⟨wv, g1.keepT t h1 h2 h3 (fun g hg => h4 g (g2 g hg)), g2⟩
theorem WorkN.ofNone (h : Work w k q b (.slice none 0 0) u P s) (B : Nat) : WorkN B w k q b u P s := ⟨_, h, (fun g hg => by cases hg)⟩
theorem WorkN.lts (h : WorkN B w k q b u P s) : k < w.heap.size ∧ q < w.heap.size ∧ b < w.heap.size := by
  obtain ⟨_, h, _⟩ := h
  exact h.lts
theorem kcall_N {r : Rn} (h : WorkN B w k q b r.u r.P r.k) (hB : B ≤ w.heap.size) (kind : Int) (T : ByteArray) (hr : Roomy r (T.size + 4)) :
    Calls Tryz.prog 16 #[.pointer (some ⟨k, 0, none⟩), .agg #[.int .i64 kind, .string T]] w fun e w' => e = .returned (.tuple #[]) ∧ WorkN B w' k q b (callS kind T r).u (callS kind T r).P (callS kind T r).k ∧ On3n B k q b w w' := by
  obtain ⟨wv, h1, h2⟩ := h
  refine (kcall_any h1 kind T hr).mono ?_
  rintro e w' ⟨rfl, wv', h3, h4, h5⟩
  refine ⟨rfl, ⟨wv', h3, h4.ge hB h2⟩, h5.os, h5.tape, h5.output, h5.size, fun i hi e1 e2 e3 => h5.block i (by omega) (fun e => ?_)⟩
  rcases e with e | e | e | e
  · exact e1 e
  · exact e2 e
  · exact e3 e
  · have := h2 i e
    omega
theorem belowN {C : Nat} {w0 : World} (h : Below C w0 w) (t : On3n B k q b w w') (h1 : C ≤ k) (h2 : C ≤ q) (h3 : C ≤ b) (h4 : C ≤ B) : Below C w0 w' :=
  h.trans ⟨t.os, t.tape, t.output, t.size, fun i hi => t.block i (by omega) (by omega) (by omega) (by omega)⟩
end

theorem some_bytes {x : ByteArray} (h : 0 < x.size) : x.toList.isEmpty = false := by
  cases e : x.toList with
  | nil =>
    have h2 : x.toList.length = x.size := by rw [Lib.toList_data]; simp
    rw [e] at h2
    simp at h2
    omega
  | cons c l => rfl

set_option maxRecDepth 100000 in
set_option maxHeartbeats 1000000 in
theorem made_any (w : World) (x l : Int) (a : Option Addr) (len cap : Nat) (c : Nat → Int × ByteArray) (x0 : -9223372036854775808 ≤ x) (x1 : x ≤ 9223372036854775807) (l0 : -9223372036854775808 ≤ l) (l1 : l ≤ 9223372036854775807)
    (hc : IsCalls w a len c) (hb : bulk c len ≤ 10000000000) :
    Calls Tryz.prog 9 #[.int .i64 x, .int .i64 l, .slice a len cap] w fun e w' => ∃ k q, e = .returned (.pointer (some ⟨k, 0, none⟩)) ∧ w.heap.size ≤ k ∧ WkRow w' k q { (runS c (initS x l) len).k with out := endOut (runS c (initS x l) len) } ∧ Below w.heap.size w w' ∧
      REnc (runS c (initS x l) len) ∧ Roomy (runS c (initS x l) len) 0 := by
  have h1 := kbegin_any w x l x0 x1 l0 l1
  have hr0 := init_roomy x l (bulk c len + 8) (by omega)
  have HR0 : Hid (runS c (initS x l) 0 = initS x l) := rfl
  have hW0 : ∀ W k q b, Work W k q b (.slice none 0 0) (iniS (windowP x) (levelP l)) [] ⟨ByteArray.empty, ByteArray.empty, 0, 0, 0⟩ → Work W k q b (.slice none 0 0) (initS x l).u (initS x l).P (initS x l).k := fun _ _ _ _ h => h
  generalize initS x l = r0 at *
  generalize hrl : runS c r0 len = rl
  have HRL : Hid (runS c r0 len = rl) := hrl
  clear hrl
  generalize heo : endOut rl = eo
  have HEO : Hid (endOut rl = eo) := heo
  clear heo
  go_enter Tryz.func9, Tryz.ntmps9
  go_wp2_with (first
    | (go_at_call 14; refine h1.mono ?_; rintro e w1 ⟨k, q, b, rfl, hb0, hq0, hk0, hw1, hB1⟩))
  have hw2 := hW0 _ _ _ _ hw1
  clear hw1 hW0 h1
  go_loopw [8] (fun vi wr => ∃ n : Nat, n ≤ len ∧ vi = .int .i64 n ∧ (∃ wv, Work wr k q b wv (runS c r0 n).u (runS c r0 n).P (runS c r0 n).k ∧ ∀ g, wv.ownBlock = some g → w.heap.size ≤ g) ∧ Roomy (runS c r0 n) (bulk c len - bulk c n + 8) ∧ Below w.heap.size w wr) (fun vi _ => len - (intOf vi).toNat)
  case atStart => exact ⟨0, by omega, rfl, by rw [HR0.out]; exact ⟨_, hw2, (fun g hg => by cases hg)⟩, by rw [HR0.out]; exact hr0, hB1⟩
  case round =>
    obtain ⟨n, hn, rfl, ⟨wv, hwn, hvn⟩, hrn, hBn⟩ := hrel
    clear hw2 hr0 HR0 hB1
    by_cases hlt : n < len
    · obtain ⟨cb, co, rfl, hcb, hcells⟩ := hc.2 (by omega)
      obtain ⟨d1, d2⟩ := hcells n hlt
      have e1 : wr.cell? ⟨cb, co + n * 2, none⟩ = some (.int .i64 (c n).1) := (hBn.cell (p := ⟨cb, co + n * 2, none⟩) hcb).trans d1
      have e2 : wr.cell? ⟨cb, co + n * 2 + 1, none⟩ = some (.string (c n).2) := (hBn.cell (p := ⟨cb, co + n * 2 + 1, none⟩) hcb).trans d2
      have hbn : bulk c (n + 1) = bulk c n + ((c n).2.size + 4) := rfl
      have hbl := bulk_le c (show n + 1 ≤ len by omega)
      have hrc : Roomy (runS c r0 n) ((bulk c len - bulk c (n + 1) + 8) + (c n).2.size + 4) := by
        rw [show bulk c len - bulk c (n + 1) + 8 + (c n).2.size + 4 = bulk c len - bulk c n + 8 by omega]
        exact hrn
      have hrc2 := callS_roomy (c n).1 (c n).2 hrc
      have HRS : Hid (runS c r0 (n + 1) = callS (c n).1 (c n).2 (runS c r0 n)) := rfl
      have hrk : Roomy (runS c r0 n) ((c n).2.size + 4) := ⟨by have := hrc.phi; omega, by have := hrc.plain; omega, ⟨hrc.f.1, by have := hrc.f.2; omega⟩, ⟨hrc.nt.1, by have := hrc.nt.2; omega⟩, ⟨hrc.by_.1, by have := hrc.by_.2; omega⟩⟩
      have hK := kcall_any hwn (c n).1 (c n).2 hrk
      generalize runS c r0 n = rn at *
      have hln := hc.1
      clear hcells d1 d2 hc hrk hrc hbn
      generalize (c n).1 = kind at *
      generalize (c n).2 = T at *
      go_wp2_with (first
        | (go_at_call 16; refine hK.mono ?_; rintro e w3 ⟨rfl, wv', hw3, how3, ho3⟩))
      exact ⟨⟨n + 1, by omega, by go_num, by rw [HRS.out]; exact ⟨wv', hw3, how3.ge hBn.size hvn⟩, by rw [HRS.out]; exact hrc2, below3 hBn ho3 hk0 hq0 hb0 hvn hBn.size⟩, by simp [intOf]; omega⟩
    · have hne : n = len := by omega
      rw [hne, HRL.out] at hwn hrn
      have hE := kend_any hwn (by have := hrn.phi; omega)
      rw [HEO.out] at hE
      have hinv := hwn.inv
      have hlong := finS_long rl.u rl.P
      have hro : Roomy rl 0 := ⟨by have := hrn.phi; omega, by have := hrn.plain; omega, ⟨hrn.f.1, by have := hrn.f.2; omega⟩, ⟨hrn.nt.1, by have := hrn.nt.2; omega⟩, ⟨hrn.by_.1, by have := hrn.by_.2; omega⟩⟩
      have hwr : w.heap.size ≤ wr.heap.size := hBn.size
      have hes : 0 < eo.size := by rw [← HEO.out]; exact hlong
      have hne2 := some_bytes hes
      have hU : ∀ W, WkRow W k q { rl.k with out := eo } → W.cell? ⟨k, 2, none⟩ = some (.string eo) ∧ W.cell? ⟨k, 6, none⟩ = some (.bool true) := fun W h => ⟨World.rowIs.cell h (by omega), World.rowIs.cell h (by omega)⟩
      clear hwn hrn hlong hes
      subst hne
      go_wp2_with (first
        | (go_at_call 20; refine hE.mono ?_; rintro e w3 ⟨rfl, hr3, ho3⟩; obtain ⟨d1, d2⟩ := hU _ hr3))
      go_ret
      exact ⟨k, q, rfl, hk0, hr3, below3 hBn ho3 hk0 hq0 hb0 hvn hwr, hinv, hro⟩


def phiR (r : Rn) : Nat := r.u.L.length + 8 * r.P.length
theorem callS_phi (kind : Int) (T : ByteArray) (r : Rn) : phiR (callS kind T r) ≤ phiR r + 30 * (T.size + 4) := by
  have hts := noteT_size T
  unfold callS
  by_cases k1 : kind = 1
  · rw [if_pos k1]
    have hphi := writeS_phi T.data.toList (r.u, r.P)
    have hTs : T.data.toList.length = T.size := by simp
    have e : phiS (r.u, r.P) = phiR r := rfl
    show phiS (writeS (r.u, r.P) T.data.toList) ≤ _
    omega
  rw [if_neg k1]
  by_cases k2 : kind = 2
  · rw [if_pos k2]
    have := flushS_length r.u r.P
    show (flushS r.u r.P).L.length + 8 * 0 ≤ r.u.L.length + 8 * r.P.length + _
    omega
  rw [if_neg k2]
  by_cases k3 : kind = 3
  · rw [if_pos k3]
    have hNT : (noteT T).data.toList.length = (noteT T).size := by simp
    have := letS_length r.u r.P
    have := noteL_length (letS r.u r.P).L (noteT T).data.toList
    show (noteL (letS r.u r.P).L (noteT T).data.toList).length + 8 * 0 ≤ r.u.L.length + 8 * r.P.length + _
    omega
  rw [if_neg k3]
  omega
theorem run_phi (c : Nat → Int × ByteArray) (r : Rn) : ∀ n, phiR (runS c r n) ≤ phiR r + 30 * bulk c n
  | 0 => by show phiR r ≤ _; omega
  | n + 1 => by
    have h1 := run_phi c r n
    have h2 := callS_phi (c n).1 (c n).2 (runS c r n)
    show phiR (callS (c n).1 (c n).2 (runS c r n)) ≤ _ + 30 * (bulk c n + ((c n).2.size + 4))
    omega
theorem endOut_size (c : Nat → Int × ByteArray) (x l : Int) (n : Nat) : (endOut (runS c (initS x l) n)).size ≤ 30 * bulk c n + 30 := by
  have h1 := run_phi c (initS x l) n
  have h2 : phiR (initS x l) = 4 := by
    show (numBits (windowP x) 4).length + 8 * 0 = 4
    rw [numBits_length]
  have h3 := finS_length (runS c (initS x l) n).u (runS c (initS x l) n).P
  unfold endOut
  rw [bytesL_size]
  unfold phiR at h1 h2
  omega

/-- how long the bits are -/
def SI (r : Rn) : Prop := ∃ F : Nat, 4096 * F + r.P.length ≤ r.k.plain.size ∧ ((phiR r : Nat) : Int) ≤ 4 + 8 * ((r.k.plain.size : Int) + r.k.bytes) + 22 * F + 32 * r.k.flushes + 40 * r.k.notes ∧ 0 ≤ r.k.flushes ∧ 0 ≤ r.k.notes ∧ 0 ≤ r.k.bytes
theorem write_short : ∀ (l : List UInt8) (e : St × List UInt8) (F N : Nat) (K : Int), 4096 * F + e.2.length ≤ N → ((phiS e : Nat) : Int) ≤ K + 8 * N + 22 * F →
    ∃ F' : Nat, 4096 * F' + (writeS e l).2.length ≤ N + l.length ∧ ((phiS (writeS e l) : Nat) : Int) ≤ K + 8 * ((N + l.length : Nat) : Int) + 22 * F'
  | [], e, F, N, K, h1, h2 => ⟨F, h1, h2⟩
  | c :: l, e, F, N, K, h1, h2 => by
    by_cases hf : 4096 ≤ e.2.length
    · have ha : addS e c = (blkT e.1 false e.2, [c]) := by unfold addS; rw [if_pos hf]
      have hb := blkS_length e.1.k e.1.L false e.2
      obtain ⟨F', g1, g2⟩ := write_short l (addS e c) (F + 1) (N + 1) K (by rw [ha]; show 4096 * (F + 1) + 1 ≤ _; omega) (by
        rw [ha]
        show (((blkS e.1.k e.1.L false e.2).2.length + 8 * 1 : Nat) : Int) ≤ _
        unfold phiS at h2
        omega)
      exact ⟨F', by rw [List.length_cons]; show 4096 * F' + (writeS (addS e c) l).2.length ≤ _; omega, by rw [List.length_cons]; show ((phiS (writeS (addS e c) l) : Nat) : Int) ≤ _; omega⟩
    · have ha : addS e c = (e.1, e.2 ++ [c]) := by unfold addS; rw [if_neg hf]
      have hl : (e.2 ++ [c]).length = e.2.length + 1 := by rw [List.length_append]; rfl
      obtain ⟨F', g1, g2⟩ := write_short l (addS e c) F (N + 1) K (by rw [ha]; show 4096 * F + (e.2 ++ [c]).length ≤ _; omega) (by
        rw [ha]
        show ((e.1.L.length + 8 * (e.2 ++ [c]).length : Nat) : Int) ≤ _
        unfold phiS at h2
        omega)
      exact ⟨F', by rw [List.length_cons]; show 4096 * F' + (writeS (addS e c) l).2.length ≤ _; omega, by rw [List.length_cons]; show ((phiS (writeS (addS e c) l) : Nat) : Int) ≤ _; omega⟩
theorem callS_short (kind : Int) (T : ByteArray) {r : Rn} (h : SI r) : SI (callS kind T r) := by
  obtain ⟨F, h1, h2, h3, h4, h5⟩ := h
  have hts := noteT_size T
  unfold callS
  by_cases k1 : kind = 1
  · rw [if_pos k1]
    have hTs : T.data.toList.length = T.size := by simp
    obtain ⟨F', g1, g2⟩ := write_short T.data.toList (r.u, r.P) F r.k.plain.size (4 + 8 * r.k.bytes + 32 * r.k.flushes + 40 * r.k.notes) h1 (by
      show ((phiR r : Nat) : Int) ≤ _
      omega)
    have hp : (r.k.plain ++ T).size = r.k.plain.size + T.size := ByteArray.size_append
    refine ⟨F', ?_, ?_, h3, h4, h5⟩
    · show 4096 * F' + (writeS (r.u, r.P) T.data.toList).2.length ≤ (r.k.plain ++ T).size
      omega
    · show ((phiS (writeS (r.u, r.P) T.data.toList) : Nat) : Int) ≤ 4 + 8 * (((r.k.plain ++ T).size : Int) + r.k.bytes) + 22 * F' + 32 * r.k.flushes + 40 * r.k.notes
      omega
  rw [if_neg k1]
  by_cases k2 : kind = 2
  · rw [if_pos k2]
    have hf := flushS_length r.u r.P
    refine ⟨F, ?_, ?_, by show 0 ≤ r.k.flushes + 1; omega, h4, h5⟩
    · show 4096 * F + 0 ≤ r.k.plain.size
      omega
    · show (((flushS r.u r.P).L.length + 8 * 0 : Nat) : Int) ≤ 4 + 8 * ((r.k.plain.size : Int) + r.k.bytes) + 22 * F + 32 * (r.k.flushes + 1) + 40 * r.k.notes
      unfold phiR at h2
      omega
  rw [if_neg k2]
  by_cases k3 : kind = 3
  · rw [if_pos k3]
    have hNT : (noteT T).data.toList.length = (noteT T).size := by simp
    have hl := letS_length r.u r.P
    have hn := noteL_length (letS r.u r.P).L (noteT T).data.toList
    refine ⟨F, ?_, ?_, h3, by show 0 ≤ r.k.notes + 1; omega, by show 0 ≤ r.k.bytes + ((noteT T).size : Int); omega⟩
    · show 4096 * F + 0 ≤ r.k.plain.size
      omega
    · show (((noteL (letS r.u r.P).L (noteT T).data.toList).length + 8 * 0 : Nat) : Int) ≤ 4 + 8 * ((r.k.plain.size : Int) + (r.k.bytes + ((noteT T).size : Int))) + 22 * F + 32 * r.k.flushes + 40 * (r.k.notes + 1)
      unfold phiR at h2
      omega
  rw [if_neg k3]
  exact ⟨F, h1, h2, h3, h4, h5⟩
theorem run_short (c : Nat → Int × ByteArray) (x l : Int) : ∀ n, SI (runS c (initS x l) n)
  | 0 => by
    refine ⟨0, Nat.le_refl _, ?_, Int.le_refl _, Int.le_refl _, Int.le_refl _⟩
    show (((numBits (windowP x) 4).length + 8 * 0 : Nat) : Int) ≤ 4 + 8 * ((0 : Int) + 0) + 22 * 0 + 32 * 0 + 40 * 0
    rw [numBits_length]
    omega
  | n + 1 => callS_short _ _ (run_short c x l n)
/-- no stream is much longer than what was written -/
theorem end_short (c : Nat → Int × ByteArray) (x l : Int) (n : Nat) : ((endOut (runS c (initS x l) n)).size : Int) ≤ (runS c (initS x l) n).k.plain.size + (runS c (initS x l) n).k.bytes + 6 * ((((runS c (initS x l) n).k.plain.size : Int) + 4095) / 4096 + (runS c (initS x l) n).k.flushes + (runS c (initS x l) n).k.notes) + 8 := by
  obtain ⟨F, h1, h2, h3, h4, h5⟩ := run_short c x l n
  have hf := finS_length (runS c (initS x l) n).u (runS c (initS x l) n).P
  unfold endOut
  rw [bytesL_size]
  unfold phiR at h2
  generalize runS c (initS x l) n = r at *
  omega
end Go.Proofs.YtmpfgdmdnghhgaaGreat

namespace Go.Proofs.YtmpfgdmdnghhgaaGreat
open Go.RowKit Wr
open Go.ChangeShapes Go.WideShapes Go.ChangeAt Go.Deep

theorem cells_call : Tryz.prog.cellsOf 43 = 2 := by kernel_rfl
theorem cells_int : Tryz.prog.cellsOf 3 = 1 := by kernel_rfl
theorem cells_string : Tryz.prog.cellsOf 9 = 1 := by kernel_rfl
theorem int_bounds {n : Int} (h : (Lit.int .i64 n).wf = true) : -9223372036854775808 ≤ n ∧ n ≤ 9223372036854775807 := by
  have := bounds_i64 h
  omega
theorem bulk_append {H : Type} : ∀ (a b : List (DataW H)), Rows.uptoBulkAll (a ++ b) = Rows.uptoBulkAll a + Rows.uptoBulkAll b
  | [], b => by simp [Rows.uptoBulkAll]
  | d :: a, b => by
    show Rows.uptoBulk d + Rows.uptoBulkAll (a ++ b) = Rows.uptoBulk d + Rows.uptoBulkAll a + Rows.uptoBulkAll b
    rw [bulk_append a b]
    omega
theorem bulk_sum {H : Type} (D : Nat → DataW H) (c : Nat → Int × ByteArray) : ∀ n : Nat, (∀ i, i < n → (c i).2.size + 3 ≤ Rows.uptoBulk (D i)) → bulk c n ≤ 2 * Rows.uptoBulkAll ((List.range n).map D)
  | 0, _ => Nat.zero_le _
  | n + 1, h => by
    rw [List.range_succ, List.map_append, bulk_append]
    have h1 := bulk_sum D c n (fun i hi => h i (by omega))
    have h2 := h n (by omega)
    show bulk c n + ((c n).2.size + 4) ≤ 2 * (_ + (Rows.uptoBulk (D n) + 0))
    omega

theorem cell_lt {w : World} {p : Addr} {v : Value} (h : w.cell? p = some v) : p.block < w.heap.size := by
  by_cases hp : p.block < w.heap.size
  · exact hp
  · exfalso
    rw [World.cell?] at h
    simp [hp] at h
theorem open_calls {H : Type} {enc : TypeId × Value → H} {W : World} {a : Option Addr} {len cap : Nat} {d : DataW H} {p : List MemPlace}
    (h : DataW.Trod enc Tryz.prog W 0 (fun _ => true) true 22 (.slice a len cap) d p) : ∃ c, IsCalls W a len c ∧ bulk c len ≤ 2 * Rows.uptoBulk d := by
  obtain ⟨fuel, hf⟩ := h
  rcases open_slice_pairs Tryz.underlying22 Tryz.underlying43 cells_call rfl rfl cells_int cells_string hf with ⟨hcs, _⟩ | ⟨x, l, cp, m, n, V0, V1, D0, D1, P0, P1, hcs, _, hl, hm, hmm, hx, hall⟩
  · simp [Value.cells] at hcs
    obtain ⟨rfl, rfl, rfl⟩ := hcs
    exact ⟨fun _ => (0, ByteArray.empty), ⟨by omega, fun h => absurd h (by omega)⟩, Nat.zero_le _⟩
  · simp [Value.cells] at hcs
    obtain ⟨rfl, rfl, rfl⟩ := hcs
    simp only [if_true] at hmm
    subst hmm
    have each : ∀ i, i < len → ∃ q : Int × ByteArray, V0 i = .int .i64 q.1 ∧ V1 i = .string q.2 ∧ D1 i = .lit (.string q.2.data.toList) ∧ D0 i = .lit (.int .i64 q.1) := by
      intro i hi
      obtain ⟨_, _, t0, t1⟩ := hall i (by omega)
      obtain ⟨z, e1, e2, _⟩ := DataW.trod_int Tryz.underlying3 t0
      obtain ⟨s, e3, e4, _⟩ := DataW.trod_string Tryz.underlying9 t1
      simp only [List.cons.injEq, and_true] at e1 e3
      simp only [Prod.mk.injEq] at e2 e4
      exact ⟨(z, s), e1, e3, e4.1, e2.1⟩
    obtain ⟨q, hq⟩ := choose_lt each
    simp only [Prod.mk.injEq] at hx
    obtain ⟨rfl, _⟩ := hx
    refine ⟨q, ⟨by unfold maxLen at hm; omega, fun h0 => ?_⟩, ?_⟩
    · obtain ⟨xb, xo, xs⟩ := x
      have hspot : xs = none := by simpa [Addr.add] using World.cell?_spot (hall 0 (by omega)).1
      subst hspot
      refine ⟨xb, xo, rfl, ?_, fun i hi => ?_⟩
      · have h1 := (hall 0 (by omega)).1
        rw [Addr.add_lit] at h1
        exact cell_lt h1
      · obtain ⟨c0, c1, _, _⟩ := hall i (by omega)
        rw [Addr.add_lit] at c0 c1
        rw [(hq i hi).1] at c0
        rw [(hq i hi).2.1] at c1
        exact ⟨c0, c1⟩
    · have hs := bulk_sum (fun i => .agg [D0 i, D1 i]) q len (fun i hi => by
        rw [(hq i hi).2.2.1, (hq i hi).2.2.2]
        show _ ≤ (1 + (_ + 1 + 0)) + 1
        have e : (q i).2.data.toList.length = (q i).2.size := by simp
        omega)
      show _ ≤ 2 * (Rows.uptoBulkAll _ + Rows.uptoBulkAll _ + 1)
      omega
end Go.Proofs.YtmpfgdmdnghhgaaGreat
