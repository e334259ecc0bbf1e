import Derived.Test.YtmjigodhncjfjaaE10
namespace Go.Proofs.Ytmjigodhncjfjaa
open Go.RowKit Wr

/-- a slice of calls -/
def IsCalls (W : World) (a : Option Addr) (len : Nat) (c : Nat → Int × ByteArray) : Prop :=
  len ≤ 9223372036854775807 ∧ (0 < len → ∃ cb co, a = some ⟨cb, co, none⟩ ∧ cb < W.heap.size ∧ ∀ i, i < len → W.cell? ⟨cb, co + i * 2, none⟩ = some (.int .i64 (c i).1) ∧ W.cell? ⟨cb, co + i * 2 + 1, none⟩ = some (.string (c i).2))
def bulk (c : Nat → Int × ByteArray) : Nat → Nat
  | 0 => 0
  | n + 1 => bulk c n + ((c n).2.size + 4)
def runS (c : Nat → Int × ByteArray) (r : St) : Nat → St
  | 0 => r
  | n + 1 => callS (c n).1 (c n).2 (runS c r n)
def initS (x : Int) : St := ⟨numBits (windowP x) 4, [], ⟨ByteArray.empty, ByteArray.empty, 0, 0, 0⟩⟩
theorem bulk_le (c : Nat → Int × ByteArray) {n m : Nat} (h : n ≤ m) : bulk c n ≤ bulk c m := by
  induction m with
  | zero => rw [Nat.le_zero.1 h]; exact Nat.le_refl _
  | succ m ih =>
    by_cases e : n = m + 1
    · rw [e]; exact Nat.le_refl _
    · have := ih (by omega)
      show _ ≤ bulk c m + _
      omega
theorem init_roomy (x : Int) (n : Nat) (hn : n ≤ 20000000000) : Roomy (initS x) n := by
  have h : (numBits (windowP x) 4).length = 4 := numBits_length _ _
  have h0 : (ByteArray.empty).size = 0 := rfl
  refine ⟨?_, ?_, ⟨Int.le_refl _, ?_⟩, ⟨Int.le_refl _, ?_⟩, ⟨Int.le_refl _, ?_⟩⟩
  · show (numBits (windowP x) 4).length + 8 * 0 + 30 * n ≤ _
    omega
  · show (ByteArray.empty).size + n ≤ _
    omega
  · show (0 : Int) + n ≤ _
    omega
  · show (0 : Int) + n ≤ _
    omega
  · show (0 : Int) + n ≤ _
    omega

theorem below3 {B : Nat} {f q b : Nat} {w w' w'' : World} (h : Below B w w') (k : On3k f q b w' w'') (h1 : B ≤ f) (h2 : B ≤ q) (h3 : B ≤ b) (hB : B ≤ w'.heap.size) : Below B w w'' :=
  h.trans ⟨k.os, k.tape, k.output, k.size, fun i hi => k.block i (by omega) (by omega) (by omega) (by omega)⟩

theorem some_bytes {x : ByteArray} (h : 0 < x.size) : x.toList.isEmpty = false := by
  cases e : x.toList with
  | nil =>
    have h2 : x.toList.length = x.size := by rw [Lib.toList_data]; simp
    rw [e] at h2
    simp at h2
    omega
  | cons c l => rfl

set_option maxRecDepth 100000 in
set_option maxHeartbeats 1000000 in
theorem made_any (w : World) (x l : Int) (a : Option Addr) (len cap : Nat) (c : Nat → Int × ByteArray) (x0 : -9223372036854775808 ≤ x) (x1 : x ≤ 9223372036854775807) (l0 : -9223372036854775808 ≤ l) (l1 : l ≤ 9223372036854775807)
    (hc : IsCalls w a len c) (hb : bulk c len ≤ 10000000000) :
    Calls Try.prog 32 #[.int .i64 x, .int .i64 l, .slice a len cap] w fun e w' => ∃ k q, e = .returned (.pointer (some ⟨k, 0, none⟩)) ∧ w.heap.size ≤ k ∧ WkRow w' k q { (runS c (initS x) len).k with out := endOut (runS c (initS x) len) } ∧ Below w.heap.size w w' ∧
      EncInv ((runS c (initS x) len).L, (runS c (initS x) len).P) (runS c (initS x) len).k.plain.data.toList ∧ Roomy (runS c (initS x) len) 0 := by
  have h1 := kbegin_any w x l x0 x1 l0 l1
  have hr0 := init_roomy x (bulk c len + 8) (by omega)
  have HR0 : Hid (runS c (initS x) 0 = initS x) := rfl
  have hW0 : ∀ W k q b, Work W k q b (numBits (windowP x) 4) [] ⟨ByteArray.empty, ByteArray.empty, 0, 0, 0⟩ → Work W k q b (initS x).L (initS x).P (initS x).k := fun _ _ _ _ h => h
  generalize initS x = r0 at *
  generalize hrl : runS c r0 len = rl
  have HRL : Hid (runS c r0 len = rl) := hrl
  clear hrl
  generalize heo : endOut rl = eo
  have HEO : Hid (endOut rl = eo) := heo
  clear heo
  go_enter Try.func32, Try.ntmps32
  go_wp2_with (first
    | (go_at_call 35; refine h1.mono ?_; rintro e w1 ⟨k, q, b, rfl, hb0, hq0, hk0, hw1, hB1⟩))
  have hw2 := hW0 _ _ _ _ hw1
  clear hw1 hW0 h1
  go_loopw [8] (fun vi wr => ∃ n : Nat, n ≤ len ∧ vi = .int .i64 n ∧ Work wr k q b (runS c r0 n).L (runS c r0 n).P (runS c r0 n).k ∧ Roomy (runS c r0 n) (bulk c len - bulk c n + 8) ∧ Below w.heap.size w wr) (fun vi _ => len - (intOf vi).toNat)
  case atStart => exact ⟨0, by omega, rfl, by rw [HR0.out]; exact hw2, by rw [HR0.out]; exact hr0, hB1⟩
  case round =>
    obtain ⟨n, hn, rfl, hwn, hrn, hBn⟩ := hrel
    clear hw2 hr0 HR0 hB1
    by_cases hlt : n < len
    · obtain ⟨cb, co, rfl, hcb, hcells⟩ := hc.2 (by omega)
      obtain ⟨d1, d2⟩ := hcells n hlt
      have e1 : wr.cell? ⟨cb, co + n * 2, none⟩ = some (.int .i64 (c n).1) := (hBn.cell (p := ⟨cb, co + n * 2, none⟩) hcb).trans d1
      have e2 : wr.cell? ⟨cb, co + n * 2 + 1, none⟩ = some (.string (c n).2) := (hBn.cell (p := ⟨cb, co + n * 2 + 1, none⟩) hcb).trans d2
      have hbn : bulk c (n + 1) = bulk c n + ((c n).2.size + 4) := rfl
      have hbl := bulk_le c (show n + 1 ≤ len by omega)
      have hrc : Roomy (runS c r0 n) ((bulk c len - bulk c (n + 1) + 8) + (c n).2.size + 4) := by
        rw [show bulk c len - bulk c (n + 1) + 8 + (c n).2.size + 4 = bulk c len - bulk c n + 8 by omega]
        exact hrn
      have hrc2 := callS_roomy (c n).1 (c n).2 hrc hwn.wr.plen
      have HRS : Hid (runS c r0 (n + 1) = callS (c n).1 (c n).2 (runS c r0 n)) := rfl
      have hrk : Roomy (runS c r0 n) ((c n).2.size + 4) := ⟨by have := hrc.phi; omega, by have := hrc.plain; omega, ⟨hrc.f.1, by have := hrc.f.2; omega⟩, ⟨hrc.nt.1, by have := hrc.nt.2; omega⟩, ⟨hrc.by_.1, by have := hrc.by_.2; omega⟩⟩
      have hK := kcall_any hwn (c n).1 (c n).2 hrk
      generalize runS c r0 n = rn at *
      have hln := hc.1
      clear hcells d1 d2 hc hrk hrc hbn
      generalize (c n).1 = kind at *
      generalize (c n).2 = T at *
      go_wp2_with (first
        | (go_at_call 36; refine hK.mono ?_; rintro e w3 ⟨rfl, hw3, ho3⟩))
      exact ⟨⟨n + 1, by omega, by go_num, by rw [HRS.out]; exact hw3, by rw [HRS.out]; exact hrc2, below3 hBn ho3 hk0 hq0 hb0 hBn.size⟩, by simp [intOf]; omega⟩
    · have hne : n = len := by omega
      rw [hne, HRL.out] at hwn hrn
      have hE := kend_any hwn (by have := hrn.phi; omega)
      rw [HEO.out] at hE
      have hinv := hwn.inv
      have hlong := finL_long rl.L rl.P
      have hro : Roomy rl 0 := ⟨by have := hrn.phi; omega, by have := hrn.plain; omega, ⟨hrn.f.1, by have := hrn.f.2; omega⟩, ⟨hrn.nt.1, by have := hrn.nt.2; omega⟩, ⟨hrn.by_.1, by have := hrn.by_.2; omega⟩⟩
      have hwr : w.heap.size ≤ wr.heap.size := hBn.size
      have hes : 0 < eo.size := by rw [← HEO.out]; exact hlong
      have hne2 := some_bytes hes
      have hU : ∀ W, WkRow W k q { rl.k with out := eo } → W.cell? ⟨k, 2, none⟩ = some (.string eo) ∧ W.cell? ⟨k, 6, none⟩ = some (.bool true) := fun W h => ⟨World.rowIs.cell h (by omega), World.rowIs.cell h (by omega)⟩
      clear hwn hrn hlong hes
      subst hne
      go_wp2_with (first
        | (go_at_call 48; refine hE.mono ?_; rintro e w3 ⟨rfl, hr3, ho3⟩; obtain ⟨d1, d2⟩ := hU _ hr3))
      go_ret
      exact ⟨k, q, rfl, hk0, hr3, below3 hBn ho3 hk0 hq0 hb0 hwr, hinv, hro⟩
end Go.Proofs.Ytmjigodhncjfjaa
