import Derived.Test.YtmpfgdmdnghhgaaGreatQ4
namespace Go.Proofs.YtmpfgdmdnghhgaaGreat
open Go.RowKit Wr

def cellsC (c : Nat → Int × ByteArray) : Nat → List Value
  | 0 => []
  | n + 1 => cellsC c n ++ [.int .i64 (c n).1, .string (c n).2]
theorem cellsC_length (c : Nat → Int × ByteArray) : ∀ n, (cellsC c n).length = n * 2
  | 0 => rfl
  | n + 1 => by
    show (cellsC c n ++ _).length = _
    rw [List.length_append, cellsC_length c n]
    show n * 2 + 2 = _
    omega
theorem cellsC_get (c : Nat → Int × ByteArray) : ∀ n i, i < n → (cellsC c n)[i * 2]? = some (.int .i64 (c i).1) ∧ (cellsC c n)[i * 2 + 1]? = some (.string (c i).2)
  | 0, i, h => absurd h (by omega)
  | n + 1, i, h => by
    have hl := cellsC_length c n
    show (cellsC c n ++ _)[i * 2]? = _ ∧ (cellsC c n ++ _)[i * 2 + 1]? = _
    by_cases e : i = n
    · subst e
      rw [List.getElem?_append_right (by omega), List.getElem?_append_right (by omega), hl, show i * 2 - i * 2 = 0 by omega, show i * 2 + 1 - i * 2 = 1 by omega]
      exact ⟨rfl, rfl⟩
    · have ih := cellsC_get c n i (by omega)
      rw [List.getElem?_append_left (by omega), List.getElem?_append_left (by omega)]
      exact ih
theorem cellsC_one (c : Nat → Int × ByteArray) : ∀ n, ∀ u ∈ cellsC c n, u.oneCell' = true
  | 0, u, h => by cases h
  | n + 1, u, h => by
    rcases List.mem_append.1 h with h | h
    · exact cellsC_one c n u h
    · simp at h
      rcases h with rfl | rfl <;> rfl
def some4 : ByteArray := ⟨#[115, 111, 109, 101]⟩
def two (c : Nat → Int × ByteArray) (i : Nat) : Int × ByteArray := if i = 0 then (1, some4) else if i = 1 then (2, ByteArray.empty) else c (i - 2)
theorem two_cells (c : Nat → Int × ByteArray) : ∀ n, cellsC (two c) (n + 2) = [.int .i64 1, .string some4, .int .i64 2, .string ByteArray.empty] ++ cellsC c n
  | 0 => rfl
  | n + 1 => by
    show cellsC (two c) (n + 2) ++ [.int .i64 (two c (n + 2)).1, .string (two c (n + 2)).2] = _
    rw [two_cells c n]
    rfl
theorem two_bulk (c : Nat → Int × ByteArray) : ∀ n, bulk (two c) (n + 2) = 12 + bulk c n
  | 0 => rfl
  | n + 1 => by
    show bulk (two c) (n + 2) + ((two c (n + 2)).2.size + 4) = 12 + (bulk c n + ((c n).2.size + 4))
    rw [two_bulk c n]
    show 12 + bulk c n + ((c n).2.size + 4) = _
    omega
theorem info_call : (Tryz.prog.info? 43).map (fun i => (i.zero, i.size, i.bytes)) = some (some (.agg #[.int .i64 0, .string ByteArray.empty]), 2, 24) := by kernel_rfl

def lit4 : List Value := [.int .i64 1, .string some4, .int .i64 2, .string ByteArray.empty]
theorem lit_owns (w : World) : (w.alloc (.cells #[.int .i64 1, .string ⟨#[115, 111, 109, 101]⟩, .int .i64 2, .string ⟨#[]⟩] 43)).ownsRow w.heap.size 43 2 (.slice (some ⟨w.heap.size, 0, none⟩) 2 2) 2 lit4 :=
  ⟨rfl, Or.inr ⟨w.heap.size, 2, #[.int .i64 1, .string ⟨#[115, 111, 109, 101]⟩, .int .i64 2, .string ⟨#[]⟩], rfl, Nat.le_refl _, heap_alloc_last _ _, Nat.le_refl _, by unfold maxLen; omega, rfl, rfl⟩⟩
theorem owns_two {w : World} {B : Nat} {e : TypeId} {v : Value} {n : Nat} {c : Nat → Int × ByteArray} (ho : w.ownsRow B e 2 v (n + 1) (cellsC c (n + 1))) (hn : n + 1 ≤ 9223372036854775807) : ∃ g cap, v = .slice (some ⟨g, 0, none⟩) (n + 1) cap ∧ B ≤ g ∧ IsCalls w (some ⟨g, 0, none⟩) (n + 1) c := by
  obtain ⟨h1, h2⟩ := ho
  rcases h2 with ⟨_, h3⟩ | ⟨g, cap, cur, hv, hg, hh, hn2, hc, hs, ht⟩
  · omega
  · have hgl : g < w.heap.size := by
      rcases Nat.lt_or_ge g w.heap.size with hl | hl
      · exact hl
      · rw [Array.getElem?_eq_none hl] at hh; cases hh
    have key : ∀ j, j < (n + 1) * 2 → w.cell? ⟨g, j, none⟩ = (cellsC c (n + 1))[j]? := fun j hj => by
      rw [cell_of_row w g j cur e (0, 0) hh, ← Array.getElem?_toList, ← ht, List.getElem?_take, if_pos hj]
    refine ⟨g, cap, hv, hg, hn, fun _ => ⟨g, 0, rfl, hgl, fun i hi => ?_⟩⟩
    have hcg := cellsC_get c (n + 1) i hi
    rw [show 0 + i * 2 = i * 2 by omega, key (i * 2) (by omega), key (i * 2 + 1) (by omega)]
    exact hcg
theorem calls_news {w : World} {ad : Addr} {len : Nat} {c : Nat → Int × ByteArray} (hc : IsCalls w (some ad) len c) (hl : 0 < len) : ∀ j u, (cellsC c len)[j]? = some u → w.cell? (ad.add j) = some u := by
  obtain ⟨cb, co, e, _, hcells⟩ := hc.2 hl
  injection e with e
  subst e
  intro j u hj
  have hlt : j < len * 2 := by
    have := (List.getElem?_eq_some_iff.1 hj).1
    rwa [cellsC_length] at this
  have hcg := cellsC_get c len (j / 2) (by omega)
  have hcc := hcells (j / 2) (by omega)
  rw [Addr.add_lit]
  rcases Nat.mod_two_eq_zero_or_one j with e | e
  · rw [show j / 2 * 2 = j by omega] at hcg hcc
    rw [hcg.1] at hj
    rw [hcc.1, ← hj]
  · have ee : j / 2 * 2 + 1 = j := by omega
    rw [ee] at hcg
    rw [hcg.2] at hj
    have h2 := hcc.2
    rw [show co + j / 2 * 2 + 1 = co + j by omega] at h2
    rw [h2, ← hj]

theorem feed_size (x : ByteArray) : (outStr (feed initRd x.data.toList).out).size ≤ 4096 * x.size + 4096 := by
  obtain ⟨h1, h2⟩ := feed_rest x.data.toList initRd init_rest
  have h3 : psi initRd = 0 := rfl
  have h4 : x.data.toList.length = x.size := by simp
  have n0 := h1.1.1.n0
  have l0 := h1.1.1.l0
  rw [outStr_sz]
  rw [h3] at h2
  unfold psi at h2
  omega
theorem belowDec {q : Nat} {w w' : World} {r : Option Nat} {said : Int} (h : Below w.heap.size w w') (hd : DecAt w q r said) : DecAt w' q r said := World.rowIs.of_block hd (h.block q (World.rowIs.lt hd))
theorem belowRow {b : Nat} {w w' : World} {s : Rd} {v : Value} (h : Below w.heap.size w w') (hd : Row w b s v) : Row w' b s v := hd.of_block (h.block b hd.lt)

set_option maxRecDepth 100000 in
set_option maxHeartbeats 600000 in
theorem Flushed_any (w : World) (x l : Int) (a : Option Addr) (len cap : Nat) (c : Nat → Int × ByteArray) (x0 : -9223372036854775808 ≤ x) (x1 : x ≤ 9223372036854775807) (l0 : -9223372036854775808 ≤ l) (l1 : l ≤ 9223372036854775807)
    (hc : IsCalls w a len c) (hb : bulk c len ≤ 2097152) :
    Calls Tryz.prog 6 #[.int .i64 x, .int .i64 l, .slice a len cap] w fun e w' => e = .returned (.bool true) ∧ Below w.heap.size w w' := by
  obtain ⟨i0, hi, hz0, hz1, hz2⟩ := info_parts info_call
  have HI : Hid (Tryz.prog.info? 43 = some i0 ∧ i0.zero = some (.agg #[.int .i64 0, .string ByteArray.empty]) ∧ i0.size = 2 ∧ i0.bytes = 24) := ⟨hi, hz0, hz1, hz2⟩
  clear hi hz0 hz1 hz2
  have h1 := kbegin_any w x l x0 x1 l0 l1
  have hbl : len ≤ 2097152 := by
    have : ∀ n, n ≤ bulk c n := fun n => by
      induction n with
      | zero => exact Nat.zero_le _
      | succ n ih => show n + 1 ≤ bulk c n + ((c n).2.size + 4); omega
    have := this len
    omega
  have hln := cellsC_length c len
  have h1c := cellsC_one c len
  cases a with
  | none =>
    have hl0 : len = 0 := by
      rcases Nat.eq_zero_or_pos len with h | h
      · exact h
      · obtain ⟨_, _, e, _⟩ := hc.2 h
        cases e
    subst hl0
    have hb2 : bulk (two c) 2 ≤ 2097164 := by
      have := two_bulk c 0
      show bulk (two c) (0 + 2) ≤ _
      omega
    clear hln h1c
    go_enter Tryz.func6, Tryz.ntmps6
    go_wp2_with (first
      | (go_at_call 14; refine h1.mono ?_; rintro e w1 ⟨k, q, b, rfl, hb0, hq0, hk0, hw1, hB1⟩)
      | (go_at_call 15; refine (NewDecoder_any _).mono ?_; rintro e w2 ⟨dq, db, rfl, hd0, hdq, hr2, hd2, hB2⟩; have hown0 := lit_owns w2; have hz12 := hB1.size; have hz22 := hB2.size))
    obtain ⟨g, gc, hv, hgB, hcc⟩ := owns_two (n := 1) (c := two c) hown0 (by omega)
    have hgv : g = w2.heap.size ∧ gc = 2 := by
      injection hv with e1 _ e3
      injection e1 with e1
      injection e1 with e1 _ _
      exact ⟨e1.symm, e3.symm⟩
    have hB3 : Below w2.heap.size w2 (w2.alloc (.cells #[.int .i64 1, .string ⟨#[115, 111, 109, 101]⟩, .int .i64 2, .string ⟨#[]⟩] 43)) := (Below.refl _ w2).alloc (Nat.le_refl _) _
    have hw3 := (hw1.below hB2).below hB3
    have hd3 := belowDec hB3 hd2
    have hr3 := belowRow hB3 hr2
    have hBw := (hB1.trans (hB2.mono hz12)).trans (hB3.mono (show w.heap.size ≤ w2.heap.size by omega))
    have hlw := hw1.lts
    have hdl : dq < w2.heap.size := World.rowIs.lt hd2
    have hz33 := hB3.size
    have hdb3 := hr3.lt
    have hN1 : 1 ≤ 2 ∧ 2 ≤ 2097154 := by omega
    rw [← hgv.1]
    generalize w2.alloc (.cells #[.int .i64 1, .string ⟨#[115, 111, 109, 101]⟩, .int .i64 2, .string ⟨#[]⟩] 43) = w3 at *
    clear hown0 hw1 hr2 hd2 h1 hB1 hB2 hB3 hv hgv
    have hge : ∀ (W W' : World), On3n w3.heap.size k q b W W' → DecAt W dq (some db) 0 → DecAt W' dq (some db) 0 := fun W W' ho hd => World.rowIs.of_block hd (ho.block dq (by omega) (by omega) (by omega) (by omega))
    have hgr : ∀ (W W' : World) (s : Rd), On3n w3.heap.size k q b W W' → Row W db s (.slice none 0 0) → Row W' db s (.slice none 0 0) := fun W W' s ho hd => hd.of_block (ho.block db (by omega) (by omega) (by omega) (by omega))
    have hg3 : g < w3.heap.size := by
      obtain ⟨cb, co, e, hcb, _⟩ := hcc.2 (by omega)
      injection e with e
      injection e with e _ _
      omega
    have hgw : ∀ (W W' : World), w3.heap.size ≤ W.heap.size → On3n w3.heap.size k q b W W' → W'.heap[g]? = W.heap[g]? := fun W W' hz ho => ho.block g (by omega) (by omega) (by omega) (by omega)
    have hcells : ∀ (W : World), W.heap[g]? = w3.heap[g]? → ∀ i, i < 2 → W.cell? ⟨g, i * 2, none⟩ = some (.int .i64 (two c i).1) ∧ W.cell? ⟨g, i * 2 + 1, none⟩ = some (.string (two c i).2) := fun W hW i hi => by
      obtain ⟨cb, co, e, _, hcl⟩ := hcc.2 (by omega)
      injection e with e
      injection e with e1 e2 _
      subst e1 e2
      have h5 := hcl i hi
      rw [Nat.zero_add] at h5
      rw [World.cell?_of_block (w := w3) (a := ⟨g, i * 2, none⟩) hW, World.cell?_of_block (w := w3) (a := ⟨g, i * 2 + 1, none⟩) hW]
      exact h5
    skip
    have hr0 := init_roomy x l (bulk (two c) 2 + 8) (by omega)
    have HPH : Hid (∀ n, n ≤ 2 → (bytesL (runS (two c) (initS x l) n).u.L).size ≤ 33554432) := fun n hn => by
      have h1 := run_phi (two c) (initS x l) n
      have h2 : phiR (initS x l) = 4 := by
        show (numBits (windowP x) 4).length + 8 * 0 = 4
        rw [numBits_length]
      have h3 := bulk_le (two c) hn
      rw [bytesL_size]
      unfold phiR at h1 h2
      omega
    have HINV : Hid (∀ n, REnc (runS (two c) (initS x l) n)) := run_inv (two c) x l
    have HPZ : Hid (∀ n, n ≤ 2 → (runS (two c) (initS x l) n).k.plain.size ≤ 2097164) := fun n hn => by
      have h1 := plain_size (two c) (initS x l) n
      have h2 : (initS x l).k.plain.size = 0 := rfl
      have h3 := bulk_le (two c) hn
      omega
    have HB0 : Hid (bytesL (initS x l).u.L = ByteArray.empty) := by
      show outStr (outFrom (numBits (windowP x) 4) 0) = ByteArray.empty
      unfold outFrom
      rw [numBits_length]
      rfl
    have hw4 : WorkN w3.heap.size w3 k q b (initS x l).u (initS x l).P (initS x l).k := WorkN.ofNone hw3 _
    have HR0 : Hid (runS (two c) (initS x l) 0 = initS x l) := rfl
    clear hw3 hcc hc
    generalize initS x l = r0 at *
    go_loopw [9, 10, 11] (fun vg vo vi wr => ∃ n : Nat, n ≤ 2 ∧ vi = .int .i64 n ∧ vg = .int .i64 ((bytesL (runS (two c) r0 n).u.L).size : Int) ∧ vo = .string (outStr (feed initRd (bytesL (runS (two c) r0 n).u.L).data.toList).out) ∧ WorkN w3.heap.size wr k q b (runS (two c) r0 n).u (runS (two c) r0 n).P (runS (two c) r0 n).k ∧ DecAt wr dq (some db) 0 ∧ Row wr db (readerOf (bytesL (runS (two c) r0 n).u.L)) (.slice none 0 0) ∧ wr.heap[g]? = w3.heap[g]? ∧ Roomy (runS (two c) r0 n) (bulk (two c) 2 - bulk (two c) n + 8) ∧ w3.heap.size ≤ wr.heap.size ∧ Below w.heap.size w wr) (fun _ _ vi _ => 2 - (intOf vi).toNat)
    case atStart =>
      refine ⟨0, by omega, rfl, ?_, ?_, by rw [HR0.out]; exact hw4, hd3, ?_, rfl, by rw [HR0.out]; exact hr0, Nat.le_refl _, hBw⟩
      · rw [HR0.out, HB0.out]; rfl
      · rw [HR0.out, HB0.out]; rfl
      · rw [HR0.out, HB0.out]; exact hr3
    case round =>
      obtain ⟨n, hn, rfl, rfl, rfl, hwn, hdn, hrn, hgn, hron, hzn, hBn⟩ := hrel
      clear hw4 hd3 hr3 hr0 hBw HR0 HB0
      by_cases hlt : n < 2
      · obtain ⟨e1, e2⟩ := hcells wr hgn n hlt
        clear hcells
        have hbn : bulk (two c) (n + 1) = bulk (two c) n + ((two c n).2.size + 4) := rfl
        have hbl2 := bulk_le (two c) (show n + 1 ≤ 2 by omega)
        have hrc : Roomy (runS (two c) r0 n) ((bulk (two c) 2 - bulk (two c) (n + 1) + 8) + (two c n).2.size + 4) := by
          rw [show bulk (two c) 2 - bulk (two c) (n + 1) + 8 + (two c n).2.size + 4 = bulk (two c) 2 - bulk (two c) n + 8 by omega]
          exact hron
        have hrc2 := callS_roomy (two c n).1 (two c n).2 hrc
        have HRS : Hid (runS (two c) r0 (n + 1) = callS (two c n).1 (two c n).2 (runS (two c) r0 n)) := rfl
        have hrk : Roomy (runS (two c) r0 n) ((two c n).2.size + 4) := ⟨by have := hrc.phi; omega, by have := hrc.plain; omega, ⟨hrc.f.1, by have := hrc.f.2; omega⟩, ⟨hrc.nt.1, by have := hrc.nt.2; omega⟩, ⟨hrc.by_.1, by have := hrc.by_.2; omega⟩⟩
        have hK := kcall_N hwn hzn (two c n).1 (two c n).2 hrk
        have hphi := HPH.out n hn
        have hph2 := HPH.out (n + 1) (by omega)
        have hpz := HPZ.out (n + 1) (by omega)
        have hinv := HINV.out n
        rw [HRS.out] at hph2 hpz
        have HX := bytesL_more (callS_ext (two c n).1 (two c n).2 (runS (two c) r0 n))
        have HKO : (two c n).1 = 2 → outStr (feed initRd (bytesL (callS (two c n).1 (two c n).2 (runS (two c) r0 n)).u.L).data.toList).out = (callS (two c n).1 (two c n).2 (runS (two c) r0 n)).k.plain ∧ outStr (feed initRd (bytesL (callS (two c n).1 (two c n).2 (runS (two c) r0 n)).u.L ++ ⟨#[1]⟩).data.toList).out = (callS (two c n).1 (two c n).2 (runS (two c) r0 n)).k.plain ∧ errno (feed initRd (bytesL (callS (two c n).1 (two c n).2 (runS (two c) r0 n)).u.L ++ ⟨#[1]⟩).data.toList) = 0 := fun e => by
          rw [e]
          show outStr (feed initRd (bytesL ((flushS (runS (two c) r0 n).u (runS (two c) r0 n).P).L)).data.toList).out = (runS (two c) r0 n).k.plain ∧ outStr (feed initRd (bytesL ((flushS (runS (two c) r0 n).u (runS (two c) r0 n).P).L) ++ ⟨#[1]⟩).data.toList).out = (runS (two c) r0 n).k.plain ∧ errno (feed initRd (bytesL ((flushS (runS (two c) r0 n).u (runS (two c) r0 n).P).L) ++ ⟨#[1]⟩).data.toList) = 0
          obtain ⟨xx, NN, hinv⟩ := hinv
          obtain ⟨f1, f2⟩ := dinv_flush hinv
          rw [← flush_fin f1.bits f2]
          have := fin_back (dinv_flushed hinv)
          exact ⟨flush_out hinv, this.1, this.2⟩
        have hok := hwn.out
        clear hrc hrk hbn hbl2 hinv
        generalize callS (two c n).1 (two c n).2 (runS (two c) r0 n) = r2 at *
        generalize runS (two c) r0 n = r1 at *
        generalize (two c n).1 = kind at *
        generalize (two c n).2 = T at *
        have hso := outFrom_size r2.u.L (r1.u.L.length / 8)
        generalize outStr (outFrom r2.u.L (r1.u.L.length / 8)) = Y at *
        have hext := cat_extract (bytesL r1.u.L) Y
        rw [HX] at hext
        obtain ⟨k1, k2, k3⟩ := readerOf_ok (bytesL r1.u.L) (by omega)
        have hYz : Y.size ≤ 33554432 := by rw [bytesL_size] at hph2; omega
        have hFd : ∀ W, DecAt W dq (some db) 0 → Row W db (readerOf (bytesL r1.u.L)) (.slice none 0 0) → Calls Tryz.prog 17 #[.pointer (some ⟨dq, 0, none⟩), .string Y] W fun e w' => e = .returned (.string (outStr (feed (readerOf (bytesL r1.u.L)) Y.data.toList).out)) ∧ Row w' db (readerOf (bytesL r2.u.L)) (.slice none 0 0) ∧ DecAt w' dq (some db) 0 ∧ On db W w' := fun W hd hr => by
          have h9 := Feed_open hd (by omega) hr k3 k1 Y (by omega) k2
          have e9 : emptied (feed (readerOf (bytesL r1.u.L)) Y.data.toList) = readerOf (bytesL r2.u.L) := by
            unfold readerOf
            rw [← HX, ByteArray.data_append, Array.toList_append]
            exact ((feed_piece (bytesL r1.u.L).data.toList Y.data.toList).2).symm
          rw [e9] at h9
          exact h9
        have hcat : outStr (feed initRd (bytesL r1.u.L).data.toList).out ++ outStr (feed (readerOf (bytesL r1.u.L)) Y.data.toList).out = outStr (feed initRd (bytesL r2.u.L).data.toList).out := by
          unfold readerOf
          rw [← outStr_cat, ← HX, ByteArray.data_append, Array.toList_append]
          rw [(feed_piece (bytesL r1.u.L).data.toList Y.data.toList).1]
        have hx12 : (bytesL r1.u.L).size ≤ (bytesL r2.u.L).size := by rw [← HX, ByteArray.size_append]; omega
        have hO2 := feed_size (bytesL r2.u.L)
        rw [← hcat, ByteArray.size_append] at hO2
        have hkt : (outStr (feed initRd (bytesL r1.u.L).data.toList).out).size + (outStr (feed (readerOf (bytesL r1.u.L)) Y.data.toList).out).size ≤ 9223372036854775807 := by omega
        clear k1 k2 k3 HX hso hO2
        generalize bytesL r1.u.L = X1 at *
        generalize hX2 : bytesL r2.u.L = X2 at *
        have hU : ∀ W, WorkN w3.heap.size W k q b r2.u r2.P r2.k → W.cell? ⟨k, 2, none⟩ = some (.string X2) ∧ W.cell? ⟨k, 1, none⟩ = some (.string r2.k.plain) ∧ W.cell? ⟨k, 6, none⟩ = some (.bool true) := fun W hW => by
          have e0 : W.cell? ⟨k, 2, none⟩ = some (.string r2.k.out) := World.rowIs.cell hW.row (by omega)
          rw [hW.out, hX2] at e0
          exact ⟨e0, World.rowIs.cell hW.row (by omega), World.rowIs.cell hW.row (by omega)⟩
        have HX2 : Hid (bytesL r2.u.L = X2) := hX2
        clear hX2
        generalize outStr (feed initRd X1.data.toList).out = O1 at *
        generalize outStr (feed (readerOf X1) Y.data.toList).out = A1 at *
        generalize hO9 : outStr (feed initRd X2.data.toList).out = O2 at *
        have HO2 : Hid (outStr (feed initRd X2.data.toList).out = O2) := hO9
        clear hO9
        have hXz : X2.size + 1 ≤ 9223372036854775807 := by omega
        have hnew : ∀ W, WorkN w3.heap.size W k q b r2.u r2.P r2.k → DecAt W dq (some db) 0 → Row W db (readerOf X2) (.slice none 0 0) → W.heap[g]? = w3.heap[g]? → w3.heap.size ≤ W.heap.size → Below w.heap.size w W → (∃ n' : Nat, n' ≤ 2 ∧ Value.int .i64 ((n : Int) + 1) = .int .i64 n' ∧ Value.int .i64 (X2.size : Int) = .int .i64 ((bytesL (runS (two c) r0 n').u.L).size : Int) ∧ Value.string O2 = .string (outStr (feed initRd (bytesL (runS (two c) r0 n').u.L).data.toList).out) ∧ WorkN w3.heap.size W k q b (runS (two c) r0 n').u (runS (two c) r0 n').P (runS (two c) r0 n').k ∧ DecAt W dq (some db) 0 ∧ Row W db (readerOf (bytesL (runS (two c) r0 n').u.L)) (.slice none 0 0) ∧ W.heap[g]? = w3.heap[g]? ∧ Roomy (runS (two c) r0 n') (bulk (two c) 2 - bulk (two c) n' + 8) ∧ w3.heap.size ≤ W.heap.size ∧ Below w.heap.size w W) := fun W a1 a2 a3 a4 a5 a6 => by
          refine ⟨n + 1, by omega, by go_num, ?_, ?_, by rw [HRS.out]; exact a1, a2, ?_, a4, by rw [HRS.out]; exact hrc2, a5, a6⟩
          · rw [HRS.out, HX2.out]
          · rw [HRS.out, HX2.out, HO2.out]
          · rw [HRS.out, HX2.out]; exact a3
        have hd5 : ∀ (W W' : World), On db W W' → WorkN w3.heap.size W k q b r2.u r2.P r2.k → WorkN w3.heap.size W' k q b r2.u r2.P r2.k := fun W W' ho hw => hw.keepT (A := (· = db)) ⟨ho.os, ho.tape, ho.output, ho.size, ho.block⟩ (by show ¬ k = db; omega) (by show ¬ q = db; omega) (by show ¬ b = db; omega) (fun g' hg' => by show ¬ g' = db; omega)
        by_cases hk2 : kind = 2
        · obtain ⟨q1, q2, q3⟩ := HKO hk2
          rw [q1] at hcat
          have hDc := fun W => Decode_any W (X2 ++ ⟨#[1]⟩) (by rw [ByteArray.size_append]; show X2.size + 1 ≤ _; omega)
          rw [q2, q3] at hDc
          have HO3 : Hid (O2 = r2.k.plain) := q1
          have hnew9 := hnew
          rw [q1] at hnew9
          clear HKO q1 q2 q3 hnew
          subst hk2
          go_wp2_with (first
            | (go_at_call 16; refine hK.mono ?_; rintro e w4 ⟨rfl, hw4, ho4⟩; have hd4 := hge _ _ ho4 hdn; have hr4 := hgr _ _ _ ho4 hrn; obtain ⟨u0, u1, u2⟩ := hU _ hw4; have hg4 := (hgw _ _ hzn ho4).trans hgn; have hz4 := ho4.size; have hB4 := belowN hBn ho4 hk0 hq0 hb0 (by omega))
            | (go_at_call 17; refine (hFd _ hd4 hr4).mono ?_; rintro e w5 ⟨rfl, hr5, hd5', ho5⟩; have hw5 := hd5 _ _ ho5 hw4; obtain ⟨v0, v1, v2⟩ := hU _ hw5; have hg5 := (ho5.block g (by omega) (by omega)).trans hg4; have hz5 := ho5.size; have e5 := (World.cell?_of_block (w := wr) (a := ⟨g, n * 2, none⟩) (hg5.trans hgn.symm)).trans e1; have hB5 : Below w.heap.size w w5 := hB4.trans ⟨ho5.os, ho5.tape, ho5.output, ho5.size, fun i hi => ho5.block i (by omega) (by omega)⟩)
            | (go_at_call 10; refine (hDc _).mono ?_; rintro e w6 ⟨rfl, hb6⟩; have hw6 := hw5.below hb6; obtain ⟨y0, y1, y2⟩ := hU _ hw6))
          refine ⟨hnew9 w6 hw6 (belowDec hb6 hd5') (belowRow hb6 hr5) ((hb6.block g (by omega)).trans hg5) (by have := hb6.size; omega) (hB5.trans (hb6.mono (by omega))), by simp [intOf]; omega⟩
        · have hkb : (kind == 2) = false := beq_eq_false_iff_ne.2 hk2
          clear HKO
          go_wp2_with (first
            | (go_at_call 16; refine hK.mono ?_; rintro e w4 ⟨rfl, hw4, ho4⟩; have hd4 := hge _ _ ho4 hdn; have hr4 := hgr _ _ _ ho4 hrn; obtain ⟨u0, u1, u2⟩ := hU _ hw4; have hg4 := (hgw _ _ hzn ho4).trans hgn; have hz4 := ho4.size; have hB4 := belowN hBn ho4 hk0 hq0 hb0 (by omega))
            | (go_at_call 17; refine (hFd _ hd4 hr4).mono ?_; rintro e w5 ⟨rfl, hr5, hd5', ho5⟩; have hw5 := hd5 _ _ ho5 hw4; obtain ⟨v0, v1, v2⟩ := hU _ hw5; have hg5 := (ho5.block g (by omega) (by omega)).trans hg4; have hz5 := ho5.size; have e5 := (World.cell?_of_block (w := wr) (a := ⟨g, n * 2, none⟩) (hg5.trans hgn.symm)).trans e1; have hB5 : Below w.heap.size w w5 := hB4.trans ⟨ho5.os, ho5.tape, ho5.output, ho5.size, fun i hi => ho5.block i (by omega) (by omega)⟩))
          exact ⟨hnew w5 hw5 hd5' hr5 hg5 (by omega) hB5, by simp [intOf]; omega⟩
      · have hEn : n = 2 := by omega
        have v2 : wr.cell? ⟨k, 6, none⟩ = some (.bool true) := World.rowIs.cell hwn.row (by omega)
        clear hcells
        go_wp2
        go_ret
        exact ⟨rfl, hBn⟩
  | some ad =>
    have hnw : ∀ W, Below w.heap.size w W → ∀ j u, (cellsC c len)[j]? = some u → W.cell? (ad.add j) = some u := fun W hW j u hj => by
      have hlt : j < len * 2 := by
        have := (List.getElem?_eq_some_iff.1 hj).1
        rwa [hln] at this
      have h2 := calls_news hc (by omega) j u hj
      obtain ⟨cb, co, e, hcb, _⟩ := hc.2 (by omega)
      injection e with e
      subst e
      rw [Addr.add_lit] at h2 ⊢
      exact (hW.cell (p := ⟨cb, co + j, none⟩) hcb).trans h2
    go_enter Tryz.func6, Tryz.ntmps6
    go_wp2_with (first
      | (go_at_call 14; refine h1.mono ?_; rintro e w1 ⟨k, q, b, rfl, hb0, hq0, hk0, hw1, hB1⟩)
      | (go_at_call 15; refine (NewDecoder_any _).mono ?_; rintro e w2 ⟨dq, db, rfl, hd0, hdq, hr2, hd2, hB2⟩; have hown0 := lit_owns w2; have hz12 := hB1.size; have hz22 := hB2.size)
      | (at_builtin; refine wpList_append_own _ rfl _ _ 22 rfl w2.heap.size 43 i0 (.agg #[.int .i64 0, .string ByteArray.empty]) 2 24 Tryz.underlying22 HI.out.1 HI.out.2.1 HI.out.2.2.1 HI.out.2.2.2 rfl (by decide) _ _ _ rfl hown0 ad len cap (cellsC c len) rfl hln ?c1 ?c2 ?c3 ?c4 ?c5 ?_))
    case c1 => exact hnw _ ((hB1.trans (hB2.mono hz12)).alloc (by omega) _)
    case c2 => exact h1c
    case c3 => unfold maxLen; omega
    case c4 => omega
    case c5 => simp
    · intro v' w3 hown' hgrow _
      have ho3 : w3.ownsRow w2.heap.size 43 2 v' (len + 1 + 1) (cellsC (two c) (len + 1 + 1)) := by
        rw [two_cells c len, show len + 1 + 1 = 2 + len by omega]
        exact hown'
      obtain ⟨g, gc, hv, hgB, hcc⟩ := owns_two ho3 (by omega)
      clear ho3 hown'
      have hb2 : bulk (two c) (len + 1 + 1) ≤ 2097164 := by
        have := two_bulk c len
        show bulk (two c) (len + 2) ≤ _
        omega
      obtain ⟨N, hN⟩ : ∃ N, N = len + 1 + 1 := ⟨_, rfl⟩
      rw [← hN] at hv hcc hb2
      have hN1 : 1 ≤ N ∧ N ≤ 2097154 := by omega
      clear hN
      subst hv
      have hB3 : Below w2.heap.size w2 w3 := ((Below.refl _ w2).alloc (Nat.le_refl _) _).grown hgrow (by simp) (fun k hk => by
        have : w2.heap.size = k := by simpa [Value.ownBlock] using hk
        omega)
      have hw3 := (hw1.below hB2).below hB3
      have hd3 := belowDec hB3 hd2
      have hr3 := belowRow hB3 hr2
      have hBw : Below w.heap.size w w3 := (hB1.trans (hB2.mono hz12)).trans (hB3.mono (by omega))
      have hlw := hw1.lts
      have hdl : dq < w2.heap.size := World.rowIs.lt hd2
      have hz33 := hB3.size
      have hdb3 := hr3.lt
      clear hgrow hown0 hw1 hr2 hd2 h1 hnw h1c hln hB1 hB2 hB3
      go_wp2
      have hge : ∀ (W W' : World), On3n w3.heap.size k q b W W' → DecAt W dq (some db) 0 → DecAt W' dq (some db) 0 := fun W W' ho hd => World.rowIs.of_block hd (ho.block dq (by omega) (by omega) (by omega) (by omega))
      have hgr : ∀ (W W' : World) (s : Rd), On3n w3.heap.size k q b W W' → Row W db s (.slice none 0 0) → Row W' db s (.slice none 0 0) := fun W W' s ho hd => hd.of_block (ho.block db (by omega) (by omega) (by omega) (by omega))
      have hg3 : g < w3.heap.size := by
        obtain ⟨cb, co, e, hcb, _⟩ := hcc.2 (by omega)
        injection e with e
        injection e with e _ _
        omega
      have hgw : ∀ (W W' : World), w3.heap.size ≤ W.heap.size → On3n w3.heap.size k q b W W' → W'.heap[g]? = W.heap[g]? := fun W W' hz ho => ho.block g (by omega) (by omega) (by omega) (by omega)
      have hcells : ∀ (W : World), W.heap[g]? = w3.heap[g]? → ∀ i, i < N → W.cell? ⟨g, i * 2, none⟩ = some (.int .i64 (two c i).1) ∧ W.cell? ⟨g, i * 2 + 1, none⟩ = some (.string (two c i).2) := fun W hW i hi => by
        obtain ⟨cb, co, e, _, hcl⟩ := hcc.2 (by omega)
        injection e with e
        injection e with e1 e2 _
        subst e1 e2
        have h5 := hcl i hi
        rw [Nat.zero_add] at h5
        rw [World.cell?_of_block (w := w3) (a := ⟨g, i * 2, none⟩) hW, World.cell?_of_block (w := w3) (a := ⟨g, i * 2 + 1, none⟩) hW]
        exact h5
      skip
      have hr0 := init_roomy x l (bulk (two c) N + 8) (by omega)
      have HPH : Hid (∀ n, n ≤ N → (bytesL (runS (two c) (initS x l) n).u.L).size ≤ 33554432) := fun n hn => by
        have h1 := run_phi (two c) (initS x l) n
        have h2 : phiR (initS x l) = 4 := by
          show (numBits (windowP x) 4).length + 8 * 0 = 4
          rw [numBits_length]
        have h3 := bulk_le (two c) hn
        rw [bytesL_size]
        unfold phiR at h1 h2
        omega
      have HINV : Hid (∀ n, REnc (runS (two c) (initS x l) n)) := run_inv (two c) x l
      have HPZ : Hid (∀ n, n ≤ N → (runS (two c) (initS x l) n).k.plain.size ≤ 2097164) := fun n hn => by
        have h1 := plain_size (two c) (initS x l) n
        have h2 : (initS x l).k.plain.size = 0 := rfl
        have h3 := bulk_le (two c) hn
        omega
      have HB0 : Hid (bytesL (initS x l).u.L = ByteArray.empty) := by
        show outStr (outFrom (numBits (windowP x) 4) 0) = ByteArray.empty
        unfold outFrom
        rw [numBits_length]
        rfl
      have hw4 : WorkN w3.heap.size w3 k q b (initS x l).u (initS x l).P (initS x l).k := WorkN.ofNone hw3 _
      have HR0 : Hid (runS (two c) (initS x l) 0 = initS x l) := rfl
      clear hw3 hcc hc
      generalize initS x l = r0 at *
      go_loopw [9, 10, 11] (fun vg vo vi wr => ∃ n : Nat, n ≤ N ∧ vi = .int .i64 n ∧ vg = .int .i64 ((bytesL (runS (two c) r0 n).u.L).size : Int) ∧ vo = .string (outStr (feed initRd (bytesL (runS (two c) r0 n).u.L).data.toList).out) ∧ WorkN w3.heap.size wr k q b (runS (two c) r0 n).u (runS (two c) r0 n).P (runS (two c) r0 n).k ∧ DecAt wr dq (some db) 0 ∧ Row wr db (readerOf (bytesL (runS (two c) r0 n).u.L)) (.slice none 0 0) ∧ wr.heap[g]? = w3.heap[g]? ∧ Roomy (runS (two c) r0 n) (bulk (two c) N - bulk (two c) n + 8) ∧ w3.heap.size ≤ wr.heap.size ∧ Below w.heap.size w wr) (fun _ _ vi _ => N - (intOf vi).toNat)
      case atStart =>
        refine ⟨0, by omega, rfl, ?_, ?_, by rw [HR0.out]; exact hw4, hd3, ?_, rfl, by rw [HR0.out]; exact hr0, Nat.le_refl _, hBw⟩
        · rw [HR0.out, HB0.out]; rfl
        · rw [HR0.out, HB0.out]; rfl
        · rw [HR0.out, HB0.out]; exact hr3
      case round =>
        obtain ⟨n, hn, rfl, rfl, rfl, hwn, hdn, hrn, hgn, hron, hzn, hBn⟩ := hrel
        clear hw4 hd3 hr3 hr0 hBw HR0 HB0
        by_cases hlt : n < N
        · obtain ⟨e1, e2⟩ := hcells wr hgn n hlt
          clear hcells
          have hbn : bulk (two c) (n + 1) = bulk (two c) n + ((two c n).2.size + 4) := rfl
          have hbl2 := bulk_le (two c) (show n + 1 ≤ N by omega)
          have hrc : Roomy (runS (two c) r0 n) ((bulk (two c) N - bulk (two c) (n + 1) + 8) + (two c n).2.size + 4) := by
            rw [show bulk (two c) N - bulk (two c) (n + 1) + 8 + (two c n).2.size + 4 = bulk (two c) N - bulk (two c) n + 8 by omega]
            exact hron
          have hrc2 := callS_roomy (two c n).1 (two c n).2 hrc
          have HRS : Hid (runS (two c) r0 (n + 1) = callS (two c n).1 (two c n).2 (runS (two c) r0 n)) := rfl
          have hrk : Roomy (runS (two c) r0 n) ((two c n).2.size + 4) := ⟨by have := hrc.phi; omega, by have := hrc.plain; omega, ⟨hrc.f.1, by have := hrc.f.2; omega⟩, ⟨hrc.nt.1, by have := hrc.nt.2; omega⟩, ⟨hrc.by_.1, by have := hrc.by_.2; omega⟩⟩
          have hK := kcall_N hwn hzn (two c n).1 (two c n).2 hrk
          have hphi := HPH.out n hn
          have hph2 := HPH.out (n + 1) (by omega)
          have hpz := HPZ.out (n + 1) (by omega)
          have hinv := HINV.out n
          rw [HRS.out] at hph2 hpz
          have HX := bytesL_more (callS_ext (two c n).1 (two c n).2 (runS (two c) r0 n))
          have HKO : (two c n).1 = 2 → outStr (feed initRd (bytesL (callS (two c n).1 (two c n).2 (runS (two c) r0 n)).u.L).data.toList).out = (callS (two c n).1 (two c n).2 (runS (two c) r0 n)).k.plain ∧ outStr (feed initRd (bytesL (callS (two c n).1 (two c n).2 (runS (two c) r0 n)).u.L ++ ⟨#[1]⟩).data.toList).out = (callS (two c n).1 (two c n).2 (runS (two c) r0 n)).k.plain ∧ errno (feed initRd (bytesL (callS (two c n).1 (two c n).2 (runS (two c) r0 n)).u.L ++ ⟨#[1]⟩).data.toList) = 0 := fun e => by
            rw [e]
            show outStr (feed initRd (bytesL ((flushS (runS (two c) r0 n).u (runS (two c) r0 n).P).L)).data.toList).out = (runS (two c) r0 n).k.plain ∧ outStr (feed initRd (bytesL ((flushS (runS (two c) r0 n).u (runS (two c) r0 n).P).L) ++ ⟨#[1]⟩).data.toList).out = (runS (two c) r0 n).k.plain ∧ errno (feed initRd (bytesL ((flushS (runS (two c) r0 n).u (runS (two c) r0 n).P).L) ++ ⟨#[1]⟩).data.toList) = 0
            obtain ⟨xx, NN, hinv⟩ := hinv
            obtain ⟨f1, f2⟩ := dinv_flush hinv
            rw [← flush_fin f1.bits f2]
            have := fin_back (dinv_flushed hinv)
            exact ⟨flush_out hinv, this.1, this.2⟩
          have hok := hwn.out
          clear hrc hrk hbn hbl2 hinv
          generalize callS (two c n).1 (two c n).2 (runS (two c) r0 n) = r2 at *
          generalize runS (two c) r0 n = r1 at *
          generalize (two c n).1 = kind at *
          generalize (two c n).2 = T at *
          have hso := outFrom_size r2.u.L (r1.u.L.length / 8)
          generalize outStr (outFrom r2.u.L (r1.u.L.length / 8)) = Y at *
          have hext := cat_extract (bytesL r1.u.L) Y
          rw [HX] at hext
          obtain ⟨k1, k2, k3⟩ := readerOf_ok (bytesL r1.u.L) (by omega)
          have hYz : Y.size ≤ 33554432 := by rw [bytesL_size] at hph2; omega
          have hFd : ∀ W, DecAt W dq (some db) 0 → Row W db (readerOf (bytesL r1.u.L)) (.slice none 0 0) → Calls Tryz.prog 17 #[.pointer (some ⟨dq, 0, none⟩), .string Y] W fun e w' => e = .returned (.string (outStr (feed (readerOf (bytesL r1.u.L)) Y.data.toList).out)) ∧ Row w' db (readerOf (bytesL r2.u.L)) (.slice none 0 0) ∧ DecAt w' dq (some db) 0 ∧ On db W w' := fun W hd hr => by
            have h9 := Feed_open hd (by omega) hr k3 k1 Y (by omega) k2
            have e9 : emptied (feed (readerOf (bytesL r1.u.L)) Y.data.toList) = readerOf (bytesL r2.u.L) := by
              unfold readerOf
              rw [← HX, ByteArray.data_append, Array.toList_append]
              exact ((feed_piece (bytesL r1.u.L).data.toList Y.data.toList).2).symm
            rw [e9] at h9
            exact h9
          have hcat : outStr (feed initRd (bytesL r1.u.L).data.toList).out ++ outStr (feed (readerOf (bytesL r1.u.L)) Y.data.toList).out = outStr (feed initRd (bytesL r2.u.L).data.toList).out := by
            unfold readerOf
            rw [← outStr_cat, ← HX, ByteArray.data_append, Array.toList_append]
            rw [(feed_piece (bytesL r1.u.L).data.toList Y.data.toList).1]
          have hx12 : (bytesL r1.u.L).size ≤ (bytesL r2.u.L).size := by rw [← HX, ByteArray.size_append]; omega
          have hO2 := feed_size (bytesL r2.u.L)
          rw [← hcat, ByteArray.size_append] at hO2
          have hkt : (outStr (feed initRd (bytesL r1.u.L).data.toList).out).size + (outStr (feed (readerOf (bytesL r1.u.L)) Y.data.toList).out).size ≤ 9223372036854775807 := by omega
          clear k1 k2 k3 HX hso hO2
          generalize bytesL r1.u.L = X1 at *
          generalize hX2 : bytesL r2.u.L = X2 at *
          have hU : ∀ W, WorkN w3.heap.size W k q b r2.u r2.P r2.k → W.cell? ⟨k, 2, none⟩ = some (.string X2) ∧ W.cell? ⟨k, 1, none⟩ = some (.string r2.k.plain) ∧ W.cell? ⟨k, 6, none⟩ = some (.bool true) := fun W hW => by
            have e0 : W.cell? ⟨k, 2, none⟩ = some (.string r2.k.out) := World.rowIs.cell hW.row (by omega)
            rw [hW.out, hX2] at e0
            exact ⟨e0, World.rowIs.cell hW.row (by omega), World.rowIs.cell hW.row (by omega)⟩
          have HX2 : Hid (bytesL r2.u.L = X2) := hX2
          clear hX2
          generalize outStr (feed initRd X1.data.toList).out = O1 at *
          generalize outStr (feed (readerOf X1) Y.data.toList).out = A1 at *
          generalize hO9 : outStr (feed initRd X2.data.toList).out = O2 at *
          have HO2 : Hid (outStr (feed initRd X2.data.toList).out = O2) := hO9
          clear hO9
          have hXz : X2.size + 1 ≤ 9223372036854775807 := by omega
          have hnew : ∀ W, WorkN w3.heap.size W k q b r2.u r2.P r2.k → DecAt W dq (some db) 0 → Row W db (readerOf X2) (.slice none 0 0) → W.heap[g]? = w3.heap[g]? → w3.heap.size ≤ W.heap.size → Below w.heap.size w W → (∃ n' : Nat, n' ≤ N ∧ Value.int .i64 ((n : Int) + 1) = .int .i64 n' ∧ Value.int .i64 (X2.size : Int) = .int .i64 ((bytesL (runS (two c) r0 n').u.L).size : Int) ∧ Value.string O2 = .string (outStr (feed initRd (bytesL (runS (two c) r0 n').u.L).data.toList).out) ∧ WorkN w3.heap.size W k q b (runS (two c) r0 n').u (runS (two c) r0 n').P (runS (two c) r0 n').k ∧ DecAt W dq (some db) 0 ∧ Row W db (readerOf (bytesL (runS (two c) r0 n').u.L)) (.slice none 0 0) ∧ W.heap[g]? = w3.heap[g]? ∧ Roomy (runS (two c) r0 n') (bulk (two c) N - bulk (two c) n' + 8) ∧ w3.heap.size ≤ W.heap.size ∧ Below w.heap.size w W) := fun W a1 a2 a3 a4 a5 a6 => by
            refine ⟨n + 1, by omega, by go_num, ?_, ?_, by rw [HRS.out]; exact a1, a2, ?_, a4, by rw [HRS.out]; exact hrc2, a5, a6⟩
            · rw [HRS.out, HX2.out]
            · rw [HRS.out, HX2.out, HO2.out]
            · rw [HRS.out, HX2.out]; exact a3
          have hd5 : ∀ (W W' : World), On db W W' → WorkN w3.heap.size W k q b r2.u r2.P r2.k → WorkN w3.heap.size W' k q b r2.u r2.P r2.k := fun W W' ho hw => hw.keepT (A := (· = db)) ⟨ho.os, ho.tape, ho.output, ho.size, ho.block⟩ (by show ¬ k = db; omega) (by show ¬ q = db; omega) (by show ¬ b = db; omega) (fun g' hg' => by show ¬ g' = db; omega)
          by_cases hk2 : kind = 2
          · obtain ⟨q1, q2, q3⟩ := HKO hk2
            rw [q1] at hcat
            have hDc := fun W => Decode_any W (X2 ++ ⟨#[1]⟩) (by rw [ByteArray.size_append]; show X2.size + 1 ≤ _; omega)
            rw [q2, q3] at hDc
            have HO3 : Hid (O2 = r2.k.plain) := q1
            have hnew9 := hnew
            rw [q1] at hnew9
            clear HKO q1 q2 q3 hnew
            subst hk2
            go_wp2_with (first
              | (go_at_call 16; refine hK.mono ?_; rintro e w4 ⟨rfl, hw4, ho4⟩; have hd4 := hge _ _ ho4 hdn; have hr4 := hgr _ _ _ ho4 hrn; obtain ⟨u0, u1, u2⟩ := hU _ hw4; have hg4 := (hgw _ _ hzn ho4).trans hgn; have hz4 := ho4.size; have hB4 := belowN hBn ho4 hk0 hq0 hb0 (by omega))
              | (go_at_call 17; refine (hFd _ hd4 hr4).mono ?_; rintro e w5 ⟨rfl, hr5, hd5', ho5⟩; have hw5 := hd5 _ _ ho5 hw4; obtain ⟨v0, v1, v2⟩ := hU _ hw5; have hg5 := (ho5.block g (by omega) (by omega)).trans hg4; have hz5 := ho5.size; have e5 := (World.cell?_of_block (w := wr) (a := ⟨g, n * 2, none⟩) (hg5.trans hgn.symm)).trans e1; have hB5 : Below w.heap.size w w5 := hB4.trans ⟨ho5.os, ho5.tape, ho5.output, ho5.size, fun i hi => ho5.block i (by omega) (by omega)⟩)
              | (go_at_call 10; refine (hDc _).mono ?_; rintro e w6 ⟨rfl, hb6⟩; have hw6 := hw5.below hb6; obtain ⟨y0, y1, y2⟩ := hU _ hw6))
            refine ⟨hnew9 w6 hw6 (belowDec hb6 hd5') (belowRow hb6 hr5) ((hb6.block g (by omega)).trans hg5) (by have := hb6.size; omega) (hB5.trans (hb6.mono (by omega))), by simp [intOf]; omega⟩
          · have hkb : (kind == 2) = false := beq_eq_false_iff_ne.2 hk2
            clear HKO
            go_wp2_with (first
              | (go_at_call 16; refine hK.mono ?_; rintro e w4 ⟨rfl, hw4, ho4⟩; have hd4 := hge _ _ ho4 hdn; have hr4 := hgr _ _ _ ho4 hrn; obtain ⟨u0, u1, u2⟩ := hU _ hw4; have hg4 := (hgw _ _ hzn ho4).trans hgn; have hz4 := ho4.size; have hB4 := belowN hBn ho4 hk0 hq0 hb0 (by omega))
              | (go_at_call 17; refine (hFd _ hd4 hr4).mono ?_; rintro e w5 ⟨rfl, hr5, hd5', ho5⟩; have hw5 := hd5 _ _ ho5 hw4; obtain ⟨v0, v1, v2⟩ := hU _ hw5; have hg5 := (ho5.block g (by omega) (by omega)).trans hg4; have hz5 := ho5.size; have e5 := (World.cell?_of_block (w := wr) (a := ⟨g, n * 2, none⟩) (hg5.trans hgn.symm)).trans e1; have hB5 : Below w.heap.size w w5 := hB4.trans ⟨ho5.os, ho5.tape, ho5.output, ho5.size, fun i hi => ho5.block i (by omega) (by omega)⟩))
            exact ⟨hnew w5 hw5 hd5' hr5 hg5 (by omega) hB5, by simp [intOf]; omega⟩
        · have hEn : n = N := by omega
          have v2 : wr.cell? ⟨k, 6, none⟩ = some (.bool true) := World.rowIs.cell hwn.row (by omega)
          clear hcells
          go_wp2
          go_ret
          exact ⟨rfl, hBn⟩
end Go.Proofs.YtmpfgdmdnghhgaaGreat
/- THE STATEMENT 'Rows.FlushedUptoSaid'. -/
namespace Go.Proofs.YtmpfgdmdnghhgaaGreat.flushed
open Go.ChangeShapes Go.WideShapes Go.ChangeAt Go.RowKit
open Go.ChangeMaps (open_string shut_string)

theorem own : ownKnob Tryz.prog.godebug = none := by kernel_rfl
theorem laidOut : laidOutB Tryz.prog = true := by kernel_rfl
theorem small {H : Type} {n m : Int} {d : DataW H} (hk : Rows.uptoSmall H [.lit (.int .i64 n), .lit (.int .i64 m), d] = true) : Rows.uptoBulk d ≤ 1048576 := by
  have h : Rows.uptoBulkAll [.lit (.int .i64 n), .lit (.int .i64 m), d] ≤ 1048576 := of_decide_eq_true hk
  simp only [Rows.uptoBulkAll, Rows.uptoBulk] at h
  omega

set_option maxRecDepth 100000 in
theorem contract (H : Type) (enc : TypeId × Value → H) (W : World) (base : Nat) (args : Array Value) (ds gs : List (DataW H)) (before : List MemPlace)
    (hval0 : ∀ (j : Nat) t v, Tryz.f6.params[j]? = some t → args[j]? = some v → Value.okWide Tryz.prog W .any base t v)
    (hW : DataW.Whole enc Tryz.prog Tryz.f6.params.toList Rows.flushedSpec.vars false W args.toList ds gs before) (hk : Rows.uptoSmall H (ds ++ gs) = true) :
    Calls Tryz.prog 6 args W fun e W' => ∃ v, e = .returned v ∧ Rows.flushedSpec.post enc Tryz.prog Tryz.f6 false true false false W args v W' := by
  have hval : ∀ (j : Nat) t v, Tryz.f6.params[j]? = some t → args[j]? = some v → Value.okWide Tryz.prog W .any base t v := hval0
  have hW' := hW
  obtain ⟨p, q, hA0, hV, rfl, hfz, hnd⟩ := hW
  have hA : DataW.TrodAll enc Tryz.prog W 0 (fun _ => true) true Tryz.f6.params.toList args.toList ds p := hA0
  rw [Tryz.params6] at hA hval
  obtain ⟨v0, vs0, d0, ds0, p0, q0, hargs, rfl, rfl, h0, r0⟩ := trodAll_cons hA
  obtain ⟨v1, vs1, d1, ds1, p1, q1, rfl, rfl, rfl, h1, r1⟩ := trodAll_cons r0
  obtain ⟨v2, vs2, d2, ds2, p2, q2, rfl, rfl, rfl, h2, r2⟩ := trodAll_cons r1
  obtain ⟨rfl, rfl, rfl⟩ := trodAll_nil r2
  obtain rfl : args = #[v0, v1, v2] := by cases args; simp_all
  obtain ⟨rfl, rfl⟩ := trodVars_none hV
  obtain ⟨a0, rfl, rfl, rfl, w0⟩ := open_int Tryz.underlying3 (hval 0 3 v0 rfl rfl) h0
  obtain ⟨a1, rfl, rfl, rfl, w1⟩ := open_int Tryz.underlying3 (hval 1 3 v1 rfl rfl) h1
  obtain ⟨a2, len2, cap2, rfl⟩ := okWide_slice Tryz.underlying22 (hval 2 22 v2 rfl rfl)
  have k2 := h2
  have lt2 : ∀ x ∈ p2, x.block < W.heap.size := by obtain ⟨m, hm⟩ := k2; exact DataW.trod_lt m _ _ _ hm
  obtain ⟨c2, hc2, hb2⟩ := open_calls h2
  clear hA0 hval0
  simp only [List.append_nil] at hW' hk
  have hs := small hk
  have b0 := int_bounds w0
  have b1 := int_bounds w1
  refine (Flushed_any W a0 a1 a2 len2 cap2 c2 b0.1 b0.2 b1.1 b1.2 hc2 (by omega)).mono fun e W' ⟨he, bel⟩ => ?_
  subst he
  exact ⟨_, rfl, _, _, _, [], _, [], hW', trodAll_mk1 (shut_bool Tryz.underlying4 _), (trodAll_cons_mk (shut_int Tryz.underlying3 w0) (trodAll_cons_mk (shut_int Tryz.underlying3 w1) (trodAll_cons_mk (Below.trod laidOut (by kernel_rfl) (of_decide_eq_true (by kernel_rfl)) k2 bel lt2) trodAll_mk0))), rfl, bel.frame _, fun h => by cases h⟩

set_option maxRecDepth 100000 in
theorem lifted (os : Os) (started : os.Started) (H : Type) (enc : TypeId × Value → H) (F : Stop.Interp) :
    ReturnsInHanded {} Tryz.checked os 6 .any ((Rows.OpenSpec.upto Rows.flushedSpec).pre6 enc Tryz.prog Tryz.f6 Rows.flushedUptoRow.domain false) (((Rows.OpenSpec.upto Rows.flushedSpec).at F).post enc Tryz.prog Tryz.f6 false true false false) := by
  refine returnsInHanded_of_cond (C := Tryz.checked) (s := Rows.OpenSpec.upto Rows.flushedSpec) (k := Rows.uptoSmall) rfl own started (by kernel_rfl) Tryz.func6
    (OpenSpec.witness (enc := enc) (C := Tryz.checked) (s := Rows.OpenSpec.upto Rows.flushedSpec) (k := Rows.uptoSmall) rfl false ⟨#[], #[.int .i64 0, .int .i64 0, .slice none 0 0], []⟩ 8 (by kernel_rfl) (by kernel_rfl) (by kernel_rfl)
      (x := ([.lit (.int .i64 0), .lit (.int .i64 0), .nil], [], [])) (by kernel_rfl) rfl (by kernel_rfl)) ?_
  intro W base args ds gs before hval hW _ hk _
  exact contract H enc W base args ds gs before hval hW hk

theorem proved : Rows.FlushedUptoSaid :=
  OpenClaim.holds_of_cond 6 Tryz.f6 rfl rfl rfl rfl rfl rfl rfl ⟨rfl, rfl, rfl, rfl, rfl⟩ rfl rfl rfl rfl rfl (by kernel_rfl) Tryz.func6 (by kernel_rfl)
    (of_decide_eq_true (by kernel_rfl)) (by unfold Func.isWrapper; first | (rw [if_pos (by decide +kernel)]; kernel_rfl) | (rw [if_neg (by decide +kernel)]; exact ⟨rfl, rfl⟩))
    (fun os started H enc _ F => lifted os started H enc F)
end Go.Proofs.YtmpfgdmdnghhgaaGreat.flushed
