import Derived.Test.YtmpfgdmdnghhgaaW18
import Derived.Test.YtmpfgdmdnghhgaaBitsP
namespace Go.Proofs.Ytmpfgdmdnghhgaa
open Go.RowKit Wr

theorem owns_cell {w : World} {B : Nat} {e : TypeId} {v : Value} {l : List Int} (h : w.ownsRow B e 1 v l.length (l.map (Value.int .i64))) (hl : l ≠ []) :
    ∃ g cap, v = .slice (some ⟨g, 0, none⟩) l.length cap ∧ B ≤ g ∧ g < w.heap.size ∧ ∀ j (hj : j < l.length), w.cell? ⟨g, j, none⟩ = some (.int .i64 l[j]) := by
  obtain ⟨h1, h2⟩ := h
  rcases h2 with ⟨_, h3⟩ | ⟨g, cap, cur, hv, hg, hh, hn, hc, hs, ht⟩
  · exact absurd (List.length_eq_zero_iff.1 h3) hl
  · refine ⟨g, cap, hv, hg, ?_, fun j hj => ?_⟩
    · rcases Nat.lt_or_ge g w.heap.size with h | h
      · exact h
      · rw [Array.getElem?_eq_none h] at hh; cases hh
    · rw [cell_of_row w g j cur e (0, 0) hh, ← Array.getElem?_toList]
      have : (cur.toList.take (l.length * 1))[j]? = some (.int .i64 l[j]) := by
        rw [ht, List.getElem?_map, List.getElem?_eq_getElem hj]; rfl
      rw [List.getElem?_take] at this
      split at this
      · exact this
      · cases this

theorem run_row_str {w : World} {g n : Nat} {f : Nat → Int} (h : w.rowIs g 5 n (fun j => .int .u8 (f j))) :
    (convert 37 9 (.slice (some ⟨g, 0, none⟩) n n)).run Try.prog w = .ok (.string (outStr ((List.range n).map f))) w := by
  rw [run_convert_bytes_string w 37 9 5 _ _ _ Try.underlying37 Try.underlying5 Try.underlying9]
  refine run_bytesToString w ⟨g, 0, none⟩ n n ((List.range n).map f) ?_
  have hl := run_loadCells_list (P := Try.prog) w ⟨g, 0, none⟩ (((List.range n).map f).map (Value.int .u8)) (fun j x hx => by
    have hadd : (⟨g, 0, none⟩ : Addr).add j = ⟨g, j, none⟩ := by unfold Addr.add; split <;> simp_all
    have hj : j < n := by
      have := (List.getElem?_eq_some_iff.1 hx).1
      simpa using this
    rw [hadd, World.rowIs.cell h hj]
    rw [List.getElem?_map, List.getElem?_map, List.getElem?_range hj] at hx
    exact hx)
  rw [List.length_map, List.length_map, List.length_range] at hl
  exact hl

theorem or_bit (x : Int) (r : Nat) (h0 : 0 ≤ x) (h1 : x < 2 ^ r) (hr : r < 8) : bits BinOp.or IntKind.u8 x (2 ^ r) = x + 2 ^ r := by
  have : r = 0 ∨ r = 1 ∨ r = 2 ∨ r = 3 ∨ r = 4 ∨ r = 5 ∨ r = 6 ∨ r = 7 := by omega
  have hx : x < 128 := by rcases this with e | e | e | e | e | e | e | e <;> (rw [e] at h1; omega)
  obtain ⟨X, rfl⟩ := Int.eq_ofNat_of_zero_le h0
  have hX : X < 128 := by omega
  have key : ∀ r : Fin 8, ∀ X : Fin 128, X.val < 2 ^ r.val → bits BinOp.or IntKind.u8 (X.val : Int) (2 ^ r.val) = (X.val : Int) + 2 ^ r.val := by decide +kernel
  refine key ⟨r, hr⟩ ⟨X, hX⟩ ?_
  have e : ((2 ^ r : Nat) : Int) = (2 : Int) ^ r := by rw [Int.natCast_pow]; rfl
  show X < 2 ^ r
  omega

set_option maxHeartbeats 1000000 in
theorem bits_any (w : World) (B : Nat) (v : Value) (l : List Int) (hown : w.ownsRow B 3 1 v l.length (l.map (Value.int .i64))) (hb : isBits l) (hl : l ≠ []) (hlen : l.length ≤ 1099511627776) :
    Calls Try.prog 15 #[v] w fun e w' => e = .returned (.string (outStr ((List.range ((l.length + 7) / 8)).map (byteAt l l.length)))) ∧ Below w.heap.size w w' := by
  obtain ⟨g, cap, rfl, hgB, hgw, hcell⟩ := owns_cell hown hl
  clear hown
  have hmk := run_make_row' (P := Try.prog) 37 5 (.int .u8 0) 1 Try.underlying37 info_u8 rfl .i64 .i64 ((l.length + 7) / 8) (by omega) (by omega)
  have hN : ((((l.length + 7) / 8 : Nat)) : Int) = ((l.length : Int) + 7) / 8 := by omega
  rw [hN] at hmk
  clear hN
  go_enter Try.func15, Try.ntmps15
  go_wp2
  go_loopw [4] (fun vi wr => ∃ k : Nat, k ≤ l.length ∧ vi = .int .i64 k ∧ wr.rowIs w.heap.size 5 ((l.length + 7) / 8) (fun j => .int .u8 (byteAt l k j)) ∧ Below w.heap.size w wr) (fun vi _ => l.length - (intOf vi).toNat)
  case atStart =>
    refine ⟨0, by omega, rfl, ?_, below_alloc _ _⟩
    refine (World.rowIs_made w (.int .u8 0) ((l.length + 7) / 8) 5).congr fun j _ => ?_
    rw [byteAt_zero]
  case round =>
    obtain ⟨k, hk, rfl, hrow, hbel⟩ := hrel
    clear hmk
    have hsz := hbel.size
    by_cases hlt : k < l.length
    · have hc := hcell k hlt
      have hck : wr.cell? ⟨g, k, none⟩ = some (.int .i64 l[k]) := by rw [hbel.cell (p := ⟨g, k, none⟩) hgw]; exact hc
      clear hc hcell
      have hfz : ∀ o, wr.frozen? ⟨w.heap.size, o, none⟩ = false := fun o => World.rowIs.frozen hrow o
      have hbk : wr.cell? ⟨w.heap.size, k / 8, none⟩ = some (.int .u8 (byteAt l k (k / 8))) := World.rowIs.cell hrow (by omega)
      rcases hb l[k] (List.getElem_mem hlt) with e | e
      · have HS := fun j => byteAt_same hlt e j
        rw [e] at hck
        clear e
        go_wp2
        go_roundw
        case rel => exact ⟨k + 1, by omega, by go_num, World.rowIs.congr hrow (fun j _ => by rw [HS j]), hbel⟩
        case measure => simp [intOf]; omega
      · have HS := fun j => byteAt_set hb hlt e j
        have bb := byteAt_bounds hb (Nat.le_of_lt hlt)
        have hor := or_bit (byteAt l k (k / 8)) (k % 8) bb.1 bb.2 (by omega)
        have hp7 : (2 : Int) ^ (k % 8) ≤ 128 := pow_mono (show k % 8 ≤ 7 by omega)
        have hp1 := pow_pos2 (k % 8)
        rw [e] at hck
        clear e
        go_wp2
        go_region
        go_wp2
        go_roundw
        case rel =>
          refine ⟨k + 1, by omega, by go_num, ?_, (hbel.setCell (Nat.le_refl _) _).drew⟩
          refine World.rowIs.congr (World.rowIs.set hrow (k / 8) _) fun j _ => ?_
          rw [HS j]
          by_cases e : j = k / 8
          · rw [if_pos e, if_pos e, e]
          · rw [if_neg e, if_neg e]
        case measure => simp [intOf]; omega
    · have hkn : k = l.length := by omega
      subst hkn
      clear hcell
      have hcv := run_row_str hrow
      go_wp2
      go_ret
      exact ⟨rfl, hbel⟩

set_option maxHeartbeats 400000 in
theorem window_any (w : World) (c : Int) (h1 : -9223372036854775808 ≤ c) (h2 : c ≤ 9223372036854775807) :
    Calls Try.prog 12 #[.int .i64 c] w fun e w' => e = .returned (.int .i64 (windowP c)) ∧ w' = w := by
  by_cases h0 : 0 ≤ c
  · by_cases h8 : c ≤ 8
    · have HE : Hid (windowP c = c) := by rw [Hid, windowP, if_pos ⟨h0, h8⟩]
      go_enter Try.func12, Try.ntmps12
      go_wp2
      go_ret
      rw [HE.out]
      exact ⟨rfl, rfl⟩
    · have HE : Hid (windowP c = pickP c 9) := by rw [Hid, windowP, if_neg (by omega)]
      have hP := pick_any w c 9 h1 h2 (by omega) (by omega)
      go_enter Try.func12, Try.ntmps12
      go_wp2_with (go_at_call 14; refine hP.mono ?_; rintro e w' ⟨rfl, rfl⟩)
      go_ret
      rw [HE.out]
      exact ⟨rfl, rfl⟩
  · have HE : Hid (windowP c = pickP c 9) := by rw [Hid, windowP, if_neg (by omega)]
    have hP := pick_any w c 9 h1 h2 (by omega) (by omega)
    go_enter Try.func12, Try.ntmps12
    go_wp2_with (go_at_call 14; refine hP.mono ?_; rintro e w' ⟨rfl, rfl⟩)
    go_ret
    rw [HE.out]
    exact ⟨rfl, rfl⟩

def againP (t : ByteArray) (n : Nat) : List Int := (List.range n).map fun i => ((t.data.toList.getD (i % t.size) 0).toNat : Int)
theorem againP_succ (t : ByteArray) (n : Nat) : againP t (n + 1) = againP t n ++ [((t.data.toList.getD (n % t.size) 0).toNat : Int)] := by simp [againP, List.range_succ]
theorem againP_length (t : ByteArray) (n : Nat) : (againP t n).length = n := by simp [againP]

set_option maxHeartbeats 1000000 in
theorem again_any (w : World) (t : ByteArray) (n : Nat) (ht : 1 ≤ t.size) (ht2 : t.size ≤ 1099511627776) (hn : n ≤ 1099511627776) :
    Calls Try.prog 16 #[.string t, .int .i64 n] w fun e w' => e = .returned (.string (outStr (againP t n))) ∧ Below w.heap.size w w' := by
  obtain ⟨i0, hi, hz0, hz1, hz2⟩ := info_parts info_u8
  have HI : Hid (Try.prog.info? 5 = some i0 ∧ i0.zero = some (.int .u8 0) ∧ i0.size = 1 ∧ i0.bytes = 1) := ⟨hi, hz0, hz1, hz2⟩
  clear hi hz0 hz1 hz2
  go_enter Try.func16, Try.ntmps16
  go_wp2
  go_loopw [5, 6] (fun u vi wr => ∃ k : Nat, k ≤ n ∧ vi = .int .i64 k ∧ wr.ownsRow w.heap.size 5 1 u (againP t k).length ((againP t k).map (Value.int .u8)) ∧ Below w.heap.size w wr) (fun _ vi _ => n - (intOf vi).toNat)
  case atStart => exact ⟨0, by omega, rfl, World.ownsRow_nil _ _ _ _, Below.refl _ _⟩
  case round =>
    obtain ⟨k, hk, rfl, hownk, hbk⟩ := hrel
    have hsz := hbk.size
    by_cases hlt : k < n
    · have hmod : k % t.size < t.size := Nat.mod_lt _ (by omega)
      have hlen : (againP t k).length = k := againP_length t k
      have hsu := againP_succ t k
      have hgd : t.data.toList.getD (k % t.size) 0 = t[k % t.size] := by
        rw [List.getD_eq_getElem?_getD, List.getElem?_eq_getElem (by simpa using hmod)]; rfl
      rw [hgd] at hsu
      have HL : Hid ((againP t k).length = k) := hlen
      have HS : Hid (againP t (k + 1) = againP t k ++ [(t[k % t.size].toNat : Int)]) := hsu
      clear hlen hsu hgd
      generalize againP t k = L at *
      go_wp2_with (at_builtin; refine wpList_append_own _ rfl _ _ 37 rfl w.heap.size 5 i0 (.int .u8 0) 1 1 Try.underlying37 HI.out.1 HI.out.2.1 HI.out.2.2.1 HI.out.2.2.2 rfl (by decide) _ _ _ rfl (hownk.alloc _) ⟨wr.heap.size, 0, none⟩ 1 1 [.int .u8 (t[k % t.size].toNat : Int)] rfl rfl ?c1 ?c2 ?c3 ?c4 ?c5 ?_)
      case c1 =>
        intro j u hj
        match j, hj with
        | 0, hj => simp at hj; subst hj; simp [Addr.add]
      case c2 => intro u hu; simp at hu; subst hu; rfl
      case c3 => rw [HL.out]; unfold maxLen; omega
      case c4 => rw [HL.out]; omega
      case c5 => simp; omega
      · intro v' w1 hown' hgrow _
        have hb1 : Below w.heap.size w w1 := (hbk.alloc (by omega) _).grown hgrow (by simp; omega) (owns_above hownk)
        have ho2 : w1.ownsRow w.heap.size 5 1 v' (againP t (k + 1)).length ((againP t (k + 1)).map (Value.int .u8)) := by
          rw [HS.out, List.length_append, List.map_append]
          exact hown'
        clear hown' hgrow hownk
        go_wp2
        go_roundw
        case rel => exact ⟨k + 1, by omega, by go_num, ho2, hb1⟩
        case measure => simp [intOf]; omega
    · have hkn : k = n := by omega
      subst hkn
      have hcv := run_out hownk
      have hv : ∃ a n c, u5 = .slice a n c := by
        rcases hownk.2 with ⟨h3, _⟩ | ⟨g, cap, cur, hv, _⟩
        · exact ⟨_, _, _, h3⟩
        · exact ⟨_, _, _, hv⟩
      obtain ⟨va, vn, vc, rfl⟩ := hv
      go_wp2
      go_ret
      exact ⟨rfl, hbk⟩
end Go.Proofs.Ytmpfgdmdnghhgaa
