import Derived.Test.YtmpfgdmdnghhgaaW15
import Derived.Test.YtmpfgdmdnghhgaaFeed
import Derived.Laws.BytesString
namespace Go.Proofs.Ytmpfgdmdnghhgaa
open Go.RowKit Wr

theorem run_out {w : World} {B : Nat} {v : Value} {l : List Int} (h : w.ownsRow B 5 1 v l.length (l.map (Value.int .u8))) :
    (convert 37 9 v).run Try.prog w = .ok (.string (outStr l)) w := by
  obtain ⟨h1, h2⟩ := h
  rcases h2 with ⟨h3, h4⟩ | ⟨g, cap, cur, hv, hg, hh, hn, hc, hs, ht⟩
  · rw [h3, run_convert_bytes_string w 37 9 5 none 0 0 Try.underlying37 Try.underlying5 Try.underlying9]
    have e : l = [] := List.length_eq_zero_iff.1 h4
    subst e
    simp [Conv.bytesToString, Sem.run_pure, outStr]
  · rw [hv, run_convert_bytes_string w 37 9 5 _ _ _ Try.underlying37 Try.underlying5 Try.underlying9]
    refine run_bytesToString w ⟨g, 0, none⟩ l.length cap l ?_
    have hl := run_loadCells_list (P := Try.prog) w ⟨g, 0, none⟩ (l.map (Value.int .u8)) (fun j x hx => by
      have hadd : (⟨g, 0, none⟩ : Addr).add j = ⟨g, j, none⟩ := by unfold Addr.add; split <;> simp_all
      rw [hadd, cell_of_row w g j cur 5 (0, 0) hh, ← Array.getElem?_toList]
      have hx' := hx
      rw [← ht, List.getElem?_take] at hx'
      split at hx'
      · exact hx'
      · cases hx')
    rw [List.length_map] at hl
    exact hl

section
variable {w : World} {B b : Nat} {s : Rd}

set_option maxHeartbeats 1000000 in
theorem Read_any (hr : Row w b s (.slice none 0 0)) (ho : s.out = []) (h : Wr.Rest s) (x : ByteArray) (hx : x.size ≤ 268435456) (hp : psi s ≤ 1099511627776) :
    Calls Try.prog 28 #[.pointer (some ⟨b, 0, none⟩), .string x] w fun e w' =>
      e = .returned (.string (outStr (feed s x.data.toList).out)) ∧ Row w' b { feed s x.data.toList with out := [] } (.slice none 0 0) ∧ On b w w' := by
  have hR0 : Rep w w.heap.size b s := ⟨hr.lt, Nat.le_refl _, .slice none 0 0, hr, by rw [ho]; exact World.ownsRow_nil _ _ _ _⟩
  have hbB := hr.lt
  clear hr ho
  go_enter Try.func28, Try.ntmps28
  go_wp2
  go_loopw [5] (fun vi wr => ∃ (k : Nat) (t : Rd), k ≤ x.size ∧ vi = .int .i64 k ∧ Wr.Rest t ∧ psi t ≤ 1099511627776 + 4096 * k ∧ Hid (feed t (x.data.toList.drop k) = feed s x.data.toList) ∧ Rep wr w.heap.size b t ∧ Fr w.heap.size b w wr) (fun vi _ => x.size - (intOf vi).toNat)
  case atStart => exact ⟨0, s, by omega, rfl, h, by omega, rfl, hR0, Fr.refl _ _ _⟩
  case round =>
    obtain ⟨k, t, hk, rfl, ht, hpt, HF, hRt, hfr⟩ := hrel
    clear hR0 h hp
    have hRt0 := hRt
    obtain ⟨_, hBt, v, hrt, hown⟩ := hRt
    have d2 := hrt.c_part
    have d3 := hrt.c_trailing
    by_cases hend : k < x.size ∧ ¬ (t.part = 11 ∨ t.trailing = true)
    · obtain ⟨hlt, hgo⟩ := hend
      have hlen : k < x.data.toList.length := by simpa using hlt
      have e : x.data.toList.drop k = x[k] :: x.data.toList.drop (k + 1) := by
        rw [List.drop_eq_getElem_cons hlen]; rfl
      have b11 : (t.part != 11) = true := by simpa using fun e => hgo (Or.inl e)
      have btr : t.trailing = false := by cases h : t.trailing; rfl; exact absurd (Or.inr h) hgo
      obtain ⟨tr, tp⟩ := take_rest ht (x[k].toNat : Int) (by omega) (by have := x[k].toNat_lt; omega) (fun e => hgo (Or.inl e))
      have h10 : t.part = 10 ∨ t.have_ ≤ 11 := by
        have p1 := (part_range ht.1.2).2
        have p2 : t.part ≠ 11 := fun e => hgo (Or.inl e)
        rcases ht.2 with h | h
        · left; omega
        · right; exact h
      have hT := take_any hRt0 (x[k].toNat : Int) ht.1 h10 (by omega) (by omega) (by have := x[k].toNat_lt; omega)
      have HF' : Hid (feed (Wr.take t x[k].toNat) (x.data.toList.drop (k + 1)) = feed s x.data.toList) := by
        have := HF.out
        rw [e, feed_go hgo] at this
        exact this
      rw [btr] at d3
      clear HF e hgo btr
      go_wp2_with (go_at_call 38; refine hT.mono ?_; rintro e w1 ⟨rfl, hR1, hfr1⟩)
      go_roundw
      case rel => exact ⟨k + 1, _, by omega, by go_num, tr, by omega, HF', hR1, hfr.trans hfr1⟩
      case measure => simp [intOf]; omega
    · have HE : Hid (feed s x.data.toList = t) := by
        have hq := HF.out
        by_cases hlt : k < x.size
        · have hst : t.part = 11 ∨ t.trailing = true := by
            by_cases hst : t.part = 11 ∨ t.trailing = true
            · exact hst
            · exact absurd ⟨hlt, hst⟩ hend
          rw [feed_stop hst] at hq
          exact hq.symm
        · rw [List.drop_eq_nil_of_le (by simp; omega)] at hq
          exact hq.symm
      have hcv := run_out hown
      have dv := hrt.c_out
      have hfz := hrt.free
      have hw1 : Row (wr.setCell ⟨b, 5246, none⟩ (.slice none 0 0)) b { t with out := [] } (.slice none 0 0) := hrt.out _ _
      have hon1 : On b w (wr.setCell ⟨b, 5246, none⟩ (.slice none 0 0)) := by
        have := hfr.set 5246 (.slice none 0 0)
        exact ⟨this.os, this.tape, this.output, this.size, this.block⟩
      have hv : ∃ a n c, v = .slice a n c := by
        rcases hown.2 with ⟨h3, _⟩ | ⟨g, cap, cur, hv, _⟩
        · exact ⟨_, _, _, h3⟩
        · exact ⟨_, _, _, hv⟩
      obtain ⟨va, vn, vc, rfl⟩ := hv
      by_cases hlt : k < x.size
      · by_cases h11 : t.part = 11
        · rw [h11] at d2
          clear h11 hend HF
          go_wp2
          go_ret
          rw [HE.out]
          exact ⟨rfl, hw1, hon1⟩
        · have b11 : (t.part != 11) = true := by simpa using h11
          have htr : t.trailing = true := by
            by_cases h : t.trailing = true
            · exact h
            · exact absurd ⟨hlt, fun hh => hh.elim h11 h⟩ hend
          rw [htr] at d3
          clear h11 hend HF htr
          go_wp2
          go_ret
          rw [HE.out]
          exact ⟨rfl, hw1, hon1⟩
      · clear hend HF
        go_wp2
        go_ret
        rw [HE.out]
        exact ⟨rfl, hw1, hon1⟩

set_option maxHeartbeats 400000 in
theorem Errno_any {v : Value} (hr : Row w b s v) : Calls Try.prog 29 #[.pointer (some ⟨b, 0, none⟩)] w fun e w' => e = .returned (.int .i64 (errno s)) ∧ w' = w := by
  have d2 := hr.c_part
  have d3 := hr.c_trailing
  by_cases h11 : s.part = 11
  · have HE : Hid (errno s = 2) := by simp [Hid, errno, h11]
    rw [h11] at d2
    clear h11
    go_enter Try.func29, Try.ntmps29
    go_wp2
    go_ret
    rw [HE.out]
    exact ⟨rfl, rfl⟩
  · have b11 : (s.part == 11) = false := beq_eq_false_iff_ne.2 h11
    by_cases h10 : s.part = 10
    · rw [h10] at d2
      cases ht : s.trailing
      · have HE : Hid (errno s = 0) := by simp [Hid, errno, h10, ht]
        rw [ht] at d3
        clear h11 h10 ht b11
        go_enter Try.func29, Try.ntmps29
        go_wp2
        go_ret
        rw [HE.out]
        exact ⟨rfl, rfl⟩
      · have HE : Hid (errno s = 3) := by simp [Hid, errno, h10, ht]
        rw [ht] at d3
        clear h11 h10 ht b11
        go_enter Try.func29, Try.ntmps29
        go_wp2
        go_ret
        rw [HE.out]
        exact ⟨rfl, rfl⟩
    · have HE : Hid (errno s = 1) := by simp [Hid, errno, h10, h11]
      have b10 : (s.part != 10) = true := by simpa using h10
      clear h11 h10
      go_enter Try.func29, Try.ntmps29
      go_wp2
      go_ret
      rw [HE.out]
      exact ⟨rfl, rfl⟩
end
end Go.Proofs.Ytmpfgdmdnghhgaa
