import Derived.Test.YtmpfgdmdnghhgaaW19
import Derived.Test.YtmpfgdmdnghhgaaPlainP
namespace Go.Proofs.Ytmpfgdmdnghhgaa
open Go.RowKit Wr

def packP (l : List Int) (s : List UInt8) : List Int := l ++ List.replicate ((8 - l.length % 8) % 8) 0 ++ byteBits s

theorem owns_val {w : World} {B : Nat} {e : TypeId} {v : Value} {n : Nat} {xs : List Value} (h : w.ownsRow B e 1 v n xs) : ∃ a c, v = .slice a n c := by
  rcases h.2 with ⟨h3, h4⟩ | ⟨g, cap, cur, hv, _⟩
  · exact ⟨none, 0, by rw [h3, h4]⟩
  · exact ⟨_, _, hv⟩

set_option maxHeartbeats 1000000 in
theorem packed_any (w : World) (B : Nat) (v : Value) (l : List Int) (s : ByteArray) (hown : w.ownsRow B 3 1 v l.length (l.map (Value.int .i64))) (hB : B ≤ w.heap.size) (hl : l.length ≤ 1073741824) (hs : s.size ≤ 1073741824) :
    Calls Try.prog 13 #[v, .string s] w fun e w' => ∃ v', e = .returned v' ∧ w'.ownsRow B 3 1 v' (packP l s.data.toList).length ((packP l s.data.toList).map (Value.int .i64)) ∧ Below B w w' := by
  obtain ⟨i0, hi, hz0, hz1, hz2⟩ := info_parts info_int
  have HI : Hid (Try.prog.info? 3 = some i0 ∧ i0.zero = some (.int .i64 0) ∧ i0.size = 1 ∧ i0.bytes = 8) := ⟨hi, hz0, hz1, hz2⟩
  clear hi hz0 hz1 hz2
  go_enter Try.func13, Try.ntmps13
  go_wp2
  go_loopg [0] ((8 - l.length % 8) % 8) (fun g u wr => ∃ z : Nat, z + g = (8 - l.length % 8) % 8 ∧ wr.ownsRow B 3 1 u (l ++ List.replicate z 0).length ((l ++ List.replicate z 0).map (Value.int .i64)) ∧ Below B w wr)
  case atStart =>
    refine ⟨0, by omega, ?_, Below.refl _ _⟩
    rw [List.replicate_zero, List.append_nil]
    exact hown
  case round =>
    obtain ⟨z, hz, hownz, hbz⟩ := hrel
    clear hown
    have hlen : (l ++ List.replicate z (0 : Int)).length = l.length + z := by rw [List.length_append, List.length_replicate]
    obtain ⟨ua, uc, rfl⟩ := owns_val hownz
    have hsz := hbz.size
    by_cases hlt : z < (8 - l.length % 8) % 8
    · have hne : ((((l ++ List.replicate z (0 : Int)).length : Nat) : Int) % 8 != 0) = true := by
        rw [hlen, bne_iff_ne]; omega
      have e1 : (l ++ List.replicate z (0 : Int)) ++ [0] = l ++ List.replicate (z + 1) 0 := by rw [List.append_assoc, ← List.replicate_succ']
      have HL : Hid ((l ++ List.replicate z (0 : Int)).length = l.length + z) := hlen
      have HE : Hid ((l ++ List.replicate z (0 : Int)) ++ [0] = l ++ List.replicate (z + 1) 0) := e1
      clear e1 hlen
      generalize l ++ List.replicate z (0 : Int) = L at *
      go_wp2_with (at_builtin; refine wpList_append_own _ rfl _ _ 29 rfl B 3 i0 (.int .i64 0) 1 8 Try.underlying29 HI.out.1 HI.out.2.1 HI.out.2.2.1 HI.out.2.2.2 rfl (by decide) _ _ _ rfl (hownz.alloc _) ⟨wr.heap.size, 0, none⟩ 1 1 [.int .i64 0] rfl rfl ?c1 ?c2 ?c3 ?c4 ?c5 ?_)
      case c1 =>
        intro j u hj
        match j, hj with
        | 0, hj => simp at hj; subst hj; simp [Addr.add]
      case c2 => intro u hu; simp at hu; subst hu; rfl
      case c3 => rw [HL.out]; unfold maxLen; omega
      case c4 => rw [HL.out]; omega
      case c5 => simp; omega
      · intro v' w1 hown' hgrow _
        have hb1 : Below B w w1 := (hbz.alloc (by omega) _).grown hgrow (by simp; omega) (owns_above hownz)
        have ho2 : w1.ownsRow B 3 1 v' (l ++ List.replicate (z + 1) (0 : Int)).length ((l ++ List.replicate (z + 1) (0 : Int)).map (Value.int .i64)) := by
          rw [← HE.out, List.length_append, List.map_append]
          exact hown'
        clear hown' hgrow hownz
        go_wp2
        go_roundg (gk - 1)
        case measure => omega
        case rel => exact ⟨z + 1, by omega, ho2, hb1⟩
    · have hze : z = (8 - l.length % 8) % 8 := by omega
      have hne : ((((l ++ List.replicate z (0 : Int)).length : Nat) : Int) % 8 != 0) = false := by
        rw [hlen, bne_eq_false_iff_eq]; omega
      have HP : Hid (packP l s.data.toList = (l ++ List.replicate z (0 : Int)) ++ byteBits s.data.toList) := by rw [Hid, packP, hze]
      have hL8 : (l ++ List.replicate z (0 : Int)).length ≤ 1073741832 := by omega
      clear hze hlt hz
      generalize l ++ List.replicate z (0 : Int) = L at *
      clear hlen
      go_wp2
      go_loopw [0, 5] (fun u vi wq => ∃ k : Nat, k ≤ s.size ∧ vi = .int .i64 k ∧ wq.ownsRow B 3 1 u (L ++ byteBits (s.data.toList.take k)).length ((L ++ byteBits (s.data.toList.take k)).map (Value.int .i64)) ∧ Below B w wq) (fun _ vi _ => s.size - (intOf vi).toNat)
      case atStart =>
        refine ⟨0, by omega, rfl, ?_, hbz⟩
        rw [List.take_zero]
        show wr.ownsRow B 3 1 _ (L ++ []).length ((L ++ []).map (Value.int .i64))
        rw [List.append_nil]
        exact hownz
      case round =>
        obtain ⟨k, hk, rfl, hownk, hbk⟩ := hrel
        rename_i wq _ _
        clear hownz hbz hsz
        have hszk := hbk.size
        by_cases hlt : k < s.size
        · have hlen : k < s.data.toList.length := by simpa using hlt
          have et : s.data.toList.take (k + 1) = s.data.toList.take k ++ [s[k]] := by rw [List.take_succ_eq_append_getElem hlen]; rfl
          have hlk : (byteBits (s.data.toList.take k)).length ≤ 8 * k := by rw [byteBits_length]; have := List.length_take_le k s.data.toList; omega
          have e1 : L ++ byteBits (s.data.toList.take k) ++ numBits (s[k].toNat : Int) 8 = L ++ byteBits (s.data.toList.take (k + 1)) := by
            rw [et, byteBits_append, List.append_assoc]
            show _ = L ++ (byteBits (s.data.toList.take k) ++ (numBits (s[k].toNat : Int) 8 ++ []))
            rw [List.append_nil]
          have bb := byte_bounds s[k]
          have hP := fun (W : World) (u : Value) (h : W.ownsRow B 3 1 u (L ++ byteBits (s.data.toList.take k)).length ((L ++ byteBits (s.data.toList.take k)).map (Value.int .i64))) (hBW : B ≤ W.heap.size) => put_bits W B u (L ++ byteBits (s.data.toList.take k)) (s[k].toNat : Int) 8 h hBW bb.1 (by omega) (by omega) (by rw [List.length_append]; omega)
          rw [e1] at hP
          clear e1 et
          go_wp2_with (go_at_call 11; refine (hP _ _ hownk (by omega)).mono ?_; rintro e w2 ⟨v2, rfl, ho2, hb2⟩)
          go_roundw
          case rel => exact ⟨k + 1, by omega, by go_num, ho2, hbk.trans hb2⟩
          case measure => simp [intOf]; omega
        · have hkn : s.data.toList.take k = s.data.toList := List.take_of_length_le (by simp; omega)
          rw [hkn, ← HP.out] at hownk
          clear hkn
          go_wp2
          go_ret
          exact ⟨_, rfl, hownk, hbk⟩
end Go.Proofs.Ytmpfgdmdnghhgaa
