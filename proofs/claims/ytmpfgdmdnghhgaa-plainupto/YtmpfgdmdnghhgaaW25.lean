import Derived.Test.YtmpfgdmdnghhgaaW24
namespace Go.Proofs.Ytmpfgdmdnghhgaa
open Go.RowKit Wr

set_option maxRecDepth 100000 in
set_option maxHeartbeats 4000000 in
theorem Plain_long (w : World) (a0 : Int) (x t : ByteArray) (a2 : Option Addr) (len2 cap2 : Nat) (z2 : Nat → Int) (h0 : -9223372036854775808 ≤ a0 ∧ a0 ≤ 9223372036854775807) (hx : x.size ≤ 1048576) (ht : t.size ≤ 1048576) (hl2 : len2 ≤ 9223372036854775807)
    (hrow : 0 < len2 → ∃ ad, a2 = some ad ∧ ad.block < w.heap.size ∧ ∀ i, i < len2 → w.cell? (ad.add i) = some (.int .i64 (z2 i)) ∧ -9223372036854775808 ≤ z2 i ∧ z2 i ≤ 9223372036854775807) (hT : 255 < t.size) :
    Calls Try.prog 4 #[.int .i64 a0, .string x, .slice a2 len2 cap2, .string t] w fun e w' => e = .returned (.bool true) ∧ Below w.heap.size w w' := by
  have wb := windowP_bounds a0
  go_enter Try.func4, Try.ntmps4
  go_wp2_with fail
  refine (window_any _ a0 h0.1 h0.2).mono ?_
  rintro e W0 ⟨rfl, rfl⟩
  go_wp2_with fail
  refine (put_bits _ W0.heap.size _ [] (windowP a0) 4 (World.ownsRow_nil _ _ _ _) (Nat.le_refl _) wb.1 (by omega) (by omega) (by simp)).mono ?_
  rintro e W1 ⟨v1, rfl, ho1, hb1⟩
  have hs1 := hb1.size
  go_wp2_with fail
  refine (put_bits _ W0.heap.size _ _ 6 3 ho1 (by omega) (by omega) (by omega) (by omega) (by simp [numBits_length])).mono ?_
  rintro e W2 ⟨v2, rfl, ho2, hb2⟩
  have hs2 := hb2.size
  go_wp2_with fail
  refine (put_bits _ W0.heap.size _ _ ((min 255 t.size : Nat) : Int) 8 ho2 (by omega) (by omega) (by omega) (by omega) (by simp [numBits_length])).mono ?_
  rintro e W3 ⟨v3, rfl, ho3, hb3⟩
  have hs3 := hb3.size
  go_wp2_with fail
  refine (packed_any _ W0.heap.size _ _ (t.extract 0 255) ho3 (by omega) (by simp [numBits_length]) (by rw [ByteArray.size_extract]; omega)).mono ?_
  rintro e W4 ⟨v4, rfl, ho4, hb4⟩
  have hs4 := hb4.size
  have hl5 : (t.extract 0 255).data.toList.length = min 255 t.size := by rw [Lib.extract_data, List.drop_zero, List.length_take]; simp
  have HN : Hid ((t.extract 0 255).data.toList.length ≤ 255) := by rw [Hid, hl5]; omega
  have ho5 : W4.ownsRow W0.heap.size 3 1 v4 (soFar (windowP a0) (t.extract 0 255).data.toList []).length ((soFar (windowP a0) (t.extract 0 255).data.toList []).map (Value.int .i64)) := by
    have e : packP ((([] ++ numBits (windowP a0) 4) ++ numBits 6 3) ++ numBits ((min 255 t.size : Nat) : Int) 8) (t.extract 0 255).data.toList = soFar (windowP a0) (t.extract 0 255).data.toList [] := by
      have := pack_head (windowP a0) (t.extract 0 255).data.toList
      rw [hl5] at this
      rw [this]
      unfold soFar
      show _ = plainHead _ _ ++ []
      rw [List.append_nil]
    rw [e] at ho4
    exact ho4
  have hB4 := ((hb1.trans hb2).trans hb3).trans hb4
  clear ho1 ho2 ho3 ho4 hb1 hb2 hb3 hb4
  clear hl5
  generalize (t.extract 0 255).data.toList = note at *
  go_wp2
  go_loopg [1, 9, 11] x.size (fun g vt vl vi wr => ∃ (k p : Nat) (cs : List (List UInt8)), p + g = x.size ∧ k ≤ p ∧ vi = .int .i64 k ∧ vt = .string (x.extract p x.size) ∧ Hid (good cs ∧ cs.flatten = x.data.toList.take p) ∧ wr.ownsRow W0.heap.size 3 1 vl (soFar (windowP a0) note cs).length ((soFar (windowP a0) note cs).map (Value.int .i64)) ∧ Below W0.heap.size W0 wr)
  case atStart =>
    refine ⟨0, 0, [], by omega, Nat.le_refl _, rfl, ?_, ⟨fun c hc => (by cases hc), rfl⟩, ho5, hB4⟩
    rw [extract_all x]
  case round =>
    obtain ⟨k, p, cs, hpg, hkp, rfl, rfl, HC, hown, hbw⟩ := hrel
    clear ho5 hB4
    have hsz := hbw.size
    have hlen := soFar_length (windowP a0) note cs
    have hcnt := good_count cs HC.out.1
    have hfl : cs.flatten.length ≤ p := by rw [HC.out.2]; exact List.length_take_le _ _
    have hn := HN.out
    have HL8 : Hid ((soFar (windowP a0) note cs).length % 8 = 0) := by rw [Hid, hlen]; omega
    have hLB : (soFar (windowP a0) note cs).length ≤ 100000000 := by omega
    have hes : (x.extract p x.size).size = x.size - p := by rw [ByteArray.size_extract]; omega
    clear hlen hcnt hfl hn
    by_cases hend : p < x.size
    · have hne := not_empty hend
      by_cases hk2 : k < len2
      · obtain ⟨ad, rfl, hbb, hcell⟩ := hrow (by omega)
        obtain ⟨hck, hz1, hz2⟩ := hcell k hk2
        have hck2 : wr.cell? (ad.add k) = some (.int .i64 (z2 k)) := (hbw.cell (p := ad.add k) (by rw [add_block]; exact hbb)).trans hck
        clear hcell hrow hck
        generalize z2 k = z at *
        have hpk := pickP_bounds z 4096 (by omega)
        have hPK := fun (W : World) => pick_any W z 4096 hz1 hz2 (by omega) (by omega)
        generalize pickP z 4096 = qi at *
        obtain ⟨q, rfl⟩ := Int.eq_ofNat_of_zero_le hpk.1
        by_cases hbig : x.size - p < 1 + q
        · go_wp2_with fail
          refine (hPK _).mono ?_
          rintro e X0 ⟨rfl, rfl⟩
          go_wp2_with fail
          refine (put_bits _ W0.heap.size _ _ 2 3 hown (by omega) (by omega) (by omega) (by omega) (by omega)).mono ?_
          rintro e X1 ⟨q1, rfl, hq1, hc1⟩
          have hd1 := hc1.size
          go_wp2_with fail
          refine (put_bits _ W0.heap.size _ _ _ 12 hq1 (by omega) (by omega) (by omega) (by omega) (by simp [numBits_length]; omega)).mono ?_
          rintro e X2 ⟨q2, rfl, hq2, hc2⟩
          have hd2 := hc2.size
          go_wp2_with fail
          refine (packed_any _ W0.heap.size _ _ _ hq2 (by omega) (by simp [numBits_length]; omega) (by rw [ByteArray.size_extract]; omega)).mono ?_
          rintro e X3 ⟨q3, rfl, hq3, hc3⟩
          have hd3 := hc3.size
          have hpn : p + (x.size - p) ≤ x.size := by omega
          have hcl := chunk_len hpn
          have ho6 : X3.ownsRow W0.heap.size 3 1 q3 (soFar (windowP a0) note (cs ++ [((x.extract p x.size).extract 0 (x.size - p)).data.toList])).length ((soFar (windowP a0) note (cs ++ [((x.extract p x.size).extract 0 (x.size - p)).data.toList])).map (Value.int .i64)) := by
            have e := pack_blk (soFar (windowP a0) note cs) ((x.extract p x.size).extract 0 (x.size - p)).data.toList HL8.out
            rw [hcl] at e
            rw [soFar_more, ← e]
            exact hq3
          clear hown hq1 hq2 hq3 hcl
          go_wp2
          go_roundg (gk - (x.size - p))
          case measure => omega
          case rel =>
            refine ⟨k + 1, p + (x.size - p), cs ++ [((x.extract p x.size).extract 0 (x.size - p)).data.toList], by omega, by omega, by go_num, ?_, ⟨good_more HC.out.1 ?_ ?_, chunk_more hpn HC.out.2⟩, ho6, hbw.trans ((hc1.trans hc2).trans hc3)⟩
            · rw [rest_none hpn]
            · have := chunk_len hpn
              intro e0
              rw [e0] at this
              rw [List.length_nil] at this
              omega
            · rw [chunk_len hpn]; omega
        · go_wp2_with fail
          refine (hPK _).mono ?_
          rintro e X0 ⟨rfl, rfl⟩
          go_wp2_with fail
          refine (put_bits _ W0.heap.size _ _ 2 3 hown (by omega) (by omega) (by omega) (by omega) (by omega)).mono ?_
          rintro e X1 ⟨q1, rfl, hq1, hc1⟩
          have hd1 := hc1.size
          go_wp2_with fail
          refine (put_bits _ W0.heap.size _ _ _ 12 hq1 (by omega) (by omega) (by omega) (by omega) (by simp [numBits_length]; omega)).mono ?_
          rintro e X2 ⟨q2, rfl, hq2, hc2⟩
          have hd2 := hc2.size
          go_wp2_with fail
          refine (packed_any _ W0.heap.size _ _ _ hq2 (by omega) (by simp [numBits_length]; omega) (by rw [ByteArray.size_extract]; omega)).mono ?_
          rintro e X3 ⟨q3, rfl, hq3, hc3⟩
          have hd3 := hc3.size
          have hpn : p + (1 + q) ≤ x.size := by omega
          have hcl := chunk_len hpn
          have ho6 : X3.ownsRow W0.heap.size 3 1 q3 (soFar (windowP a0) note (cs ++ [((x.extract p x.size).extract 0 (1 + q)).data.toList])).length ((soFar (windowP a0) note (cs ++ [((x.extract p x.size).extract 0 (1 + q)).data.toList])).map (Value.int .i64)) := by
            have e := pack_blk (soFar (windowP a0) note cs) ((x.extract p x.size).extract 0 (1 + q)).data.toList HL8.out
            rw [hcl] at e
            rw [soFar_more, ← e]
            exact hq3
          clear hown hq1 hq2 hq3 hcl
          go_wp2
          go_roundg (gk - (1 + q))
          case measure => omega
          case rel =>
            refine ⟨k + 1, p + (1 + q), cs ++ [((x.extract p x.size).extract 0 (1 + q)).data.toList], by omega, by omega, by go_num, ?_, ⟨good_more HC.out.1 ?_ ?_, chunk_more hpn HC.out.2⟩, ho6, hbw.trans ((hc1.trans hc2).trans hc3)⟩
            · rw [tail_more hpn rfl]
            · have := chunk_len hpn
              intro e0
              rw [e0] at this
              rw [List.length_nil] at this
              omega
            · rw [chunk_len hpn]; omega
      · by_cases hbig : x.size - p < 4096
        · have hsub : ((x.size - p : Nat) : Int) = (x.size - p : Nat) := rfl
          go_wp2_with fail
          refine (put_bits _ W0.heap.size _ _ 2 3 hown (by omega) (by omega) (by omega) (by omega) (by omega)).mono ?_
          rintro e X1 ⟨q1, rfl, hq1, hc1⟩
          have hd1 := hc1.size
          go_wp2_with fail
          refine (put_bits _ W0.heap.size _ _ _ 12 hq1 (by omega) (by omega) (by omega) (by omega) (by simp [numBits_length]; omega)).mono ?_
          rintro e X2 ⟨q2, rfl, hq2, hc2⟩
          have hd2 := hc2.size
          go_wp2_with fail
          refine (packed_any _ W0.heap.size _ _ _ hq2 (by omega) (by simp [numBits_length]; omega) (by rw [ByteArray.size_extract]; omega)).mono ?_
          rintro e X3 ⟨q3, rfl, hq3, hc3⟩
          have hd3 := hc3.size
          have hpn : p + (x.size - p) ≤ x.size := by omega
          have hcl := chunk_len hpn
          have ho6 : X3.ownsRow W0.heap.size 3 1 q3 (soFar (windowP a0) note (cs ++ [((x.extract p x.size).extract 0 (x.size - p)).data.toList])).length ((soFar (windowP a0) note (cs ++ [((x.extract p x.size).extract 0 (x.size - p)).data.toList])).map (Value.int .i64)) := by
            have e := pack_blk (soFar (windowP a0) note cs) ((x.extract p x.size).extract 0 (x.size - p)).data.toList HL8.out
            rw [hcl] at e
            rw [soFar_more, ← e]
            exact hq3
          clear hown hq1 hq2 hq3 hcl
          go_wp2
          go_roundg (gk - (x.size - p))
          case measure => omega
          case rel =>
            refine ⟨k + 1, p + (x.size - p), cs ++ [((x.extract p x.size).extract 0 (x.size - p)).data.toList], by omega, by omega, by go_num, ?_, ⟨good_more HC.out.1 ?_ ?_, chunk_more hpn HC.out.2⟩, ho6, hbw.trans ((hc1.trans hc2).trans hc3)⟩
            · rw [rest_none hpn]
            · have := chunk_len hpn
              intro e0
              rw [e0] at this
              rw [List.length_nil] at this
              omega
            · rw [chunk_len hpn]; omega
        · have hsub : True := trivial
          go_wp2_with fail
          refine (put_bits _ W0.heap.size _ _ 2 3 hown (by omega) (by omega) (by omega) (by omega) (by omega)).mono ?_
          rintro e X1 ⟨q1, rfl, hq1, hc1⟩
          have hd1 := hc1.size
          go_wp2_with fail
          refine (put_bits _ W0.heap.size _ _ _ 12 hq1 (by omega) (by omega) (by omega) (by omega) (by simp [numBits_length]; omega)).mono ?_
          rintro e X2 ⟨q2, rfl, hq2, hc2⟩
          have hd2 := hc2.size
          go_wp2_with fail
          refine (packed_any _ W0.heap.size _ _ _ hq2 (by omega) (by simp [numBits_length]; omega) (by rw [ByteArray.size_extract]; omega)).mono ?_
          rintro e X3 ⟨q3, rfl, hq3, hc3⟩
          have hd3 := hc3.size
          have hpn : p + 4096 ≤ x.size := by omega
          have hcl := chunk_len hpn
          have ho6 : X3.ownsRow W0.heap.size 3 1 q3 (soFar (windowP a0) note (cs ++ [((x.extract p x.size).extract 0 4096).data.toList])).length ((soFar (windowP a0) note (cs ++ [((x.extract p x.size).extract 0 4096).data.toList])).map (Value.int .i64)) := by
            have e := pack_blk (soFar (windowP a0) note cs) ((x.extract p x.size).extract 0 4096).data.toList HL8.out
            rw [hcl] at e
            rw [soFar_more, ← e]
            exact hq3
          clear hown hq1 hq2 hq3 hcl
          go_wp2
          go_roundg (gk - 4096)
          case measure => omega
          case rel =>
            refine ⟨k + 1, p + 4096, cs ++ [((x.extract p x.size).extract 0 4096).data.toList], by omega, by omega, by go_num, ?_, ⟨good_more HC.out.1 ?_ ?_, chunk_more hpn HC.out.2⟩, ho6, hbw.trans ((hc1.trans hc2).trans hc3)⟩
            · rw [tail_more hpn rfl]
            · have := chunk_len hpn
              intro e0
              rw [e0] at this
              rw [List.length_nil] at this
              omega
            · rw [chunk_len hpn]; omega
    · have hem := is_empty hend
      have hpx : p = x.size := by omega
      have HF : Hid (cs.flatten = x.data.toList) := by
        rw [Hid, HC.out.2, hpx]
        exact List.take_of_length_le (by simp)
      clear hrow
      go_wp2_with fail
      refine (put_bits _ W0.heap.size _ _ 1 3 hown (by omega) (by omega) (by omega) (by omega) (by omega)).mono ?_
      rw [soFar_end]
      rintro e Y1 ⟨y1, rfl, ho6, hc1⟩
      have hd1 := hc1.size
      go_wp2_with fail
      refine (bits_any _ W0.heap.size _ _ ho6 (plain_bits _ _ _) ?n1 ?n2).mono ?_
      case n1 =>
        rw [← soFar_end]
        intro e0
        have := congrArg List.length e0
        rw [List.length_append, numBits_length] at this
        simp at this
      case n2 =>
        rw [← soFar_end, List.length_append, numBits_length]
        omega
      rintro e Y2 ⟨rfl, hc2⟩
      have hS := bytes_of_bits (plainBits (windowP a0) note cs)
      have hz : (outStr ((List.range (((plainBits (windowP a0) note cs).length + 7) / 8)).map (byteAt (plainBits (windowP a0) note cs) (plainBits (windowP a0) note cs).length))).size ≤ 200000000 := by
        rw [outStr_sz, List.length_map, List.length_range, ← soFar_end, List.length_append, numBits_length]
        omega
      generalize outStr ((List.range (((plainBits (windowP a0) note cs).length + 7) / 8)).map (byteAt (plainBits (windowP a0) note cs) (plainBits (windowP a0) note cs).length)) = S at *
      have g1 := plain_dec (windowP a0) note cs x S wb.1 wb.2 HN.out HC.out.1 HF.out hS
      clear hS ho6 hown
      have hd2 := hc2.size
      go_wp2_with fail
      refine (Decode_any _ S (by omega)).mono ?_
      rw [g1.1, g1.2]
      rintro e Y3 ⟨rfl, hc3⟩
      clear g1
      go_wp2
      go_ret
      exact ⟨rfl, (hbw.trans (hc1.trans (hc2.mono (by omega)))).trans (hc3.mono (by omega))⟩
end Go.Proofs.Ytmpfgdmdnghhgaa
