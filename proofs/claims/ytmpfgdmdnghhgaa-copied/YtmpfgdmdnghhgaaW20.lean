import Derived.Test.YtmpfgdmdnghhgaaW19
namespace Go.Proofs.Ytmpfgdmdnghhgaa
open Go.RowKit Wr

def copiedBits (w x y k d z : Int) : List Int :=
  ((((((((((([] ++ numBits w 4) ++ numBits 5 3) ++ numBits z 12) ++ numBits 0 1) ++ numBits 2 2) ++ numBits x 9) ++ numBits y 9) ++ numBits (256 + k) 9) ++ numBits 0 3) ++ numBits d 4) ++ [0, 1, 0, 1, 1])

theorem copiedBits_length (w x y k d z : Int) : (copiedBits w x y k d z).length = 61 := by simp [copiedBits, numBits_length]
theorem isBits_append {a b : List Int} (ha : isBits a) (hb : isBits b) : isBits (a ++ b) := by
  intro x hx
  rcases List.mem_append.1 hx with h | h
  · exact ha x h
  · exact hb x h
theorem copiedBits_bits (w x y k d z : Int) : isBits (copiedBits w x y k d z) := by
  unfold copiedBits
  repeat (first | exact numBits_isBits _ _ | refine isBits_append ?_ ?_)
  all_goals first | exact numBits_isBits _ _ | (intro b hb; simp at hb; omega) | (intro b hb; simp at hb)
theorem copiedBits_val (w x y k d z : Int) (w0 : 0 ≤ w) (w8 : w ≤ 8) (x0 : 0 ≤ x) (xy : x < y) (y1 : y ≤ 255) (k0 : 0 ≤ k) (k7 : k ≤ 7) (d0 : 0 ≤ d) (d2 : d ≤ 2) (z0 : 3 ≤ z) (z1 : z ≤ 20) :
    Wr.valOf (copiedBits w x y k d z) = copiedVal w x y k d z := by
  have e5 : Wr.valOf [0, 1, 0, 1, 1] = 26 := rfl
  unfold copiedBits
  simp only [valOf_append, List.length_append, numBits_length, List.length_nil, e5]
  rw [valOf_num_lt w0 (show w < 2 ^ 4 by show w < 16; omega), valOf_num_lt (show (0 : Int) ≤ 5 by omega) (show (5 : Int) < 2 ^ 3 by decide), valOf_num_lt (show 0 ≤ z by omega) (show z < 2 ^ 12 by show z < 4096; omega),
    valOf_num_lt (show (0 : Int) ≤ 0 by omega) (show (0 : Int) < 2 ^ 1 by decide), valOf_num_lt (show (0 : Int) ≤ 2 by omega) (show (2 : Int) < 2 ^ 2 by decide), valOf_num_lt x0 (show x < 2 ^ 9 by show x < 512; omega),
    valOf_num_lt (show 0 ≤ y by omega) (show y < 2 ^ 9 by show y < 512; omega), valOf_num_lt (show 0 ≤ 256 + k by omega) (show 256 + k < 2 ^ 9 by show 256 + k < 512; omega), valOf_num_lt (show (0 : Int) ≤ 0 by omega) (show (0 : Int) < 2 ^ 3 by decide),
    valOf_num_lt d0 (show d < 2 ^ 4 by show d < 16; omega)]
  unfold copiedVal
  show 0 + 1 * w + 16 * 5 + 128 * z + 524288 * 0 + 1048576 * 2 + 4194304 * x + 2147483648 * y + 1099511627776 * (256 + k) + 562949953421312 * 0 + 4503599627370496 * d + 72057594037927936 * 26 =
    w + 16 * (5 + 8 * (z + 4096 * (0 + 2 * (2 + 4 * (x + 512 * (y + 512 * (256 + k + 512 * (0 + 2 * (0 + 4 * (d + 16 * 26))))))))))
  omega

set_option maxHeartbeats 4000000 in
theorem copied_any (w : World) (w' x y k d z : Int) (w0 : 0 ≤ w') (w8 : w' ≤ 8) (x0 : 0 ≤ x) (xy : x < y) (y1 : y ≤ 255) (k0 : 0 ≤ k) (k7 : k ≤ 7) (d0 : 0 ≤ d) (d2 : d ≤ 2) (z0 : 3 ≤ z) (z1 : z ≤ 20) :
    Calls Try.prog 17 #[.int .i64 w', .int .i64 x, .int .i64 y, .int .i64 k, .int .i64 d, .int .i64 (z + 1)] w fun e w1 =>
      ∃ S : ByteArray, e = .returned (.string S) ∧ S.size = 8 ∧ S.data.toList = bytesOf (copiedVal w' x y k d z) 8 ∧ Below w.heap.size w w1 := by
  obtain ⟨i0, hi, hz0, hz1, hz2⟩ := info_parts info_int
  have HI : Hid (Try.prog.info? 3 = some i0 ∧ i0.zero = some (.int .i64 0) ∧ i0.size = 1 ∧ i0.bytes = 8) := ⟨hi, hz0, hz1, hz2⟩
  clear hi hz0 hz1 hz2
  have ho0 : w.ownsRow w.heap.size 3 1 (.slice none 0 0) ([] : List Int).length (([] : List Int).map (Value.int .i64)) := World.ownsRow_nil _ _ _ _
  have hs0 : w.heap.size ≤ w.heap.size := Nat.le_refl _
  have ez : z + 1 - 1 = z := by omega
  go_enter Try.func17, Try.ntmps17
  go_wp2_with fail
  refine (put_bits _ w.heap.size _ [] w' 4 ho0 (by omega) w0 (by omega) (by omega) (by simp)).mono ?_
  rintro e W1 ⟨v1, rfl, ho1, hb1⟩
  have hs1 := hb1.size
  go_wp2_with fail
  refine (put_bits _ w.heap.size _ ([] ++ numBits w' 4) 5 3 ho1 (by omega) (by omega) (by omega) (by omega) (by simp [numBits_length])).mono ?_
  rintro e W2 ⟨v2, rfl, ho2, hb2⟩
  have hs2 := hb2.size
  go_wp2_with fail
  refine (put_bits _ w.heap.size _ (([] ++ numBits w' 4) ++ numBits 5 3) z 12 ho2 (by omega) (by omega) (by omega) (by omega) (by simp [numBits_length])).mono ?_
  rintro e W3 ⟨v3, rfl, ho3, hb3⟩
  have hs3 := hb3.size
  go_wp2_with fail
  refine (put_bits _ w.heap.size _ ((([] ++ numBits w' 4) ++ numBits 5 3) ++ numBits z 12) 0 1 ho3 (by omega) (by omega) (by omega) (by omega) (by simp [numBits_length])).mono ?_
  rintro e W4 ⟨v4, rfl, ho4, hb4⟩
  have hs4 := hb4.size
  go_wp2_with fail
  refine (put_bits _ w.heap.size _ (((([] ++ numBits w' 4) ++ numBits 5 3) ++ numBits z 12) ++ numBits 0 1) 2 2 ho4 (by omega) (by omega) (by omega) (by omega) (by simp [numBits_length])).mono ?_
  rintro e W5 ⟨v5, rfl, ho5, hb5⟩
  have hs5 := hb5.size
  go_wp2_with fail
  refine (put_bits _ w.heap.size _ ((((([] ++ numBits w' 4) ++ numBits 5 3) ++ numBits z 12) ++ numBits 0 1) ++ numBits 2 2) x 9 ho5 (by omega) x0 (by omega) (by omega) (by simp [numBits_length])).mono ?_
  rintro e W6 ⟨v6, rfl, ho6, hb6⟩
  have hs6 := hb6.size
  go_wp2_with fail
  refine (put_bits _ w.heap.size _ (((((([] ++ numBits w' 4) ++ numBits 5 3) ++ numBits z 12) ++ numBits 0 1) ++ numBits 2 2) ++ numBits x 9) y 9 ho6 (by omega) (by omega) (by omega) (by omega) (by simp [numBits_length])).mono ?_
  rintro e W7 ⟨v7, rfl, ho7, hb7⟩
  have hs7 := hb7.size
  go_wp2_with fail
  refine (put_bits _ w.heap.size _ ((((((([] ++ numBits w' 4) ++ numBits 5 3) ++ numBits z 12) ++ numBits 0 1) ++ numBits 2 2) ++ numBits x 9) ++ numBits y 9) (256 + k) 9 ho7 (by omega) (by omega) (by omega) (by omega) (by simp [numBits_length])).mono ?_
  rintro e W8 ⟨v8, rfl, ho8, hb8⟩
  have hs8 := hb8.size
  go_wp2_with fail
  refine (put_bits _ w.heap.size _ (((((((([] ++ numBits w' 4) ++ numBits 5 3) ++ numBits z 12) ++ numBits 0 1) ++ numBits 2 2) ++ numBits x 9) ++ numBits y 9) ++ numBits (256 + k) 9) 0 3 ho8 (by omega) (by omega) (by omega) (by omega) (by simp [numBits_length])).mono ?_
  rintro e W9 ⟨v9, rfl, ho9, hb9⟩
  have hs9 := hb9.size
  go_wp2_with fail
  refine (put_bits _ w.heap.size _ ((((((((([] ++ numBits w' 4) ++ numBits 5 3) ++ numBits z 12) ++ numBits 0 1) ++ numBits 2 2) ++ numBits x 9) ++ numBits y 9) ++ numBits (256 + k) 9) ++ numBits 0 3) d 4 ho9 (by omega) d0 (by omega) (by omega) (by simp [numBits_length])).mono ?_
  rintro e W10 ⟨v10, rfl, ho10, hb10⟩
  have hs10 := hb10.size
  have hB := ((((((((hb1.trans hb2).trans hb3).trans hb4).trans hb5).trans hb6).trans hb7).trans hb8).trans hb9).trans hb10
  clear ho0 ho1 ho2 ho3 ho4 ho5 ho6 ho7 ho8 ho9 hb1 hb2 hb3 hb4 hb5 hb6 hb7 hb8 hb9 hb10
  have HLen : Hid (((((((((((([] ++ numBits w' 4) ++ numBits 5 3) ++ numBits z 12) ++ numBits 0 1) ++ numBits 2 2) ++ numBits x 9) ++ numBits y 9) ++ numBits (256 + k) 9) ++ numBits 0 3) ++ numBits d 4)).length = 56) := by simp [Hid, numBits_length]
  have HB := copiedBits_bits w' x y k d z
  have HN := copiedBits_length w' x y k d z
  have HV := copiedBits_val w' x y k d z w0 w8 x0 xy y1 k0 k7 d0 d2 z0 z1
  have HE : Hid (copiedBits w' x y k d z = (((((((((([] ++ numBits w' 4) ++ numBits 5 3) ++ numBits z 12) ++ numBits 0 1) ++ numBits 2 2) ++ numBits x 9) ++ numBits y 9) ++ numBits (256 + k) 9) ++ numBits 0 3) ++ numBits d 4) ++ [0, 1, 0, 1, 1]) := rfl
  generalize (((((((((([] ++ numBits w' 4) ++ numBits 5 3) ++ numBits z 12) ++ numBits 0 1) ++ numBits 2 2) ++ numBits x 9) ++ numBits y 9) ++ numBits (256 + k) 9) ++ numBits 0 3) ++ numBits d 4) = M at *
  go_wp2_with (first
    | (at_builtin; refine wpList_append_own _ rfl _ _ 29 rfl w.heap.size 3 i0 (.int .i64 0) 1 8 Try.underlying29 HI.out.1 HI.out.2.1 HI.out.2.2.1 HI.out.2.2.2 rfl (by decide) _ _ _ rfl (ho10.alloc _) ⟨W10.heap.size, 0, none⟩ 5 5 [.int .i64 0, .int .i64 1, .int .i64 0, .int .i64 1, .int .i64 1] rfl rfl ?c1 ?c2 ?c3 ?c4 ?c5 ?_)
    | (go_at_call 15; fail))
  case c1 =>
    intro j u hj
    match j, hj with
    | 0, hj => simp at hj; subst hj; simp [Addr.add]
    | 1, hj => simp at hj; subst hj; simp [Addr.add]
    | 2, hj => simp at hj; subst hj; simp [Addr.add]
    | 3, hj => simp at hj; subst hj; simp [Addr.add]
    | 4, hj => simp at hj; subst hj; simp [Addr.add]
  case c2 => intro u hu; simp at hu; rcases hu with rfl | rfl | rfl | rfl <;> rfl
  case c3 => rw [HLen.out]; unfold maxLen; omega
  case c4 => rw [HLen.out]; omega
  case c5 => simp; omega
  · intro v' W11 hown' hgrow _
    have hb11 : Below w.heap.size w W11 := (hB.alloc (by omega) _).grown hgrow (by simp; omega) (owns_above ho10)
    have ho11 : W11.ownsRow w.heap.size 3 1 v' (copiedBits w' x y k d z).length ((copiedBits w' x y k d z).map (Value.int .i64)) := by
      rw [HE.out, List.length_append, List.map_append]
      exact hown'
    have hbits := bits_any W11 w.heap.size v' (copiedBits w' x y k d z) ho11 HB (by intro e; rw [e] at HN; cases HN) (by omega)
    have hbo := bytes_of_bits (copiedBits w' x y k d z)
    rw [HN] at hbits hbo
    rw [HV] at hbo
    have HO : Hid ((outStr ((List.range ((61 + 7) / 8)).map (byteAt (copiedBits w' x y k d z) 61))).data.toList = bytesOf (copiedVal w' x y k d z) 8) := hbo
    generalize outStr ((List.range ((61 + 7) / 8)).map (byteAt (copiedBits w' x y k d z) 61)) = S at *
    clear hown' hgrow ho10 hbo ho11 HB HN HV HE HLen ez
    have hs11 := hb11.size
    go_wp2_with (go_at_call 15; refine hbits.mono ?_; rintro e W12 ⟨rfl, hb12⟩)
    go_ret
    refine ⟨S, rfl, ?_, HO.out, hb11.trans (hb12.mono hs11)⟩
    have := congrArg List.length HO.out
    rw [bytesOf_length] at this
    simpa using this
end Go.Proofs.Ytmpfgdmdnghhgaa
