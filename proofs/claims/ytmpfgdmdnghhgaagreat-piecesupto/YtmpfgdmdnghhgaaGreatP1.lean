import Derived.Test.YtmpfgdmdnghhgaaGreatQ4
import Derived.Test.YtmpfgdmdnghhgaaGreatD1
namespace Go.Proofs.YtmpfgdmdnghhgaaGreat
open Go.RowKit Wr

/-- the reader behind these bytes -/
def rdL (l : List UInt8) : Rd := emptied (feed initRd l)
theorem rdL_ok (l : List UInt8) (hs : l.length ≤ 134217728) : Wr.Rest (rdL l) ∧ psi (rdL l) ≤ 1099511627776 ∧ (rdL l).out = [] := by
  obtain ⟨h1, h2⟩ := feed_rest l initRd init_rest
  have h3 := emptied_psi (feed initRd l)
  have h4 : psi initRd = 0 := rfl
  refine ⟨emptied_rest h1, ?_, rfl⟩
  show psi (emptied (feed initRd l)) ≤ _
  omega
theorem rdL_piece (a b : List UInt8) : outStr (feed initRd a).out ++ outStr (feed (rdL a) b).out = outStr (feed initRd (a ++ b)).out ∧ emptied (feed (rdL a) b) = rdL (a ++ b) := by
  have hp := feed_piece a b
  unfold rdL
  rw [← outStr_cat, hp.1, hp.2]
  exact ⟨rfl, rfl⟩
theorem feedL_size (l : List UInt8) : (outStr (feed initRd l).out).size ≤ 4096 * l.length + 4096 := by
  obtain ⟨h1, h2⟩ := feed_rest l initRd init_rest
  have h3 : psi initRd = 0 := rfl
  have n0 := h1.1.1.n0
  have l0 := h1.1.1.l0
  rw [outStr_sz]
  rw [h3] at h2
  unfold psi at h2
  omega
theorem rest_list (S : ByteArray) (p : Nat) : (S.extract p S.size).data.toList = S.data.toList.drop p := by
  rw [Lib.extract_data]
  exact List.take_of_length_le (by rw [List.length_drop]; simp)
theorem rest_size (S : ByteArray) (p : Nat) : (S.extract p S.size).size = S.size - p := by rw [ByteArray.size_extract]; omega
theorem rest_chunk (S : ByteArray) (p n : Nat) : ((S.extract p S.size).extract 0 n).data.toList = (S.data.toList.drop p).take n := by
  rw [Lib.extract_data, List.drop_zero, Nat.sub_zero, rest_list]
theorem take_chunk (S : ByteArray) (p n : Nat) : S.data.toList.take p ++ (S.data.toList.drop p).take n = S.data.toList.take (p + n) := (List.take_add).symm
theorem rest_rest (S : ByteArray) {p n : Nat} (h : p + n ≤ S.size) : (S.extract p S.size).extract n (S.extract p S.size).size = S.extract (p + n) S.size := by
  rw [rest_size]
  exact tail_more h rfl
theorem add_blk (ad : Addr) (k : Nat) : (ad.add k).block = ad.block := by unfold Addr.add; split <;> rfl
theorem nil_list {x : ByteArray} (h : ¬ 0 < x.size) : x.toList.isEmpty = true := by
  rw [Lib.toList_data]
  have h1 : x.data.toList.length = x.size := by simp
  rw [List.eq_nil_of_length_eq_zero (show x.data.toList.length = 0 by omega)]
  rfl

set_option maxHeartbeats 400000 in
theorem pick_big (w : World) (c n : Int) (h1 : -9223372036854775808 ≤ c) (h2 : c ≤ 9223372036854775807) (h3 : 1 ≤ n) (h4 : n ≤ 1099511627776) :
    Calls Tryz.prog 12 #[.int .i64 c, .int .i64 n] w fun e w' => e = .returned (.int .i64 (pickP c n)) ∧ w' = w := by
  by_cases hc : c < 0
  · have HE : Hid (pickP c n = -((c + 1).tmod n)) := by
      rw [Hid, pickP, if_pos hc, ← Int.neg_tmod, Int.tmod_eq_emod_of_nonneg (by omega)]
    go_enter Tryz.func12, Tryz.ntmps12
    go_wp2
    go_ret
    rw [HE.out]
    exact ⟨rfl, rfl⟩
  · have HE : Hid (pickP c n = c % n) := by rw [Hid, pickP, if_neg hc]
    go_enter Tryz.func12, Tryz.ntmps12
    go_wp2
    go_ret
    rw [HE.out]
    exact ⟨rfl, rfl⟩

/-- a slice of numbers -/
def IsInts (W : World) (a : Option Addr) (len : Nat) (z : Nat → Int) : Prop :=
  len ≤ 9223372036854775807 ∧ (0 < len → ∃ ad, a = some ad ∧ ad.block < W.heap.size ∧ ∀ i, i < len → W.cell? (ad.add i) = some (.int .i64 (z i)) ∧ -9223372036854775808 ≤ z i ∧ z i ≤ 9223372036854775807)

set_option maxRecDepth 100000 in
set_option maxHeartbeats 1000000 in
theorem cut_any (w : World) (S : ByteArray) (a : Option Addr) (len cap : Nat) (z : Nat → Int) (hz : IsInts w a len z) (hS : S.size ≤ 67108864) (want : ByteArray) (e : Int) (hw : outStr (feed initRd S.data.toList).out = want) (he : errno (feed initRd S.data.toList) = e) :
    Calls Tryz.prog 11 #[.string S, .slice a len cap, .string want, .int .i64 e] w fun e w' => e = .returned (.bool true) ∧ Below w.heap.size w w' := by
  have hlS : S.data.toList.length = S.size := by simp
  go_enter Tryz.func11, Tryz.ntmps11
  go_wp2_with (first
    | (go_at_call 15; refine (NewDecoder_any _).mono ?_; rintro e w1 ⟨dq, db, rfl, hd0, hdq, hr1, hd1, hB1⟩))
  go_loopw [0, 10, 11] (fun vs vo vi wr => ∃ (n p : Nat), n ≤ len ∧ p ≤ S.size ∧ vi = .int .i64 n ∧ vs = .string (S.extract p S.size) ∧ vo = .string (outStr (feed initRd (S.data.toList.take p)).out) ∧ DecAt wr dq (some db) 0 ∧ Row wr db (rdL (S.data.toList.take p)) (.slice none 0 0) ∧ Below w.heap.size w wr) (fun _ _ vi _ => len - (intOf vi).toNat)
  case atStart =>
    refine ⟨0, 0, by omega, by omega, rfl, ?_, rfl, hd1, hr1, hB1⟩
    have : S.extract 0 S.size = S := by simp
    rw [this]
  case round =>
    obtain ⟨n, p, hn, hp, rfl, rfl, rfl, hdn, hrn, hBn⟩ := hrel
    clear hd1 hr1 hB1
    have htl : (S.data.toList.take p).length = p := by rw [List.length_take]; omega
    have hrs := rest_size S p
    have hO1 := feedL_size (S.data.toList.take p)
    by_cases hgo : n < len ∧ p < S.size
    · obtain ⟨ad, rfl, hbb, hcell⟩ := hz.2 (by omega)
      obtain ⟨c1, c2, c3⟩ := hcell n hgo.1
      have y1 : wr.cell? (ad.add n) = some (.int .i64 (z n)) := (hBn.cell (p := ad.add n) (by rw [add_blk]; exact hbb)).trans c1
      have hpb := pickP_bounds (z n) (((S.size - p : Nat) : Int) + 1) (by omega)
      have hPk := fun W => pick_big W (z n) (((S.size - p : Nat) : Int) + 1) c2 c3 (by omega) (by omega)
      obtain ⟨m, hm⟩ := Int.eq_ofNat_of_zero_le hpb.1
      rw [hm] at hPk hpb
      have hmp : p + m ≤ S.size := by omega
      have hsome := some_bytes (x := S.extract p S.size) (by omega)
      obtain ⟨k1, k2, k3⟩ := rdL_ok (S.data.toList.take p) (by omega)
      have hcz : ((S.extract p S.size).extract 0 m).size = m := by rw [ByteArray.size_extract]; omega
      have hFd := fun (W : World) (hd : DecAt W dq (some db) 0) (hr : Row W db (rdL (S.data.toList.take p)) (.slice none 0 0)) => Feed_open hd (by omega) hr k3 k1 ((S.extract p S.size).extract 0 m) (by omega) k2
      rw [rest_chunk] at hFd
      obtain ⟨r1, r2⟩ := rdL_piece (S.data.toList.take p) ((S.data.toList.drop p).take m)
      rw [take_chunk] at r1 r2
      rw [r2] at hFd
      have hO2 := feedL_size (S.data.toList.take (p + m))
      have htl2 : (S.data.toList.take (p + m)).length = p + m := by rw [List.length_take]; omega
      have hrr := rest_rest S hmp
      have hkt : (outStr (feed initRd (S.data.toList.take p)).out).size + (outStr (feed (rdL (S.data.toList.take p)) ((S.data.toList.drop p).take m)).out).size ≤ 9223372036854775807 := by
        have := congrArg ByteArray.size r1
        rw [ByteArray.size_append] at this
        omega
      have hme : m ≤ (S.extract p S.size).size := by omega
      have hln := hz.1
      generalize outStr (feed initRd (S.data.toList.take p)).out = O1 at *
      generalize outStr (feed (rdL (S.data.toList.take p)) ((S.data.toList.drop p).take m)).out = A1 at *
      clear k1 k2 k3 r2 hcell c1 hm hO1 hO2 htl htl2
      generalize S.extract p S.size = R at *
      go_wp2_with (first
        | (go_at_call 12; refine (hPk _).mono ?_; rintro e w9 ⟨rfl, rfl⟩)
        | (go_at_call 17; refine (hFd _ hdn hrn).mono ?_; rintro e w5 ⟨rfl, hr5, hd5, ho5⟩))
      exact ⟨⟨n + 1, p + m, by omega, hmp, by go_num, by rw [← hrs, hrr], rfl, hd5, hr5, hBn.trans ⟨ho5.os, ho5.tape, ho5.output, ho5.size, fun i hi => ho5.block i (Nat.lt_of_lt_of_le hi hBn.size) (by omega)⟩⟩, by simp [intOf]; omega⟩
    · obtain ⟨k1, k2, k3⟩ := rdL_ok (S.data.toList.take p) (by omega)
      have hFd := fun (W : World) (hd : DecAt W dq (some db) 0) (hr : Row W db (rdL (S.data.toList.take p)) (.slice none 0 0)) => Feed_open hd (by omega) hr k3 k1 (S.extract p S.size) (by omega) k2
      rw [rest_list] at hFd
      obtain ⟨r1, r2⟩ := rdL_piece (S.data.toList.take p) (S.data.toList.drop p)
      rw [List.take_append_drop] at r1 r2
      rw [r2] at hFd
      have HER : Hid (errno (rdL S.data.toList) = e) := by rw [Hid, ← he]; exact errno_emptied _
      have hO2 := feedL_size S.data.toList
      have hkt : (outStr (feed initRd (S.data.toList.take p)).out).size + (outStr (feed (rdL (S.data.toList.take p)) (S.data.toList.drop p)).out).size ≤ 9223372036854775807 := by
        have := congrArg ByteArray.size r1
        rw [ByteArray.size_append] at this
        omega
      rw [hw] at r1
      have hnl : ¬ 0 < (S.extract p S.size).size → (S.extract p S.size).toList.isEmpty = true := nil_list
      have hnp : n < len → ¬ 0 < (S.extract p S.size).size := fun h1 h2 => hgo ⟨h1, by omega⟩
      generalize outStr (feed initRd (S.data.toList.take p)).out = O1 at *
      generalize outStr (feed (rdL (S.data.toList.take p)) (S.data.toList.drop p)).out = A1 at *
      clear k1 k2 k3 r2 hO1 hO2 htl hw he hgo hrs
      generalize S.extract p S.size = R at *
      by_cases hl : n < len
      · have hem := hnl (hnp hl)
        clear hnl hnp
        go_wp2_with (first
          | (go_at_call_of 17 (Value.string R); first | (refine (hFd _ hdn hrn).mono ?_; rintro e w5 ⟨rfl, hr5, hd5, ho5⟩) | (refine (Feed_closed hd6 R).mono ?_; rintro e w7 ⟨rfl, rfl⟩))
          | (go_at_call 24; first | (refine (Close_open hd5 hr5).mono ?_; rintro e w6 ⟨rfl, hd6, ho6⟩; rw [HER.out] at hd6; rw [HER.out]) | (refine (Close_closed hd6).mono ?_; rintro e w8 ⟨rfl, rfl⟩)))
        go_ret
        have z5 := ho5.size
        have m5 : Below w.heap.size w w5 := hBn.trans ⟨ho5.os, ho5.tape, ho5.output, ho5.size, fun i hi => ho5.block i (Nat.lt_of_lt_of_le hi hBn.size) (by omega)⟩
        exact ⟨rfl, m5.trans ⟨ho6.os, ho6.tape, ho6.output, ho6.size, fun i hi => ho6.block i (Nat.lt_of_lt_of_le hi m5.size) (by omega)⟩⟩
      · clear hnl hnp
        go_wp2_with (first
          | (go_at_call_of 17 (Value.string R); first | (refine (hFd _ hdn hrn).mono ?_; rintro e w5 ⟨rfl, hr5, hd5, ho5⟩) | (refine (Feed_closed hd6 R).mono ?_; rintro e w7 ⟨rfl, rfl⟩))
          | (go_at_call 24; first | (refine (Close_open hd5 hr5).mono ?_; rintro e w6 ⟨rfl, hd6, ho6⟩; rw [HER.out] at hd6; rw [HER.out]) | (refine (Close_closed hd6).mono ?_; rintro e w8 ⟨rfl, rfl⟩)))
        go_ret
        have z5 := ho5.size
        have m5 : Below w.heap.size w w5 := hBn.trans ⟨ho5.os, ho5.tape, ho5.output, ho5.size, fun i hi => ho5.block i (Nat.lt_of_lt_of_le hi hBn.size) (by omega)⟩
        exact ⟨rfl, m5.trans ⟨ho6.os, ho6.tape, ho6.output, ho6.size, fun i hi => ho6.block i (Nat.lt_of_lt_of_le hi m5.size) (by omega)⟩⟩
end Go.Proofs.YtmpfgdmdnghhgaaGreat
