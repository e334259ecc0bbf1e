import Derived.Test.YtkdhhchikglgjaaR15
import Derived.Test.YtkdhhchikglgjaaRefP19
import Derived.Test.YtkdhhchikglgjaaW17
import Derived.Deep.RegionWith
namespace Go.Proofs.Ytkdhhchikglgjaa
open Go.RowKit Wr

set_option maxRecDepth 100000 in
set_option maxHeartbeats 1000000 in
theorem Rdecode_any (w : World) (S : ByteArray) (hs : S.size ≤ 268435456) :
    Calls Try.prog 8 #[.string S] w fun e w' => e = .returned (.tuple #[.string (outStr (readD S).out), .int .i64 (readV S)]) ∧ Below w.heap.size w w' := by
  have hR := fun (W : World) => Rread_any W S hs
  generalize outStr (readD S).out = T at *
  generalize readV S = V at *
  generalize (readD S).x.w = ww at *
  generalize ((readR S).1 && ((readD S).x.state == 1)) = eb at *
  go_enter Try.func8, Try.ntmps8
  go_wp2_with (first
    | (go_at_call 25; refine (hR _).mono ?_; rintro e w1 ⟨vn, rfl, hown, hb1⟩; obtain ⟨na, nc, rfl⟩ := owns_slice hown))
  go_region
  all_goals
    go_wp2
    go_ret2
    refine ⟨rfl, ?_⟩
    first
      | exact (hb1.alloc hb1.size _).drew
      | exact ((below_alloc w _).trans (hb1.mono (by simp))).drew

set_option maxHeartbeats 400000 in
theorem num_any (w : World) (n : Int) (_h0 : 0 ≤ n) (_h1 : n ≤ 6) : Calls Try.prog 9 #[.int .i64 n] w fun e w' => e = .returned (.int .i64 n) ∧ w' = w := by
  go_enter Try.func9, Try.ntmps9
  go_wp2
  go_ret
  exact ⟨rfl, rfl⟩

def exBytes : ByteArray := ⟨#[208, 3, 96, 24, 49, 3, 17, 26]⟩
theorem ex_read : outStr (feed initRd exBytes.data.toList).out = ⟨#[97, 98, 97, 98, 97, 98, 97, 98]⟩ ∧ errno (feed initRd exBytes.data.toList) = 0 := by
  constructor
  · kernel_rfl
  · kernel_rfl
theorem dec_doc (S : ByteArray) : outStr (feed initRd S.data.toList).out = outStr (readD S).out ∧ errno (feed initRd S.data.toList) = readV S := by
  have h1 := feed_full S.data.toList
  have h2 := doc_eq S
  rw [h1.1, h1.2, h2.1, h2.2]
  exact ⟨rfl, rfl⟩
theorem readV_bounds (S : ByteArray) : 0 ≤ readV S ∧ readV S ≤ 3 := by
  rw [← (doc_eq S).2]
  unfold errnoBig
  repeat' split
  all_goals omega

set_option maxRecDepth 100000 in
set_option maxHeartbeats 1000000 in
theorem Decodes_any (w : World) (S : ByteArray) (hs : S.size ≤ 268435456) :
    Calls Try.prog 3 #[.string S] w fun e w' => e = .returned (.bool true) ∧ Below w.heap.size w w' := by
  have hE := fun (W : World) => Decode_any W exBytes (by decide)
  rw [ex_read.1, ex_read.2] at hE
  have hD := fun (W : World) => Decode_any W S hs
  rw [(dec_doc S).1, (dec_doc S).2] at hD
  have hR := fun (W : World) => Rdecode_any W S hs
  have vb := readV_bounds S
  have hN := fun (W : World) => num_any W (readV S) vb.1 (by omega)
  generalize outStr (readD S).out = T at *
  generalize readV S = V at *
  go_enter Try.func3, Try.ntmps3
  go_wp2_with (first
    | (go_at_call 9; refine (hN _).mono ?_; rintro e w4 ⟨rfl, rfl⟩)
    | (go_at_call 8; refine (hR _).mono ?_; rintro e w3 ⟨rfl, b3⟩)
    | (go_at_call_of 7 (Value.string S); refine (hD _).mono ?_; rintro e w2 ⟨rfl, b2⟩)
    | (go_at_call 7; refine (hE _).mono ?_; rintro e w1 ⟨rfl, b1⟩))
  go_ret
  exact ⟨rfl, (b1.trans (b2.mono b1.size)).trans (b3.mono (Nat.le_trans b1.size b2.size))⟩
end Go.Proofs.Ytkdhhchikglgjaa
