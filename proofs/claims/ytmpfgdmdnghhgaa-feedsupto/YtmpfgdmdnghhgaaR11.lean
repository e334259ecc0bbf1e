import Derived.Test.YtmpfgdmdnghhgaaR10
import Derived.Test.YtmpfgdmdnghhgaaBitsP
namespace Go.Proofs.Ytmpfgdmdnghhgaa
open Go.RowKit Wr

theorem conv1r (W : World) (u : Int) : (convert 37 9 (.slice (some ⟨W.heap.size, 0, none⟩) 1 1)).run Try.prog (W.alloc (.cells #[.int .u8 u] 5)) = .ok (.string (outStr [u])) (W.alloc (.cells #[.int .u8 u] 5)) :=
  run_out (B := 0) (l := [u]) ⟨rfl, Or.inr ⟨W.heap.size, 1, #[.int .u8 u], rfl, Nat.zero_le _, heap_alloc_new W _, Nat.le_refl _, by unfold maxLen; show 1 ≤ _; omega, rfl, rfl⟩⟩
theorem outStr_push (l : List Int) (c : Int) : outStr l ++ outStr [c] = outStr (l ++ [c]) := by
  apply bytes_ext
  rw [app_list, outStr_list, outStr_list, outStr_list, List.map_append]
theorem outStr_size (l : List Int) : (outStr l).size = l.length := by
  have := congrArg List.length (outStr_list l)
  rw [List.length_map] at this
  rw [← this]
  rfl

theorem bytesGo_stop {S : ByteArray} {x : Sr} (n : Nat) (h : x.state ≠ 0) : bytesGo S n x = ([], x) := by
  cases n with
  | zero => rfl
  | succ n => unfold bytesGo; rw [if_pos h]

set_option maxRecDepth 100000 in
set_option maxHeartbeats 1000000 in
theorem Rbytes_any {w : World} {b : Nat} {S : ByteArray} {x : Sr} {vo vn vf : Value} (h : SRow w b S x vo vn vf) (hs : S.size ≤ 268435456) (ha : okAt S x) (n : Nat) (hn : n ≤ 4096) :
    Calls Try.prog 51 #[.pointer (some ⟨b, 0, none⟩), .int .i64 n] w fun e w' => e = .returned (.string (outStr (bytesGo S n x).1)) ∧ SRow w' b S (bytesGo S n x).2 vo vn vf ∧ On b w w' := by
  go_enter Try.func51, Try.ntmps51
  go_wp2
  go_loopw [5, 6] (fun vs vi wr => ∃ (i : Nat) (l : List Int) (y : Sr), i ≤ n ∧ vs = .string (outStr l) ∧ vi = .int .i64 i ∧ Hid (l ++ (bytesGo S (n - i) y).1 = (bytesGo S n x).1 ∧ (bytesGo S (n - i) y).2 = (bytesGo S n x).2) ∧ l.length ≤ i ∧ okAt S y ∧ SRow wr b S y vo vn vf ∧ On b w wr) (fun _ vi _ => n - (intOf vi).toNat)
  case atStart => exact ⟨0, [], x, by omega, rfl, rfl, ⟨rfl, rfl⟩, by simp, ha, h, On.refl b w⟩
  case round =>
    obtain ⟨i, l, y, hin, rfl, rfl, HF, hl, hoky, hr, hon⟩ := hrel
    have c3 := hr.c_state
    have hfz := hr.free
    have hls := outStr_size l
    by_cases hlt : i < n
    · have HE : Hid (n - i = n - (i + 1) + 1) := by rw [Hid]; omega
      by_cases h0 : y.state = 0
      · have hC := Rnumber_any hr hs hoky 8 (by omega)
        have hvb := numV_bounds S y 8
        rw [show (2 : Int) ^ 8 = 256 from rfl] at hvb
        have hok2 := numS_ok hoky 8
        rw [h0] at c3
        by_cases h2 : (numS S y 8).state = 0
        · have HG : Hid (bytesGo S (n - i) y = (numV S y 8 :: (bytesGo S (n - (i + 1)) (numS S y 8)).1, (bytesGo S (n - (i + 1)) (numS S y 8)).2)) := by
            rw [Hid, HE.out]
            conv => lhs; unfold bytesGo
            rw [if_neg (fun q => q h0), if_neg (fun q => q h2)]
          have HH : Hid (l ++ [numV S y 8] ++ (bytesGo S (n - (i + 1)) (numS S y 8)).1 = (bytesGo S n x).1 ∧ (bytesGo S (n - (i + 1)) (numS S y 8)).2 = (bytesGo S n x).2) := by
            have := HF.out
            rw [HG.out] at this
            rw [List.append_assoc]
            exact this
          clear HG HF HE
          generalize numV S y 8 = v at *
          generalize numS S y 8 = y1 at *
          have hcv := fun (W : World) => conv1r W v
          have hap := outStr_push l v
          have hlp : (l ++ [v]).length = l.length + 1 := by simp
          have HAP : Hid (outStr l ++ outStr [v] = outStr (l ++ [v])) := hap
          have HLP : Hid ((l ++ [v]).length ≤ i + 1) := by rw [Hid]; omega
          have hsv := outStr_size [v]
          clear hap hlp
          generalize outStr l = T at *
          generalize outStr [v] = T1 at *
          go_wp2_with (first
            | (go_at_call 39; refine hC.mono ?_; rintro e w1 ⟨rfl, hr1, hon1⟩; have c4 := hr1.c_state; have hfz4 := hr1.free; rw [h2] at c4))
          go_roundw
          case rel => exact ⟨i + 1, l ++ [v], y1, by omega, by rw [HAP.out], by go_num, HH, HLP, hok2, hr1.alloc _, (hon.trans hon1).alloc _⟩
          case measure => simp [intOf]; omega
        · have HG : Hid (bytesGo S (n - i) y = ([], numS S y 8)) := by
            rw [Hid, HE.out]
            conv => lhs; unfold bytesGo
            rw [if_neg (fun q => q h0), if_pos h2]
          have HH : Hid (l ++ (bytesGo S (n - (i + 1)) (numS S y 8)).1 = (bytesGo S n x).1 ∧ (bytesGo S (n - (i + 1)) (numS S y 8)).2 = (bytesGo S n x).2) := by
            have := HF.out
            rw [HG.out] at this
            rw [bytesGo_stop _ h2]
            exact this
          clear HG HF HE
          generalize numV S y 8 = v at *
          generalize numS S y 8 = y1 at *
          go_wp2_with (first
            | (go_at_call 39; refine hC.mono ?_; rintro e w1 ⟨rfl, hr1, hon1⟩; have c4 := hr1.c_state; have hfz4 := hr1.free))
          go_roundw
          case rel => exact ⟨i + 1, l, y1, by omega, rfl, by go_num, HH, by omega, hok2, hr1, hon.trans hon1⟩
          case measure => simp [intOf]; omega
      · have HG : Hid ((bytesGo S n x).1 = l ∧ (bytesGo S n x).2 = y) := by
          have := HF.out
          rw [bytesGo_stop _ h0, List.append_nil] at this
          exact ⟨this.1.symm, this.2.symm⟩
        clear HF HE
        go_wp2
        go_ret
        rw [HG.out.1, HG.out.2]
        exact ⟨rfl, hr, hon⟩
    · have hi : i = n := by omega
      subst hi
      have HG : Hid ((bytesGo S i x).1 = l ∧ (bytesGo S i x).2 = y) := by
        have := HF.out
        rw [Nat.sub_self] at this
        have e : bytesGo S 0 y = ([], y) := rfl
        rw [e, List.append_nil] at this
        exact ⟨this.1.symm, this.2.symm⟩
      clear HF
      go_wp2
      go_ret
      rw [HG.out.1, HG.out.2]
      exact ⟨rfl, hr, hon⟩
end Go.Proofs.Ytmpfgdmdnghhgaa
