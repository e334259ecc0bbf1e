import Derived.Test.YtmpfgdmdnghhgaaR7
namespace Go.Proofs.Ytmpfgdmdnghhgaa
open Go.RowKit Wr

theorem numV_halt {S : ByteArray} {x : Sr} (h : x.state ≠ 0) (n : Nat) : numV S x n = 0 := by unfold numV; rw [if_pos h]
theorem numS_halt {S : ByteArray} {x : Sr} (h : x.state ≠ 0) (n : Nat) : numS S x n = x := by unfold numS; rw [if_pos h]
theorem fullGo_stop {S : ByteArray} {N : Nat} (g : Nat) (f : Nat → Int) (n : Nat) {y : Sr} (h : ¬ (n < N ∧ y.state = 0)) : fullGo S N g f n y = (f, n, y) := by
  cases g with
  | zero => rfl
  | succ g => unfold fullGo; rw [if_neg h]
theorem full_next {S : ByteArray} {N g : Nat} {f : Nat → Int} {n : Nat} {y : Sr} {V : Int} {T : Nat} {y2 : Sr} (hn : n < N) (h0 : y.state = 0) (hR : fullOne S f n y = (V, (T : Int), y2)) :
    fullGo S N (g + 1) f n y = if (needS y2 (decide ((n : Int) + T ≤ N))).state = 0 then fullGo S N g (fillLen f n V T) (n + T) (needS y2 (decide ((n : Int) + T ≤ N))) else (f, n, needS y2 (decide ((n : Int) + T ≤ N))) := by
  conv => lhs; unfold fullGo
  rw [if_pos ⟨hn, h0⟩, hR]
  rfl
theorem full_more {S : ByteArray} {N g : Nat} {f : Nat → Int} {n : Nat} {y : Sr} {V : Int} {T : Nat} {y2 : Sr} {r : (Nat → Int) × Nat × Sr} (hn : n < N) (h0 : y.state = 0) (hR : fullOne S f n y = (V, (T : Int), y2)) (hF : fullGo S N (g + 1) f n y = r)
    (hl : (n : Int) + T ≤ N) (h2 : y2.state = 0) : fullGo S N g (fillLen f n V T) (n + T) y2 = r := by
  rw [full_next hn h0 hR, decide_eq_true hl, needS_true, if_pos h2] at hF
  exact hF
theorem full_halt {S : ByteArray} {N g : Nat} {f : Nat → Int} {n : Nat} {y : Sr} {V : Int} {T : Nat} {y2 : Sr} {r : (Nat → Int) × Nat × Sr} (hn : n < N) (h0 : y.state = 0) (hR : fullOne S f n y = (V, (T : Int), y2)) (hF : fullGo S N (g + 1) f n y = r)
    (h2 : (needS y2 (decide ((n : Int) + T ≤ N))).state ≠ 0) : fullGo S N g f n (needS y2 (decide ((n : Int) + T ≤ N))) = r := by
  rw [full_next hn h0 hR, if_neg h2] at hF
  rw [fullGo_stop g f n (fun q => h2 q.2)]
  exact hF
theorem ints_succ (m : Nat) (f : Nat → Int) : ints (m + 1) f = ints m f ++ [.int .i64 (f m)] := by simp [ints, List.range_succ]
theorem ints_congr {m : Nat} {f g : Nat → Int} (h : ∀ i, i < m → f i = g i) : ints m f = ints m g := by
  unfold ints
  apply List.map_congr_left
  intro i hi
  rw [List.mem_range] at hi
  rw [h i hi]
theorem ints_push (n j : Nat) (f : Nat → Int) (v : Int) : ints (n + j) (fillLen f n v j) ++ [.int .i64 v] = ints (n + (j + 1)) (fillLen f n v (j + 1)) := by
  rw [← Nat.add_assoc, ints_succ]
  have e : fillLen f n v (j + 1) (n + j) = v := by unfold fillLen; rw [if_pos (by omega)]
  rw [e]
  congr 1
  refine ints_congr fun i hi => ?_
  unfold fillLen
  by_cases h : n ≤ i
  · rw [if_pos (by omega), if_pos (by omega)]
  · rw [if_neg (by omega), if_neg (by omega)]
theorem ints_zero (n : Nat) (f : Nat → Int) (v : Int) : ints (n + 0) (fillLen f n v 0) = ints n f := by
  refine ints_congr fun i hi => ?_
  unfold fillLen
  rw [if_neg (by omega)]
theorem owns_ints {w : World} {B : Nat} {v : Value} {n : Nat} {f : Nat → Int} (hn : n ≤ 272) (h : w.ownsRow B 3 1 v n (ints n f)) : ∃ a cap, v = .slice a n cap ∧ Ints w a n f ∧ (0 < n → ∃ g, a = some ⟨g, 0, none⟩ ∧ B ≤ g) := by
  obtain ⟨a, cap, rfl⟩ := owns_slice h
  refine ⟨a, cap, rfl, ⟨hn, fun h0 => ?_⟩, fun h0 => ?_⟩
  · rcases h.2 with ⟨_, h4⟩ | ⟨g, cap, cur, hv, hg, _⟩
    · omega
    · cases hv
      refine ⟨_, rfl, (h.lt g rfl).2, fun i hi => ?_⟩
      exact h.cells (g := g) rfl i _ (by rw [ints_get, if_pos hi])
  · rcases h.2 with ⟨_, h4⟩ | ⟨g, cap, cur, hv, hg, _⟩
    · omega
    · cases hv
      exact ⟨g, rfl, hg⟩

theorem On.grew {b : Nat} {w wq w' : World} {o : Obj} (h : On b w wq) {e : TypeId} {size : Nat} {v : Value} {n : Nat} {xs : List Value} (ho : wq.ownsRow w.heap.size e size v n xs) (hg : (wq.alloc o).grownBy w' v.ownBlock) : On b w w' := by
  have h1 := h.size
  have h2 := hg.size
  have h3 : (wq.alloc o).heap.size = wq.heap.size + 1 := by simp
  refine ⟨hg.os.trans h.os, hg.tape.trans h.tape, hg.output.trans h.output, by omega, fun k hk hb => ?_⟩
  refine ((hg.block k (by omega) (fun q => ?_)).trans (Below.heap_alloc _ _ _ (by omega))).trans (h.block k hk hb)
  have := (ho.lt k q.symm).1
  omega
theorem SRow.grew {b B : Nat} {wq w' : World} {o : Obj} {S : ByteArray} {y : Sr} {vo vn vf : Value} (h : SRow wq b S y vo vn vf) {e : TypeId} {size : Nat} {v : Value} {n : Nat} {xs : List Value} (ho : wq.ownsRow B e size v n xs) (hb : b < B) (hg : (wq.alloc o).grownBy w' v.ownBlock) : SRow w' b S y vo vn vf := by
  have h3 : (wq.alloc o).heap.size = wq.heap.size + 1 := by simp
  have hl := h.lt
  refine h.of_block ((hg.block b (by omega) (fun q => ?_)).trans (Below.heap_alloc _ _ _ hl))
  have := (ho.lt b q.symm).1
  omega

set_option maxRecDepth 100000 in
set_option maxHeartbeats 4000000 in
theorem Rfull_any {w : World} {b : Nat} {S : ByteArray} {x : Sr} {vo vn vf : Value} (h : SRow w b S x vo vn vf) (hs : S.size ≤ 268435456) (ha : okAt S x) (N : Nat) (hN : N ≤ 272) :
    Calls Try.prog 79 #[.pointer (some ⟨b, 0, none⟩), .int .i64 N] w fun e w' => ∃ v, e = .returned v ∧ SRow w' b S (fullS S N x) vo vn vf ∧ On b w w' ∧ Words w' v (wsIf (fullS S N x) (fullC S N x)) ∧ (∀ g, v.ownBlock = some g → w.heap.size ≤ g) := by
  obtain ⟨i0, hi, hz0, hz1, hz2⟩ := info_parts info_int
  have HI : Hid (Try.prog.info? 3 = some i0 ∧ i0.zero = some (.int .i64 0) ∧ i0.size = 1 ∧ i0.bytes = 8) := ⟨hi, hz0, hz1, hz2⟩
  clear hi hz0 hz1 hz2
  have hbw := h.lt
  go_enter Try.func79, Try.ntmps79
  go_wp2
  go_loopg [5] (N + 1) (fun g vl wr => ∃ (f : Nat → Int) (n : Nat) (y : Sr), Hid (fullGo S N g f n y = fullR S N x) ∧ (y.state = 0 → N < n + g) ∧ n ≤ N ∧ Hid (∀ j, j < n → 0 ≤ f j ∧ f j ≤ 12) ∧ okAt S y ∧ SRow wr b S y vo vn vf ∧ On b w wr ∧ wr.ownsRow w.heap.size 3 1 vl n (ints n f))
  case atStart => exact ⟨fun _ => 0, 0, x, rfl, fun _ => by omega, by omega, fun j hj => absurd hj (by omega), ha, h, On.refl b w, World.ownsRow_nil _ _ _ _⟩
  case round =>
    obtain ⟨f, n, y, HF, hfu, hnN, HB, hoky, hr, hon, hown⟩ := hrel
    have c3 := hr.c_state
    have hfz := hr.free
    have hwsz := hon.size
    by_cases h0 : y.state = 0
    · by_cases hlt : n < N
      · have hgk := hfu h0
        have HF : Hid (fullGo S N (gk - 1 + 1) f n y = fullR S N x) := by rw [Hid, show gk - 1 + 1 = gk by omega]; exact HF.out
        have hN4 := fun (W : World) (hW : SRow W b S y vo vn vf) => Rnumber_any hW hs hoky 4 (by omega)
        have hcb := numV_bounds S y 4
        rw [show (2 : Int) ^ 4 = 16 from rfl] at hcb
        obtain ⟨la, lc, rfl, hints, hla⟩ := owns_ints (by omega) hown
        have hoky1 := numS_ok hoky 4
        rw [h0] at c3
        have hNN := fun (W : World) (y1 : Sr) (ok : Bool) (hW : SRow W b S y1 vo vn vf) => Rneed_any hW ok
        have hC1 := fun (W : World) (y1 : Sr) (ok1 : okAt S y1) (k : Nat) (hk : k ≤ 12) (hW : SRow W b S y1 vo vn vf) => Rnumber_any hW hs ok1 k hk
        by_cases ca : numV S y 4 ≤ 12
        · have HR : Hid (fullOne S f n y = (numV S y 4, ((1 : Nat) : Int), numS S y 4)) := by
            rw [Hid]; unfold fullOne; rw [if_neg (by omega), if_neg (by omega), if_neg (by omega)]; rfl
          generalize numV S y 4 = c at *
          generalize numS S y 4 = y1 at *
          by_cases h2 : y1.state = 0
          · by_cases hle : (n : Int) + ((1 : Nat) : Int) ≤ N
            · have HT : Hid (fullGo S N (gk - 1) (fillLen f n (c) (1)) (n + (1)) y1 = fullR S N x) := full_more hlt h0 HR.out HF.out hle h2
              have HV : Hid (0 ≤ c ∧ c ≤ 12) := by
                have := fullOne_val (S := S) (f := f) (n := n) (x := y) HB.out
                rw [HR.out] at this
                exact this h2
              clear HF HR
              go_wp2_with (first
                | (go_at_call 40; rw [show decide ((n : Int) + 1 ≤ (N : Int)) = true from decide_eq_true (by omega)]; refine (hNN _ _ true hr1).mono ?_; rintro e wz ⟨rfl, hrz, honz⟩; rw [needS_true] at hrz; have c4 := hrz.c_state; have hfz4 := hrz.free; rw [h2] at c4)
                | (go_at_call 39; refine (hN4 _ hr).mono ?_; rintro e w1 ⟨rfl, hr1, hon1⟩))
              go_loopw [5, 12] (fun vl vk wq => ∃ j : Nat, j ≤ 1 ∧ vk = .int .i64 j ∧ SRow wq b S y1 vo vn vf ∧ On b w wq ∧ wq.ownsRow w.heap.size 3 1 vl (n + j) (ints (n + j) (fillLen f n (c) j))) (fun _ vk _ => 1 - (intOf vk).toNat)
              case atStart =>
                refine ⟨0, by omega, rfl, hrz, hon.trans ((hon1).trans honz), ?_⟩
                rw [ints_zero]
                exact ((hon1).trans honz).owns hbw hown
              case round =>
                obtain ⟨j, hj, rfl, hrq, honq, hownq⟩ := hrel
                by_cases hjt : j < 1
                · obtain ⟨qa, qc, rfl⟩ := owns_slice hownq
                  have hwq := honq.size
                  go_wp2_with (at_builtin; refine wpList_append_own _ rfl _ _ 29 rfl w.heap.size 3 i0 (.int .i64 0) 1 8 Try.underlying29 HI.out.1 HI.out.2.1 HI.out.2.2.1 HI.out.2.2.2 rfl (by decide) _ _ _ rfl (hownq.alloc _) ⟨_, 0, none⟩ 1 1 [.int .i64 (c)] rfl rfl ?c1 ?c2 ?c3 ?c4 ?c5 ?_)
                  case c1 =>
                    intro k u hk
                    match k, hk with
                    | 0, hk => simp at hk; subst hk; simp [Addr.add]
                  case c2 => intro u hu; simp at hu; subst hu; rfl
                  case c3 => unfold maxLen; omega
                  case c4 => omega
                  case c5 => simp; omega
                  · intro v' w1' hown' hgrow _
                    have hon1' : On b w w1' := honq.grew hownq hgrow
                    have hr1' : SRow w1' b S y1 vo vn vf := hrq.grew hownq hbw hgrow
                    have ho2 : w1'.ownsRow w.heap.size 3 1 v' (n + (j + 1)) (ints (n + (j + 1)) (fillLen f n (c) (j + 1))) := by
                      rw [← ints_push, ← Nat.add_assoc]
                      exact hown'
                    clear hown' hgrow hownq
                    go_wp2
                    go_roundw
                    case rel => exact ⟨j + 1, by omega, by go_num, hr1', hon1', ho2⟩
                    case measure => simp [intOf]; omega
                · have hjT : j = 1 := by omega
                  subst hjT
                  go_wp2
                  go_roundg (gk - 1)
                  case measure => omega
                  case rel => exact ⟨fillLen f n (c) (1), n + (1), y1, HT, fun _ => by omega, by omega, fillLen_bounds HB.out HV.out, hoky1, hrq, honq, hownq⟩
            · omega
          · have h3 : y1.state ≠ 0 := h2
            have HT : Hid (fullGo S N (gk - 1) f n y1 = fullR S N x) := by have := full_halt hlt h0 HR.out HF.out (by rw [needS_stop h3]; exact h3); rw [needS_stop h3] at this; exact this
            go_wp2_with (first
              | (go_at_call 40; refine (hNN _ _ _ hr1).mono ?_; rintro e wz ⟨rfl, hrz, honz⟩; rw [needS_stop h2] at hrz; have c4 := hrz.c_state; have hfz4 := hrz.free)
              | (go_at_call 39; refine (hN4 _ hr).mono ?_; rintro e w1 ⟨rfl, hr1, hon1⟩))
            go_roundg (gk - 1)
            case measure => omega
            case rel => exact ⟨f, n, y1, HT, fun q => absurd q h3, hnN, HB, hoky1, hrz, hon.trans ((hon1).trans honz), ((hon1).trans honz).owns hbw hown⟩
        · by_cases cc : numV S y 4 = 14
          · have HR : Hid (fullOne S f n y = (0, ((3 + (numV S (numS S y 4) 3).toNat : Nat) : Int), numS S (numS S y 4) 3)) := by
              have := numV_bounds S (numS S y 4) 3
              rw [Hid]; unfold fullOne; rw [if_neg (by omega), if_pos cc]; rw [show ((3 + (numV S (numS S y 4) 3).toNat : Nat) : Int) = 3 + numV S (numS S y 4) 3 by omega]
            have hb2 := numV_bounds S (numS S y 4) 3
            have hp2 : (2 : Int) ^ 3 ≤ 64 := pow_mono2 (show 3 ≤ 6 by omega)
            have hoky2 := numS_ok hoky1 3
            have hN5 := fun (W : World) (hW : SRow W b S (numS S y 4) vo vn vf) => Rnumber_any hW hs hoky1 3 (by omega)
            obtain ⟨t, ht⟩ : ∃ t : Nat, numV S (numS S y 4) 3 = (t : Int) := ⟨(numV S (numS S y 4) 3).toNat, by omega⟩
            rw [ht, Int.toNat_natCast] at HR
            rw [ht] at hN5 hb2
            clear ht
            rw [cc] at hN4 hcb
            clear cc ca
            generalize numS S (numS S y 4) 3 = y2 at *
            generalize numS S y 4 = y1 at *
            by_cases h2 : y2.state = 0
            · by_cases hle : (n : Int) + ((3 + t : Nat) : Int) ≤ N
              · have HT : Hid (fullGo S N (gk - 1) (fillLen f n ((0 : Int)) (3 + t)) (n + (3 + t)) y2 = fullR S N x) := full_more hlt h0 HR.out HF.out hle h2
                have HV : Hid (0 ≤ (0 : Int) ∧ (0 : Int) ≤ 12) := by
                  have := fullOne_val (S := S) (f := f) (n := n) (x := y) HB.out
                  rw [HR.out] at this
                  exact this h2
                clear HF HR
                go_wp2_with (first
                  | (go_at_call 40; rw [show decide ((n : Int) + (3 + (t : Int)) ≤ (N : Int)) = true from decide_eq_true (by omega)]; refine (hNN _ _ true hr2).mono ?_; rintro e wz ⟨rfl, hrz, honz⟩; rw [needS_true] at hrz; have c4 := hrz.c_state; have hfz4 := hrz.free; rw [h2] at c4)
                  | (go_at_call 39; refine (hN5 _ hr1).mono ?_; rintro e w2 ⟨rfl, hr2, hon2⟩)
                  | (go_at_call 39; refine (hN4 _ hr).mono ?_; rintro e w1 ⟨rfl, hr1, hon1⟩))
                go_loopw [5, 12] (fun vl vk wq => ∃ j : Nat, j ≤ 3 + t ∧ vk = .int .i64 j ∧ SRow wq b S y2 vo vn vf ∧ On b w wq ∧ wq.ownsRow w.heap.size 3 1 vl (n + j) (ints (n + j) (fillLen f n ((0 : Int)) j))) (fun _ vk _ => 3 + t - (intOf vk).toNat)
                case atStart =>
                  refine ⟨0, by omega, rfl, hrz, hon.trans ((hon1.trans hon2).trans honz), ?_⟩
                  rw [ints_zero]
                  exact ((hon1.trans hon2).trans honz).owns hbw hown
                case round =>
                  obtain ⟨j, hj, rfl, hrq, honq, hownq⟩ := hrel
                  by_cases hjt : j < 3 + t
                  · obtain ⟨qa, qc, rfl⟩ := owns_slice hownq
                    have hwq := honq.size
                    go_wp2_with (at_builtin; refine wpList_append_own _ rfl _ _ 29 rfl w.heap.size 3 i0 (.int .i64 0) 1 8 Try.underlying29 HI.out.1 HI.out.2.1 HI.out.2.2.1 HI.out.2.2.2 rfl (by decide) _ _ _ rfl (hownq.alloc _) ⟨_, 0, none⟩ 1 1 [.int .i64 ((0 : Int))] rfl rfl ?c1 ?c2 ?c3 ?c4 ?c5 ?_)
                    case c1 =>
                      intro k u hk
                      match k, hk with
                      | 0, hk => simp at hk; subst hk; simp [Addr.add]
                    case c2 => intro u hu; simp at hu; subst hu; rfl
                    case c3 => unfold maxLen; omega
                    case c4 => omega
                    case c5 => simp; omega
                    · intro v' w1' hown' hgrow _
                      have hon1' : On b w w1' := honq.grew hownq hgrow
                      have hr1' : SRow w1' b S y2 vo vn vf := hrq.grew hownq hbw hgrow
                      have ho2 : w1'.ownsRow w.heap.size 3 1 v' (n + (j + 1)) (ints (n + (j + 1)) (fillLen f n ((0 : Int)) (j + 1))) := by
                        rw [← ints_push, ← Nat.add_assoc]
                        exact hown'
                      clear hown' hgrow hownq
                      go_wp2
                      go_roundw
                      case rel => exact ⟨j + 1, by omega, by go_num, hr1', hon1', ho2⟩
                      case measure => simp [intOf]; omega
                  · have hjT : j = 3 + t := by omega
                    subst hjT
                    go_wp2
                    go_roundg (gk - 1)
                    case measure => omega
                    case rel => exact ⟨fillLen f n ((0 : Int)) (3 + t), n + (3 + t), y2, HT, fun _ => by omega, by omega, fillLen_bounds HB.out HV.out, hoky2, hrq, honq, hownq⟩
              · have h3 : (needS y2 false).state ≠ 0 := fun q => by have := (needS_zero.1 q).2; cases this
                have HT : Hid (fullGo S N (gk - 1) f n (needS y2 false) = fullR S N x) := by have := full_halt hlt h0 HR.out HF.out (by rw [decide_eq_false hle]; exact h3); rw [decide_eq_false hle] at this; exact this
                go_wp2_with (first
                  | (go_at_call 40; rw [show decide ((n : Int) + (3 + (t : Int)) ≤ (N : Int)) = false from decide_eq_false (by omega)]; refine (hNN _ _ false hr2).mono ?_; rintro e wz ⟨rfl, hrz, honz⟩; have c4 := hrz.c_state; have hfz4 := hrz.free)
                  | (go_at_call 39; refine (hN5 _ hr1).mono ?_; rintro e w2 ⟨rfl, hr2, hon2⟩)
                  | (go_at_call 39; refine (hN4 _ hr).mono ?_; rintro e w1 ⟨rfl, hr1, hon1⟩))
                go_roundg (gk - 1)
                case measure => omega
                case rel => exact ⟨f, n, (needS y2 false), HT, fun q => absurd q h3, hnN, HB, (needS_ok hoky2 _), hrz, hon.trans ((hon1.trans hon2).trans honz), ((hon1.trans hon2).trans honz).owns hbw hown⟩
            · have h3 : y2.state ≠ 0 := h2
              have HT : Hid (fullGo S N (gk - 1) f n y2 = fullR S N x) := by have := full_halt hlt h0 HR.out HF.out (by rw [needS_stop h3]; exact h3); rw [needS_stop h3] at this; exact this
              go_wp2_with (first
                | (go_at_call 40; refine (hNN _ _ _ hr2).mono ?_; rintro e wz ⟨rfl, hrz, honz⟩; rw [needS_stop h2] at hrz; have c4 := hrz.c_state; have hfz4 := hrz.free)
                | (go_at_call 39; refine (hN5 _ hr1).mono ?_; rintro e w2 ⟨rfl, hr2, hon2⟩)
                | (go_at_call 39; refine (hN4 _ hr).mono ?_; rintro e w1 ⟨rfl, hr1, hon1⟩))
              go_roundg (gk - 1)
              case measure => omega
              case rel => exact ⟨f, n, y2, HT, fun q => absurd q h3, hnN, HB, hoky2, hrz, hon.trans ((hon1.trans hon2).trans honz), ((hon1.trans hon2).trans honz).owns hbw hown⟩
          · have cb := cc
            clear cc
            by_cases cc : numV S y 4 = 15
            · have HR : Hid (fullOne S f n y = (0, ((11 + (numV S (numS S y 4) 6).toNat : Nat) : Int), numS S (numS S y 4) 6)) := by
                have := numV_bounds S (numS S y 4) 6
                rw [Hid]; unfold fullOne; rw [if_neg (by omega), if_neg (by omega), if_pos cc]; rw [show ((11 + (numV S (numS S y 4) 6).toNat : Nat) : Int) = 11 + numV S (numS S y 4) 6 by omega]
              have hb2 := numV_bounds S (numS S y 4) 6
              have hp2 : (2 : Int) ^ 6 ≤ 64 := pow_mono2 (show 6 ≤ 6 by omega)
              have hoky2 := numS_ok hoky1 6
              have hN5 := fun (W : World) (hW : SRow W b S (numS S y 4) vo vn vf) => Rnumber_any hW hs hoky1 6 (by omega)
              obtain ⟨t, ht⟩ : ∃ t : Nat, numV S (numS S y 4) 6 = (t : Int) := ⟨(numV S (numS S y 4) 6).toNat, by omega⟩
              rw [ht, Int.toNat_natCast] at HR
              rw [ht] at hN5 hb2
              clear ht
              rw [cc] at hN4 hcb
              clear cc ca cb
              generalize numS S (numS S y 4) 6 = y2 at *
              generalize numS S y 4 = y1 at *
              by_cases h2 : y2.state = 0
              · by_cases hle : (n : Int) + ((11 + t : Nat) : Int) ≤ N
                · have HT : Hid (fullGo S N (gk - 1) (fillLen f n ((0 : Int)) (11 + t)) (n + (11 + t)) y2 = fullR S N x) := full_more hlt h0 HR.out HF.out hle h2
                  have HV : Hid (0 ≤ (0 : Int) ∧ (0 : Int) ≤ 12) := by
                    have := fullOne_val (S := S) (f := f) (n := n) (x := y) HB.out
                    rw [HR.out] at this
                    exact this h2
                  clear HF HR
                  go_wp2_with (first
                    | (go_at_call 40; rw [show decide ((n : Int) + (11 + (t : Int)) ≤ (N : Int)) = true from decide_eq_true (by omega)]; refine (hNN _ _ true hr2).mono ?_; rintro e wz ⟨rfl, hrz, honz⟩; rw [needS_true] at hrz; have c4 := hrz.c_state; have hfz4 := hrz.free; rw [h2] at c4)
                    | (go_at_call 39; refine (hN5 _ hr1).mono ?_; rintro e w2 ⟨rfl, hr2, hon2⟩)
                    | (go_at_call 39; refine (hN4 _ hr).mono ?_; rintro e w1 ⟨rfl, hr1, hon1⟩))
                  go_loopw [5, 12] (fun vl vk wq => ∃ j : Nat, j ≤ 11 + t ∧ vk = .int .i64 j ∧ SRow wq b S y2 vo vn vf ∧ On b w wq ∧ wq.ownsRow w.heap.size 3 1 vl (n + j) (ints (n + j) (fillLen f n ((0 : Int)) j))) (fun _ vk _ => 11 + t - (intOf vk).toNat)
                  case atStart =>
                    refine ⟨0, by omega, rfl, hrz, hon.trans ((hon1.trans hon2).trans honz), ?_⟩
                    rw [ints_zero]
                    exact ((hon1.trans hon2).trans honz).owns hbw hown
                  case round =>
                    obtain ⟨j, hj, rfl, hrq, honq, hownq⟩ := hrel
                    by_cases hjt : j < 11 + t
                    · obtain ⟨qa, qc, rfl⟩ := owns_slice hownq
                      have hwq := honq.size
                      go_wp2_with (at_builtin; refine wpList_append_own _ rfl _ _ 29 rfl w.heap.size 3 i0 (.int .i64 0) 1 8 Try.underlying29 HI.out.1 HI.out.2.1 HI.out.2.2.1 HI.out.2.2.2 rfl (by decide) _ _ _ rfl (hownq.alloc _) ⟨_, 0, none⟩ 1 1 [.int .i64 ((0 : Int))] rfl rfl ?c1 ?c2 ?c3 ?c4 ?c5 ?_)
                      case c1 =>
                        intro k u hk
                        match k, hk with
                        | 0, hk => simp at hk; subst hk; simp [Addr.add]
                      case c2 => intro u hu; simp at hu; subst hu; rfl
                      case c3 => unfold maxLen; omega
                      case c4 => omega
                      case c5 => simp; omega
                      · intro v' w1' hown' hgrow _
                        have hon1' : On b w w1' := honq.grew hownq hgrow
                        have hr1' : SRow w1' b S y2 vo vn vf := hrq.grew hownq hbw hgrow
                        have ho2 : w1'.ownsRow w.heap.size 3 1 v' (n + (j + 1)) (ints (n + (j + 1)) (fillLen f n ((0 : Int)) (j + 1))) := by
                          rw [← ints_push, ← Nat.add_assoc]
                          exact hown'
                        clear hown' hgrow hownq
                        go_wp2
                        go_roundw
                        case rel => exact ⟨j + 1, by omega, by go_num, hr1', hon1', ho2⟩
                        case measure => simp [intOf]; omega
                    · have hjT : j = 11 + t := by omega
                      subst hjT
                      go_wp2
                      go_roundg (gk - 1)
                      case measure => omega
                      case rel => exact ⟨fillLen f n ((0 : Int)) (11 + t), n + (11 + t), y2, HT, fun _ => by omega, by omega, fillLen_bounds HB.out HV.out, hoky2, hrq, honq, hownq⟩
                · have h3 : (needS y2 false).state ≠ 0 := fun q => by have := (needS_zero.1 q).2; cases this
                  have HT : Hid (fullGo S N (gk - 1) f n (needS y2 false) = fullR S N x) := by have := full_halt hlt h0 HR.out HF.out (by rw [decide_eq_false hle]; exact h3); rw [decide_eq_false hle] at this; exact this
                  go_wp2_with (first
                    | (go_at_call 40; rw [show decide ((n : Int) + (11 + (t : Int)) ≤ (N : Int)) = false from decide_eq_false (by omega)]; refine (hNN _ _ false hr2).mono ?_; rintro e wz ⟨rfl, hrz, honz⟩; have c4 := hrz.c_state; have hfz4 := hrz.free)
                    | (go_at_call 39; refine (hN5 _ hr1).mono ?_; rintro e w2 ⟨rfl, hr2, hon2⟩)
                    | (go_at_call 39; refine (hN4 _ hr).mono ?_; rintro e w1 ⟨rfl, hr1, hon1⟩))
                  go_roundg (gk - 1)
                  case measure => omega
                  case rel => exact ⟨f, n, (needS y2 false), HT, fun q => absurd q h3, hnN, HB, (needS_ok hoky2 _), hrz, hon.trans ((hon1.trans hon2).trans honz), ((hon1.trans hon2).trans honz).owns hbw hown⟩
              · have h3 : y2.state ≠ 0 := h2
                have HT : Hid (fullGo S N (gk - 1) f n y2 = fullR S N x) := by have := full_halt hlt h0 HR.out HF.out (by rw [needS_stop h3]; exact h3); rw [needS_stop h3] at this; exact this
                go_wp2_with (first
                  | (go_at_call 40; refine (hNN _ _ _ hr2).mono ?_; rintro e wz ⟨rfl, hrz, honz⟩; rw [needS_stop h2] at hrz; have c4 := hrz.c_state; have hfz4 := hrz.free)
                  | (go_at_call 39; refine (hN5 _ hr1).mono ?_; rintro e w2 ⟨rfl, hr2, hon2⟩)
                  | (go_at_call 39; refine (hN4 _ hr).mono ?_; rintro e w1 ⟨rfl, hr1, hon1⟩))
                go_roundg (gk - 1)
                case measure => omega
                case rel => exact ⟨f, n, y2, HT, fun q => absurd q h3, hnN, HB, hoky2, hrz, hon.trans ((hon1.trans hon2).trans honz), ((hon1.trans hon2).trans honz).owns hbw hown⟩
            · have cc : numV S y 4 = 13 := by omega
              by_cases cd : 0 < n
              · have HR : Hid (fullOne S f n y = (f (n - 1), ((3 + (numV S (numS S y 4) 2).toNat : Nat) : Int), numS S (numS S y 4) 2)) := by
                  have := numV_bounds S (numS S y 4) 2
                  rw [Hid]; unfold fullOne; rw [if_pos cc, decide_eq_true cd, needS_true, if_pos cd, show ((3 + (numV S (numS S y 4) 2).toNat : Nat) : Int) = 3 + numV S (numS S y 4) 2 by omega]
                have hb2 := numV_bounds S (numS S y 4) 2
                have hp2 : (2 : Int) ^ 2 ≤ 64 := pow_mono2 (show 2 ≤ 6 by omega)
                have hoky2 := numS_ok hoky1 2
                have hN5 := fun (W : World) (hW : SRow W b S (numS S y 4) vo vn vf) => Rnumber_any hW hs hoky1 2 (by omega)
                obtain ⟨t, ht⟩ : ∃ t : Nat, numV S (numS S y 4) 2 = (t : Int) := ⟨(numV S (numS S y 4) 2).toNat, by omega⟩
                rw [ht, Int.toNat_natCast] at HR
                rw [ht] at hN5 hb2
                clear ht
                rw [cc] at hN4 hcb
                clear cc ca
                generalize numS S (numS S y 4) 2 = y2 at *
                generalize numS S y 4 = y1 at *
                obtain ⟨g, rfl, hgw⟩ := hla cd
                have hgb : g ≠ b := by omega
                have hgl := (hown.lt g rfl).2
                have hcl : wr.cell? ⟨g, n - 1, none⟩ = some (.int .i64 (f (n - 1))) := by
                  have := hown.cells (g := g) rfl (n - 1) _ (by rw [ints_get, if_pos (by omega)])
                  rw [addr0] at this
                  exact this
                have hn1 : (n : Int) - 1 = ((n - 1 : Nat) : Int) := by omega
                clear hints hla
                by_cases h2 : y2.state = 0
                · by_cases hle : (n : Int) + ((3 + t : Nat) : Int) ≤ N
                  · have HT : Hid (fullGo S N (gk - 1) (fillLen f n (f (n - 1)) (3 + t)) (n + (3 + t)) y2 = fullR S N x) := full_more hlt h0 HR.out HF.out hle h2
                    have HV : Hid (0 ≤ f (n - 1) ∧ f (n - 1) ≤ 12) := by
                      have := fullOne_val (S := S) (f := f) (n := n) (x := y) HB.out
                      rw [HR.out] at this
                      exact this h2
                    clear HF HR
                    go_wp2_with (first
                      | (go_at_call 40; rw [show decide ((n : Int) + (3 + (t : Int)) ≤ (N : Int)) = true from decide_eq_true (by omega)]; refine (hNN _ _ true hr3).mono ?_; rintro e wz ⟨rfl, hrz, honz⟩; rw [needS_true] at hrz; have c4 := hrz.c_state; have hfz4 := hrz.free; rw [h2] at c4)
                      | (go_at_call 39; refine (hN5 _ hr2).mono ?_; rintro e w3 ⟨rfl, hr3, hon3⟩; have hcl3 := (World.cell?_of_block (a := ⟨g, n - 1, none⟩) (((hon1.trans hon2).trans hon3).block g hgl hgb)).trans hcl)
                      | (go_at_call 40; refine (hNN _ _ true hr1).mono ?_; rintro e w2 ⟨rfl, hr2, hon2⟩; rw [needS_true] at hr2)
                      | (go_at_call 39; refine (hN4 _ hr).mono ?_; rintro e w1 ⟨rfl, hr1, hon1⟩))
                    go_loopw [5, 12] (fun vl vk wq => ∃ j : Nat, j ≤ 3 + t ∧ vk = .int .i64 j ∧ SRow wq b S y2 vo vn vf ∧ On b w wq ∧ wq.ownsRow w.heap.size 3 1 vl (n + j) (ints (n + j) (fillLen f n (f (n - 1)) j))) (fun _ vk _ => 3 + t - (intOf vk).toNat)
                    case atStart =>
                      refine ⟨0, by omega, rfl, hrz, hon.trans (((hon1.trans hon2).trans hon3).trans honz), ?_⟩
                      rw [ints_zero]
                      exact (((hon1.trans hon2).trans hon3).trans honz).owns hbw hown
                    case round =>
                      obtain ⟨j, hj, rfl, hrq, honq, hownq⟩ := hrel
                      by_cases hjt : j < 3 + t
                      · obtain ⟨qa, qc, rfl⟩ := owns_slice hownq
                        have hwq := honq.size
                        go_wp2_with (at_builtin; refine wpList_append_own _ rfl _ _ 29 rfl w.heap.size 3 i0 (.int .i64 0) 1 8 Try.underlying29 HI.out.1 HI.out.2.1 HI.out.2.2.1 HI.out.2.2.2 rfl (by decide) _ _ _ rfl (hownq.alloc _) ⟨_, 0, none⟩ 1 1 [.int .i64 (f (n - 1))] rfl rfl ?c1 ?c2 ?c3 ?c4 ?c5 ?_)
                        case c1 =>
                          intro k u hk
                          match k, hk with
                          | 0, hk => simp at hk; subst hk; simp [Addr.add]
                        case c2 => intro u hu; simp at hu; subst hu; rfl
                        case c3 => unfold maxLen; omega
                        case c4 => omega
                        case c5 => simp; omega
                        · intro v' w1' hown' hgrow _
                          have hon1' : On b w w1' := honq.grew hownq hgrow
                          have hr1' : SRow w1' b S y2 vo vn vf := hrq.grew hownq hbw hgrow
                          have ho2 : w1'.ownsRow w.heap.size 3 1 v' (n + (j + 1)) (ints (n + (j + 1)) (fillLen f n (f (n - 1)) (j + 1))) := by
                            rw [← ints_push, ← Nat.add_assoc]
                            exact hown'
                          clear hown' hgrow hownq
                          go_wp2
                          go_roundw
                          case rel => exact ⟨j + 1, by omega, by go_num, hr1', hon1', ho2⟩
                          case measure => simp [intOf]; omega
                      · have hjT : j = 3 + t := by omega
                        subst hjT
                        go_wp2
                        go_roundg (gk - 1)
                        case measure => omega
                        case rel => exact ⟨fillLen f n (f (n - 1)) (3 + t), n + (3 + t), y2, HT, fun _ => by omega, by omega, fillLen_bounds HB.out HV.out, hoky2, hrq, honq, hownq⟩
                  · have h3 : (needS y2 false).state ≠ 0 := fun q => by have := (needS_zero.1 q).2; cases this
                    have HT : Hid (fullGo S N (gk - 1) f n (needS y2 false) = fullR S N x) := by have := full_halt hlt h0 HR.out HF.out (by rw [decide_eq_false hle]; exact h3); rw [decide_eq_false hle] at this; exact this
                    go_wp2_with (first
                      | (go_at_call 40; rw [show decide ((n : Int) + (3 + (t : Int)) ≤ (N : Int)) = false from decide_eq_false (by omega)]; refine (hNN _ _ false hr3).mono ?_; rintro e wz ⟨rfl, hrz, honz⟩; have c4 := hrz.c_state; have hfz4 := hrz.free)
                      | (go_at_call 39; refine (hN5 _ hr2).mono ?_; rintro e w3 ⟨rfl, hr3, hon3⟩; have hcl3 := (World.cell?_of_block (a := ⟨g, n - 1, none⟩) (((hon1.trans hon2).trans hon3).block g hgl hgb)).trans hcl)
                      | (go_at_call 40; refine (hNN _ _ true hr1).mono ?_; rintro e w2 ⟨rfl, hr2, hon2⟩; rw [needS_true] at hr2)
                      | (go_at_call 39; refine (hN4 _ hr).mono ?_; rintro e w1 ⟨rfl, hr1, hon1⟩))
                    go_roundg (gk - 1)
                    case measure => omega
                    case rel => exact ⟨f, n, (needS y2 false), HT, fun q => absurd q h3, hnN, HB, (needS_ok hoky2 _), hrz, hon.trans (((hon1.trans hon2).trans hon3).trans honz), (((hon1.trans hon2).trans hon3).trans honz).owns hbw hown⟩
                · have h3 : y2.state ≠ 0 := h2
                  have HT : Hid (fullGo S N (gk - 1) f n y2 = fullR S N x) := by have := full_halt hlt h0 HR.out HF.out (by rw [needS_stop h3]; exact h3); rw [needS_stop h3] at this; exact this
                  go_wp2_with (first
                    | (go_at_call 40; refine (hNN _ _ _ hr3).mono ?_; rintro e wz ⟨rfl, hrz, honz⟩; rw [needS_stop h2] at hrz; have c4 := hrz.c_state; have hfz4 := hrz.free)
                    | (go_at_call 39; refine (hN5 _ hr2).mono ?_; rintro e w3 ⟨rfl, hr3, hon3⟩; have hcl3 := (World.cell?_of_block (a := ⟨g, n - 1, none⟩) (((hon1.trans hon2).trans hon3).block g hgl hgb)).trans hcl)
                    | (go_at_call 40; refine (hNN _ _ true hr1).mono ?_; rintro e w2 ⟨rfl, hr2, hon2⟩; rw [needS_true] at hr2)
                    | (go_at_call 39; refine (hN4 _ hr).mono ?_; rintro e w1 ⟨rfl, hr1, hon1⟩))
                  go_roundg (gk - 1)
                  case measure => omega
                  case rel => exact ⟨f, n, y2, HT, fun q => absurd q h3, hnN, HB, hoky2, hrz, hon.trans (((hon1.trans hon2).trans hon3).trans honz), (((hon1.trans hon2).trans hon3).trans honz).owns hbw hown⟩
              · have hn0 : n = 0 := by omega
                subst hn0
                have h2 : (needS (numS S y 4) false).state ≠ 0 := fun q => by have := (needS_zero.1 q).2; cases this
                have e1 : numV S (needS (numS S y 4) false) 2 = 0 := numV_halt h2 2
                have e2 : numS S (needS (numS S y 4) false) 2 = needS (numS S y 4) false := numS_halt h2 2
                have HR : Hid (fullOne S f 0 y = (13, ((3 : Nat) : Int), needS (numS S y 4) false)) := by
                  rw [Hid]; unfold fullOne; rw [if_pos cc, decide_eq_false cd, e1, e2, if_neg cd]; rfl
                have hoky2 : okAt S (needS (numS S y 4) false) := needS_ok hoky1 _
                have hN5 := fun (W : World) (hW : SRow W b S (needS (numS S y 4) false) vo vn vf) => Rnumber_any hW hs hoky2 2 (by omega)
                rw [e1, e2] at hN5
                rw [cc] at hN4 hcb
                have hN6 := fun (W : World) (hW : SRow W b S (numS S y 4) vo vn vf) => Rneed_any hW false
                clear e1 e2 cc ca
                generalize needS (numS S y 4) false = y2 at *
                generalize numS S y 4 = y1 at *
                have h3 : y2.state ≠ 0 := h2
                have HT : Hid (fullGo S N (gk - 1) f 0 y2 = fullR S N x) := by have := full_halt hlt h0 HR.out HF.out (by rw [needS_stop h3]; exact h3); rw [needS_stop h3] at this; exact this
                go_wp2_with (first
                  | (go_at_call 40; refine (hNN _ _ _ hr3).mono ?_; rintro e wz ⟨rfl, hrz, honz⟩; rw [needS_stop h2] at hrz; have c4 := hrz.c_state; have hfz4 := hrz.free)
                  | (go_at_call 39; refine (hN5 _ hr2).mono ?_; rintro e w3 ⟨rfl, hr3, hon3⟩)
                  | (go_at_call 40; refine (hN6 _ hr1).mono ?_; rintro e w2 ⟨rfl, hr2, hon2⟩)
                  | (go_at_call 39; refine (hN4 _ hr).mono ?_; rintro e w1 ⟨rfl, hr1, hon1⟩))
                go_roundg (gk - 1)
                case measure => omega
                case rel => exact ⟨f, 0, y2, HT, fun q => absurd q h3, hnN, HB, hoky2, hrz, hon.trans (((hon1.trans hon2).trans hon3).trans honz), (((hon1.trans hon2).trans hon3).trans honz).owns hbw hown⟩
      · have hnn : n = N := by omega
        subst hnn
        have HZ : Hid (fullR S n x = (f, n, y)) := by
          rw [Hid, ← HF.out]
          exact fullGo_stop gk f n (fun q => hlt q.1)
        obtain ⟨la, lc, rfl, hints, hla⟩ := owns_ints hN hown
        have hP := Rparts_any wr la n lc f hints HB.out
        have hNN := fun (W : World) (ok : Bool) (hW : SRow W b S y vo vn vf) => Rneed_any hW ok
        rw [h0] at c3
        by_cases hq : (countGo f n).2 = 4096
        · have HS : Hid (fullS S n x = y) := by
            rw [Hid]; unfold fullS; rw [HZ.out]; dsimp only; rw [decide_eq_true hq, needS_true]
          have HC : Hid (∀ ws, WordsAt f n 13 0 ws → ws = wsIf (fullS S n x) (fullC S n x)) := by
            intro ws hws
            rw [HS.out, wsIf_go h0]
            unfold fullC
            rw [HZ.out]
            exact (words_code hws (fun k hk k1 k2 => (order_spec f (fun _ => 0) n hN n (Nat.le_refl n)).2 k hk k1 k2)).eq (count_lo f n)
          have hWW := fun (W : World) (hon' : On b wr W) => Rwords_any W la n lc f ⟨hN, fun q => by
            obtain ⟨ad, rfl, hbb, hcell⟩ := hints.2 q
            obtain ⟨g, e, hg⟩ := hla q
            have e := Option.some.inj e
            subst e
            refine ⟨_, rfl, Nat.lt_of_lt_of_le hbb hon'.size, fun i hi => ?_⟩
            exact (World.cell?_of_block (hon'.block _ (by rw [ad_block]; exact hbb) (by rw [ad_block]; show g ≠ b; omega))).trans (hcell i hi)⟩ HB.out hq
          rw [hq] at hP
          have hN2 := fun (W : World) (hW : SRow W b S y vo vn vf) => hNN W true hW
          rw [needS_true] at hN2
          clear hNN HF hla hints
          go_wp2_with (first
            | (go_at_call 98; refine (hWW _ hon2).mono ?_; rintro e w4 ⟨v', ws, rfl, hwa, hown4, hbel⟩)
            | (go_at_call 40; refine (hN2 _ hr).mono ?_; rintro e w2 ⟨rfl, hr2, hon2⟩; have c4 := hr2.c_state; have hfz4 := hr2.free; rw [h0] at c4)
            | (go_at_call 99; refine hP.mono ?_; rintro e w1 ⟨rfl, rfl⟩))
          go_ret
          rw [← HC.out ws hwa, HS.out]
          refine ⟨_, rfl, hr2.of_block (hbel.block b hr2.lt), (hon.trans hon2).trans ⟨hbel.os, hbel.tape, hbel.output, hbel.size, fun k hk _ => hbel.block k hk⟩, owns_words hown4, fun g hg => ?_⟩
          have := (hown4.lt g hg).1
          have := hon2.size
          omega
        · have HS : Hid (fullS S n x = needS y false) := by
            rw [Hid]; unfold fullS; rw [HZ.out]; dsimp only; rw [decide_eq_false hq]
          have hst : (needS y false).state ≠ 0 := fun q => by have := (needS_zero.1 q).2; cases this
          have hN2 := fun (W : World) (hW : SRow W b S y vo vn vf) => hNN W false hW
          clear hNN HF hla hints
          generalize needS y false = y3 at *
          generalize (countGo f n).2 = q at *
          go_wp2_with (first
            | (go_at_call 40; rw [show (q == (4096 : Int)) = false from beq_false_of_ne hq]; refine (hN2 _ hr).mono ?_; rintro e w2 ⟨rfl, hr2, hon2⟩; have c4 := hr2.c_state; have hfz4 := hr2.free)
            | (go_at_call 99; refine hP.mono ?_; rintro e w1 ⟨rfl, rfl⟩))
          go_ret
          rw [HS.out, wsIf_stop hst]
          exact ⟨_, rfl, hr2, hon.trans hon2, words_nil _, fun g hg => by cases hg⟩
    · have HZ : Hid (fullR S N x = (f, n, y)) := by
        rw [Hid, ← HF.out]
        exact fullGo_stop gk f n (fun q => h0 q.2)
      have HS : Hid (fullS S N x = y) := by
        rw [Hid]; unfold fullS; rw [HZ.out]; dsimp only; rw [needS_stop h0]
      obtain ⟨la, lc, rfl, hints, hla⟩ := owns_ints (by omega) hown
      have hP := Rparts_any wr la n lc f hints HB.out
      have hN2 := fun (W : World) (ok : Bool) (hW : SRow W b S y vo vn vf) => Rneed_any hW ok
      clear HF hla hints
      generalize (countGo f n).2 = q at *
      by_cases hlt : n < N
      · go_wp2_with (first
          | (go_at_call 40; refine (hN2 _ _ hr).mono ?_; rintro e w2 ⟨rfl, hr2, hon2⟩; rw [needS_stop h0] at hr2; have c4 := hr2.c_state; have hfz4 := hr2.free)
          | (go_at_call 99; refine hP.mono ?_; rintro e w1 ⟨rfl, rfl⟩))
        go_ret
        rw [HS.out, wsIf_stop h0]
        exact ⟨_, rfl, hr2, hon.trans hon2, words_nil _, fun g hg => by cases hg⟩
      · go_wp2_with (first
          | (go_at_call 40; refine (hN2 _ _ hr).mono ?_; rintro e w2 ⟨rfl, hr2, hon2⟩; rw [needS_stop h0] at hr2; have c4 := hr2.c_state; have hfz4 := hr2.free)
          | (go_at_call 99; refine hP.mono ?_; rintro e w1 ⟨rfl, rfl⟩))
        go_ret
        rw [HS.out, wsIf_stop h0]
        exact ⟨_, rfl, hr2, hon.trans hon2, words_nil _, fun g hg => by cases hg⟩
end Go.Proofs.Ytmpfgdmdnghhgaa
