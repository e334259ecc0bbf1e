import Derived.Test.YtmpfgdmdnghhgaaS5
/- THE CODE MAKER WALKED: simple. -/
namespace Go.Proofs.Ytmpfgdmdnghhgaa
open Go.RowKit Wr

set_option maxHeartbeats 400000 in
theorem simpleLength_any (w : World) (n p : Nat) (h1 : 1 ≤ n) (h4 : n ≤ 4) :
    Calls Try.prog 138 #[.int .i64 n, .int .i64 p] w fun e w' => e = .returned (.int .i64 (sLen n p)) ∧ w' = w := by
  have hc : n = 1 ∨ n = 2 ∨ n = 3 ∨ n = 4 := by omega
  rcases hc with rfl | rfl | rfl | rfl
  · have Hf : Hid (sLen 1 p = 0) := rfl
    go_enter Try.func138, Try.ntmps138
    go_wp2
    go_ret
    rw [Hf.out]
    exact ⟨rfl, rfl⟩
  · have Hf : Hid (sLen 2 p = 1) := rfl
    go_enter Try.func138, Try.ntmps138
    go_wp2
    go_ret
    rw [Hf.out]
    exact ⟨rfl, rfl⟩
  · by_cases hp : p = 0
    · subst hp
      have Hf : Hid (sLen 3 0 = 1) := rfl
      go_enter Try.func138, Try.ntmps138
      go_wp2
      go_ret
      rw [Hf.out]
      exact ⟨rfl, rfl⟩
    · have Hf : Hid (sLen 3 p = 2) := by
        unfold Hid sLen simpLen
        rw [if_neg (by omega), if_neg (by omega)]
      have hb : ((p : Int) == 0) = false := beq_eq_false_iff_ne.2 (by omega)
      go_enter Try.func138, Try.ntmps138
      go_wp2
      go_ret
      rw [Hf.out]
      exact ⟨rfl, rfl⟩
  · have Hf : Hid (sLen 4 p = 2) := by
      unfold Hid sLen simpLen
      rw [if_neg (by omega), if_neg (by omega)]
    go_enter Try.func138, Try.ntmps138
    go_wp2
    go_ret
    rw [Hf.out]
    exact ⟨rfl, rfl⟩

theorem smGo_stuck {c : Nat → Int} {i : Nat} (h : (smGo c i).1 = 4) : ∀ j, i ≤ j → smGo c j = smGo c i
  | 0, hj => by rw [show i = 0 by omega]
  | j + 1, hj => by
    by_cases e : i = j + 1
    · rw [e]
    · have ih := smGo_stuck h j (by omega)
      show (if _ then _ else _) = _
      rw [ih, if_neg (by omega)]
theorem smN_bounds (c : Nat → Int) (N : Nat) : 1 ≤ smN c N ∧ smN c N ≤ 4 := by
  have := smGo_le c N
  unfold smN
  split <;> omega
theorem sm_ok (c : Nat → Int) (N : Nat) (hN : 1 ≤ N) : NamesOk N (smGo c N).2 (smN c N) := by
  have h := (smGo_ok c N N (Nat.le_refl _)).1
  unfold smN
  split
  · rename_i h0
    have e : (smGo c N).2 0 = 0 := by
      have : ∀ i, (smGo c i).1 = 0 → (smGo c i).2 = fun _ => 0 := by
        intro i
        induction i with
        | zero => intro _; rfl
        | succ i ih =>
          intro h
          unfold smGo at h ⊢
          by_cases hc : 0 < c i ∧ (smGo c i).1 < 4
          · rw [if_pos hc] at h
            cases h
          · rw [if_neg hc] at h ⊢
            exact ih h
      rw [this N h0]
    refine ⟨fun p hp => ?_, fun p hp => absurd hp (by omega)⟩
    rw [show p = 0 by omega, e]
    omega
  · exact h
theorem slen_bounds {n : Nat} (nm : Nat → Int) : ∀ k i, 0 ≤ slenGo n nm k i ∧ slenGo n nm k i ≤ 12
  | 0, _ => ⟨Int.le_refl _, by show (0 : Int) ≤ 12; omega⟩
  | k + 1, i => by
    have ih := slen_bounds (n := n) nm k i
    unfold slenGo upd
    split
    · unfold sLen simpLen
      repeat' split
      all_goals omega
    · exact ih
theorem simp_room (c : Nat → Int) (N : Nat) (hN : 1 ≤ N) : Room (slenGo (smN c N) (smGo c N).2 (smN c N)) N := by
  have hb := smN_bounds c N
  by_cases h1 : smN c N = 1
  · rw [h1]
    exact room_none N (fun i => by rw [slen_one])
  · rw [slen_lenF _ h1]
    exact room_full (simp_sum (by omega) hb.2 (sm_ok c N hN))

set_option maxRecDepth 100000 in
set_option maxHeartbeats 1000000 in
theorem simple_any (w : World) (g N : Nat) (wd : Int) (c : Nat → Int) (hN1 : 1 ≤ N) (hN : N ≤ 272) (_hg : g < w.heap.size) (hc : IntsA w g N c) :
    Calls Try.prog 129 #[.slice (some ⟨g, 0, none⟩) N N, .int .i64 wd] w fun e w' => e = .returned (.agg (sndA (simpSnd c N) N wd).toArray) ∧ Tch NoOld w w' := by
  have HR := simp_room c N hN1
  have HSA : Hid (sndA (simpSnd c N) N wd = cellsL 551 (iV (sndI N wd (smN c N) (smGo c N).2 (slenGo (smN c N) (smGo c N).2 (smN c N)) (rowOf (slenGo (smN c N) (smGo c N).2 (smN c N)) N)))) := by
    unfold Hid sndA simpSnd
    dsimp only
  have HBf : Hid (Try.prog.built 142 [(0, .int .i64 N), (1, .int .i64 wd)] = some (cellsL 551 (iV (sndI N wd 0 zF zF zF))).toArray) := built_simple N wd
  have r0 := rowIs_new w 142 551 zInt
  have t0 := (Tch.refl NoOld w).alloc (.cells (cellsL 551 zInt).toArray 142)
  have hq : Hid (∀ (w1 : World), SdRow ((w1.alloc (.cells (cellsL 551 zInt).toArray 142)).setCells w1.heap.size 0 (cellsL 551 (iV (sndI N wd 0 zF zF zF)))) w1.heap.size N wd 0 zF zF (fun _ => 0)) := fun w1 => rowIs_setAll (rowIs_new w1 _ _ _) _
  have hqt : Hid (∀ (w1 : World), Tch NoOld w1 ((w1.alloc (.cells (cellsL 551 zInt).toArray 142)).setCells w1.heap.size 0 (cellsL 551 (iV (sndI N wd 0 zF zF zF))))) := fun w1 => ((Tch.refl NoOld w1).alloc _).cells w1.heap.size (fun q => absurd q (Nat.lt_irrefl _)) _ _
  have HFin : Hid (∀ (w3 : World) (F : Nat → Value), w3.rowIs w.heap.size 142 551 zInt → (w3.setCells w.heap.size 0 (cellsL 551 F)).rowIs w.heap.size 142 551 F) := fun w3 F h => rowIs_setAll h F
  have hz1 : (w.alloc (.cells (cellsL 551 zInt).toArray 142)).heap.size = w.heap.size + 1 := by simp
  generalize hw1 : w.alloc (.cells (cellsL 551 zInt).toArray 142) = w1 at *
  go_enter Try.func129, Try.ntmps129
  go_wp2_with (first
    | (refine wpList_store_row rfl 142 _ _ rfl rfl rfl (rowIs_new w1 _ _ _) TSnd (fun _ _ => rfl) ?_; have r2 := hq.out w1; have t2 := hqt.out w1; have r2p := t2.rowIs r0 (fun q => q); generalize (w1.alloc (.cells (cellsL 551 zInt).toArray 142)).setCells w1.heap.size 0 (cellsL 551 (iV (sndI N wd 0 zF zF zF))) = w2 at *)
    | (refine wpList_build_to rfl 142 _ rfl [(0, .int .i64 N), (1, .int .i64 wd)] (by simp [Act.eval]) _ HBf.out ?_)
    | (refine wpList_alloc_row rfl 142 rfl TSnd ?_; rw [hw1])
    | (refine wpList_alloc_row rfl 142 rfl TSnd ?_))
  have hT2 : Tch NoOld w w2 := t0.trans t2 (fun _ _ q => q)
  have r2' : SdRow w2 w1.heap.size N wd ((smGo c 0).1 : Nat) (smGo c 0).2 zF (fun _ => 0) := r2
  have hqs : w1.heap.size = w.heap.size + 1 := hz1
  rw [hqs] at r2'
  clear r2 r0 t0 t2 hq hqt HBf hw1 hz1 hqs
  go_loopw [6] (fun vi wr => ∃ i : Nat, i ≤ N ∧ vi = .int .i64 i ∧ SdRow wr (w.heap.size + 1) N wd ((smGo c i).1 : Nat) (smGo c i).2 zF (fun _ => 0) ∧ wr.rowIs w.heap.size 142 551 zInt ∧ Tch NoOld w wr) (fun vi _ => N - (intOf vi).toNat)
  case atStart => exact ⟨0, by omega, rfl, r2', r2p, hT2⟩
  case round =>
    obtain ⟨i, hi, rfl, hri, hpi, hti⟩ := hrel
    clear r2' r2p hT2
    have hle := smGo_le c i
    have k1 := hri.c_count
    have hfz := hri.free
    by_cases hgo : i < N ∧ (smGo c i).1 < 4
    · obtain ⟨hlt, h4⟩ := hgo
      have k2 := (hc.keep hti (fun q => q)) i hlt
      by_cases hpos : 0 < c i
      · have HS : Hid (smGo c (i + 1) = ((smGo c i).1 + 1, upd (smGo c i).2 (smGo c i).1 i)) := by
          show (if _ then _ else _) = _
          rw [if_pos ⟨hpos, h4⟩]
        have k3 := hri.c_name (smGo c i).1 h4
        have hs := (hri.setName (smGo c i).1 h4 i).setCount (((smGo c i).1 : Int) + 1)
        have hps := World.rowIs.setOther (World.rowIs.setOther hpi (a := ⟨w.heap.size + 1, 3 + (smGo c i).1, none⟩) (by show w.heap.size ≠ w.heap.size + 1; omega) (.int .i64 i)) (a := ⟨w.heap.size + 1, 2, none⟩) (by show w.heap.size ≠ w.heap.size + 1; omega) (.int .i64 (((smGo c i).1 : Int) + 1))
        have hts := (hti.set ⟨w.heap.size + 1, 3 + (smGo c i).1, none⟩ (.int .i64 i) (fun h => by have : w.heap.size + 1 < w.heap.size := h; omega)).set ⟨w.heap.size + 1, 2, none⟩ (.int .i64 (((smGo c i).1 : Int) + 1)) (fun h => by have : w.heap.size + 1 < w.heap.size := h; omega)
        have h4i : ((smGo c i).1 : Int) < 4 := by omega
        clear hri hpi hti
        generalize (smGo c i).1 = n at *
        generalize (smGo c i).2 = nm at *
        clear hle HR HSA HFin
        go_wp2
        go_roundw
        case rel => exact ⟨i + 1, by omega, by go_num, by rw [HS.out]; exact hs, hps, hts⟩
        case measure => simp [intOf]; omega
      · have HS : Hid (smGo c (i + 1) = smGo c i) := by
          show (if _ then _ else _) = _
          rw [if_neg (fun h => hpos h.1)]
        have h4i : ((smGo c i).1 : Int) < 4 := by omega
        clear HR HSA HFin
        go_wp2
        go_roundw
        case rel => exact ⟨i + 1, by omega, by go_num, by rw [HS.out]; exact hri, hpi, hti⟩
        case measure => simp [intOf]; omega
    · have HE : smGo c i = smGo c N := by
        by_cases e : i = N
        · rw [e]
        · exact (smGo_stuck (by omega) N hi).symm
      have hsb := smN_bounds c N
      have hnok := sm_ok c N hN1
      have hcase : (i = N ∧ (smGo c N).1 = 0 ∧ smN c N = 1) ∨ (i = N ∧ smN c N = (smGo c N).1 ∧ 0 < (smGo c N).1) ∨ (i < N ∧ smN c N = (smGo c N).1 ∧ (smGo c N).1 = 4) := by
        unfold smN
        rw [HE] at hgo hle
        by_cases h0 : (smGo c N).1 = 0
        · left
          exact ⟨by omega, h0, if_pos h0⟩
        · right
          rw [if_neg h0]
          omega
      rw [HE] at hri k1
      clear hgo HE hle
      have hri1 := hri.setCount 1
      have hpi1 := World.rowIs.setOther hpi (a := ⟨w.heap.size + 1, 2, none⟩) (by show w.heap.size ≠ w.heap.size + 1; omega) (.int .i64 1)
      have hti1 := hti.set ⟨w.heap.size + 1, 2, none⟩ (.int .i64 1) (fun h => by have : w.heap.size + 1 < w.heap.size := h; omega)
      generalize smN c N = n at *
      generalize (smGo c N).2 = nm at *
      generalize (smGo c N).1 = m at *
      rcases hcase with ⟨rfl, rfl, rfl⟩ | ⟨rfl, rfl, hm0⟩ | ⟨hlt, rfl, rfl⟩
      · go_wp2
        have hR3 : SdRow _ (w.heap.size + 1) i wd ((1 : Nat) : Int) nm (slenGo 1 nm 0) (fun _ => 0) := hri1
        have hP3 := hpi1
        have hT3 := hti1
        generalize wr.setCell ⟨w.heap.size + 1, 2, none⟩ (.int .i64 1) = w3 at *
        clear hri1 hpi1 hti1 hri hpi hti k1 hfz
        go_loopw [7, 8] (fun vk _ wr => ∃ k : Nat, k ≤ 1 ∧ vk = .int .i64 k ∧ SdRow wr (w.heap.size + 1) i wd (1  : Nat) nm (slenGo 1 nm k) (fun _ => 0) ∧ wr.rowIs w.heap.size 142 551 zInt ∧ Tch NoOld w wr) (fun vk _ _ => 1 - (intOf vk).toNat)
        case atStart => exact ⟨0, by omega, rfl, hR3, hP3, hT3⟩
        case round =>
          obtain ⟨k, hk, rfl, hrk, hpk, htk⟩ := hrel
          clear hR3 hP3 hT3
          have j1 := hrk.c_count
          have hfz := hrk.free
          by_cases hkn : k < 1
          · have nb := hnok.lt k hkn
            have j2 := hrk.c_name k (by omega)
            obtain ⟨y, hy⟩ := Int.eq_ofNat_of_zero_le nb.1
            have j3 := hrk.c_len y (by omega)
            have HS : Hid (slenGo 1 nm (k + 1) = upd (slenGo 1 nm k) y (sLen 1 k)) := by
              show upd _ (nm k).toNat _ = _
              rw [hy]
              rfl
            have hcall := fun W => simpleLength_any W 1 k (by omega) (by omega)
            have hs := hrk.setLen y (by omega) (sLen 1 k)
            have hps := World.rowIs.setOther hpk (a := ⟨w.heap.size + 1, 7 + y, none⟩) (by show w.heap.size ≠ w.heap.size + 1; omega) (.int .i64 (sLen 1 k))
            have hts := htk.set ⟨w.heap.size + 1, 7 + y, none⟩ (.int .i64 (sLen 1 k)) (fun h => by have : w.heap.size + 1 < w.heap.size := h; omega)
            rw [hy] at j2
            have hy2 : (y : Int) < 272 := by omega
            have hk4 : (k : Int) < 4 := by omega
            clear hrk hpk htk nb hy HR HSA HFin
            go_wp2_with (go_at_call 138; refine (hcall _).mono ?_; rintro e w' ⟨rfl, rfl⟩)
            go_roundw
            case rel => exact ⟨k + 1, by omega, by go_num, by rw [HS.out]; exact hs, hps, hts⟩
            case measure => simp [intOf]; omega
          · have hkn2 : 1 = k := by omega
            subst hkn2
            have hA := assign_any wr (w.heap.size + 1) i wd (1 : Nat) nm (slenGo 1 nm 1) (by omega) hrk (fun i => slen_bounds nm 1 i) HR
            clear hrk
            go_wp2_with (first
              | (refine wpList_store_row rfl 142 _ _ rfl rfl rfl r3p TSnd (fun _ _ => rfl) ?_)
              | (refine wpList_load_row rfl 142 _ rfl rfl r3 TSnd ?_)
              | (go_at_call 139; refine hA.mono ?_; rintro e w4 ⟨rfl, r3, t4⟩; have r3p := t4.rowIs hpk (by show ¬ w.heap.size = w.heap.size + 1; omega)))
            refine bodyPost_ret (post_row TSnd rfl _ rfl (HFin.out _ _ r3p)) rfl ?_
            rw [HSA.out]
            exact ⟨rfl, (htk.trans t4 (fun j hj q => by have : j = w.heap.size + 1 := q; omega)).cells w.heap.size (fun q => absurd q (Nat.lt_irrefl _)) _ _⟩
      · have hb0 : ((n : Int) == 0) = false := beq_eq_false_iff_ne.2 (by omega)
        have hR3 : SdRow wr (w.heap.size + 1) i wd (n : Nat) nm (slenGo n nm 0) (fun _ => 0) := hri
        have hP3 := hpi
        have hT3 := hti
        clear hri1 hpi1 hti1 hri hpi hti
        go_wp2
        clear k1 hfz
        go_loopw [7, 8] (fun vk _ wr => ∃ k : Nat, k ≤ n ∧ vk = .int .i64 k ∧ SdRow wr (w.heap.size + 1) i wd (n  : Nat) nm (slenGo n nm k) (fun _ => 0) ∧ wr.rowIs w.heap.size 142 551 zInt ∧ Tch NoOld w wr) (fun vk _ _ => n - (intOf vk).toNat)
        case atStart => exact ⟨0, by omega, rfl, hR3, hP3, hT3⟩
        case round =>
          obtain ⟨k, hk, rfl, hrk, hpk, htk⟩ := hrel
          clear hR3 hP3 hT3
          have j1 := hrk.c_count
          have hfz := hrk.free
          by_cases hkn : k < n
          · have nb := hnok.lt k hkn
            have j2 := hrk.c_name k (by omega)
            obtain ⟨y, hy⟩ := Int.eq_ofNat_of_zero_le nb.1
            have j3 := hrk.c_len y (by omega)
            have HS : Hid (slenGo n nm (k + 1) = upd (slenGo n nm k) y (sLen n k)) := by
              show upd _ (nm k).toNat _ = _
              rw [hy]
              rfl
            have hcall := fun W => simpleLength_any W n k (by omega) (by omega)
            have hs := hrk.setLen y (by omega) (sLen n k)
            have hps := World.rowIs.setOther hpk (a := ⟨w.heap.size + 1, 7 + y, none⟩) (by show w.heap.size ≠ w.heap.size + 1; omega) (.int .i64 (sLen n k))
            have hts := htk.set ⟨w.heap.size + 1, 7 + y, none⟩ (.int .i64 (sLen n k)) (fun h => by have : w.heap.size + 1 < w.heap.size := h; omega)
            rw [hy] at j2
            have hy2 : (y : Int) < 272 := by omega
            have hk4 : (k : Int) < 4 := by omega
            clear hrk hpk htk nb hy HR HSA HFin
            go_wp2_with (go_at_call 138; refine (hcall _).mono ?_; rintro e w' ⟨rfl, rfl⟩)
            go_roundw
            case rel => exact ⟨k + 1, by omega, by go_num, by rw [HS.out]; exact hs, hps, hts⟩
            case measure => simp [intOf]; omega
          · have hkn2 : n = k := by omega
            subst hkn2
            have hA := assign_any wr (w.heap.size + 1) i wd (n : Nat) nm (slenGo n nm n) (by omega) hrk (fun i => slen_bounds nm n i) HR
            clear hrk
            go_wp2_with (first
              | (refine wpList_store_row rfl 142 _ _ rfl rfl rfl r3p TSnd (fun _ _ => rfl) ?_)
              | (refine wpList_load_row rfl 142 _ rfl rfl r3 TSnd ?_)
              | (go_at_call 139; refine hA.mono ?_; rintro e w4 ⟨rfl, r3, t4⟩; have r3p := t4.rowIs hpk (by show ¬ w.heap.size = w.heap.size + 1; omega)))
            refine bodyPost_ret (post_row TSnd rfl _ rfl (HFin.out _ _ r3p)) rfl ?_
            rw [HSA.out]
            exact ⟨rfl, (htk.trans t4 (fun j hj q => by have : j = w.heap.size + 1 := q; omega)).cells w.heap.size (fun q => absurd q (Nat.lt_irrefl _)) _ _⟩
      · have hR3 : SdRow wr (w.heap.size + 1) N wd (4 : Nat) nm (slenGo 4 nm 0) (fun _ => 0) := hri
        have hP3 := hpi
        have hT3 := hti
        clear hri1 hpi1 hti1 hri hpi hti
        go_wp2
        clear k1 hfz
        go_loopw [7, 8] (fun vk _ wr => ∃ k : Nat, k ≤ 4 ∧ vk = .int .i64 k ∧ SdRow wr (w.heap.size + 1) N wd (4  : Nat) nm (slenGo 4 nm k) (fun _ => 0) ∧ wr.rowIs w.heap.size 142 551 zInt ∧ Tch NoOld w wr) (fun vk _ _ => 4 - (intOf vk).toNat)
        case atStart => exact ⟨0, by omega, rfl, hR3, hP3, hT3⟩
        case round =>
          obtain ⟨k, hk, rfl, hrk, hpk, htk⟩ := hrel
          clear hR3 hP3 hT3
          have j1 := hrk.c_count
          have hfz := hrk.free
          by_cases hkn : k < 4
          · have nb := hnok.lt k hkn
            have j2 := hrk.c_name k (by omega)
            obtain ⟨y, hy⟩ := Int.eq_ofNat_of_zero_le nb.1
            have j3 := hrk.c_len y (by omega)
            have HS : Hid (slenGo 4 nm (k + 1) = upd (slenGo 4 nm k) y (sLen 4 k)) := by
              show upd _ (nm k).toNat _ = _
              rw [hy]
              rfl
            have hcall := fun W => simpleLength_any W 4 k (by omega) (by omega)
            have hs := hrk.setLen y (by omega) (sLen 4 k)
            have hps := World.rowIs.setOther hpk (a := ⟨w.heap.size + 1, 7 + y, none⟩) (by show w.heap.size ≠ w.heap.size + 1; omega) (.int .i64 (sLen 4 k))
            have hts := htk.set ⟨w.heap.size + 1, 7 + y, none⟩ (.int .i64 (sLen 4 k)) (fun h => by have : w.heap.size + 1 < w.heap.size := h; omega)
            rw [hy] at j2
            have hy2 : (y : Int) < 272 := by omega
            have hk4 : (k : Int) < 4 := by omega
            clear hrk hpk htk nb hy HR HSA HFin
            go_wp2_with (go_at_call 138; refine (hcall _).mono ?_; rintro e w' ⟨rfl, rfl⟩)
            go_roundw
            case rel => exact ⟨k + 1, by omega, by go_num, by rw [HS.out]; exact hs, hps, hts⟩
            case measure => simp [intOf]; omega
          · have hkn2 : 4 = k := by omega
            subst hkn2
            have hA := assign_any wr (w.heap.size + 1) N wd (4 : Nat) nm (slenGo 4 nm 4) (by omega) hrk (fun i => slen_bounds nm 4 i) HR
            clear hrk
            go_wp2_with (first
              | (refine wpList_store_row rfl 142 _ _ rfl rfl rfl r3p TSnd (fun _ _ => rfl) ?_)
              | (refine wpList_load_row rfl 142 _ rfl rfl r3 TSnd ?_)
              | (go_at_call 139; refine hA.mono ?_; rintro e w4 ⟨rfl, r3, t4⟩; have r3p := t4.rowIs hpk (by show ¬ w.heap.size = w.heap.size + 1; omega)))
            refine bodyPost_ret (post_row TSnd rfl _ rfl (HFin.out _ _ r3p)) rfl ?_
            rw [HSA.out]
            exact ⟨rfl, (htk.trans t4 (fun j hj q => by have : j = w.heap.size + 1 := q; omega)).cells w.heap.size (fun q => absurd q (Nat.lt_irrefl _)) _ _⟩
end Go.Proofs.Ytmpfgdmdnghhgaa
