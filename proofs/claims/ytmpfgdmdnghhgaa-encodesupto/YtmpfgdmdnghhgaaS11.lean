import Derived.Test.YtmpfgdmdnghhgaaS9
/- WHICH FORM A CODE HAS: cost, cheaper, ForLetters, ForDistances. -/
namespace Go.Proofs.Ytmpfgdmdnghhgaa
open Go.RowKit Wr

/-- a row of bits alone -/
def F3 (v : Value) (h k : Int) : Nat → Value := fun j => if j = 0 then v else if j = 1 then .int .i64 h else if j = 2 then .int .i64 k else .int .i64 0
theorem box3 : IsBox F3 3 := ⟨Nat.le_refl _, fun _ _ _ => rfl, fun _ _ _ => rfl, fun _ _ _ => rfl, fun v h k v' h' k' j hj => by
  unfold F3
  rw [if_neg (by omega), if_neg (by omega), if_neg (by omega), if_neg (by omega), if_neg (by omega), if_neg (by omega)]⟩
theorem TRow : RowTy 102 3 (F3 (.slice none 0 0) 0 0) := rowTy_of (by kernel_rfl) (by kernel_rfl) (by kernel_rfl)
theorem built_row : Try.prog.built 102 [] = some (cellsL 3 (F3 (.slice none 0 0) 0 0)).toArray := by kernel_rfl
theorem BB_new {w : World} {T : TypeId} {b : Nat} (h : w.rowIs b T 3 (F3 (.slice none 0 0) 0 0)) : BB w T 3 F3 b [] 0 (.slice none 0 0) :=
  ⟨⟨[], 0, 0⟩, ⟨h, World.ownsRow_nil _ _ _ _, fun q => by cases q⟩, ⟨(fun b hb => by cases hb), rfl, rfl, rfl, Nat.le_refl _⟩⟩
theorem one3 {v : Value} {h k : Int} (hv : v.oneCell' = true) : ∀ j, j < 3 → (F3 v h k j).oneCell' = true := by
  intro j _
  unfold F3
  repeat' split
  all_goals first | exact hv | rfl

theorem tellGo_length (f : Nat → Int) (N : Nat) : ∀ g a, (tellGo f N g a).length ≤ 10 * g
  | 0, _ => Nat.le_refl _
  | g + 1, a => by
    unfold tellGo
    split
    · have h1 := tellOne_length f N a
      have h2 := tellGo_length f N g (a + (tellOne f N a).2)
      rw [List.length_append]
      omega
    · exact Nat.zero_le _
theorem tellL_length (s : Snd) (N sz : Nat) (hN : N ≤ 272) (h4 : s.n ≤ 4) (hsz : sz ≤ 12) : (tellL s N sz).length ≤ 2740 := by
  unfold tellL
  split
  · have : sz * s.n ≤ 12 * 4 := Nat.mul_le_mul hsz h4
    rw [List.length_append, List.length_append, numBits_length, numBits_length, namesL_length]
    omega
  · have := tellGo_length s.len N (N + 1) 0
    rw [List.length_append, numBits_length]
    omega
theorem dot_bounds {c f : Nat → Int} (hc : ∀ i, 0 ≤ c i ∧ c i ≤ 4096) (hf : ∀ i, 0 ≤ f i ∧ f i ≤ 12) : ∀ n : Nat, 0 ≤ dotTo c f n ∧ dotTo c f n ≤ 49152 * n
  | 0 => ⟨Int.le_refl _, by show (0 : Int) ≤ 49152 * 0; omega⟩
  | n + 1 => by
    have ih := dot_bounds hc hf n
    have a := hc n
    have b := hf n
    have p0 : 0 ≤ c n * f n := Int.mul_nonneg a.1 b.1
    have p1 : c n * f n ≤ 4096 * 12 := Int.mul_le_mul a.2 b.2 b.1 (by omega)
    unfold dotTo
    omega

section
variable {w : World} {b g N : Nat} {row : Nat → Int}
set_option maxRecDepth 10000 in
set_option maxHeartbeats 800000 in
theorem cost_any (s : Snd) (c : Nat → Int) {sz : Nat} (hr : SdRow w b N sz (s.n : Nat) s.nm s.len row) (_hg : g < w.heap.size) (hc : IntsA w g N c) (hcb : ∀ i, 0 ≤ c i ∧ c i ≤ 4096) (hN : N ≤ 272) (h4 : s.n ≤ 4) (hsz : sz ≤ 12) (hnm : ∀ p, p < s.n → 0 ≤ s.nm p ∧ s.nm p < 2 ^ sz) (hf : ∀ i, 0 ≤ s.len i ∧ s.len i ≤ 12) :
    Calls Try.prog 131 #[.pointer (some ⟨b, 0, none⟩), .slice (some ⟨g, 0, none⟩) N N] w fun e w' => e = .returned (.int .i64 (costOf s c N sz)) ∧ Tch NoOld w w' := by
  have hbw := hr.lt
  have HB : Hid (Try.prog.built 102 [] = some (cellsL 3 (F3 (.slice none 0 0) 0 0)).toArray) := built_row
  have r0 := rowIs_setAll (rowIs_new w 102 3 (F3 (.slice none 0 0) 0 0)) (F3 (.slice none 0 0) 0 0)
  have t0 := ((Tch.refl NoOld w).alloc (.cells (cellsL 3 (F3 (.slice none 0 0) 0 0)).toArray 102)).cells w.heap.size (fun q => absurd q (Nat.lt_irrefl _)) (cellsL 3 (F3 (.slice none 0 0) 0 0)) 0
  have htl := tellL_length s N sz hN h4 hsz
  have hT := fun W (h : BB W 102 3 F3 w.heap.size [] 0 (.slice none 0 0)) (hR : SdRow W b N sz (s.n : Nat) s.nm s.len row) => tell_any box3 h s hR (by omega) (fun q => by cases q) hN h4 hsz hnm hf (by simp)
  have hS := fun W u (h : BB W 102 3 F3 w.heap.size (tellL s N sz) 0 u) => size_B box3 h (by omega)
  have HCO : Hid (costOf s c N sz = ((tellL s N sz).length : Int) + dotTo c s.len N) := rfl
  have hT2 : ∀ W, BB W 102 3 F3 w.heap.size [] 0 (.slice none 0 0) → SdRow W b N sz (s.n : Nat) s.nm s.len row → Calls Try.prog 103 #[.pointer (some ⟨b, 0, none⟩), .pointer (some ⟨w.heap.size, 0, none⟩)] W fun e w' => e = .returned (.tuple #[]) ∧ Adds W w' 102 3 F3 w.heap.size 0 (tellL s N sz) (.slice none 0 0) := hT
  clear hT
  generalize hl : (tellL s N sz).length = l at *
  have HWN : Hid (∃ w1, w1 = ((w.alloc (.cells (cellsL 3 (F3 (.slice none 0 0) 0 0)).toArray 102)).setCells w.heap.size 0 (cellsL 3 (F3 (.slice none 0 0) 0 0)))) := ⟨_, rfl⟩
  go_enter Try.func131, Try.ntmps131
  go_wp2_with (first
    | (go_at_call 84; refine (hS _ _ hB2).mono ?_; rintro e w3 ⟨rfl, t3⟩)
    | (go_at_call 103; refine (hT2 _ (BB_new r0) (t0.rowIs hr (fun q => q))).mono ?_; rintro e w2 ⟨rfl, u2, hB2, ho2, t2⟩)
    | (refine wpList_store_row rfl 102 _ _ rfl rfl rfl (rowIs_new w 102 3 (F3 (.slice none 0 0) 0 0)) TRow (one3 rfl) ?_; generalize (w.alloc (.cells (cellsL 3 (F3 (.slice none 0 0) 0 0)).toArray 102)).setCells w.heap.size 0 (cellsL 3 (F3 (.slice none 0 0) 0 0)) = w1 at *)
    | (refine wpList_build_to rfl 102 _ rfl [] (by simp) _ HB.out ?_)
    | (refine wpList_alloc_row rfl 102 rfl TRow ?_))
  have ht : Tch NoOld w w3 := (t0.trans t2 (fun j hj q => by
    rcases q with q | q
    · omega
    · cases q)).trans t3 (fun _ _ q => q)
  clear t0 t2 t3 hB2 r0 hS hT2 HB HWN
  go_loopw [6, 7] (fun vs vi wr => ∃ i : Nat, i ≤ N ∧ vi = .int .i64 i ∧ vs = .int .i64 ((l : Int) + dotTo c s.len i) ∧ Tch NoOld w wr) (fun _ vi _ => N - (intOf vi).toNat)
  case atStart => exact ⟨0, by omega, rfl, by show _ = Value.int .i64 ((l : Int) + 0); rw [Int.add_zero], ht⟩
  case round =>
    clear ht
    obtain ⟨i, hi, rfl, rfl, ht⟩ := hrel
    have db := dot_bounds hcb hf i
    by_cases hlt : i < N
    · have k1 := (hc.keep ht (fun q => q)) i hlt
      have hri : SdRow wr b N sz (s.n : Nat) s.nm s.len row := ht.rowIs hr (fun q => q)
      have k2 := hri.c_len i (by omega)
      have hfz := hri.free
      have hi2 : (i : Int) < 272 := by omega
      have HD : Hid (dotTo c s.len (i + 1) = dotTo c s.len i + c i * s.len i) := rfl
      have p0 : 0 ≤ c i * s.len i := Int.mul_nonneg (hcb i).1 (hf i).1
      have p1 : c i * s.len i ≤ 4096 * 12 := Int.mul_le_mul (hcb i).2 (hf i).2 (hf i).1 (by omega)
      generalize dotTo c s.len i = D at *
      clear hri hr hc HCO
      go_wp2
      go_region
      go_wp2
      refine ⟨⟨i + 1, by omega, by go_num, ?_, ?_⟩, by simp [intOf]; omega⟩
      · rw [HD.out, Int.add_assoc]
      · exact ht.drew
    · have : i = N := by omega
      subst this
      clear hr hc
      go_wp2
      go_ret
      rw [HCO.out]
      exact ⟨rfl, ht⟩
end

theorem simp_okC (c : Nat → Int) (N sz : Nat) (hN : 1 ≤ N) (hN2 : (N : Int) ≤ 2 ^ sz) : (simpSnd c N).n ≤ 4 ∧ (∀ p, p < (simpSnd c N).n → 0 ≤ (simpSnd c N).nm p ∧ (simpSnd c N).nm p < 2 ^ sz) ∧ (∀ i, 0 ≤ (simpSnd c N).len i ∧ (simpSnd c N).len i ≤ 12) := by
  refine ⟨(smN_bounds c N).2, fun p hp => ?_, fun i => slen_bounds _ _ i⟩
  have := (sm_ok c N hN).lt p hp
  show 0 ≤ (smGo c N).2 p ∧ (smGo c N).2 p < 2 ^ sz
  omega
theorem full_okC (c : Nat → Int) (N sz : Nat) (hk : Cnt c N) (hu : 2 ≤ usedTo c N) : (fullSnd c N).n ≤ 4 ∧ (∀ p, p < (fullSnd c N).n → 0 ≤ (fullSnd c N).nm p ∧ (fullSnd c N).nm p < 2 ^ sz) ∧ (∀ i, 0 ≤ (fullSnd c N).len i ∧ (fullSnd c N).len i ≤ 12) :=
  ⟨Nat.zero_le _, fun _p hp => absurd hp (Nat.not_lt_zero _), lens_bounds hk hu⟩
theorem snd_ok (c : Nat → Int) (N sz : Nat) (hN : 1 ≤ N) (hN2 : (N : Int) ≤ 2 ^ sz) (hk : Cnt c N) : (sndOf c N sz).n ≤ 4 ∧ (∀ p, p < (sndOf c N sz).n → 0 ≤ (sndOf c N sz).nm p ∧ (sndOf c N sz).nm p < 2 ^ sz) ∧ (∀ i, 0 ≤ (sndOf c N sz).len i ∧ (sndOf c N sz).len i ≤ 12) ∧ Room (sndOf c N sz).len N := by
  have simp_ok : (simpSnd c N).n ≤ 4 ∧ (∀ p, p < (simpSnd c N).n → 0 ≤ (simpSnd c N).nm p ∧ (simpSnd c N).nm p < 2 ^ sz) ∧ (∀ i, 0 ≤ (simpSnd c N).len i ∧ (simpSnd c N).len i ≤ 12) ∧ Room (simpSnd c N).len N := by
    refine ⟨(smN_bounds c N).2, fun p hp => ?_, fun i => slen_bounds _ _ i, simp_room c N hN⟩
    have := (sm_ok c N hN).lt p hp
    show 0 ≤ (smGo c N).2 p ∧ (smGo c N).2 p < 2 ^ sz
    omega
  have full_ok : 2 ≤ usedTo c N → (fullSnd c N).n ≤ 4 ∧ (∀ p, p < (fullSnd c N).n → 0 ≤ (fullSnd c N).nm p ∧ (fullSnd c N).nm p < 2 ^ sz) ∧ (∀ i, 0 ≤ (fullSnd c N).len i ∧ (fullSnd c N).len i ≤ 12) ∧ Room (fullSnd c N).len N := fun hu =>
    ⟨Nat.zero_le _, fun p hp => absurd hp (Nat.not_lt_zero _), lens_bounds hk hu, room_full (lensFor_full hk.lo hk.sum hu).2⟩
  unfold sndOf
  split
  · exact simp_ok
  split
  · exact full_ok (by omega)
  split
  · exact simp_ok
  · exact full_ok (by omega)

/-- a sender laid into a new block -/
theorem snd_laid (w1 : World) (s : Snd) (N : Nat) (wd : Int) : SdRow ((w1.alloc (.cells (cellsL 551 zInt).toArray 142)).setCells w1.heap.size 0 (sndA s N wd)) w1.heap.size N wd (s.n : Nat) s.nm s.len (rowOf s.len N) := rowIs_setAll (rowIs_new w1 _ _ _) _
theorem snd_laidT (w1 : World) (C : List Value) : Tch NoOld w1 ((w1.alloc (.cells (cellsL 551 zInt).toArray 142)).setCells w1.heap.size 0 C) := ((Tch.refl NoOld w1).alloc _).cells w1.heap.size (fun q => absurd q (Nat.lt_irrefl _)) _ _
theorem sndA_one (s : Snd) (N : Nat) (wd : Int) : ∀ j, j < 551 → (iV (sndI N wd s.n s.nm s.len (rowOf s.len N)) j).oneCell' = true := fun _ _ => rfl

section
variable {ops : Array Oper} {rest : List Oper} {op : Oper} {a : Act} {w : World} {Q : Exit → Act → World → Prop} {b : Nat} {t : TypeId} {F : Nat → Value}
theorem wpList_store_snd (s : Snd) (N : Nat) (wd : Int) (hgd : op.guard = none) (x y : Operand) (ho : op.op = .store 142 x y) (hx : a.eval x = .pointer (some ⟨b, 0, none⟩)) (hy : a.eval y = .agg (sndA s N wd).toArray) (hr : w.rowIs b t 551 F)
    (h : wpList Try.prog ops Q rest (a.put op.dst undef) (w.setCells b 0 (sndA s N wd))) : wpList Try.prog ops Q (op :: rest) a w :=
  wpList_store_row hgd 142 x y ho hx hy hr TSnd (fun _ _ => rfl) h
theorem wpList_load_snd (s : Snd) (N : Nat) (wd : Int) (hgd : op.guard = none) (x : Operand) (ho : op.op = .load 142 x) (hx : a.eval x = .pointer (some ⟨b, 0, none⟩)) (hr : SdRow w b N wd (s.n : Nat) s.nm s.len (rowOf s.len N))
    (h : wpList Try.prog ops Q rest (a.put op.dst (.agg (sndA s N wd).toArray)) w) : wpList Try.prog ops Q (op :: rest) a w :=
  wpList_load_row hgd 142 x ho hx hr TSnd h
end
set_option maxRecDepth 100000 in
set_option maxHeartbeats 1000000 in
theorem cheaper_any (w : World) (g N sz : Nat) (c : Nat → Int) (hN1 : 1 ≤ N) (hN : N ≤ 272) (hsz : sz ≤ 12) (hN2 : (N : Int) ≤ 2 ^ sz) (hg : g < w.heap.size) (hc : IntsA w g N c) (hk : Cnt c N) :
    Calls Try.prog 116 #[.slice (some ⟨g, 0, none⟩) N N, .int .i64 sz] w fun e w' => e = .returned (.agg (sndA (sndOf c N sz) N sz).toArray) ∧ Tch NoOld w w' := by
  have hSim := fun W (hT : Tch NoOld w W) => simple_any W g N sz c hN1 hN (Nat.lt_of_lt_of_le hg hT.size) (hc.keep hT (fun q => q))
  have hFul := fun W (hT : Tch NoOld w W) (hu : 2 ≤ usedTo c N) => full_any W g N sz c hN (Nat.lt_of_lt_of_le hg hT.size) (hc.keep hT (fun q => q)) hk hu
  have HS : Hid (sndOf c N sz = if usedTo c N ≤ 2 then simpSnd c N else if 4 < usedTo c N then fullSnd c N else if costOf (simpSnd c N) c N sz ≤ costOf (fullSnd c N) c N sz then simpSnd c N else fullSnd c N) := rfl
  have r0 := rowIs_new w 142 551 zInt
  have t0 := (Tch.refl NoOld w).alloc (.cells (cellsL 551 zInt).toArray 142)
  have hz0 : (w.alloc (.cells (cellsL 551 zInt).toArray 142)).heap.size = w.heap.size + 1 := by simp
  have HFin : Hid (∀ (w3 : World) (s : Snd), w3.rowIs w.heap.size 142 551 zInt → (w3.setCells w.heap.size 0 (sndA s N sz)).rowIs w.heap.size 142 551 (iV (sndI N sz s.n s.nm s.len (rowOf s.len N)))) := fun w3 F h => rowIs_setAll h _
  generalize hw1 : w.alloc (.cells (cellsL 551 zInt).toArray 142) = w1 at *
  go_enter Try.func116, Try.ntmps116
  go_wp2_with (refine wpList_alloc_row rfl 142 rfl TSnd ?_; rw [hw1])
  clear hw1
  go_loopw [5, 6] (fun vu vi wr => ∃ i : Nat, i ≤ N ∧ vu = .int .i64 (usedTo c i) ∧ vi = .int .i64 i ∧ wr = w1) (fun _ vi _ => N - (intOf vi).toNat)
  case atStart => exact ⟨0, by omega, rfl, rfl, rfl⟩
  case round =>
    obtain ⟨i, hi, rfl, rfl, rfl⟩ := hrel
    have ub : 0 ≤ usedTo c i ∧ usedTo c i ≤ i := by
      have : ∀ i : Nat, usedTo c i ≤ i := by
        intro i
        induction i with
        | zero => exact Int.le_refl _
        | succ i ih =>
          unfold usedTo
          split <;> omega
      exact ⟨usedTo_nonneg c i, this i⟩
    by_cases hlt : i < N
    · have k1 := (hc.keep t0 (fun q => q)) i hlt
      by_cases hpos : 0 < c i
      · have HU : Hid (usedTo c (i + 1) = usedTo c i + 1) := by
          show usedTo c i + (if _ then _ else _) = _
          rw [if_pos hpos]
        clear hSim hFul HS HFin
        go_wp2
        refine ⟨⟨i + 1, by omega, by rw [HU.out], by go_num, trivial⟩, by simp [intOf]; omega⟩
      · have HU : Hid (usedTo c (i + 1) = usedTo c i) := by
          show usedTo c i + (if _ then _ else _) = _
          rw [if_neg hpos, Int.add_zero]
        clear hSim hFul HS HFin
        go_wp2
        refine ⟨⟨i + 1, by omega, by rw [HU.out], by go_num, trivial⟩, by simp [intOf]; omega⟩
    · have : i = N := by omega
      subst this
      clear hlt hi
      have nO : ∀ {W W' : World}, Tch NoOld W W' → ∀ {b : Nat} {F : Nat → Value}, W.rowIs b 142 551 F → W'.rowIs b 142 551 F := fun h _ _ r => h.rowIs r (fun q => q)
      have nT : ∀ {W W' W'' : World}, Tch NoOld W W' → Tch NoOld W' W'' → Tch NoOld W W'' := fun h k => h.trans k (fun _ _ q => q)
      by_cases h2 : usedTo c i ≤ 2
      · have HE : Hid (sndOf c i sz = simpSnd c i) := by rw [Hid, HS.out, if_pos h2]
        have hA := hSim _ t0
        clear hSim hFul HS
        go_wp2_with (first
          | (refine wpList_store_row rfl 142 _ _ rfl rfl rfl rP TSnd (fun _ _ => rfl) ?_)
          | (go_at_call 129; refine hA.mono ?_; rintro e w2 ⟨rfl, t2⟩; have rP := nO t2 r0))
        refine bodyPost_ret (post_row TSnd rfl _ rfl (HFin.out _ _ rP)) rfl ?_
        rw [HE.out]
        exact ⟨rfl, (nT t0 t2).cells w.heap.size (fun q => absurd q (Nat.lt_irrefl _)) _ _⟩
      · have hu2 : 2 ≤ usedTo c i := by omega
        have hA := hFul _ t0 hu2
        have hlaid := fun W => snd_laid W (fullSnd c i) i sz
        have hlaidT := fun W => snd_laidT W (sndA (fullSnd c i) i sz)
        by_cases h4 : 4 < usedTo c i
        · have HE : Hid (sndOf c i sz = fullSnd c i) := by rw [Hid, HS.out, if_neg h2, if_pos h4]
          have HL : Hid (∀ W : World, SdRow ((W.alloc (.cells (cellsL 551 zInt).toArray 142)).setCells W.heap.size 0 (sndA (fullSnd c i) i sz)) W.heap.size i sz ((fullSnd c i).n : Nat) (fullSnd c i).nm (fullSnd c i).len (rowOf (fullSnd c i).len i)) := hlaid
          have HLT : Hid (∀ W : World, Tch NoOld W ((W.alloc (.cells (cellsL 551 zInt).toArray 142)).setCells W.heap.size 0 (sndA (fullSnd c i) i sz))) := hlaidT
          clear hSim hFul HS hlaid hlaidT
          go_wp2_with (first
            | (refine wpList_store_snd (fullSnd c i) i sz rfl _ _ rfl rfl rfl rP ?_)
            | (refine wpList_load_snd (fullSnd c i) i sz rfl _ rfl rfl r3 ?_)
            | (refine wpList_store_snd (fullSnd c i) i sz rfl _ _ rfl rfl rfl (rowIs_new w2 _ _ _) ?_; have r3 := HL.out w2; have t3 := HLT.out w2; have rP := nO t3 (nO t2 r0); generalize (w2.alloc (.cells (cellsL 551 zInt).toArray 142)).setCells w2.heap.size 0 (sndA (fullSnd c i) i sz) = w3 at *)
            | (go_at_call 130; refine hA.mono ?_; rintro e w2 ⟨rfl, t2⟩)
            | (refine wpList_alloc_row rfl 142 rfl TSnd ?_))
          refine bodyPost_ret (post_row TSnd rfl _ rfl (HFin.out _ _ rP)) rfl ?_
          rw [HE.out]
          exact ⟨rfl, (nT (nT t0 t2) t3).cells w.heap.size (fun q => absurd q (Nat.lt_irrefl _)) _ _⟩
        · have hso := simp_okC c i sz hN1 hN2
          have hfo := full_okC c i sz hk hu2
          have hcb : ∀ j, 0 ≤ c j ∧ c j ≤ 4096 := fun j => ⟨hk.lo j, hk.hi j⟩
          have hCS := fun (W : World) (hT : Tch NoOld w W) b (hR : SdRow W b i sz ((simpSnd c i).n : Nat) (simpSnd c i).nm (simpSnd c i).len (rowOf (simpSnd c i).len i)) => cost_any (simpSnd c i) c hR (Nat.lt_of_lt_of_le hg hT.size) (hc.keep hT (fun q => q)) hcb hN hso.1 hsz hso.2.1 hso.2.2
          have hCF := fun (W : World) (hT : Tch NoOld w W) b (hR : SdRow W b i sz ((fullSnd c i).n : Nat) (fullSnd c i).nm (fullSnd c i).len (rowOf (fullSnd c i).len i)) => cost_any (fullSnd c i) c hR (Nat.lt_of_lt_of_le hg hT.size) (hc.keep hT (fun q => q)) hcb hN hfo.1 hsz hfo.2.1 hfo.2.2
          have HL : Hid (∀ W : World, SdRow ((W.alloc (.cells (cellsL 551 zInt).toArray 142)).setCells W.heap.size 0 (sndA (fullSnd c i) i sz)) W.heap.size i sz ((fullSnd c i).n : Nat) (fullSnd c i).nm (fullSnd c i).len (rowOf (fullSnd c i).len i)) := fun W => snd_laid W (fullSnd c i) i sz
          have HLT : Hid (∀ W : World, Tch NoOld W ((W.alloc (.cells (cellsL 551 zInt).toArray 142)).setCells W.heap.size 0 (sndA (fullSnd c i) i sz))) := fun W => snd_laidT W (sndA (fullSnd c i) i sz)
          have HM : Hid (∀ W : World, SdRow ((W.alloc (.cells (cellsL 551 zInt).toArray 142)).setCells W.heap.size 0 (sndA (simpSnd c i) i sz)) W.heap.size i sz ((simpSnd c i).n : Nat) (simpSnd c i).nm (simpSnd c i).len (rowOf (simpSnd c i).len i)) := fun W => snd_laid W (simpSnd c i) i sz
          have HMT : Hid (∀ W : World, Tch NoOld W ((W.alloc (.cells (cellsL 551 zInt).toArray 142)).setCells W.heap.size 0 (sndA (simpSnd c i) i sz))) := fun W => snd_laidT W (sndA (simpSnd c i) i sz)
          have HSS : Hid (∀ W, Tch NoOld w W → Calls Try.prog 129 #[.slice (some ⟨g, 0, none⟩) i i, .int .i64 sz] W fun e w' => e = .returned (.agg (sndA (simpSnd c i) i sz).toArray) ∧ Tch NoOld W w') := hSim
          have HCS : Hid (∀ (W : World) (hT : Tch NoOld w W) b, SdRow W b i sz ((simpSnd c i).n : Nat) (simpSnd c i).nm (simpSnd c i).len (rowOf (simpSnd c i).len i) → Calls Try.prog 131 #[.pointer (some ⟨b, 0, none⟩), .slice (some ⟨g, 0, none⟩) i i] W fun e w' => e = .returned (.int .i64 (costOf (simpSnd c i) c i sz)) ∧ Tch NoOld W w') := hCS
          have HCF : Hid (∀ (W : World) (hT : Tch NoOld w W) b, SdRow W b i sz ((fullSnd c i).n : Nat) (fullSnd c i).nm (fullSnd c i).len (rowOf (fullSnd c i).len i) → Calls Try.prog 131 #[.pointer (some ⟨b, 0, none⟩), .slice (some ⟨g, 0, none⟩) i i] W fun e w' => e = .returned (.int .i64 (costOf (fullSnd c i) c i sz)) ∧ Tch NoOld W w') := hCF
          have HE : Hid (sndOf c i sz = if costOf (simpSnd c i) c i sz ≤ costOf (fullSnd c i) c i sz then simpSnd c i else fullSnd c i) := by rw [Hid, HS.out, if_neg h2, if_neg h4]
          clear hSim hFul HS hlaid hlaidT hCS hCF hso hfo
          generalize costOf (simpSnd c i) c i sz = k1 at *
          generalize costOf (fullSnd c i) c i sz = k2 at *
          by_cases hk12 : k1 ≤ k2
          · have HE2 : Hid (sndOf c i sz = simpSnd c i) := by rw [Hid, HE.out, if_pos hk12]
            go_wp2_with (first
              | (refine wpList_load_snd (simpSnd c i) i sz rfl _ rfl rfl r7s ?_)
              | (refine wpList_store_snd (simpSnd c i) i sz rfl _ _ rfl rfl rfl rP ?_)
              | (go_at_call 131; refine (HCF.out _ T6 _ (nO t6 r5f)).mono ?_; rintro e w7 ⟨rfl, t7⟩; have r7s := nO t7 (nO t6 r5); have r7f := nO t7 (nO t6 r5f); have rP := nO t7 (nO t6 r5p))
              | (go_at_call 131; refine (HCS.out _ T5 _ r5).mono ?_; rintro e w6 ⟨rfl, t6⟩; have T6 := nT T5 t6)
              | (refine wpList_store_snd (simpSnd c i) i sz rfl _ _ rfl rfl rfl (rowIs_new w4 _ _ _) ?_; have r5 := HM.out w4; have t5 := HMT.out w4; have T5 := nT T4 t5; have r5f := nO t5 (nO t4 r3); have r5p := nO t5 (nO t4 r3p); generalize (w4.alloc (.cells (cellsL 551 zInt).toArray 142)).setCells w4.heap.size 0 (sndA (simpSnd c i) i sz) = w5 at *)
              | (go_at_call 129; refine (HSS.out _ T3).mono ?_; rintro e w4 ⟨rfl, t4⟩; have T4 := nT T3 t4)
              | (refine wpList_store_snd (fullSnd c i) i sz rfl _ _ rfl rfl rfl (rowIs_new w2 _ _ _) ?_; have r3 := HL.out w2; have t3 := HLT.out w2; have r3p := nO t3 (nO t2 r0); have T3 := nT (nT t0 t2) t3; generalize (w2.alloc (.cells (cellsL 551 zInt).toArray 142)).setCells w2.heap.size 0 (sndA (fullSnd c i) i sz) = w3 at *)
              | (go_at_call 130; refine hA.mono ?_; rintro e w2 ⟨rfl, t2⟩)
              | (refine wpList_alloc_row rfl 142 rfl TSnd ?_))
            refine bodyPost_ret (post_row TSnd rfl _ rfl (HFin.out _ _ rP)) rfl ?_
            rw [HE2.out]
            exact ⟨rfl, (nT T6 t7).cells w.heap.size (fun q => absurd q (Nat.lt_irrefl _)) _ _⟩
          · have HE2 : Hid (sndOf c i sz = fullSnd c i) := by rw [Hid, HE.out, if_neg hk12]
            go_wp2_with (first
              | (refine wpList_load_snd (fullSnd c i) i sz rfl _ rfl rfl r7f ?_)
              | (refine wpList_store_snd (fullSnd c i) i sz rfl _ _ rfl rfl rfl rP ?_)
              | (go_at_call 131; refine (HCF.out _ T6 _ (nO t6 r5f)).mono ?_; rintro e w7 ⟨rfl, t7⟩; have r7s := nO t7 (nO t6 r5); have r7f := nO t7 (nO t6 r5f); have rP := nO t7 (nO t6 r5p))
              | (go_at_call 131; refine (HCS.out _ T5 _ r5).mono ?_; rintro e w6 ⟨rfl, t6⟩; have T6 := nT T5 t6)
              | (refine wpList_store_snd (simpSnd c i) i sz rfl _ _ rfl rfl rfl (rowIs_new w4 _ _ _) ?_; have r5 := HM.out w4; have t5 := HMT.out w4; have T5 := nT T4 t5; have r5f := nO t5 (nO t4 r3); have r5p := nO t5 (nO t4 r3p); generalize (w4.alloc (.cells (cellsL 551 zInt).toArray 142)).setCells w4.heap.size 0 (sndA (simpSnd c i) i sz) = w5 at *)
              | (go_at_call 129; refine (HSS.out _ T3).mono ?_; rintro e w4 ⟨rfl, t4⟩; have T4 := nT T3 t4)
              | (refine wpList_store_snd (fullSnd c i) i sz rfl _ _ rfl rfl rfl (rowIs_new w2 _ _ _) ?_; have r3 := HL.out w2; have t3 := HLT.out w2; have r3p := nO t3 (nO t2 r0); have T3 := nT (nT t0 t2) t3; generalize (w2.alloc (.cells (cellsL 551 zInt).toArray 142)).setCells w2.heap.size 0 (sndA (fullSnd c i) i sz) = w3 at *)
              | (go_at_call 130; refine hA.mono ?_; rintro e w2 ⟨rfl, t2⟩)
              | (refine wpList_alloc_row rfl 142 rfl TSnd ?_))
            refine bodyPost_ret (post_row TSnd rfl _ rfl (HFin.out _ _ rP)) rfl ?_
            rw [HE2.out]
            exact ⟨rfl, (nT T6 t7).cells w.heap.size (fun q => absurd q (Nat.lt_irrefl _)) _ _⟩
end Go.Proofs.Ytmpfgdmdnghhgaa

/- ForLetters, ForDistances. -/
namespace Go.Proofs.Ytmpfgdmdnghhgaa
open Go.RowKit Wr

set_option maxRecDepth 100000 in
set_option maxHeartbeats 400000 in
theorem ForLetters_any (w : World) (c : Nat → Int) (hk : Cnt c 272) :
    Calls Try.prog 101 #[.agg (cellsL 272 (iV c)).toArray] w fun e w' => e = .returned (.agg (sndA (sndOf c 272 9) 272 (9 : Nat)).toArray) ∧ Tch NoOld w w' := by
  have r1 := (rowIs_new w 84 272 (iV c)).alloc (.cells (cellsL 551 zInt).toArray 142)
  have t1 := ((Tch.refl NoOld w).alloc (.cells (cellsL 272 (iV c)).toArray 84)).alloc (.cells (cellsL 551 zInt).toArray 142)
  have hz1 : (w.alloc (.cells (cellsL 272 (iV c)).toArray 84)).heap.size = w.heap.size + 1 := by simp
  have r2 := rowIs_new (w.alloc (.cells (cellsL 272 (iV c)).toArray 84)) 142 551 zInt
  rw [hz1] at r2
  have hC := cheaper_any ((w.alloc (.cells (cellsL 272 (iV c)).toArray 84)).alloc (.cells (cellsL 551 zInt).toArray 142)) w.heap.size 272 9 c (by omega) (by omega) (by omega) (by decide) (by simp; omega) (rowIs_ints r1) hk
  have hCC : Calls Try.prog 116 #[.slice (some ⟨w.heap.size, 0, none⟩) 272 272, .int .i64 9] ((w.alloc (.cells (cellsL 272 (iV c)).toArray 84)).alloc (.cells (cellsL 551 zInt).toArray 142)) fun e w' => e = .returned (.agg (sndA (sndOf c 272 9) 272 (9 : Nat)).toArray) ∧ Tch NoOld ((w.alloc (.cells (cellsL 272 (iV c)).toArray 84)).alloc (.cells (cellsL 551 zInt).toArray 142)) w' := hC
  have HFin : Hid (∀ (w3 : World) (s : Snd), w3.rowIs (w.heap.size + 1) 142 551 zInt → (w3.setCells (w.heap.size + 1) 0 (sndA s 272 (9 : Nat))).rowIs (w.heap.size + 1) 142 551 (iV (sndI (272 : Nat) (9 : Nat) s.n s.nm s.len (rowOf s.len 272)))) := fun w3 F h => rowIs_setAll h _
  clear hC hz1 r1
  go_enter Try.func101, Try.ntmps101
  go_wp2_with (first
    | (refine wpList_store_snd (sndOf c 272 9) 272 (9 : Nat) rfl _ _ rfl rfl rfl rP ?_)
    | (go_at_call 116; refine hCC.mono ?_; rintro e w2 ⟨rfl, t2⟩; have rP := t2.rowIs r2 (fun q => q))
    | (refine wpList_alloc_row rfl 142 rfl TSnd ?_))
  refine bodyPost_ret (post_row TSnd rfl _ rfl (HFin.out _ _ rP)) rfl ?_
  exact ⟨rfl, (t1.trans t2 (fun _ _ q => q)).cells (w.heap.size + 1) (fun q => by omega) _ _⟩

set_option maxRecDepth 100000 in
set_option maxHeartbeats 400000 in
theorem ForDistances_any (w : World) (c : Nat → Int) (hk : Cnt c 16) :
    Calls Try.prog 102 #[.agg (cellsL 16 (iV c)).toArray] w fun e w' => e = .returned (.agg (sndA (sndOf c 16 4) 16 (4 : Nat)).toArray) ∧ Tch NoOld w w' := by
  have r1 := (rowIs_new w 140 16 (iV c)).alloc (.cells (cellsL 551 zInt).toArray 142)
  have t1 := ((Tch.refl NoOld w).alloc (.cells (cellsL 16 (iV c)).toArray 140)).alloc (.cells (cellsL 551 zInt).toArray 142)
  have hz1 : (w.alloc (.cells (cellsL 16 (iV c)).toArray 140)).heap.size = w.heap.size + 1 := by simp
  have r2 := rowIs_new (w.alloc (.cells (cellsL 16 (iV c)).toArray 140)) 142 551 zInt
  rw [hz1] at r2
  have hC := cheaper_any ((w.alloc (.cells (cellsL 16 (iV c)).toArray 140)).alloc (.cells (cellsL 551 zInt).toArray 142)) w.heap.size 16 4 c (by omega) (by omega) (by omega) (by decide) (by simp; omega) (rowIs_ints r1) hk
  have hCC : Calls Try.prog 116 #[.slice (some ⟨w.heap.size, 0, none⟩) 16 16, .int .i64 4] ((w.alloc (.cells (cellsL 16 (iV c)).toArray 140)).alloc (.cells (cellsL 551 zInt).toArray 142)) fun e w' => e = .returned (.agg (sndA (sndOf c 16 4) 16 (4 : Nat)).toArray) ∧ Tch NoOld ((w.alloc (.cells (cellsL 16 (iV c)).toArray 140)).alloc (.cells (cellsL 551 zInt).toArray 142)) w' := hC
  have HFin : Hid (∀ (w3 : World) (s : Snd), w3.rowIs (w.heap.size + 1) 142 551 zInt → (w3.setCells (w.heap.size + 1) 0 (sndA s 16 (4 : Nat))).rowIs (w.heap.size + 1) 142 551 (iV (sndI (16 : Nat) (4 : Nat) s.n s.nm s.len (rowOf s.len 16)))) := fun w3 F h => rowIs_setAll h _
  clear hC hz1 r1
  go_enter Try.func102, Try.ntmps102
  go_wp2_with (first
    | (refine wpList_store_snd (sndOf c 16 4) 16 (4 : Nat) rfl _ _ rfl rfl rfl rP ?_)
    | (go_at_call 116; refine hCC.mono ?_; rintro e w2 ⟨rfl, t2⟩; have rP := t2.rowIs r2 (fun q => q))
    | (refine wpList_alloc_row rfl 142 rfl TSnd ?_))
  refine bodyPost_ret (post_row TSnd rfl _ rfl (HFin.out _ _ rP)) rfl ?_
  exact ⟨rfl, (t1.trans t2 (fun _ _ q => q)).cells (w.heap.size + 1) (fun q => by omega) _ _⟩

end Go.Proofs.Ytmpfgdmdnghhgaa
