import Derived.Test.YtmpfgdmdnghhgaaK8
import Derived.Test.YtmpfgdmdnghhgaaK9
import Derived.Test.YtmpfgdmdnghhgaaS11
/- A CODED BLOCK's BODY: writer.put walked. -/
namespace Go.Proofs.Ytmpfgdmdnghhgaa
open Go.RowKit Wr

theorem row_bounds {f : Nat → Int} {N i : Nat} : 0 ≤ rowOf f N i ∧ rowOf f N i < 2 ^ (f i).toNat := by
  unfold rowOf
  split
  · exact msb_bounds _ _
  · have := pow_pos2 (f i).toNat
    omega
/-- a sender in block b -/
def SAt (w : World) (b : Nat) (s : Snd) (N sz : Nat) : Prop := SdRow w b N sz (s.n : Nat) s.nm s.len (rowOf s.len N)

set_option maxHeartbeats 400000 in
theorem isCopy_any (w : World) (c : Cm) :
    Calls Try.prog 100 #[.agg #[.int .i64 c.letter, .int .i64 c.length, .int .i64 c.far, .int .i64 c.dist]] w fun e w' => e = .returned (.bool (isC c)) ∧ Tch NoOld w w' := by
  have t0 := (Tch.refl NoOld w).alloc (.cells #[.int .i64 c.letter, .int .i64 c.length, .int .i64 c.far, .int .i64 c.dist] 139)
  have HI : Hid (isC c = decide (256 ≤ c.letter)) := rfl
  by_cases h : 256 ≤ c.letter
  · have HD : Hid (isC c = true) := by rw [Hid, HI.out]; exact decide_eq_true h
    go_enter Try.func100, Try.ntmps100
    go_wp2
    go_ret
    rw [HD.out]
    exact ⟨rfl, t0⟩
  · have HD : Hid (isC c = false) := by rw [Hid, HI.out]; exact decide_eq_false h
    go_enter Try.func100, Try.ntmps100
    go_wp2
    go_ret
    rw [HD.out]
    exact ⟨rfl, t0⟩

theorem BB.own_lt {w : World} {T : TypeId} {n0 : Nat} {F : Value → Int → Int → Nat → Value} {b t : Nat} {L : List Int} {v : Value} (h : BB w T n0 F b L t v) : ∀ g, v.ownBlock = some g → g < w.heap.size := by
  obtain ⟨s, ⟨_, h2, _⟩, _⟩ := h
  exact fun g hg => (World.ownsRow.lt h2 g hg).2
theorem cmd_cells {w : World} {q : Nat} {c : Cm} (h : w.rowIs q 139 4 (iV (cmI c))) : w.cell? ⟨q, 0, none⟩ = some (.int .i64 c.letter) ∧ w.cell? ⟨q, 1, none⟩ = some (.int .i64 c.length) ∧ w.cell? ⟨q, 2, none⟩ = some (.int .i64 c.far) ∧ w.cell? ⟨q, 3, none⟩ = some (.int .i64 c.dist) :=
  ⟨World.rowIs.cell h (i := 0) (by omega), World.rowIs.cell h (i := 1) (by omega), World.rowIs.cell h (i := 2) (by omega), World.rowIs.cell h (i := 3) (by omega)⟩

section
variable {w : World} {T : TypeId} {n0 : Nat} {F : Value → Int → Int → Nat → Value} {r t : Nat} {L : List Int} {v : Value} {bA bB : Nat} {A B : Snd}

set_option maxRecDepth 100000 in
set_option maxHeartbeats 1000000 in
theorem wput_any (hF : IsBox F n0) (h : BB w T n0 F r L t v) (hA : SAt w bA A 272 9) (hB : SAt w bB B 16 4) (hAr : bA ≠ r) (hBr : bB ≠ r) (hAv : v.ownBlock ≠ some bA) (hBv : v.ownBlock ≠ some bB)
    (fA : ∀ i, 0 ≤ A.len i ∧ A.len i ≤ 12) (fB : ∀ i, 0 ≤ B.len i ∧ B.len i ≤ 12) (c : Cm) (hc : CmOk c) (hL : L.length ≤ 800000000000) :
    Calls Try.prog 104 #[.pointer (some ⟨r, 0, none⟩), .agg #[.int .i64 c.letter, .int .i64 c.length, .int .i64 c.far, .int .i64 c.dist], .pointer (some ⟨bA, 0, none⟩), .pointer (some ⟨bB, 0, none⟩)] w fun e w' => e = .returned (.tuple #[]) ∧ Adds w w' T n0 F r t (L ++ cmdL A B c) v := by
  obtain ⟨i, hi⟩ := Int.eq_ofNat_of_zero_le hc.l0
  have hi2 : i < 272 := by have := hc.l1; omega
  have hrl := h.lt
  have hol := h.own_lt
  have rq : (w.alloc (.cells #[.int .i64 c.letter, .int .i64 c.length, .int .i64 c.far, .int .i64 c.dist] 139)).rowIs w.heap.size 139 4 (iV (cmI c)) := rowIs_new w 139 4 (iV (cmI c))
  have t0 := (Tch.refl NoOld w).alloc (.cells #[.int .i64 c.letter, .int .i64 c.length, .int .i64 c.far, .int .i64 c.dist] 139)
  have hz : (w.alloc (.cells #[.int .i64 c.letter, .int .i64 c.length, .int .i64 c.far, .int .i64 c.dist] 139)).heap.size = w.heap.size + 1 := by simp
  have h1 := h.keep t0 (fun q => q) (fun _ _ q => q)
  have hA1 : SAt _ bA A 272 9 := t0.rowIs hA (fun q => q)
  have hB1 : SAt _ bB B 16 4 := t0.rowIs hB (fun q => q)
  have nq : ¬ BT r v w.heap.size := not_BT (by omega) (fun e => by have := hol _ e; omega)
  have nA : ¬ BT r v bA := not_BT hAr hAv
  have nB : ¬ BT r v bB := not_BT hBr hBv
  have hlA := fA i
  have hPut1 : Calls Try.prog 119 #[.pointer (some ⟨bA, 0, none⟩), .pointer (some ⟨r, 0, none⟩), .int .i64 c.letter] (w.alloc (.cells #[.int .i64 c.letter, .int .i64 c.length, .int .i64 c.far, .int .i64 c.dist] 139)) fun e w' => e = .returned (.tuple #[]) ∧ Adds (w.alloc (.cells #[.int .i64 c.letter, .int .i64 c.length, .int .i64 c.far, .int .i64 c.dist] 139)) w' T n0 F r t (L ++ putL A 272 i) v := by
    rw [hi]
    rw [hi] at h1 hA1
    exact sput_any hF h1 hA1 i hi2 hlA row_bounds (by omega)
  have HIC : Hid (isC c = decide (256 ≤ c.letter)) := rfl
  obtain ⟨m0, m1, m2, m3⟩ := cmd_cells rq
  have hlenP : (putL A 272 i).length ≤ 12 := by unfold putL; rw [numBits_length]; omega
  generalize hw1 : w.alloc (.cells #[.int .i64 c.letter, .int .i64 c.length, .int .i64 c.far, .int .i64 c.dist] 139) = w1 at *
  by_cases hcp : 256 ≤ c.letter
  · have HD : Hid (isC c = true) := by rw [Hid, HIC.out]; exact decide_eq_true hcp
    obtain ⟨d1, d2, d3, d4, d5⟩ := hc.copy hcp
    obtain ⟨j, hj⟩ := Int.eq_ofNat_of_zero_le d3
    have hlB := fB j
    have hlm : ∀ k : Nat, k ≤ 15 → 0 ≤ lenMore k ∧ lenMore k ≤ 8 := by decide
    obtain ⟨k, hk⟩ := Int.eq_ofNat_of_zero_le (show 0 ≤ c.letter - 256 by omega)
    have hlmk := hlm k (by omega)
    have hLen := fun W => length_any (c.letter - 256) W (by omega) (by omega)
    rw [hk] at hLen d1 d2
    have HE0 : Hid (cmdL A B c = putL A 272 i ++ (numBits (c.length - lenLeast k) (lenMore k).toNat ++ (putL B 16 j ++ (if 4 ≤ c.far then numBits (c.dist - distLeast c.far) (distMore c.far).toNat else [])))) := by
      unfold Hid cmdL
      rw [if_pos hcp, hk, hi, hj]
      rfl
    obtain ⟨lm, hlme⟩ := Int.eq_ofNat_of_zero_le hlmk.1
    rw [hlme] at hLen d2 hlmk HE0
    rw [Int.toNat_natCast] at d2 HE0
    have hNum1 : ∀ W u, BB W T n0 F r (L ++ putL A 272 i) t u → Calls Try.prog 43 #[.pointer (some ⟨r, 0, none⟩), .int .i64 (c.length - lenLeast k), .int .i64 lm] W fun e w' => e = .returned (.tuple #[]) ∧ Adds W w' T n0 F r t (L ++ putL A 272 i ++ numBits (c.length - lenLeast k) lm) u := fun W u hW => number_B hF hW _ lm (by omega) (by omega) (by omega) (by rw [List.length_append]; omega)
    have hPut2 : ∀ W u, BB W T n0 F r (L ++ putL A 272 i ++ numBits (c.length - lenLeast k) lm) t u → SAt W bB B 16 4 → Calls Try.prog 119 #[.pointer (some ⟨bB, 0, none⟩), .pointer (some ⟨r, 0, none⟩), .int .i64 c.far] W fun e w' => e = .returned (.tuple #[]) ∧ Adds W w' T n0 F r t (L ++ putL A 272 i ++ numBits (c.length - lenLeast k) lm ++ putL B 16 j) u := fun W u hW hS => by
      rw [hj]
      exact sput_any hF hW hS j (by omega) hlB row_bounds (by rw [List.length_append, List.length_append, numBits_length]; omega)
    have hlenB : (putL B 16 j).length ≤ 12 := by unfold putL; rw [numBits_length]; omega
    have lb : 0 ≤ lenLeast k ∧ lenLeast k ≤ 1000 := by
      have : ∀ k : Nat, k ≤ 15 → 0 ≤ lenLeast k ∧ lenLeast k ≤ 1000 := by decide
      exact this k (by omega)
    have p8 : (2 : Int) ^ lm ≤ 2 ^ 8 := pow_mono (by omega)
    have p83 : (2 : Int) ^ 8 = 256 := rfl
    have hk256 : c.letter - 256 = (k : Int) := hk
    have hki : (k : Int) ≤ 15 := by have := hc.l1; omega
    generalize hll : lenLeast k = ll at *
    have hIC := fun W => isCopy_any W c
    rw [HD.out] at hIC
    have HPut2 : Hid _ := hPut2
    have HNum1 : Hid _ := hNum1
    have HLen : Hid _ := hLen
    have HIC2 : Hid _ := hIC
    have HBS : Hid (SAt w1 bB B 16 4) := hB1
    have HW1 : Hid (w.alloc (.cells #[.int .i64 c.letter, .int .i64 c.length, .int .i64 c.far, .int .i64 c.dist] 139) = w1) := hw1
    have Hnq : Hid (¬ BT r v w.heap.size ∧ ¬ BT r v bB) := ⟨nq, nB⟩
    clear hPut2 hNum1 hLen hIC hB1 hA1 hA hB nq nA nB h h1 hc fA fB hlm hll hol hk hi hj hlme hAv hBv hw1 hz
    by_cases hf4 : 4 ≤ c.far
    · have hDm : ∀ d : Nat, d ≤ 15 → 0 ≤ distMore d ∧ distMore d ≤ 11 ∧ 0 ≤ distLeast d ∧ distLeast d ≤ 2048 := by decide
      obtain ⟨e1, e2⟩ := d5 hf4
      obtain ⟨jj, hjj⟩ := Int.eq_ofNat_of_zero_le d3
      have hDk := hDm jj (by omega)
      rw [← hjj] at hDk
      obtain ⟨dm, hdme⟩ := Int.eq_ofNat_of_zero_le hDk.1
      have hDis := fun W => distance_any c.far W hf4 d4
      rw [hdme] at hDis e2 hDk HE0
      rw [Int.toNat_natCast] at e2 HE0
      rw [if_pos hf4] at HE0
      have p11 : (2 : Int) ^ dm ≤ 2 ^ 11 := pow_mono (by omega)
      have p113 : (2 : Int) ^ 11 = 2048 := rfl
      have hNum2 : ∀ W u, BB W T n0 F r (L ++ putL A 272 i ++ numBits (c.length - ll) lm ++ putL B 16 j) t u → Calls Try.prog 43 #[.pointer (some ⟨r, 0, none⟩), .int .i64 (c.dist - distLeast c.far), .int .i64 dm] W fun e w' => e = .returned (.tuple #[]) ∧ Adds W w' T n0 F r t (L ++ putL A 272 i ++ numBits (c.length - ll) lm ++ putL B 16 j ++ numBits (c.dist - distLeast c.far) dm) u := fun W u hW => number_B hF hW _ dm (by omega) (by omega) (by omega) (by rw [List.length_append, List.length_append, List.length_append, numBits_length]; omega)
      have HNum2 : Hid _ := hNum2
      have HDis : Hid _ := hDis
      have HE : Hid (L ++ cmdL A B c = L ++ putL A 272 i ++ numBits (c.length - ll) lm ++ putL B 16 j ++ numBits (c.dist - distLeast c.far) dm) := by
        rw [Hid, HE0.out]
        simp only [List.append_assoc]
      clear hNum2 hDis HE0 hDm hjj hdme
      generalize distLeast c.far = dl at *
      go_enter Try.func104, Try.ntmps104
      go_wp2_with (first
        | (go_at_call 43; refine (HNum2.out _ _ b5).mono ?_; rintro e w6 ⟨rfl, u6, b6, o6, t6⟩)
        | (go_at_call 96; refine (HDis.out _).mono ?_; rintro e w9 ⟨rfl, hw9⟩; obtain rfl := hw9.symm)
        | (go_at_call 119; refine (HPut2.out _ _ b4 (T4.rowIs HBS.out Hnq.out.2)).mono ?_; rintro e w5 ⟨rfl, u5, b5, o5, t5⟩; have O5 := O4.trans o5 T4.size; have T5 := T4.trans t5 (BT.next O4); obtain ⟨v0, v1, v2, v3⟩ := cmd_cells (T5.rowIs rq Hnq.out.1))
        | (go_at_call 43; refine (HNum1.out _ _ b3).mono ?_; rintro e w4 ⟨rfl, u4, b4, o4, t4⟩; have O4 := o2.trans o4 T3.size; have T4 := T3.trans t4 (BT.next o2); obtain ⟨z0, z1, z2, z3⟩ := cmd_cells (T4.rowIs rq Hnq.out.1))
        | (go_at_call 94; refine (HLen.out _).mono ?_; rintro e w9 ⟨rfl, hw9⟩; obtain rfl := hw9.symm)
        | (go_at_call 100; refine (HIC2.out _).mono ?_; rintro e w3 ⟨rfl, t3⟩; have b3 := b2.keep t3 (fun q => q) (fun _ _ q => q); have T3 : Tch (BT r v) w1 w3 := t2.trans t3 (fun _ _ q => q.elim); obtain ⟨y0, y1, y2, y3⟩ := cmd_cells (T3.rowIs rq Hnq.out.1))
        | (refine wpList_load_cmd c rfl _ rfl rfl (t2.rowIs rq Hnq.out.1) ?_)
        | (go_at_call 119; rw [HW1.out]; refine hPut1.mono ?_; rintro e w2 ⟨rfl, u2, b2, o2, t2⟩; obtain ⟨x0, x1, x2, x3⟩ := cmd_cells (t2.rowIs rq Hnq.out.1)))
      go_end0
      rw [HE.out]
      have O6 := O5.trans o6 T5.size
      have T6 := T5.trans t6 (BT.next O5)
      refine ⟨rfl, u6, b6, ?_, ?_⟩
      · rcases O6 with e | ⟨gg, g1, g2⟩
        · exact Or.inl e
        · exact Or.inr ⟨gg, g1, by have := t0.size; omega⟩
      · exact (t0.mono (fun _ _ q => q.elim)).trans T6 (fun _ _ q => q)
    · rw [if_neg hf4] at HE0
      have HE : Hid (L ++ cmdL A B c = L ++ putL A 272 i ++ numBits (c.length - ll) lm ++ putL B 16 j) := by
        rw [Hid, HE0.out]
        simp only [List.append_assoc, List.append_nil]
      clear HE0
      go_enter Try.func104, Try.ntmps104
      go_wp2_with (first
        | (go_at_call 119; refine (HPut2.out _ _ b4 (T4.rowIs HBS.out Hnq.out.2)).mono ?_; rintro e w5 ⟨rfl, u5, b5, o5, t5⟩; have O5 := O4.trans o5 T4.size; have T5 := T4.trans t5 (BT.next O4); obtain ⟨v0, v1, v2, v3⟩ := cmd_cells (T5.rowIs rq Hnq.out.1))
        | (go_at_call 43; refine (HNum1.out _ _ b3).mono ?_; rintro e w4 ⟨rfl, u4, b4, o4, t4⟩; have O4 := o2.trans o4 T3.size; have T4 := T3.trans t4 (BT.next o2); obtain ⟨z0, z1, z2, z3⟩ := cmd_cells (T4.rowIs rq Hnq.out.1))
        | (go_at_call 94; refine (HLen.out _).mono ?_; rintro e w9 ⟨rfl, hw9⟩; obtain rfl := hw9.symm)
        | (go_at_call 100; refine (HIC2.out _).mono ?_; rintro e w3 ⟨rfl, t3⟩; have b3 := b2.keep t3 (fun q => q) (fun _ _ q => q); have T3 : Tch (BT r v) w1 w3 := t2.trans t3 (fun _ _ q => q.elim); obtain ⟨y0, y1, y2, y3⟩ := cmd_cells (T3.rowIs rq Hnq.out.1))
        | (refine wpList_load_cmd c rfl _ rfl rfl (t2.rowIs rq Hnq.out.1) ?_)
        | (go_at_call 119; rw [HW1.out]; refine hPut1.mono ?_; rintro e w2 ⟨rfl, u2, b2, o2, t2⟩; obtain ⟨x0, x1, x2, x3⟩ := cmd_cells (t2.rowIs rq Hnq.out.1)))
      go_end0
      rw [HE.out]
      refine ⟨rfl, u5, b5, ?_, ?_⟩
      · rcases O5 with e | ⟨gg, g1, g2⟩
        · exact Or.inl e
        · exact Or.inr ⟨gg, g1, by have := t0.size; omega⟩
      · exact (t0.mono (fun _ _ q => q.elim)).trans T5 (fun _ _ q => q)
  · have HD : Hid (isC c = false) := by rw [Hid, HIC.out]; exact decide_eq_false hcp
    have HE : Hid (L ++ cmdL A B c = L ++ putL A 272 i) := by
      unfold Hid cmdL
      rw [if_neg hcp, List.append_nil, hi]
      rfl
    have hIC := fun W => isCopy_any W c
    rw [HD.out] at hIC
    have HIC2 : Hid _ := hIC
    have HW1 : Hid (w.alloc (.cells #[.int .i64 c.letter, .int .i64 c.length, .int .i64 c.far, .int .i64 c.dist] 139) = w1) := hw1
    have Hnq : Hid (¬ BT r v w.heap.size ∧ ¬ BT r v bB) := ⟨nq, nB⟩
    clear hIC hB1 hA1 hA hB nq nA nB h h1 hc fA fB hol hi hAv hBv hw1 hz
    go_enter Try.func104, Try.ntmps104
    go_wp2_with (first
      | (go_at_call 100; refine (HIC2.out _).mono ?_; rintro e w3 ⟨rfl, t3⟩; have b3 := b2.keep t3 (fun q => q) (fun _ _ q => q); have T3 : Tch (BT r v) w1 w3 := t2.trans t3 (fun _ _ q => q.elim))
      | (refine wpList_load_cmd c rfl _ rfl rfl (t2.rowIs rq Hnq.out.1) ?_)
      | (go_at_call 119; rw [HW1.out]; refine hPut1.mono ?_; rintro e w2 ⟨rfl, u2, b2, o2, t2⟩; obtain ⟨x0, x1, x2, x3⟩ := cmd_cells (t2.rowIs rq Hnq.out.1)))
    refine bodyPost_ret (results_none rfl _ _ _) rfl ?_
    rw [HE.out]
    refine ⟨rfl, u2, b3, ?_, ?_⟩
    · rcases o2 with e | ⟨gg, g1, g2⟩
      · exact Or.inl e
      · exact Or.inr ⟨gg, g1, by have := t0.size; omega⟩
    · exact (t0.mono (fun _ _ q => q.elim)).trans T3 (fun _ _ q => q)
end
end Go.Proofs.Ytmpfgdmdnghhgaa
