import Derived.Test.YtmjigodhncjfjaaE9
namespace Go.Proofs.Ytmjigodhncjfjaa
open Go.RowKit Wr

theorem noteL_length (L : List Int) (T : List UInt8) : (noteL L T).length ≤ L.length + 18 + 8 * T.length := by
  unfold noteL
  have h1 := padL_le (headL L false 3 ++ numBits (T.length : Int) 8)
  have h2 := headL_length L false 3
  rw [List.length_append, numBits_length] at h1
  rw [List.length_append, byteBits_length]
  omega

set_option maxRecDepth 100000 in
set_option maxHeartbeats 1000000 in
theorem kcall_note {w : World} {k q b : Nat} {r : St} (h : Work w k q b r.L r.P r.k) (T : ByteArray) (hL : r.L.length + 8 * r.P.length ≤ 800000000000) (hF : 0 ≤ r.k.notes ∧ r.k.notes ≤ 1099511627776) (hB : 0 ≤ r.k.bytes ∧ r.k.bytes ≤ 1099511627776) :
    Calls Try.prog 36 #[.pointer (some ⟨k, 0, none⟩), .agg #[.int .i64 3, .string T]] w fun e w' => e = .returned (.tuple #[]) ∧ Work w' k q b (callS 3 T r).L (callS 3 T r).P (callS 3 T r).k ∧ On3k k q b w w' := by
  have HC : Hid (callS 3 T r = ⟨noteL (letL r.L r.P) (noteT T).data.toList, [], { r.k with out := bytesL (noteL (letL r.L r.P) (noteT T).data.toList), notes := r.k.notes + 1, bytes := r.k.bytes + (noteT T).size }⟩) := rfl
  rw [HC.out]
  obtain ⟨L, P, s⟩ := r
  dsimp only at h hL hF hB ⊢
  have hrow := h.row
  have c0 : w.cell? ⟨k, 0, none⟩ = some (.pointer (some ⟨q, 0, none⟩)) := World.rowIs.cell hrow (by omega)
  have c1 : w.cell? ⟨k, 4, none⟩ = some (.int .i64 s.notes) := World.rowIs.cell hrow (by omega)
  have c2 : w.cell? ⟨k, 5, none⟩ = some (.int .i64 s.bytes) := World.rowIs.cell hrow (by omega)
  have hfz := World.rowIs.frozen hrow
  have hk : k < w.heap.size := World.rowIs.lt hrow
  have hts := noteT_size T
  have hNT : (noteT T).data.toList.length = (noteT T).size := by simp
  have honB : ∀ o x y, On k w (((w.setCell ⟨k, 4, none⟩ x).setCell ⟨k, 5, none⟩ y).alloc o) := fun o x y => (((On.refl k w).set _ _).set _ _).alloc o
  have hEA := fun o x y => h.enc.on (honB o x y) h.kq.symm
  have hWA := fun o x y => h.wr.on (honB o x y) h.kb.symm
  have hRA : ∀ o, WkRow (((w.setCell ⟨k, 4, none⟩ (.int .i64 (s.notes + 1))).setCell ⟨k, 5, none⟩ (.int .i64 (s.bytes + (noteT T).size))).alloc o) k q { s with notes := s.notes + 1, bytes := s.bytes + (noteT T).size } := fun o => World.rowIs.alloc (WkRow.bytes (WkRow.notes hrow (s.notes + 1)) _) o
  have hE := fun W (h1 : EncAt W q (some b)) (h2 : W0 W b L P) => EncNote_open h1 h2 (noteT T) hts.1 (by omega)
  have HM := bytesL_more ((ext_let L P).trans (ext_note (letL L P) (noteT T).data.toList))
  have HI : Hid (EncInv (noteL (letL L P) (noteT T).data.toList, []) s.plain.data.toList) := inv_note h.inv _ (by omega)
  have hfl := noteL_length (letL L P) (noteT T).data.toList
  have hlet := letL_length L P
  generalize noteL (letL L P) (noteT T).data.toList = L' at *
  have hsz := outFrom_size L' (L.length / 8)
  have hso : s.out.size = L.length / 8 := by rw [h.out, bytesL_size]
  have HM2 : Hid (s.out ++ outStr (outFrom L' (L.length / 8)) = bytesL L') := by rw [Hid, h.out]; exact HM
  generalize outStr (outFrom L' (L.length / 8)) = y at *
  have hG := fun W (s' : Wk) (e1 : s'.out = s.out) (h1 : WkRow W k q s') => got_any h1 y (by rw [e1]; omega)
  have HW : Hid (Work w k q b L P s) := h
  clear h HC HM hfl hsz hso hrow hlet hNT
  by_cases hlong : 255 < T.size
  · have e : noteT T = T.extract 0 255 := by unfold noteT; rw [if_pos hlong]
    have es : (noteT T).size = 255 := by rw [e, ByteArray.size_extract]; omega
    have es2 : (T.extract 0 255).size = 255 := by rw [← e, es]
    rw [e] at hE
    have hRB : ∀ o, WkRow (((w.setCell ⟨k, 4, none⟩ (.int .i64 (s.notes + 1))).setCell ⟨k, 5, none⟩ (.int .i64 (s.bytes + 255))).alloc o) k q { s with notes := s.notes + 1, bytes := s.bytes + (noteT T).size } := fun o => by
      have := hRA o
      rw [es] at this ⊢
      exact this
    clear e es hRA
    go_enter Try.func36, Try.ntmps36
    go_wp2_with (first
      | (go_at_call 50; refine (hG _ { s with notes := s.notes + 1, bytes := s.bytes + (noteT T).size } rfl hr1).mono ?_; rintro e w2 ⟨rfl, hr2, hon2⟩)
      | (go_at_call 45; refine (hE _ (hEA _ _ _) (hWA _ _ _)).mono ?_; rintro e w1 ⟨rfl, hw1, hon1⟩; have hr1 := hon1.wkRow HW.out.kb (hRB _); have he1 := hon1.encAt HW.out.qb (hEA _ _ _); have hon0 := honB _ _ _ |>.to1 (q := q) (b := b) |>.trans hon1.to3))
    go_end0
    refine ⟨rfl, ⟨?_, he1.on hon2 HW.out.kq.symm, hw1.on hon2 HW.out.kb.symm, HW.out.kq, HW.out.kb, HW.out.qb, rfl, HI.out⟩, hon0.trans hon2.to1⟩
    have := hr2
    rw [show ({ s with notes := s.notes + 1, bytes := s.bytes + (noteT T).size } : Wk).out ++ y = bytesL L' from HM2.out] at this
    exact this
  · have e : noteT T = T := by unfold noteT; rw [if_neg hlong]
    rw [e] at hE hRA ⊢
    clear e
    go_enter Try.func36, Try.ntmps36
    go_wp2_with (first
      | (go_at_call 50; refine (hG _ { s with notes := s.notes + 1, bytes := s.bytes + (T).size } rfl hr1).mono ?_; rintro e w2 ⟨rfl, hr2, hon2⟩)
      | (go_at_call 45; refine (hE _ (hEA _ _ _) (hWA _ _ _)).mono ?_; rintro e w1 ⟨rfl, hw1, hon1⟩; have hr1 := hon1.wkRow HW.out.kb (hRA _); have he1 := hon1.encAt HW.out.qb (hEA _ _ _); have hon0 := honB _ _ _ |>.to1 (q := q) (b := b) |>.trans hon1.to3))
    go_end0
    refine ⟨rfl, ⟨?_, he1.on hon2 HW.out.kq.symm, hw1.on hon2 HW.out.kb.symm, HW.out.kq, HW.out.kb, HW.out.qb, rfl, HI.out⟩, hon0.trans hon2.to1⟩
    have := hr2
    rw [show ({ s with notes := s.notes + 1, bytes := s.bytes + (T).size } : Wk).out ++ y = bytesL L' from HM2.out] at this
    exact this

/-- how far a state may have come -/
structure Roomy (r : St) (n : Nat) : Prop where
  phi : r.L.length + 8 * r.P.length + 30 * n ≤ 700000000000
  plain : r.k.plain.size + n ≤ 1099511627776
  f : 0 ≤ r.k.flushes ∧ r.k.flushes + n ≤ 1099511627776
  nt : 0 ≤ r.k.notes ∧ r.k.notes + n ≤ 1099511627776
  by_ : 0 ≤ r.k.bytes ∧ r.k.bytes + n ≤ 1099511627776
theorem callS_roomy {r : St} {n : Nat} (kind : Int) (T : ByteArray) (h : Roomy r (n + T.size + 4)) (hp : r.P.length ≤ 4096) : Roomy (callS kind T r) n := by
  obtain ⟨h1, h2, h3, h4, h5⟩ := h
  have hts := noteT_size T
  unfold callS
  by_cases k1 : kind = 1
  · rw [if_pos k1]
    have hphi := writeE_phi T.data.toList (r.L, r.P)
    have hTs : T.data.toList.length = T.size := by simp
    refine ⟨?_, ?_, ⟨h3.1, by show r.k.flushes + n ≤ _; omega⟩, ⟨h4.1, by show r.k.notes + n ≤ _; omega⟩, ⟨h5.1, by show r.k.bytes + n ≤ _; omega⟩⟩
    · show phiE (writeE (r.L, r.P) T.data.toList) + _ ≤ _
      have e : phiE (r.L, r.P) = r.L.length + 8 * r.P.length := rfl
      omega
    · show (r.k.plain ++ T).size + n ≤ _
      rw [ByteArray.size_append]
      omega
  rw [if_neg k1]
  by_cases k2 : kind = 2
  · rw [if_pos k2]
    refine ⟨?_, by show r.k.plain.size + n ≤ _; omega, ⟨by show 0 ≤ r.k.flushes + 1; omega, by show r.k.flushes + 1 + n ≤ _; omega⟩, ⟨h4.1, by show r.k.notes + n ≤ _; omega⟩, ⟨h5.1, by show r.k.bytes + n ≤ _; omega⟩⟩
    show (flushL r.L r.P).length + 8 * 0 + 30 * n ≤ _
    have := letL_length r.L r.P
    have : (flushL r.L r.P).length ≤ (letL r.L r.P).length + 10 := by
      unfold flushL
      split
      · omega
      · unfold emptyL
        have h3 := padL_le (headL (letL r.L r.P) false 0)
        rw [headL_length] at h3
        omega
    omega
  rw [if_neg k2]
  by_cases k3 : kind = 3
  · rw [if_pos k3]
    have hNT : (noteT T).data.toList.length = (noteT T).size := by simp
    refine ⟨?_, by show r.k.plain.size + n ≤ _; omega, ⟨h3.1, by show r.k.flushes + n ≤ _; omega⟩, ⟨by show 0 ≤ r.k.notes + 1; omega, by show r.k.notes + 1 + n ≤ _; omega⟩, ⟨by show 0 ≤ r.k.bytes + ((noteT T).size : Int); omega, by show r.k.bytes + ((noteT T).size : Int) + n ≤ _; omega⟩⟩
    show (noteL (letL r.L r.P) (noteT T).data.toList).length + 8 * 0 + 30 * n ≤ _
    have := letL_length r.L r.P
    have := noteL_length (letL r.L r.P) (noteT T).data.toList
    omega
  rw [if_neg k3]
  exact ⟨by omega, by omega, ⟨h3.1, by omega⟩, ⟨h4.1, by omega⟩, ⟨h5.1, by omega⟩⟩

theorem kcall_any {w : World} {k q b : Nat} {r : St} (h : Work w k q b r.L r.P r.k) (kind : Int) (T : ByteArray) (hr : Roomy r (T.size + 4)) :
    Calls Try.prog 36 #[.pointer (some ⟨k, 0, none⟩), .agg #[.int .i64 kind, .string T]] w fun e w' => e = .returned (.tuple #[]) ∧ Work w' k q b (callS kind T r).L (callS kind T r).P (callS kind T r).k ∧ On3k k q b w w' := by
  obtain ⟨h1, h2, h3, h4, h5⟩ := hr
  by_cases k1 : kind = 1
  · subst k1
    exact kcall_write h T (by omega) (by omega)
  by_cases k2 : kind = 2
  · subst k2
    exact kcall_flush h T (by omega) (by omega)
  by_cases k3 : kind = 3
  · subst k3
    exact kcall_note h T (by omega) (by omega) (by omega)
  exact kcall_other h kind T k1 k2 k3 (by omega)

def endOut (r : St) : ByteArray := bytesL (finL r.L r.P)
set_option maxRecDepth 100000 in
set_option maxHeartbeats 1000000 in
theorem kend_any {w : World} {k q b : Nat} {r : St} (h : Work w k q b r.L r.P r.k) (hL : r.L.length + 8 * r.P.length ≤ 800000000000) :
    Calls Try.prog 48 #[.pointer (some ⟨k, 0, none⟩)] w fun e w' => e = .returned (.tuple #[]) ∧ WkRow w' k q { r.k with out := endOut r } ∧ On3k k q b w w' := by
  unfold endOut
  obtain ⟨L, P, s⟩ := r
  dsimp only at h hL ⊢
  have hrow := h.row
  have c0 : w.cell? ⟨k, 0, none⟩ = some (.pointer (some ⟨q, 0, none⟩)) := World.rowIs.cell hrow (by omega)
  have hE := EncFinish_open h.enc h.qb h.wr (by omega)
  have HM := bytesL_more (ext_fin L P)
  have hfl : (finL L P).length ≤ L.length + 40 + 8 * P.length := by
    have h1 := blkL_length L true P
    rw [finL_cases]
    split
    · unfold emptyL
      have h3 := padL_le (headL L true 0)
      rw [headL_length] at h3
      omega
    · omega
  generalize finL L P = L' at *
  have hsz := outFrom_size L' (L.length / 8)
  have hso : s.out.size = L.length / 8 := by rw [h.out, bytesL_size]
  have HM2 : Hid (s.out ++ outStr (outFrom L' (L.length / 8)) = bytesL L') := by rw [Hid, h.out]; exact HM
  generalize outStr (outFrom L' (L.length / 8)) = y at *
  have hG := fun W (h1 : WkRow W k q s) => got_any h1 y (by omega)
  have HW : Hid (Work w k q b L P s) := h
  clear h HM hfl hsz hso hrow
  go_enter Try.func48, Try.ntmps48
  go_wp2_with (first
    | (go_at_call 50; refine (hG _ hr1).mono ?_; rintro e w2 ⟨rfl, hr2, hon2⟩)
    | (go_at_call 46; refine hE.mono ?_; rintro e w1 ⟨rfl, he1, w0, hon0, hon1⟩; have hr1 := hon1.wkRow HW.out.kq (hon0.wkRow HW.out.kb HW.out.row)))
  go_end0
  refine ⟨rfl, ?_, (hon0.to3.trans hon1.to2).trans hon2.to1⟩
  rw [HM2.out] at hr2
  exact hr2
end Go.Proofs.Ytmjigodhncjfjaa
