import Derived.Test.YtmpfgdmdnghhgaaH3
namespace Go.Proofs.Ytmpfgdmdnghhgaa
open Go.RowKit Wr

set_option maxRecDepth 100000 in
set_option maxHeartbeats 1000000 in
theorem does_finish {w : World} {k q b : Nat} {wv : Value} {u : St} {P : List UInt8} {s : Mw} {vn : Value} (h : Md w k q b wv u P s vn) (hd : s.done = false) (c : Int) (T : ByteArray) (hL : u.L.length + 8 * P.length ≤ 1000000000) (hnl : s.notes.length ≤ 1099511627776) :
    Calls Try.prog 26 #[.pointer (some ⟨k, 0, none⟩), .agg #[.int .i64 c, .int .i64 4, .string T]] w fun e w' => e = .returned (.bool true) ∧ Md w' k q b wv u P { s with out := bytesL (finS u P).L, done := true } vn ∧ Mv k q b wv vn w wv vn w' := by
  obtain ⟨win, plain, notes, out, done⟩ := s
  dsimp only at hd hnl
  subst hd
  obtain ⟨w1, hout, hdi⟩ := h.wr rfl
  dsimp only at hout hdi
  have hrow := h.row
  have henc : EncAt w q (some b) := h.enc
  have c0 : w.cell? ⟨k, 0, none⟩ = some (.pointer (some ⟨q, 0, none⟩)) := World.rowIs.cell hrow (by omega)
  have hfz := World.rowIs.frozen hrow
  have hk : k < w.heap.size := World.rowIs.lt hrow
  have hql : q < w.heap.size := World.rowIs.lt henc
  have hA : ∀ o, Tch NoOld w (w.alloc o) := fun o => (Tch.refl NoOld w).alloc o
  have hEA := fun o => henc.keep (hA o) (fun e => e)
  have hWA := fun o => w1.keep (hA o) (fun e => e) (fun _ _ e => e)
  have hRA : ∀ o, MdRow (w.alloc o) k q ⟨win, plain, notes, out, false⟩ vn := fun o => World.rowIs.alloc hrow o
  have hE := fun W (h1 : EncAt W q (some b)) (h2 : W0 W b u P wv) => EncFinish_open h1 h.qb h.vq h2 (by omega)
  have HM := bytesL_more (ext_fin u P)
  obtain ⟨q1, q2, q3, q4⟩ := doc_fin hdi
  have hfl := finS_length u P
  generalize finS u P = u' at *
  have hsz := outFrom_size u'.L (u.L.length / 8)
  have hso : out.size = u.L.length / 8 := by rw [hout, bytesL_size]
  have HM2 : Hid (out ++ outStr (outFrom u'.L (u.L.length / 8)) = bytesL u'.L) := by rw [Hid, hout]; exact HM
  have hbz := bytesL_size u'.L
  generalize outStr (outFrom u'.L (u.L.length / 8)) = y at *
  have hcat : out.size + y.size ≤ 9223372036854775807 := by omega
  have hN := fun (W : World) => num_any W 0 (by omega) (by omega)
  have hSt := fun (W : World) (hW : MdRow W k q ⟨win, plain, notes, bytesL u'.L, true⟩ vn) (hs : StrRow W vn notes) => stands_fin hW hs hnl (by show (bytesL u'.L).size ≤ _; omega) q1 q2 q3 q4
  have HW : Hid (Md w k q b wv u P ⟨win, plain, notes, out, false⟩ vn) := h
  have HNB : Hid (¬ BT b wv k ∧ ¬ BT b wv w.heap.size) := ⟨not_BT h.kb h.vk, h.no_bt⟩
  have HNV : Hid ((∀ g, vn.ownBlock = some g → ¬ BT b wv g) ∧ (∀ g, vn.ownBlock = some g → ¬ g = q) ∧ (∀ g, vn.ownBlock = some g → ¬ g = k)) := ⟨h.str_bt rfl, fun g hg e => str_ne h.strs henc (by decide) (by rw [← e, hg]), fun g hg e => str_ne h.strs hrow (by decide) (by rw [← e, hg])⟩
  have HA : Hid (∀ o, Tch NoOld w (w.alloc o)) := hA
  have hkn : w.heap.size ≠ k := by omega
  clear h HM hfl hsz hso hdi hout w1 henc q1 q2 q3 q4 hbz hA
  go_enter Try.func26, Try.ntmps26
  go_wp2_with (first
    | (go_at_call 10; refine (hN _).mono ?_; rintro e w8 ⟨rfl, hw8⟩; obtain rfl := hw8.symm)
    | (go_at_call 35; refine (hE _ (hEA _) (hWA _)).mono ?_; rintro e w1 ⟨rfl, he1, wm, htb, htq⟩; have hr0 : MdRow wm k q ⟨win, plain, notes, out, false⟩ vn := htb.rowIs (hRA _) HNB.out.1; have hr1 : MdRow w1 k q ⟨win, plain, notes, out, false⟩ vn := htq.rowIs hr0 HW.out.kq; obtain ⟨o1, o2⟩ := op_cells (w := w) (w1 := w1) (c := c) (kind := 4) (T := T) ((htq.block w.heap.size (by have := htb.size; simp at this; omega) (by omega)).trans (htb.block w.heap.size (by simp) HNB.out.2)); obtain ⟨m1, m2, m3, m4, m5⟩ := md_cells hr1; dsimp only at m1 m2 m3; have hr2 : MdRow ((w1.setCell ⟨k, 4, none⟩ (.string (out ++ y))).setCell ⟨k, 5, none⟩ (.bool true)) k q ⟨win, plain, notes, bytesL u'.L, true⟩ vn := (by have h9 := (hr1.out (out ++ y)).done true; rw [HM2.out] at h9 ⊢; exact h9); have hs1 : StrRow w1 vn notes := htq.owns (htb.owns ((HA.out _).owns HW.out.strs (fun _ _ e => e)) HNV.out.1) HNV.out.2.1; have hon2 := ((Tch.refl (· = k) w1).set ⟨k, 4, none⟩ (.string (out ++ y)) (fun _ => rfl)).set ⟨k, 5, none⟩ (.bool true) (fun _ => rfl); have hs2 : StrRow ((w1.setCell ⟨k, 4, none⟩ (.string (out ++ y))).setCell ⟨k, 5, none⟩ (.bool true)) vn notes := hon2.owns hs1 HNV.out.2.2)
    | (go_at_call 36; refine (hSt _ hr2 hs2).mono ?_; rintro e w9 ⟨rfl, hb9⟩))
  go_ret
  have he2 := he1.keep hon2 (fun e => HW.out.kq e.symm)
  have hMv : Mv k q b wv vn w wv vn ((w1.setCell ⟨k, 4, none⟩ (.string (out ++ y))).setCell ⟨k, 5, none⟩ (.bool true)) := (((Mv.of_tch (HA.out _) (fun _ e => e.elim)).trans (Mv.of_tch htb (fun j e => Or.inr (Or.inr (Or.inl e))))).trans (Mv.of_tch htq (fun j e => Or.inr (Or.inl e)))).trans (Mv.of_tch hon2 (fun j e => Or.inl e))
  have hm : Md ((w1.setCell ⟨k, 4, none⟩ (.string (out ++ y))).setCell ⟨k, 5, none⟩ (.bool true)) k q b wv u P ⟨win, plain, notes, bytesL u'.L, true⟩ vn := ⟨hr2, he2, fun e => (by cases e), hs2, HW.out.kq, HW.out.kb, HW.out.qb, HW.out.vk, HW.out.vq, Nat.lt_of_lt_of_le HW.out.bl hMv.t.size, fun g hg => Nat.lt_of_lt_of_le (HW.out.vl g hg) hMv.t.size⟩
  exact ⟨rfl, hm.below hb9, hMv.trans (Mv.of_below hb9)⟩

set_option maxRecDepth 100000 in
set_option maxHeartbeats 400000 in
theorem does_done1 {w : World} {k q b : Nat} {wv : Value} {u : St} {P : List UInt8} {s : Mw} {vn : Value} (h : Md w k q b wv u P s vn) (hd : s.done = true) (c : Int) (T : ByteArray) :
    Calls Try.prog 26 #[.pointer (some ⟨k, 0, none⟩), .agg #[.int .i64 c, .int .i64 1, .string T]] w fun e w' => e = .returned (.bool true) ∧ Below w.heap.size w w' := by
  obtain ⟨win, plain, notes, out, done⟩ := s
  dsimp only at hd
  subst hd
  have hrow := h.row
  have henc : EncAt w q none := h.enc
  have c0 : w.cell? ⟨k, 0, none⟩ = some (.pointer (some ⟨q, 0, none⟩)) := World.rowIs.cell hrow (by omega)
  have hfz := World.rowIs.frozen hrow
  have hk : k < w.heap.size := World.rowIs.lt hrow
  obtain ⟨m1, m2, m3, m4, m5⟩ := md_cells hrow
  dsimp only at m1 m2 m3
  have hE := fun (o : Obj) => EncWrite_done (w := ((w.alloc o).drew)) (World.rowIs.alloc henc o) T
  have hN := fun (W : World) => num_any W 6 (by omega) (by omega)
  clear h henc hrow
  go_enter Try.func26, Try.ntmps26
  go_wp2
  go_region_with (go_at_call 32; refine (hE _).mono ?_; rintro e w1 ⟨rfl, hw1⟩; obtain rfl := hw1.symm)
  all_goals
    go_wp2_with (first
      | (go_at_call 10; refine (hN _).mono ?_; rintro e w8 ⟨rfl, hw8⟩; obtain rfl := hw8.symm))
    go_ret
    exact ⟨rfl, ((Below.refl _ w).alloc (Nat.le_refl _) _).drew⟩

set_option maxRecDepth 100000 in
set_option maxHeartbeats 400000 in
theorem does_done2 {w : World} {k q b : Nat} {wv : Value} {u : St} {P : List UInt8} {s : Mw} {vn : Value} (h : Md w k q b wv u P s vn) (hd : s.done = true) (c : Int) (T : ByteArray) :
    Calls Try.prog 26 #[.pointer (some ⟨k, 0, none⟩), .agg #[.int .i64 c, .int .i64 2, .string T]] w fun e w' => e = .returned (.bool true) ∧ Below w.heap.size w w' := by
  obtain ⟨win, plain, notes, out, done⟩ := s
  dsimp only at hd
  subst hd
  have hrow := h.row
  have henc : EncAt w q none := h.enc
  have c0 : w.cell? ⟨k, 0, none⟩ = some (.pointer (some ⟨q, 0, none⟩)) := World.rowIs.cell hrow (by omega)
  have hfz := World.rowIs.frozen hrow
  have hk : k < w.heap.size := World.rowIs.lt hrow
  obtain ⟨m1, m2, m3, m4, m5⟩ := md_cells hrow
  dsimp only at m1 m2 m3
  have hE := fun (o : Obj) => EncFlush_done (w := (w.alloc o)) (World.rowIs.alloc henc o) 
  have hN := fun (W : World) => num_any W 6 (by omega) (by omega)
  clear h henc hrow
  go_enter Try.func26, Try.ntmps26
  go_wp2_with (first
    | (go_at_call 10; refine (hN _).mono ?_; rintro e w8 ⟨rfl, hw8⟩; obtain rfl := hw8.symm)
    | (go_at_call 33; refine (hE _).mono ?_; rintro e w1 ⟨rfl, hw1⟩; obtain rfl := hw1.symm))
  go_ret
  exact ⟨rfl, (Below.refl _ w).alloc (Nat.le_refl _) _⟩

set_option maxRecDepth 100000 in
set_option maxHeartbeats 400000 in
theorem does_done3 {w : World} {k q b : Nat} {wv : Value} {u : St} {P : List UInt8} {s : Mw} {vn : Value} (h : Md w k q b wv u P s vn) (hd : s.done = true) (c : Int) (T : ByteArray) :
    Calls Try.prog 26 #[.pointer (some ⟨k, 0, none⟩), .agg #[.int .i64 c, .int .i64 3, .string T]] w fun e w' => e = .returned (.bool true) ∧ Below w.heap.size w w' := by
  obtain ⟨win, plain, notes, out, done⟩ := s
  dsimp only at hd
  subst hd
  have hrow := h.row
  have henc : EncAt w q none := h.enc
  have c0 : w.cell? ⟨k, 0, none⟩ = some (.pointer (some ⟨q, 0, none⟩)) := World.rowIs.cell hrow (by omega)
  have hfz := World.rowIs.frozen hrow
  have hk : k < w.heap.size := World.rowIs.lt hrow
  obtain ⟨m1, m2, m3, m4, m5⟩ := md_cells hrow
  dsimp only at m1 m2 m3
  have hE := fun (o : Obj) => EncNote_done (w := ((w.alloc o).drew)) (World.rowIs.alloc henc o) T
  have hN := fun (W : World) => num_any W 6 (by omega) (by omega)
  clear h henc hrow
  go_enter Try.func26, Try.ntmps26
  go_wp2
  go_region_with (go_at_call 34; refine (hE _).mono ?_; rintro e w1 ⟨rfl, hw1⟩; obtain rfl := hw1.symm)
  all_goals
    go_wp2_with (first
      | (go_at_call 10; refine (hN _).mono ?_; rintro e w8 ⟨rfl, hw8⟩; obtain rfl := hw8.symm))
    go_ret
    exact ⟨rfl, ((Below.refl _ w).alloc (Nat.le_refl _) _).drew⟩

set_option maxRecDepth 100000 in
set_option maxHeartbeats 400000 in
theorem does_done4 {w : World} {k q b : Nat} {wv : Value} {u : St} {P : List UInt8} {s : Mw} {vn : Value} (h : Md w k q b wv u P s vn) (hd : s.done = true) (c : Int) (T : ByteArray) :
    Calls Try.prog 26 #[.pointer (some ⟨k, 0, none⟩), .agg #[.int .i64 c, .int .i64 4, .string T]] w fun e w' => e = .returned (.bool true) ∧ Below w.heap.size w w' := by
  obtain ⟨win, plain, notes, out, done⟩ := s
  dsimp only at hd
  subst hd
  have hrow := h.row
  have henc : EncAt w q none := h.enc
  have c0 : w.cell? ⟨k, 0, none⟩ = some (.pointer (some ⟨q, 0, none⟩)) := World.rowIs.cell hrow (by omega)
  have hfz := World.rowIs.frozen hrow
  have hk : k < w.heap.size := World.rowIs.lt hrow
  obtain ⟨m1, m2, m3, m4, m5⟩ := md_cells hrow
  dsimp only at m1 m2 m3
  have hE := fun (o : Obj) => EncFinish_done (w := (w.alloc o)) (World.rowIs.alloc henc o) 
  have hN := fun (W : World) => num_any W 6 (by omega) (by omega)
  clear h henc hrow
  go_enter Try.func26, Try.ntmps26
  go_wp2_with (first
    | (go_at_call 10; refine (hN _).mono ?_; rintro e w8 ⟨rfl, hw8⟩; obtain rfl := hw8.symm)
    | (go_at_call 35; refine (hE _).mono ?_; rintro e w1 ⟨rfl, hw1⟩; obtain rfl := hw1.symm))
  go_ret
  exact ⟨rfl, (Below.refl _ w).alloc (Nat.le_refl _) _⟩

set_option maxRecDepth 100000 in
set_option maxHeartbeats 400000 in
theorem does_long {w : World} {k q b : Nat} {wv : Value} {u : St} {P : List UInt8} {s : Mw} {vn : Value} (h : Md w k q b wv u P s vn) (hd : s.done = false) (c : Int) (T : ByteArray) (hT : 255 < T.size) :
    Calls Try.prog 26 #[.pointer (some ⟨k, 0, none⟩), .agg #[.int .i64 c, .int .i64 3, .string T]] w fun e w' => e = .returned (.bool true) ∧ Below w.heap.size w w' := by
  obtain ⟨win, plain, notes, out, done⟩ := s
  dsimp only at hd
  subst hd
  have hrow := h.row
  have henc : EncAt w q (some b) := h.enc
  have c0 : w.cell? ⟨k, 0, none⟩ = some (.pointer (some ⟨q, 0, none⟩)) := World.rowIs.cell hrow (by omega)
  have hfz := World.rowIs.frozen hrow
  have hk : k < w.heap.size := World.rowIs.lt hrow
  obtain ⟨m1, m2, m3, m4, m5⟩ := md_cells hrow
  dsimp only at m1 m2 m3
  have hE := fun (o : Obj) => EncNote_long (w := ((w.alloc o).drew)) (World.rowIs.alloc henc o) T hT
  have hN := fun (W : World) => num_any W 5 (by omega) (by omega)
  clear h henc hrow
  go_enter Try.func26, Try.ntmps26
  go_wp2
  go_region_with (go_at_call 34; refine (hE _).mono ?_; rintro e w1 ⟨rfl, hw1⟩; obtain rfl := hw1.symm)
  all_goals
    go_wp2_with (first
      | (go_at_call 10; refine (hN _).mono ?_; rintro e w8 ⟨rfl, hw8⟩; obtain rfl := hw8.symm))
    go_ret
    exact ⟨rfl, ((Below.refl _ w).alloc (Nat.le_refl _) _).drew⟩
end Go.Proofs.Ytmpfgdmdnghhgaa

namespace Go.Proofs.Ytmpfgdmdnghhgaa
open Go.RowKit Wr

theorem info_str9 : (Try.prog.info? 9).map (fun i => (i.zero, i.size, i.bytes)) = some (some (.string ByteArray.empty), 1, 16) := by kernel_rfl

set_option maxRecDepth 100000 in
set_option maxHeartbeats 1000000 in
theorem does_note {w : World} {k q b : Nat} {wv : Value} {u : St} {P : List UInt8} {s : Mw} {vn : Value} (h : Md w k q b wv u P s vn) (hd : s.done = false) (c : Int) (T : ByteArray) (hT : T.size ≤ 255) (hL : u.L.length + 8 * P.length ≤ 1000000000) (hnl : s.notes.length ≤ 1000000000) :
    Calls Try.prog 26 #[.pointer (some ⟨k, 0, none⟩), .agg #[.int .i64 c, .int .i64 3, .string T]] w fun e w' => e = .returned (.bool true) ∧ ∃ wv' vn', Md w' k q b wv' (noteS (letS u P) T.data.toList) [] { s with out := bytesL (noteS (letS u P) T.data.toList).L, notes := s.notes ++ [T] } vn' ∧ Mv k q b wv vn w wv' vn' w' := by
  obtain ⟨win, plain, notes, out, done⟩ := s
  dsimp only at hd hnl
  subst hd
  obtain ⟨w1, hout, hdi⟩ := h.wr rfl
  dsimp only at hout hdi
  obtain ⟨i0, hi, hz0, hz1, hz2⟩ := info_parts info_str9
  have HIi : Hid (Try.prog.info? 9 = some i0 ∧ i0.zero = some (.string ByteArray.empty) ∧ i0.size = 1 ∧ i0.bytes = 16) := ⟨hi, hz0, hz1, hz2⟩
  clear hi hz0 hz1 hz2
  have hrow := h.row
  have henc : EncAt w q (some b) := h.enc
  have c0 : w.cell? ⟨k, 0, none⟩ = some (.pointer (some ⟨q, 0, none⟩)) := World.rowIs.cell hrow (by omega)
  have hfz := World.rowIs.frozen hrow
  have hk : k < w.heap.size := World.rowIs.lt hrow
  have hql : q < w.heap.size := World.rowIs.lt henc
  have hA : ∀ o, Tch NoOld w ((w.alloc o).drew) := fun o => ((Tch.refl NoOld w).alloc o).drew
  have hEA := fun o => henc.keep (hA o) (fun e => e)
  have hWA := fun o => w1.keep (hA o) (fun e => e) (fun _ _ e => e)
  have hRA : ∀ o, MdRow ((w.alloc o).drew) k q ⟨win, plain, notes, out, false⟩ vn := fun o => World.rowIs.alloc hrow o
  have hE := fun W (h1 : EncAt W q (some b)) (h2 : W0 W b u P wv) => EncNote_open h1 h2 T hT (by omega)
  have HM := bytesL_more ((ext_let u P).trans (ext_note (letS u P).L T.data.toList))
  have HI : Hid (DInv (noteS (letS u P) T.data.toList, []) win plain.data.toList (notes ++ [T])) := dinv_note hdi T hT
  have hNT : T.data.toList.length = T.size := by simp
  have hfl : (noteS (letS u P) T.data.toList).L.length ≤ u.L.length + 5000 + 8 * P.length := by
    have h1 := letS_length u P
    have h2 := noteL_length (letS u P).L T.data.toList
    show (noteL (letS u P).L T.data.toList).length ≤ _
    omega
  have HM' : bytesL u.L ++ outStr (outFrom (noteS (letS u P) T.data.toList).L (u.L.length / 8)) = bytesL (noteS (letS u P) T.data.toList).L := HM
  generalize noteS (letS u P) T.data.toList = u' at *
  dsimp only at hE
  have hsz := outFrom_size u'.L (u.L.length / 8)
  have hso : out.size = u.L.length / 8 := by rw [hout, bytesL_size]
  have HM2 : Hid (out ++ outStr (outFrom u'.L (u.L.length / 8)) = bytesL u'.L) := by rw [Hid, hout]; exact HM'
  generalize outStr (outFrom u'.L (u.L.length / 8)) = y at *
  have hcat : out.size + y.size ≤ 9223372036854775807 := by omega
  have hN := fun (W : World) => num_any W 0 (by omega) (by omega)
  have hSt := fun (W : World) => stands_none W k 3 (by omega) (by omega)
  have HW : Hid (Md w k q b wv u P ⟨win, plain, notes, out, false⟩ vn) := h
  have HNB : Hid (¬ BT b wv k ∧ ¬ BT b wv w.heap.size) := ⟨not_BT h.kb h.vk, h.no_bt⟩
  have HNE : Hid (¬ vn.ownBlock = some b ∧ ¬ vn.ownBlock = some q ∧ some k ≠ vn.ownBlock) := ⟨fun e => h.str_bt rfl b e (Or.inl rfl), fun e => str_ne h.strs henc (by decide) e.symm, str_ne h.strs hrow (by decide)⟩
  have HNV : Hid ((∀ g, vn.ownBlock = some g → ¬ BT b wv g) ∧ (∀ g, vn.ownBlock = some g → ¬ g = k)) := ⟨h.str_bt rfl, fun g hg e => str_ne h.strs hrow (by decide) (by rw [← e, hg])⟩
  have HA : Hid (∀ o, Tch NoOld w ((w.alloc o).drew)) := hA
  have hkn : w.heap.size ≠ k := by omega
  obtain ⟨na, nc, hvn⟩ := owns_slice h.strs
  subst hvn
  clear h HM HM' hfl hsz hso hdi hout w1 henc hNT hA
  go_enter Try.func26, Try.ntmps26
  go_wp2
  go_region_with (go_at_call 34; refine (hE _ (hEA _) (hWA _)).mono ?_; rintro e w1 ⟨rfl, wv1, hw1, how1, ht1⟩; have hr1 : MdRow w1 k q ⟨win, plain, notes, out, false⟩ _ := ht1.rowIs (hRA _) HNB.out.1; have he1 := (hEA _).keep ht1 (not_BT HW.out.qb HW.out.vq))
  all_goals
    obtain ⟨o1, o2⟩ := op_cells (c := c) (kind := 3) (T := T) (ht1.block w.heap.size (by simp) HNB.out.2)
    obtain ⟨m1, m2, m3, m4, m5⟩ := md_cells hr1
    dsimp only at m1 m2 m3 m4
    have hs1 : StrRow w1 (.slice na notes.length nc) notes := ht1.owns ((HA.out _).owns HW.out.strs (fun _ _ e => e)) HNV.out.1
    have vk1 : wv1.ownBlock ≠ some k := how1.ne (Nat.lt_of_lt_of_le hk (HA.out _).size) HW.out.vk
    have vq1 : wv1.ownBlock ≠ some q := how1.ne (Nat.lt_of_lt_of_le hql (HA.out _).size) HW.out.vq
    have hmv1 : Mv k q b wv (.slice na notes.length nc) w wv1 (.slice na notes.length nc) w1 := ⟨((HA.out _).mono (fun _ _ e => e.elim)).trans ht1 (fun j _ e => Or.inr (Or.inr (Or.inl e))), how1.more (HA.out _).size, Own.refl _ _⟩
    clear hE hEA hWA hRA
    go_wp2_with (first
      | (go_at_call 10; refine (hN _).mono ?_; rintro e w8 ⟨rfl, hw8⟩; obtain rfl := hw8.symm))
    have hon2 := (Tch.refl (· = k) w1).set ⟨k, 4, none⟩ (.string (out ++ y)) (fun _ => rfl)
    have hr3 : MdRow (w1.setCell ⟨k, 4, none⟩ (.string (out ++ y))) k q ⟨win, plain, notes, bytesL u'.L, false⟩ (.slice na notes.length nc) := by
      have h9 := hr1.out (out ++ y)
      rw [HM2.out] at h9 ⊢
      exact h9
    have hs3 : StrRow (w1.setCell ⟨k, 4, none⟩ (.string (out ++ y))) (.slice na notes.length nc) notes := hon2.owns hs1 HNV.out.2
    have he3 := he1.keep hon2 (fun e => HW.out.kq e.symm)
    have hw3 := hw1.keep hon2 (fun e => HW.out.kb e.symm) (fun g hg e => vk1 (by rw [hg, e]))
    have p2 : (w1.setCell ⟨k, 4, none⟩ (.string (out ++ y))).cell? ⟨w.heap.size, 2, none⟩ = some (.string T) := (World.cell?_setCell_other _ _ _ _ (by intro q; injection q with q1 _ _; omega)).trans o2
    have p1 : (w1.setCell ⟨k, 4, none⟩ (.string (out ++ y))).cell? ⟨w.heap.size, 1, none⟩ = some (.int .i64 3) := (World.cell?_setCell_other _ _ _ _ (by intro q; injection q with q1 _ _; omega)).trans o1
    have hmv : Mv k q b wv (.slice na notes.length nc) w wv1 (.slice na notes.length nc) (w1.setCell ⟨k, 4, none⟩ (.string (out ++ y))) := hmv1.trans (Mv.of_tch hon2 (fun j e => Or.inl e))
    generalize w1.setCell ⟨k, 4, none⟩ (.string (out ++ y)) = w3 at *
    obtain ⟨n1, n2, n3, n4, n5⟩ := md_cells hr3
    dsimp only at n1 n2 n3 n4
    have h1n : ∀ u ∈ [Value.string T], u.oneCell' = true := by intro u hu; simp at hu; subst hu; rfl
    have hDd : Hid (StrRow w3.drew (.slice na notes.length nc) notes) := hs3
    have hrd : MdRow w3.drew k q ⟨win, plain, notes, bytesL u'.L, false⟩ (.slice na notes.length nc) := hr3
    have hk3 : k < w3.heap.size := World.rowIs.lt hr3
    clear hs1 m1 m2 m3 m4 m5 o1 o2 hr1 hw1 he1 ht1 hon2 hmv1 how1
    have HS3 : Hid (StrRow w3 (.slice na notes.length nc) notes) := hs3
    clear hs3
    go_region_law (refine step_append_own_at rfl (.tmp 112) (.tmp 115) 59 rfl 0 9 i0 (.string ByteArray.empty) 1 16 Try.underlying59 HIi.out.1 HIi.out.2.1 HIi.out.2.2.1 HIi.out.2.2.2 rfl (by decide) (.slice na notes.length nc) notes.length (notes.map Value.string) (by simp [Act.eval]) (hDd.out.alloc _) ⟨w3.heap.size, 0, none⟩ 1 1 [.string T] (by simp [Act.eval]) rfl (cell_one_new _ _ _) h1n (by unfold maxLen; omega) (by omega) (Nat.zero_le _) ?_; intro v' w4 hown' hgrow hat; obtain ⟨g2, cap2, hv2⟩ := owns_shape hown'; subst hv2; have hrm := World.rowIs.of_block (World.rowIs.alloc hrd _) (hgrow.block k (by simp; omega) HNE.out.2.2); have cm : w4.cell? ⟨k, 3, none⟩ = some (.slice na notes.length nc) := World.rowIs.cell hrm (by omega); have hfm := World.rowIs.frozen hrm)
    all_goals
      have tg : Tch (fun j => (Value.slice na notes.length nc).ownBlock = some j) w3 w4 := (((Tch.refl _ w3).drew).alloc _).grown hgrow (fun j _ e => e)
      have hwn : ¬ (Value.slice na notes.length nc).ownBlock = some w.heap.size := fun e => by
        have := str_lt HW.out.strs e
        omega
      have p4 : w4.cell? ⟨w.heap.size, 1, none⟩ = some (.int .i64 3) := tg.cell p1 hwn
      have he4 : EncAt w4 q (some b) := he3.keep tg HNE.out.2.1
      have hw4 : W0 w4 b u' [] wv1 := hw3.keep tg HNE.out.1 (fun g hg e => str_own HS3.out hw3.2.own hg e)
      have hat2 : Own w3 (.slice na notes.length nc) (.slice (some ⟨g2, 0, none⟩) (notes.length + 1) cap2) := by
        rcases hat with e2 | e2
        · exact Or.inl e2
        · refine Or.inr ⟨_, e2, ?_⟩
          simp
      have hkv : ∀ g, (Value.slice (some ⟨g2, 0, none⟩) (notes.length + 1) cap2).ownBlock = some g → ¬ g = k := fun g hg e => hat2.ne hk3 (fun e2 => HNE.out.2.2 e2.symm) (by rw [hg, e])
      have hmv4 : Mv k q b wv1 (.slice na notes.length nc) w3 wv1 (.slice (some ⟨g2, 0, none⟩) (notes.length + 1) cap2) w4 := ⟨tg.mono (fun j _ e => Or.inr (Or.inr (Or.inr e))), Own.refl _ _, hat2⟩
      have hs4 : StrRow w4 (.slice (some ⟨g2, 0, none⟩) (notes.length + 1) cap2) (notes ++ [T]) := by
        unfold StrRow
        rw [List.length_append, List.map_append]
        exact hown'
      have hrm4 : MdRow w4 k q ⟨win, plain, notes, bytesL u'.L, false⟩ (.slice na notes.length nc) := hrm
      have hr5 := hrm4.notes (.slice (some ⟨g2, 0, none⟩) (notes.length + 1) cap2) (notes ++ [T])
      have hon5 := (Tch.refl (· = k) w4).set ⟨k, 3, none⟩ (.slice (some ⟨g2, 0, none⟩) (notes.length + 1) cap2) (fun _ => rfl)
      have hw5 := hw4.keep hon5 (fun e => HW.out.kb e.symm) (fun g hg e => vk1 (by rw [hg, e]))
      clear hgrow hat hown' hrm
      go_wp2_with (first
        | (go_at_call 36; refine (hSt _).mono ?_; rintro e w9 ⟨rfl, hw9⟩; obtain rfl := hw9.symm))
      go_ret
      exact ⟨rfl, wv1, _, ⟨hr5, he4.keep hon5 (fun e => HW.out.kq e.symm), fun _ => ⟨hw5, rfl, HI.out⟩, hon5.owns hs4 hkv, HW.out.kq, HW.out.kb, HW.out.qb, vk1, vq1, hw5.lt, hw5.own_lt⟩, (hmv.trans hmv4).trans (Mv.of_tch hon5 (fun j e => Or.inl e))⟩
end Go.Proofs.Ytmpfgdmdnghhgaa
