import Derived.Test.YtmpfgdmdnghhgaaR12
namespace Go.Proofs.Ytmpfgdmdnghhgaa
open Go.RowKit Wr

/-- what the walk of a block is told -/
structure BlockIn (S : ByteArray) (d : Dr) : Prop where
  sz : S.size ≤ 268435456
  at_ : okAt S d.x
  far : ∀ i, i < 4 → 1 ≤ d.far i ∧ d.far i ≤ 4095
  w0 : 0 ≤ d.x.w
  w8 : d.x.w ≤ 8
  out : d.out.length ≤ 17592186000000
  notes : d.notes.length ≤ 4294967296

set_option maxRecDepth 100000 in
set_option maxHeartbeats 1000000 in
theorem Rcoded_any {w : World} {b : Nat} {S : ByteArray} {d : Dr} {vo vn vf : Value} (h : DR w b S d vo vn vf) (hi : BlockIn S d) :
    Calls Try.prog 52 #[.pointer (some ⟨b, 0, none⟩)] w fun e w' => ∃ vo' vf', e = .returned (.tuple #[]) ∧ DR w' b S (codedD S d) vo' vn vf' ∧ Stp b vo vn w vo' vn w' := by
  obtain ⟨i0, hi1, hz0, hz1, hz2⟩ := info_parts info_u8
  have HI : Hid (Try.prog.info? 5 = some i0 ∧ i0.zero = some (.int .u8 0) ∧ i0.size = 1 ∧ i0.bytes = 1) := ⟨hi1, hz0, hz1, hz2⟩
  clear hi1 hz0 hz1 hz2
  have hN := Rnumber_any h.row hi.sz hi.at_ 12 (by omega)
  have hnb := numV_bounds S d.x 12
  rw [show (2 : Int) ^ 12 = 4096 from rfl] at hnb
  have hok1 := numS_ok hi.at_ 12
  have hok2 : okAt S (codeS S 272 9 (numS S d.x 12)) := code_at hok1
  have hok3 : okAt S (codedX S d.x) := code_at hok2
  have hC1 := fun (Q : World) (hQ : SRow Q b S (numS S d.x 12) vo vn vf) => Rcode_any hQ hi.sz hok1 272 9 (by omega) (by omega)
  have hC2 := fun (Q : World) (hQ : SRow Q b S (codeS S 272 9 (numS S d.x 12)) vo vn vf) => Rcode_any hQ hi.sz hok2 16 4 (by omega) (by omega)
  have hK1 : (codeS S 272 9 (numS S d.x 12)).state = 0 → Cod (codeC S 272 9 (numS S d.x 12)).1 (codeC S 272 9 (numS S d.x 12)).2 272 := fun q => code_cod (by omega) q
  have hK2 : (codedX S d.x).state = 0 → Cod (codeC S 16 4 (codeS S 272 9 (numS S d.x 12))).1 (codeC S 16 4 (codeS S 272 9 (numS S d.x 12))).2 16 := fun q => code_cod (by omega) q
  have hl1 := wsIf_ok hK1
  have hl2 := wsIf_ok hK2
  have hs1 := wsIf_sym hK1
  have hs2 := wsIf_sym hK2
  have hw3 : (codedX S d.x).w = d.x.w := by unfold codedX; rw [codeS_w, codeS_w, numS_w]
  have HD : Hid (codedGo S (wsIf (codeS S 272 9 (numS S d.x 12)) (codeC S 272 9 (numS S d.x 12))) (wsIf (codedX S d.x) (codeC S 16 4 (codeS S 272 9 (numS S d.x 12)))) 4098 (numV S d.x 12 + 1) { d with x := codedX S d.x } = codedD S d) := rfl
  have hwb := h.row.lt
  have hX : codeS S 16 4 (codeS S 272 9 (numS S d.x 12)) = codedX S d.x := rfl
  rw [hX] at hC2
  clear hX hK1 hK2
  generalize wsIf (codedX S d.x) (codeC S 16 4 (codeS S 272 9 (numS S d.x 12))) = dw at *
  generalize wsIf (codeS S 272 9 (numS S d.x 12)) (codeC S 272 9 (numS S d.x 12)) = lw at *
  generalize codedX S d.x = y3 at *
  generalize codeS S 272 9 (numS S d.x 12) = y2 at *
  generalize numS S d.x 12 = y1 at *
  generalize numV S d.x 12 = n0 at *
  go_enter Try.func52, Try.ntmps52
  go_wp2_with (first
    | (go_at_call 61; refine (hC2 _ hr2).mono ?_; rintro e w3 ⟨v2, rfl, hr3, hon3, hwd2, hfr2⟩)
    | (go_at_call 61; refine (hC1 _ hr1).mono ?_; rintro e w2 ⟨v1, rfl, hr2, hon2, hwd1, hfr1⟩)
    | (go_at_call 39; refine hN.mono ?_; rintro e w1 ⟨rfl, hr1, hon1⟩))
  have hsz1 := hon1.size
  have hsz2 := hon2.size
  have hW1 : WOk w3 v1 lw b vo vn := by
    have : WOk w2 v1 lw b vo vn := ⟨hwd1, fun g hg => by have := hfr1 g hg; omega, fun _ g hg => by
      have := hfr1 g hg
      exact ⟨fun q => by have := (h.out.lt g q).2; omega, fun q => by have := (h.notes.lt g q).2; omega⟩⟩
    exact this.stp (Stp.of_on vo vn hon3)
  have hW2 : WOk w3 v2 dw b vo vn := ⟨hwd2, fun g hg => by have := hfr2 g hg; omega, fun _ g hg => by
      have := hfr2 g hg
      exact ⟨fun q => by have := (h.out.lt g q).2; omega, fun q => by have := (h.notes.lt g q).2; omega⟩⟩
  have hD3 : DR w3 b S { d with x := y3 } vo vn vf := h.on_ ((hon1.trans hon2).trans hon3) hr3
  have hS3 : Stp b vo vn w vo vn w3 := Stp.of_on vo vn ((hon1.trans hon2).trans hon3)
  clear hfr1 hfr2 hwd1 hwd2 hC1 hC2 hN hon1 hon2 hon3 hr1 hr2 hr3
  go_loopg [2, 3] 4098 (fun g _ vl wr => ∃ (left : Int) (e : Dr) (vo' vf' : Value), Hid (codedGo S lw dw g left e = codedD S d) ∧ (e.x.state = 0 → left < g) ∧ 0 ≤ left ∧ left ≤ 4096 ∧ vl = .int .i64 left ∧ okAt S e.x ∧ Hid (∀ i, i < 4 → 1 ≤ e.far i ∧ e.far i ≤ 4095) ∧ e.x.w = d.x.w ∧ (e.out.length : Int) + left ≤ d.out.length + 4096 ∧ DR wr b S e vo' vn vf' ∧ Stp b vo vn w3 vo' vn wr)
  case atStart => exact ⟨n0 + 1, { d with x := y3 }, vo, vf, HD, fun _ => by omega, by omega, by omega, rfl, hok3, hi.far, hw3, by dsimp only; omega, hD3, Stp.refl _ _ _ _⟩
  case round =>
    obtain ⟨left, e, vo', vf', HF, hfu, hl0, hl4, rfl, hoke, HFA, hew, hlen, hDe, hSe⟩ := hrel
    have c3 := hDe.row.c_state
    have hfz := hDe.row.free
    by_cases hp : 0 < left
    · by_cases h0 : e.x.state = 0
      · have hgk := hfu h0
        rw [h0] at c3
        have hWl := hW1.stp hSe
        have hWd := hW2.stp hSe
        have hSy := Rsymbol_any hDe.row hi.sz hoke v1 lw hWl.words hl1.1 hl1.2 hWl.nb
        have hsb := symV_bounds (N := 272) (S := S) (by omega) hs1 e.x
        have hoks : okAt S (symS S lw e.x) := symS_at hoke
        have hsw : (symS S lw e.x).w = d.x.w := (symS_w _ _ _).trans hew
        have HE : Hid (codedGo S lw dw (gk - 1 + 1) left e = codedD S d) := by rw [Hid, show gk - 1 + 1 = gk by omega]; exact HF.out
        unfold codedGo at HE
        rw [if_pos ⟨hp, h0⟩] at HE
        by_cases hst : (symS S lw e.x).state = 0
        · rw [if_neg (fun q => q hst)] at HE
          by_cases hlt : symV S lw e.x < 256
          · rw [if_pos hlt] at HE
            generalize symS S lw e.x = ys at *
            generalize symV S lw e.x = vs at *
            have hol := hi.out
            go_wp2_with (first
              | (at_builtin; refine wpList_append_own_at _ rfl _ _ 37 rfl 0 5 i0 (.int .u8 0) 1 1 Try.underlying37 HI.out.1 HI.out.2.1 HI.out.2.2.1 HI.out.2.2.2 rfl (by decide) _ _ _ rfl (hD4.out.alloc _) ⟨_, 0, none⟩ 1 1 [.int .u8 vs] rfl rfl ?c1 ?c2 ?c3 ?c4 ?c5 ?_)
              | (go_at_call 62; refine hSy.mono ?_; rintro e4 w4 ⟨rfl, hr4, hon4⟩; have c4 := hr4.c_state; have hfz4 := hr4.free; have c4o := hr4.c_out; rw [hst] at c4; have hD4 := hDe.on_ hon4 hr4))
            case c1 =>
              intro k u hk
              match k, hk with
              | 0, hk => simp at hk; subst hk; simp [Addr.add]
            case c2 => intro u hu; simp at hu; subst hu; rfl
            case c3 => unfold maxLen; omega
            case c4 => omega
            case c5 => exact Nat.zero_le _
            · intro v' w1' hown' hgrow _ hat
              obtain ⟨g2, cap2, hv2⟩ := owns_shape hown'
              subst hv2
              have hrm := hD4.mid hgrow
              have cm := hrm.c_out
              have hfm := hrm.free
              have hat' := hat
              rw [show w4.heap.size + 1 = (w4.alloc (Obj.cells #[Value.int IntKind.u8 vs] 5)).heap.size by simp] at hat'
              obtain ⟨hDp, hSp⟩ := hD4.push (c := vs) hown' hgrow hat'
              have HDP : Hid (DR _ b S { e with x := ys, out := e.out ++ [vs] } _ vn vf') := hDp
              clear hown' hgrow hat hat' hSy hDp
              go_wp2
              go_roundg (gk - 1)
              case measure => omega
              case rel => exact ⟨left - 1, _, _, vf', HE, fun _ => by omega, by omega, by omega, rfl, hoks, HFA, hsw, by simp only [List.length_append, List.length_singleton]; omega, HDP.out, (hSe.trans (Stp.of_on _ _ hon4)).trans hSp⟩
          · rw [if_neg hlt] at HE
            have hkp := fun (left0 : Int) (hl : 0 ≤ left0) => copyD_keeps (S := S) (dw := dw) (k := (symV S lw e.x - 256).toNat) (left := left0) (d := { e with x := symS S lw e.x }) (by omega) hoks hs2 HFA.out hl
            have hkp := hkp left hl0
            have hCI : CopyIn S { e with x := symS S lw e.x } dw left := ⟨hi.sz, hoks, hs2, hl2.1, hl2.2, HFA.out, by show 0 ≤ (symS S lw e.x).w; rw [hsw]; exact hi.w0, by show (symS S lw e.x).w ≤ 8; rw [hsw]; exact hi.w8, by have := hi.out; show e.out.length ≤ _; omega, hl0, hl4⟩
            have hCp := fun (Q : World) (hQ : DR Q b S { e with x := symS S lw e.x } vo' vn vf') (hS : Stp b vo' vn wr vo' vn Q) => Rcopy_any hQ (symV S lw e.x - 256).toNat (by omega) v2 dw (hWd.stp hS) left hCI
            rw [show (((symV S lw e.x - 256).toNat : Nat) : Int) = symV S lw e.x - 256 by omega] at hCp
            have HK : Hid (Keeps S { e with x := symS S lw e.x } left (copyD S dw (symV S lw e.x - 256).toNat left { e with x := symS S lw e.x }).1 (copyD S dw (symV S lw e.x - 256).toNat left { e with x := symS S lw e.x }).2) := hkp
            have hkn := hkp.n0
            have hkm := hkp.n1
            clear hkp hCI
            generalize (copyD S dw (symV S lw e.x - 256).toNat left { e with x := symS S lw e.x }).2 = e2 at *
            generalize (copyD S dw (symV S lw e.x - 256).toNat left { e with x := symS S lw e.x }).1 = n at *
            generalize symS S lw e.x = ys at *
            generalize symV S lw e.x = vs at *
            go_wp2_with (first
              | (go_at_call 63; refine (hCp _ (hDe.on_ hon4 hr4) (Stp.of_on _ _ hon4)).mono ?_; rintro e5 w5 ⟨vo5, vf5, rfl, hD5, hS5⟩)
              | (go_at_call 62; refine hSy.mono ?_; rintro e4 w4 ⟨rfl, hr4, hon4⟩; have c4 := hr4.c_state; have hfz4 := hr4.free; have c4o := hr4.c_out; rw [hst] at c4))
            go_roundg (gk - 1)
            case measure => omega
            case rel =>
              have K := HK.out
              have ko := K.out
              have kw : e2.x.w = ys.w := K.w
              exact ⟨left - n, e2, vo5, vf5, HE, fun q => by have := K.st q; omega, by omega, by omega, rfl, K.at_, K.far, kw.trans hsw, by dsimp only at ko; omega, hD5, (hSe.trans (Stp.of_on _ _ hon4)).trans hS5⟩
        · rw [if_pos hst] at HE
          generalize symS S lw e.x = ys at *
          generalize symV S lw e.x = vs at *
          go_wp2_with (first
            | (go_at_call 62; refine hSy.mono ?_; rintro e4 w4 ⟨rfl, hr4, hon4⟩; have c4 := hr4.c_state; have hfz4 := hr4.free))
          refine bodyPost_ret (results_none rfl _ _ _) rfl ?_
          rw [← HE.out]
          exact ⟨_, _, rfl, hDe.on_ hon4 hr4, (hS3.trans hSe).trans (Stp.of_on _ _ hon4)⟩
      · have HE : Hid (codedD S d = e) := HF.out.symm.trans (codedGo_stop gk (fun q => h0 q.2))
        go_wp2
        go_end0
        rw [HE.out]
        first
          | exact ⟨_, _, rfl, hDe, hS3.trans hSe⟩
          | exact ⟨rfl, _, ⟨_, hDe⟩, hS3.trans hSe⟩
    · have HE : Hid (codedD S d = e) := HF.out.symm.trans (codedGo_stop gk (fun q => hp q.1))
      go_wp2
      go_end0
      rw [HE.out]
      first
        | exact ⟨_, _, rfl, hDe, hS3.trans hSe⟩
        | exact ⟨rfl, _, ⟨_, hDe⟩, hS3.trans hSe⟩
end Go.Proofs.Ytmpfgdmdnghhgaa

namespace Go.Proofs.Ytmpfgdmdnghhgaa
open Go.RowKit Wr

theorem bytesGo_at {S : ByteArray} : ∀ (n : Nat) (x : Sr), okAt S x → okAt S (bytesGo S n x).2
  | 0, _, h => h
  | n + 1, x, h => by
    unfold bytesGo
    split
    · exact h
    · split
      · exact numS_ok h _
      · exact bytesGo_at n _ (numS_ok h _)
theorem bytesGo_len {S : ByteArray} : ∀ (n : Nat) (x : Sr), (bytesGo S n x).1.length ≤ n
  | 0, _ => Nat.le_refl _
  | n + 1, x => by
    have ih := bytesGo_len (S := S) n (numS S x 8)
    unfold bytesGo
    split
    · simp
    · split
      · simp
      · simp only [List.length_cons]
        omega
theorem bytesGo_byte {S : ByteArray} : ∀ (n : Nat) (x : Sr), ∀ c ∈ (bytesGo S n x).1, 0 ≤ c ∧ c ≤ 255
  | 0, _, c, h => absurd h (by simp [bytesGo])
  | n + 1, x, c, h => by
    unfold bytesGo at h
    split at h
    · simp at h
    · split at h
      · simp at h
      · rcases List.mem_cons.1 h with e | e
        · have := numV_bounds S x 8
          rw [show (2 : Int) ^ 8 = 256 from rfl] at this
          omega
        · exact bytesGo_byte n _ c e
theorem outStr_at {l : List Int} (hb : ∀ c ∈ l, 0 ≤ c ∧ c ≤ 255) {i : Nat} (hi : i < (outStr l).size) : ((outStr l)[i].toNat : Int) = l.getD i 0 := by
  have hs := outStr_size l
  have e1 : (outStr l)[i] = (outStr l).data.toList[i]'(by simpa using hi) := rfl
  have e2 : (outStr l).data.toList[i]'(by simpa using hi) = (l.map fun n => UInt8.ofNat n.toNat)[i]'(by simp; omega) := by
    congr 1
    exact outStr_list l
  rw [e1, e2, List.getElem_map]
  have hm := hb (l[i]'(by omega)) (List.getElem_mem _)
  rw [List.getD_eq_getElem?_getD, List.getElem?_eq_getElem (by omega), Option.getD_some, byte_back _ hm.1 (by omega)]

theorem DR.midn {w : World} {b : Nat} {S : ByteArray} {d : Dr} {vo vn vf : Value} {o : Obj} {w1 : World} (h : DR w b S d vo vn vf) (hg : (w.alloc o).grownBy w1 vn.ownBlock) : SRow w1 b S d.x vo vn vf := by
  have hsz : (w.alloc o).heap.size = w.heap.size + 1 := by simp
  have hbl := h.row.lt
  exact h.row.of_block ((hg.block b (by omega) (fun q => h.nb q.symm)).trans (Below.heap_alloc _ _ _ hbl))
theorem info_str : (Try.prog.info? 9).map (fun i => (i.zero, i.size, i.bytes)) = some (some (.string ByteArray.empty), 1, 16) := by kernel_rfl

set_option maxRecDepth 100000 in
set_option maxHeartbeats 4000000 in
theorem Rblock_any {w : World} {b : Nat} {S : ByteArray} {d : Dr} {vo vn vf : Value} (h : DR w b S d vo vn vf) (hi : BlockIn S d) :
    Calls Try.prog 41 #[.pointer (some ⟨b, 0, none⟩)] w fun e w' => ∃ vo' vn' vf', e = .returned (.bool (blockD S d).1) ∧ DR w' b S (blockD S d).2 vo' vn' vf' ∧ Stp b vo vn w vo' vn' w' := by
  have hB := Rbit_any h.row hi.sz hi.at_
  have hbb := bitV_bounds S d.x
  have hok1 := bitS_ok hi.at_
  have hN := fun (Q : World) (hQ : SRow Q b S (bitS S d.x) vo vn vf) => Rnumber_any hQ hi.sz hok1 2 (by omega)
  have hkb := numV_bounds S (bitS S d.x) 2
  rw [show (2 : Int) ^ 2 = 4 from rfl] at hkb
  have hok2 : okAt S (blockX S d.x) := numS_ok hok1 2
  have hX : numS S (bitS S d.x) 2 = blockX S d.x := rfl
  rw [hX] at hN
  have hw2 : (blockX S d.x).w = d.x.w := (numS_w _ _ _).trans (bitS_w _ _)
  have HD : Hid (∀ r, (if (blockX S d.x).state ≠ 0 then (false, { d with x := blockX S d.x })
  else if numV S (bitS S d.x) 2 = 0 then (bitV S d.x == 1, { d with x := if bitV S d.x = 0 then fillS S (blockX S d.x) else blockX S d.x })
  else if numV S (bitS S d.x) 2 = 1 then (bitV S d.x == 1, { d with x := (storedR S d.x).2, out := d.out ++ (storedR S d.x).1 })
  else if numV S (bitS S d.x) 2 = 2 then (bitV S d.x == 1, codedD S { d with x := blockX S d.x })
  else (bitV S d.x == 1, { d with x := (noteR S d.x).2, notes := if (noteR S d.x).2.state = 0 then d.notes ++ [outStr (noteR S d.x).1] else d.notes })) = r → blockD S d = r) := fun r e => e
  clear hX
  obtain ⟨i0, hi1, hz0, hz1, hz2⟩ := info_parts info_u8
  have HI : Hid (Try.prog.info? 5 = some i0 ∧ i0.zero = some (.int .u8 0) ∧ i0.size = 1 ∧ i0.bytes = 1) := ⟨hi1, hz0, hz1, hz2⟩
  clear hi1 hz0 hz1 hz2
  by_cases hst : (blockX S d.x).state = 0
  · have hF := fun (Q : World) (hQ : SRow Q b S (blockX S d.x) vo vn vf) => Rfill_any hQ hi.sz hok2
    have hbv : bitV S d.x = 0 ∨ bitV S d.x = 1 := by omega
    have hkv : numV S (bitS S d.x) 2 = 0 ∨ numV S (bitS S d.x) 2 = 1 ∨ numV S (bitS S d.x) 2 = 2 ∨ numV S (bitS S d.x) 2 = 3 := by omega
    rcases hkv with hkv | hkv | hkv | hkv
    · rcases hbv with hbv | hbv
      · have HR := HD.out _ rfl
        rw [if_neg (fun q => q hst), if_pos hkv, hbv, if_pos rfl] at HR
        have HRR : Hid (blockD S d = ((0 : Int) == 1, { d with x := fillS S (blockX S d.x) })) := HR
        rw [hbv] at hB
        rw [hkv] at hN
        clear HR HD hbv hkv hbb hkb
        generalize fillS S (blockX S d.x) = yf at *
        generalize blockX S d.x = y2 at *
        go_enter Try.func41, Try.ntmps41
        go_wp2_with (first
          | (go_at_call 42; refine (hF _ hr2).mono ?_; rintro e w3 ⟨rfl, hr3, hon3⟩)
          | (go_at_call 39; refine (hN _ hr1).mono ?_; rintro e w2 ⟨rfl, hr2, hon2⟩; have c3 := hr2.c_state; have hfz := hr2.free; rw [hst] at c3)
          | (go_at_call 50; refine hB.mono ?_; rintro e w1 ⟨rfl, hr1, hon1⟩))
        go_ret
        rw [HRR.out]
        exact ⟨_, _, _, rfl, h.on_ ((hon1.trans hon2).trans hon3) hr3, Stp.of_on _ _ ((hon1.trans hon2).trans hon3)⟩
      · have HR := HD.out _ rfl
        rw [if_neg (fun q => q hst), if_pos hkv, hbv, if_neg (by omega)] at HR
        have HRR : Hid (blockD S d = ((1 : Int) == 1, { d with x := blockX S d.x })) := HR
        rw [hbv] at hB
        rw [hkv] at hN
        clear HR HD hbv hkv hbb hkb hF
        generalize blockX S d.x = y2 at *
        go_enter Try.func41, Try.ntmps41
        go_wp2_with (first
          | (go_at_call 39; refine (hN _ hr1).mono ?_; rintro e w2 ⟨rfl, hr2, hon2⟩; have c3 := hr2.c_state; have hfz := hr2.free; rw [hst] at c3)
          | (go_at_call 50; refine hB.mono ?_; rintro e w1 ⟨rfl, hr1, hon1⟩))
        go_ret
        rw [HRR.out]
        exact ⟨_, _, _, rfl, h.on_ (hon1.trans hon2) hr2, Stp.of_on _ _ (hon1.trans hon2)⟩
    · have HR := HD.out _ rfl
      rw [if_neg (fun q => q hst), if_neg (by omega), if_pos hkv] at HR
      have HRR : Hid (blockD S d = (bitV S d.x == 1, { d with x := (storedR S d.x).2, out := d.out ++ (storedR S d.x).1 })) := HR
      rw [hkv] at hN
      clear HR HD hkv hkb hF
      have hNz := fun (Q : World) (hQ : SRow Q b S (blockX S d.x) vo vn vf) => Rnumber_any hQ hi.sz hok2 12 (by omega)
      have hnb := numV_bounds S (blockX S d.x) 12
      rw [show (2 : Int) ^ 12 = 4096 from rfl] at hnb
      have hok3 := numS_ok hok2 12
      have hFi := fun (Q : World) (hQ : SRow Q b S (numS S (blockX S d.x) 12) vo vn vf) => Rfill_any hQ hi.sz hok3
      have hok4 := fillS_ok hok3
      have hBy := fun (Q : World) (hQ : SRow Q b S (fillS S (numS S (blockX S d.x) 12)) vo vn vf) => Rbytes_any hQ hi.sz hok4 (numV S (blockX S d.x) 12 + 1).toNat (by omega)
      rw [show (((numV S (blockX S d.x) 12 + 1).toNat : Nat) : Int) = numV S (blockX S d.x) 12 + 1 by omega] at hBy
      have HSR : Hid (storedR S d.x = bytesGo S (numV S (blockX S d.x) 12 + 1).toNat (fillS S (numS S (blockX S d.x) 12))) := rfl
      have hbyt := bytesGo_byte (S := S) (numV S (blockX S d.x) 12 + 1).toNat (fillS S (numS S (blockX S d.x) 12))
      have hbln := bytesGo_len (S := S) (numV S (blockX S d.x) 12 + 1).toNat (fillS S (numS S (blockX S d.x) 12))
      rw [← HSR.out] at hBy hbyt hbln
      clear HSR
      have hTs := outStr_size (storedR S d.x).1
      have hTa := fun (i : Nat) (hq : i < (outStr (storedR S d.x).1).size) => outStr_at hbyt hq
      generalize (storedR S d.x).2 = yb at *
      generalize (storedR S d.x).1 = l at *
      generalize fillS S (numS S (blockX S d.x) 12) = yf at *
      generalize numV S (blockX S d.x) 12 = nz at *
      generalize numS S (blockX S d.x) 12 = y3 at *
      generalize blockX S d.x = y2 at *
      generalize bitV S d.x = lb at *
      generalize outStr l = T at *
      have hol := hi.out
      have hll : l.length ≤ 4096 := by omega
      go_enter Try.func41, Try.ntmps41
      go_wp2_with (first
          | (go_at_call 51; refine (hBy _ hr4).mono ?_; rintro e w5 ⟨rfl, hr5, hon5⟩)
          | (go_at_call 42; refine (hFi _ hr3).mono ?_; rintro e w4 ⟨rfl, hr4, hon4⟩)
          | (go_at_call 39; refine (hNz _ hr2).mono ?_; rintro e w3 ⟨rfl, hr3, hon3⟩)
          | (go_at_call 39; refine (hN _ hr1).mono ?_; rintro e w2 ⟨rfl, hr2, hon2⟩; have c3 := hr2.c_state; have hfz := hr2.free; rw [hst] at c3)
          | (go_at_call 50; refine hB.mono ?_; rintro e w1 ⟨rfl, hr1, hon1⟩))
      have hD5 := h.on_ ((((hon1.trans hon2).trans hon3).trans hon4).trans hon5) hr5
      have hS5 : Stp b vo vn w vo vn w5 := Stp.of_on _ _ ((((hon1.trans hon2).trans hon3).trans hon4).trans hon5)
      clear hB hN hNz hFi hBy hr1 hr2 hr3 hr4 hr5 hon1 hon2 hon3 hon4 hon5
      go_loopw [7] (fun vi wq => ∃ (i : Nat) (vo' : Value), i ≤ l.length ∧ vi = .int .i64 i ∧ DR wq b S { x := yb, out := d.out ++ l.take i, notes := d.notes, far := d.far } vo' vn vf ∧ Stp b vo vn w vo' vn wq) (fun vi _ => l.length - (intOf vi).toNat)
      case atStart => exact ⟨0, vo, by omega, rfl, by rw [List.take_zero, List.append_nil]; exact hD5, hS5⟩
      case round =>
        obtain ⟨i, vo', hil, rfl, hDq, hSq⟩ := hrel
        by_cases hlt : i < l.length
        · have hTi : i < T.size := by omega
          have hc := hTa i hTi
          have HSU : Hid (d.out ++ l.take (i + 1) = d.out ++ l.take i ++ [l.getD i 0]) := by
            rw [Hid, List.append_assoc, List.take_add_one, List.getD_eq_getElem?_getD, List.getElem?_eq_getElem hlt]
            rfl
          have hix : ∀ W : World, (Instr.index 9 (.string T) (.int .i64 (i : Int))).run Try.prog W = .ok (.int .u8 (l.getD i 0)) W := by
            intro W
            have hr := run_index_string (P := Try.prog) (w := W) 9 T .i64 (i : Int) (by kernel_rfl)
            rw [hr, dif_pos (by omega), ← hc]
            congr 3
          have HLL : Hid ((d.out ++ l.take i).length ≤ 17592186004096) := by
            rw [Hid, List.length_append, List.length_take]
            omega
          obtain ⟨qa, qc, rfl⟩ := owns_slice hDq.out
          have cso2 := hDq.row.c_out
          have hfzq := hDq.row.free
          have hDd := hDq.drew
          have hbr : b < wr.heap.size := hDq.row.lt
          have hlo : (d.out ++ l.take i).length ≤ 17592186004096 := HLL.out
          clear hDq hc
          generalize l.getD i 0 = c at *
          generalize d.out ++ l.take i = o at *
          have h1n : ∀ u ∈ [Value.int .u8 c], u.oneCell' = true := by intro u hu; simp at hu; subst hu; rfl
          clear hTa hbyt hD5 hS5 h hi hok1 hok2 hok3 hok4 hw2 hst c3 hfz hbv hbb hnb hbln
          go_wp2
          go_region_law (refine step_append_own_at rfl (.tmp 68) (.tmp 72) 37 rfl 0 5 i0 (.int .u8 0) 1 1 Try.underlying37 HI.out.1 HI.out.2.1 HI.out.2.2.1 HI.out.2.2.2 rfl (by decide) (.slice qa o.length qc) o.length (o.map (Value.int .u8)) (by simp [Act.eval]) (hDd.out.alloc _) ⟨wr.heap.size, 0, none⟩ 1 1 [.int .u8 c] (by simp [Act.eval]) rfl (cell_one_new _ _ _) h1n (by unfold maxLen; omega) (by omega) (Nat.zero_le _) ?_; intro v' w1' hown' hgrow hat; obtain ⟨g2, cap2, hv2⟩ := owns_shape hown'; subst hv2; have hrm := hDd.mid hgrow; have cm := hrm.c_out; have hfm := hrm.free)
          all_goals
            obtain ⟨hDp, hSp⟩ := hDd.push (c := c) hown' hgrow hat
            clear hown' hgrow hat hDd
            go_wp2
            go_roundw
            case rel => exact ⟨i + 1, _, by omega, by go_num, by rw [HSU.out]; exact hDp, hSq.drew.trans hSp⟩
            case measure => simp [intOf]; omega
        · have hil2 : i = l.length := by omega
          subst hil2
          rw [List.take_length] at hDq
          clear hTa hbyt hD5 hS5
          rcases hbv with rfl | rfl
          · go_wp2
            go_ret
            rw [HRR.out]
            first
              | exact ⟨_, _, _, rfl, hDq, hSq⟩
              | exact ⟨rfl, _, _, ⟨_, hDq⟩, hSq⟩
          · go_wp2
            go_ret
            rw [HRR.out]
            first
              | exact ⟨_, _, _, rfl, hDq, hSq⟩
              | exact ⟨rfl, _, _, ⟨_, hDq⟩, hSq⟩
    · have HR := HD.out _ rfl
      rw [if_neg (fun q => q hst), if_neg (by omega), if_neg (by omega), if_pos hkv] at HR
      have HRR : Hid (blockD S d = (bitV S d.x == 1, codedD S { d with x := blockX S d.x })) := HR
      rw [hkv] at hN
      clear HR HD hkv hkb hF
      have hBI : BlockIn S { d with x := blockX S d.x } := ⟨hi.sz, hok2, hi.far, by show 0 ≤ (blockX S d.x).w; rw [hw2]; exact hi.w0, by show (blockX S d.x).w ≤ 8; rw [hw2]; exact hi.w8, hi.out, hi.notes⟩
      have hCo := fun (Q : World) (hQ : DR Q b S { d with x := blockX S d.x } vo vn vf) => Rcoded_any hQ hBI
      clear hBI
      generalize codedD S { d with x := blockX S d.x } = dc at *
      generalize blockX S d.x = y2 at *
      rcases hbv with hbv | hbv
      · rw [hbv] at hB HRR
        clear hbv hbb
        go_enter Try.func41, Try.ntmps41
        go_wp2_with (first
          | (go_at_call 52; refine (hCo _ (h.on_ (hon1.trans hon2) hr2)).mono ?_; rintro e w3 ⟨vo3, vf3, rfl, hD3, hS3⟩)
          | (go_at_call 39; refine (hN _ hr1).mono ?_; rintro e w2 ⟨rfl, hr2, hon2⟩; have c3 := hr2.c_state; have hfz := hr2.free; rw [hst] at c3)
          | (go_at_call 50; refine hB.mono ?_; rintro e w1 ⟨rfl, hr1, hon1⟩))
        go_ret
        rw [HRR.out]
        exact ⟨_, _, _, rfl, hD3, (Stp.of_on _ _ (hon1.trans hon2)).trans hS3⟩
      · rw [hbv] at hB HRR
        clear hbv hbb
        go_enter Try.func41, Try.ntmps41
        go_wp2_with (first
          | (go_at_call 52; refine (hCo _ (h.on_ (hon1.trans hon2) hr2)).mono ?_; rintro e w3 ⟨vo3, vf3, rfl, hD3, hS3⟩)
          | (go_at_call 39; refine (hN _ hr1).mono ?_; rintro e w2 ⟨rfl, hr2, hon2⟩; have c3 := hr2.c_state; have hfz := hr2.free; rw [hst] at c3)
          | (go_at_call 50; refine hB.mono ?_; rintro e w1 ⟨rfl, hr1, hon1⟩))
        go_ret
        rw [HRR.out]
        exact ⟨_, _, _, rfl, hD3, (Stp.of_on _ _ (hon1.trans hon2)).trans hS3⟩
    · have HR := HD.out _ rfl
      rw [if_neg (fun q => q hst), if_neg (by omega), if_neg (by omega), if_neg (by omega)] at HR
      have HRR : Hid (blockD S d = (bitV S d.x == 1, { d with x := (noteR S d.x).2, notes := if (noteR S d.x).2.state = 0 then d.notes ++ [outStr (noteR S d.x).1] else d.notes })) := HR
      rw [hkv] at hN
      clear HR HD hkv hkb hF
      have hNz := fun (Q : World) (hQ : SRow Q b S (blockX S d.x) vo vn vf) => Rnumber_any hQ hi.sz hok2 8 (by omega)
      have hnb := numV_bounds S (blockX S d.x) 8
      rw [show (2 : Int) ^ 8 = 256 from rfl] at hnb
      have hok3 := numS_ok hok2 8
      have hFi := fun (Q : World) (hQ : SRow Q b S (numS S (blockX S d.x) 8) vo vn vf) => Rfill_any hQ hi.sz hok3
      have hok4 := fillS_ok hok3
      have hBy := fun (Q : World) (hQ : SRow Q b S (fillS S (numS S (blockX S d.x) 8)) vo vn vf) => Rbytes_any hQ hi.sz hok4 (numV S (blockX S d.x) 8).toNat (by omega)
      rw [show (((numV S (blockX S d.x) 8).toNat : Nat) : Int) = numV S (blockX S d.x) 8 by omega] at hBy
      have HSR : Hid (noteR S d.x = bytesGo S (numV S (blockX S d.x) 8).toNat (fillS S (numS S (blockX S d.x) 8))) := rfl
      rw [← HSR.out] at hBy
      clear HSR
      have hln := hi.notes
      generalize outStr (noteR S d.x).1 = T at *
      generalize (noteR S d.x).2 = yb at *
      generalize fillS S (numS S (blockX S d.x) 8) = yf at *
      generalize numV S (blockX S d.x) 8 = nz at *
      generalize numS S (blockX S d.x) 8 = y3 at *
      generalize blockX S d.x = y2 at *
      generalize bitV S d.x = lb at *
      by_cases hsb : yb.state = 0
      · rw [if_pos hsb] at HRR
        obtain ⟨j0, hj1, hj2, hj3, hj4⟩ := info_parts info_str
        have HJ : Hid (Try.prog.info? 9 = some j0 ∧ j0.zero = some (.string ByteArray.empty) ∧ j0.size = 1 ∧ j0.bytes = 16) := ⟨hj1, hj2, hj3, hj4⟩
        clear hj1 hj2 hj3 hj4
        go_enter Try.func41, Try.ntmps41
        go_wp2_with (first
          | (at_builtin; refine wpList_append_own_at _ rfl _ _ 59 rfl 0 9 j0 (.string ByteArray.empty) 1 16 Try.underlying59 HJ.out.1 HJ.out.2.1 HJ.out.2.2.1 HJ.out.2.2.2 rfl (by decide) _ _ _ rfl (hD5.notes.alloc _) ⟨_, 0, none⟩ 1 1 [.string T] rfl rfl ?c1 ?c2 ?c3 ?c4 ?c5 ?_)
          | (go_at_call 51; refine (hBy _ hr4).mono ?_; rintro e w5 ⟨rfl, hr5, hon5⟩; have c5 := hr5.c_state; have hfz5 := hr5.free; rw [hsb] at c5; have c6 := hr5.c_notes; have hD5 := h.on_ ((((hon1.trans hon2).trans hon3).trans hon4).trans hon5) hr5)
          | (go_at_call 42; refine (hFi _ hr3).mono ?_; rintro e w4 ⟨rfl, hr4, hon4⟩)
          | (go_at_call 39; refine (hNz _ hr2).mono ?_; rintro e w3 ⟨rfl, hr3, hon3⟩)
          | (go_at_call 39; refine (hN _ hr1).mono ?_; rintro e w2 ⟨rfl, hr2, hon2⟩; have c3 := hr2.c_state; have hfz := hr2.free; rw [hst] at c3)
          | (go_at_call 50; refine hB.mono ?_; rintro e w1 ⟨rfl, hr1, hon1⟩))
        case c1 =>
          intro k u hk
          match k, hk with
          | 0, hk => simp at hk; subst hk; simp [Addr.add]
        case c2 => intro u hu; simp at hu; subst hu; rfl
        case c3 => unfold maxLen; omega
        case c4 => omega
        case c5 => exact Nat.zero_le _
        · intro v' w1' hown' hgrow _ hat
          obtain ⟨g2, cap2, hv2⟩ := owns_shape hown'
          subst hv2
          have hrm := hD5.midn hgrow
          have cm := hrm.c_notes
          have hfm := hrm.free
          rw [show w5.heap.size + 1 = (w5.alloc (Obj.cells #[Value.string T] 9)).heap.size by simp] at hat
          obtain ⟨hDp, hSp⟩ := hD5.note (c := T) hown' hgrow hat
          have HDP := hDp
          clear hown' hgrow hat hDp
          go_wp2
          go_ret
          rw [HRR.out]
          exact ⟨rfl, _, _, ⟨_, HDP⟩, (Stp.of_on _ _ ((((hon1.trans hon2).trans hon3).trans hon4).trans hon5)).trans hSp⟩
      · rw [if_neg hsb] at HRR
        go_enter Try.func41, Try.ntmps41
        go_wp2_with (first
          | (go_at_call 51; refine (hBy _ hr4).mono ?_; rintro e w5 ⟨rfl, hr5, hon5⟩; have c5 := hr5.c_state; have hfz5 := hr5.free)
          | (go_at_call 42; refine (hFi _ hr3).mono ?_; rintro e w4 ⟨rfl, hr4, hon4⟩)
          | (go_at_call 39; refine (hNz _ hr2).mono ?_; rintro e w3 ⟨rfl, hr3, hon3⟩)
          | (go_at_call 39; refine (hN _ hr1).mono ?_; rintro e w2 ⟨rfl, hr2, hon2⟩; have c3 := hr2.c_state; have hfz := hr2.free; rw [hst] at c3)
          | (go_at_call 50; refine hB.mono ?_; rintro e w1 ⟨rfl, hr1, hon1⟩))
        go_ret
        rw [HRR.out]
        exact ⟨_, _, _, rfl, h.on_ ((((hon1.trans hon2).trans hon3).trans hon4).trans hon5) hr5, Stp.of_on _ _ ((((hon1.trans hon2).trans hon3).trans hon4).trans hon5)⟩
  · have HR := HD.out _ rfl
    rw [if_pos hst] at HR
    have HRR : Hid (blockD S d = (false, { d with x := blockX S d.x })) := HR
    clear HR HD
    generalize blockX S d.x = y2 at *
    generalize numV S (bitS S d.x) 2 = kd at *
    generalize bitV S d.x = lb at *
    go_enter Try.func41, Try.ntmps41
    go_wp2_with (first
      | (go_at_call 39; refine (hN _ hr1).mono ?_; rintro e w2 ⟨rfl, hr2, hon2⟩; have c3 := hr2.c_state; have hfz := hr2.free)
      | (go_at_call 50; refine hB.mono ?_; rintro e w1 ⟨rfl, hr1, hon1⟩))
    go_ret
    rw [HRR.out]
    exact ⟨_, _, _, rfl, h.on_ (hon1.trans hon2) hr2, Stp.of_on _ _ (hon1.trans hon2)⟩
end Go.Proofs.Ytmpfgdmdnghhgaa
