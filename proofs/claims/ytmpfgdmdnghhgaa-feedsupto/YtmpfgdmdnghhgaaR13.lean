import Derived.Test.YtmpfgdmdnghhgaaR12
namespace Go.Proofs.Ytmpfgdmdnghhgaa
open Go.RowKit Wr

/-- what the walk of a block is told -/
structure BlockIn (S : ByteArray) (d : Dr) : Prop where
  sz : S.size ≤ 268435456
  at_ : okAt S d.x
  far : ∀ i, i < 4 → 1 ≤ d.far i ∧ d.far i ≤ 4095
  w0 : 0 ≤ d.x.w
  w8 : d.x.w ≤ 8
  out : d.out.length ≤ 17592186000000
  notes : d.notes.length ≤ 4294967296

/-- what a copy keeps -/
structure Keeps (S : ByteArray) (d : Dr) (left : Int) (n : Int) (e : Dr) : Prop where
  at_ : okAt S e.x
  far : ∀ i, i < 4 → 1 ≤ e.far i ∧ e.far i ≤ 4095
  w : e.x.w = d.x.w
  n0 : 0 ≤ n
  n1 : n ≤ left
  out : (e.out.length : Int) = d.out.length + n
  st : e.x.state = 0 → 1 ≤ n
theorem copyD_keeps {S : ByteArray} {dw : List Wd} {k : Nat} {left : Int} {d : Dr} (hk : k ≤ 15) (hat : okAt S d.x) (hsym : ∀ x ∈ dw, 0 ≤ x.sym ∧ x.sym < 16) (hfar : ∀ i, i < 4 → 1 ≤ d.far i ∧ d.far i ≤ 4095) (hl : 0 ≤ left) : Keeps S d left (copyD S dw k left d).1 (copyD S dw k left d).2 := by
  have nb := copyN_bounds S hk d.x
  have ab := away_bounds (S := S) (k := k) hsym hfar
  unfold copyD
  split
  · rename_i hne
    exact ⟨copyS_at hat, hfar, copyS_w _ _ _ _ _, Int.le_refl _, hl, by show (d.out.length : Int) = d.out.length + 0; omega, fun q => absurd q hne⟩
  · rename_i hne
    have hz := Decidable.not_not.1 hne
    have hc := (needS_zero.1 (show (needS _ _).state = 0 from hz)).2
    unfold copyOk at hc
    have hc := of_decide_eq_true hc
    refine ⟨copyS_at hat, fun i hi => ?_, copyS_w _ _ _ _ _, by dsimp only; omega, hc.2.2, ?_, fun _ => by dsimp only; omega⟩
    · dsimp only
      split
      · exact hfar i hi
      · unfold nearAdd
        split
        · exact ab
        · exact hfar (i - 1) (by omega)
    · dsimp only
      rw [copyList_len]
      omega
theorem codeWs_sym {cnt sym : Nat → Int} {S : Int} (h : Cod cnt sym S) : ∀ x ∈ codeWs cnt sym, 0 ≤ x.sym ∧ x.sym < S := by
  intro x hx
  unfold codeWs at hx
  obtain ⟨p, hp, rfl⟩ := List.mem_map.1 hx
  rw [List.mem_range] at hp
  exact h.sym p (by omega)
theorem wsIf_sym {x : Sr} {c : (Nat → Int) × (Nat → Int)} {S : Int} (h : x.state = 0 → Cod c.1 c.2 S) : ∀ y ∈ wsIf x c, 0 ≤ y.sym ∧ y.sym < S := by
  unfold wsIf
  split
  · rename_i e
    exact codeWs_sym (h e)
  · intro y hy
    simp at hy
theorem codeS_w (S : ByteArray) (N sz : Nat) (x : Sr) : (codeS S N sz x).w = x.w := by
  have nm : ∀ (k i : Nat) (f : Nat → Int) (x : Sr), (nameGo S N sz k i f x).2.w = x.w := by
    intro k
    induction k with
    | zero => intro i f x; rfl
    | succ k ih =>
      intro i f x
      unfold nameGo
      split
      · rw [needS_w, numS_w]
      · rw [ih, needS_w, numS_w]
  have f1 : ∀ (f : Nat → Int) (n : Nat) (x : Sr), (fullOne S f n x).2.2.w = x.w := by
    intro f n x
    unfold fullOne
    split
    · dsimp only; rw [numS_w, needS_w, numS_w]
    · split
      · dsimp only; rw [numS_w, numS_w]
      · split
        · dsimp only; rw [numS_w, numS_w]
        · dsimp only; rw [numS_w]
  have fg : ∀ (k : Nat) (f : Nat → Int) (n : Nat) (x : Sr), (fullGo S N k f n x).2.2.w = x.w := by
    intro k
    induction k with
    | zero => intro f n x; rfl
    | succ k ih =>
      intro f n x
      unfold fullGo
      split
      · split
        · rw [ih, needS_w, f1]
        · rw [needS_w, f1]
      · rfl
  unfold codeS
  split
  · unfold simpR
    rw [nm, numS_w, bitS_w]
  · unfold fullS fullR
    rw [needS_w, fg, bitS_w]
theorem codedGo_stop {S : ByteArray} {lw dw : List Wd} (g : Nat) {left : Int} {d : Dr} (h : ¬ (0 < left ∧ d.x.state = 0)) : codedGo S lw dw g left d = d := by
  cases g with
  | zero => rfl
  | succ g => unfold codedGo; rw [if_neg h]

set_option maxRecDepth 100000 in
set_option maxHeartbeats 1000000 in
theorem Rcoded_any {w : World} {b : Nat} {S : ByteArray} {d : Dr} {vo vn vf : Value} (h : DR w b S d vo vn vf) (hi : BlockIn S d) :
    Calls Try.prog 52 #[.pointer (some ⟨b, 0, none⟩)] w fun e w' => ∃ vo' vf', e = .returned (.tuple #[]) ∧ DR w' b S (codedD S d) vo' vn vf' ∧ Stp b vo vn w vo' vn w' := by
  obtain ⟨i0, hi1, hz0, hz1, hz2⟩ := info_parts info_u8
  have HI : Hid (Try.prog.info? 5 = some i0 ∧ i0.zero = some (.int .u8 0) ∧ i0.size = 1 ∧ i0.bytes = 1) := ⟨hi1, hz0, hz1, hz2⟩
  clear hi1 hz0 hz1 hz2
  have hN := Rnumber_any h.row hi.sz hi.at_ 12 (by omega)
  have hnb := numV_bounds S d.x 12
  rw [show (2 : Int) ^ 12 = 4096 from rfl] at hnb
  have hok1 := numS_ok hi.at_ 12
  have hok2 : okAt S (codeS S 272 9 (numS S d.x 12)) := code_at hok1
  have hok3 : okAt S (codedX S d.x) := code_at hok2
  have hC1 := fun (Q : World) (hQ : SRow Q b S (numS S d.x 12) vo vn vf) => Rcode_any hQ hi.sz hok1 272 9 (by omega) (by omega)
  have hC2 := fun (Q : World) (hQ : SRow Q b S (codeS S 272 9 (numS S d.x 12)) vo vn vf) => Rcode_any hQ hi.sz hok2 16 4 (by omega) (by omega)
  have hK1 : (codeS S 272 9 (numS S d.x 12)).state = 0 → Cod (codeC S 272 9 (numS S d.x 12)).1 (codeC S 272 9 (numS S d.x 12)).2 272 := fun q => code_cod (by omega) q
  have hK2 : (codedX S d.x).state = 0 → Cod (codeC S 16 4 (codeS S 272 9 (numS S d.x 12))).1 (codeC S 16 4 (codeS S 272 9 (numS S d.x 12))).2 16 := fun q => code_cod (by omega) q
  have hl1 := wsIf_ok hK1
  have hl2 := wsIf_ok hK2
  have hs1 := wsIf_sym hK1
  have hs2 := wsIf_sym hK2
  have hw3 : (codedX S d.x).w = d.x.w := by unfold codedX; rw [codeS_w, codeS_w, numS_w]
  have HD : Hid (codedGo S (wsIf (codeS S 272 9 (numS S d.x 12)) (codeC S 272 9 (numS S d.x 12))) (wsIf (codedX S d.x) (codeC S 16 4 (codeS S 272 9 (numS S d.x 12)))) 4098 (numV S d.x 12 + 1) { d with x := codedX S d.x } = codedD S d) := rfl
  have hwb := h.row.lt
  have hX : codeS S 16 4 (codeS S 272 9 (numS S d.x 12)) = codedX S d.x := rfl
  rw [hX] at hC2
  clear hX hK1 hK2
  generalize wsIf (codedX S d.x) (codeC S 16 4 (codeS S 272 9 (numS S d.x 12))) = dw at *
  generalize wsIf (codeS S 272 9 (numS S d.x 12)) (codeC S 272 9 (numS S d.x 12)) = lw at *
  generalize codedX S d.x = y3 at *
  generalize codeS S 272 9 (numS S d.x 12) = y2 at *
  generalize numS S d.x 12 = y1 at *
  generalize numV S d.x 12 = n0 at *
  go_enter Try.func52, Try.ntmps52
  go_wp2_with (first
    | (go_at_call 61; refine (hC2 _ hr2).mono ?_; rintro e w3 ⟨v2, rfl, hr3, hon3, hwd2, hfr2⟩)
    | (go_at_call 61; refine (hC1 _ hr1).mono ?_; rintro e w2 ⟨v1, rfl, hr2, hon2, hwd1, hfr1⟩)
    | (go_at_call 39; refine hN.mono ?_; rintro e w1 ⟨rfl, hr1, hon1⟩))
  have hsz1 := hon1.size
  have hsz2 := hon2.size
  have hW1 : WOk w3 v1 lw b vo vn := by
    have : WOk w2 v1 lw b vo vn := ⟨hwd1, fun g hg => by have := hfr1 g hg; omega, fun _ g hg => by
      have := hfr1 g hg
      exact ⟨fun q => by have := (h.out.lt g q).2; omega, fun q => by have := (h.notes.lt g q).2; omega⟩⟩
    exact this.stp (Stp.of_on vo vn hon3)
  have hW2 : WOk w3 v2 dw b vo vn := ⟨hwd2, fun g hg => by have := hfr2 g hg; omega, fun _ g hg => by
      have := hfr2 g hg
      exact ⟨fun q => by have := (h.out.lt g q).2; omega, fun q => by have := (h.notes.lt g q).2; omega⟩⟩
  have hD3 : DR w3 b S { d with x := y3 } vo vn vf := h.on_ ((hon1.trans hon2).trans hon3) hr3
  have hS3 : Stp b vo vn w vo vn w3 := Stp.of_on vo vn ((hon1.trans hon2).trans hon3)
  clear hfr1 hfr2 hwd1 hwd2 hC1 hC2 hN hon1 hon2 hon3 hr1 hr2 hr3
  go_loopg [2, 3] 4098 (fun g _ vl wr => ∃ (left : Int) (e : Dr) (vo' vf' : Value), Hid (codedGo S lw dw g left e = codedD S d) ∧ (e.x.state = 0 → left < g) ∧ 0 ≤ left ∧ left ≤ 4096 ∧ vl = .int .i64 left ∧ okAt S e.x ∧ Hid (∀ i, i < 4 → 1 ≤ e.far i ∧ e.far i ≤ 4095) ∧ e.x.w = d.x.w ∧ (e.out.length : Int) + left ≤ d.out.length + 4096 ∧ DR wr b S e vo' vn vf' ∧ Stp b vo vn w3 vo' vn wr)
  case atStart => exact ⟨n0 + 1, { d with x := y3 }, vo, vf, HD, fun _ => by omega, by omega, by omega, rfl, hok3, hi.far, hw3, by dsimp only; omega, hD3, Stp.refl _ _ _ _⟩
  case round =>
    obtain ⟨left, e, vo', vf', HF, hfu, hl0, hl4, rfl, hoke, HFA, hew, hlen, hDe, hSe⟩ := hrel
    have c3 := hDe.row.c_state
    have hfz := hDe.row.free
    by_cases hp : 0 < left
    · by_cases h0 : e.x.state = 0
      · have hgk := hfu h0
        rw [h0] at c3
        have hWl := hW1.stp hSe
        have hWd := hW2.stp hSe
        have hSy := Rsymbol_any hDe.row hi.sz hoke v1 lw hWl.words hl1.1 hl1.2 hWl.nb
        have hsb := symV_bounds (N := 272) (S := S) (by omega) hs1 e.x
        have hoks : okAt S (symS S lw e.x) := symS_at hoke
        have hsw : (symS S lw e.x).w = d.x.w := (symS_w _ _ _).trans hew
        have HE : Hid (codedGo S lw dw (gk - 1 + 1) left e = codedD S d) := by rw [Hid, show gk - 1 + 1 = gk by omega]; exact HF.out
        unfold codedGo at HE
        rw [if_pos ⟨hp, h0⟩] at HE
        by_cases hst : (symS S lw e.x).state = 0
        · rw [if_neg (fun q => q hst)] at HE
          by_cases hlt : symV S lw e.x < 256
          · rw [if_pos hlt] at HE
            generalize symS S lw e.x = ys at *
            generalize symV S lw e.x = vs at *
            have hol := hi.out
            go_wp2_with (first
              | (at_builtin; refine wpList_append_own_at _ rfl _ _ 37 rfl 0 5 i0 (.int .u8 0) 1 1 Try.underlying37 HI.out.1 HI.out.2.1 HI.out.2.2.1 HI.out.2.2.2 rfl (by decide) _ _ _ rfl (hD4.out.alloc _) ⟨_, 0, none⟩ 1 1 [.int .u8 vs] rfl rfl ?c1 ?c2 ?c3 ?c4 ?c5 ?_)
              | (go_at_call 62; refine hSy.mono ?_; rintro e4 w4 ⟨rfl, hr4, hon4⟩; have c4 := hr4.c_state; have hfz4 := hr4.free; have c4o := hr4.c_out; rw [hst] at c4; have hD4 := hDe.on_ hon4 hr4))
            case c1 =>
              intro k u hk
              match k, hk with
              | 0, hk => simp at hk; subst hk; simp [Addr.add]
            case c2 => intro u hu; simp at hu; subst hu; rfl
            case c3 => unfold maxLen; omega
            case c4 => omega
            case c5 => exact Nat.zero_le _
            · intro v' w1' hown' hgrow _ hat
              obtain ⟨g2, cap2, hv2⟩ := owns_shape hown'
              subst hv2
              have hrm := hD4.mid hgrow
              have cm := hrm.c_out
              have hfm := hrm.free
              have hat' := hat
              rw [show w4.heap.size + 1 = (w4.alloc (Obj.cells #[Value.int IntKind.u8 vs] 5)).heap.size by simp] at hat'
              obtain ⟨hDp, hSp⟩ := hD4.push (c := vs) hown' hgrow hat'
              have HDP : Hid (DR _ b S { e with x := ys, out := e.out ++ [vs] } _ vn vf') := hDp
              clear hown' hgrow hat hat' hSy hDp
              go_wp2
              go_roundg (gk - 1)
              case measure => omega
              case rel => exact ⟨left - 1, _, _, vf', HE, fun _ => by omega, by omega, by omega, rfl, hoks, HFA, hsw, by simp only [List.length_append, List.length_singleton]; omega, HDP.out, (hSe.trans (Stp.of_on _ _ hon4)).trans hSp⟩
          · rw [if_neg hlt] at HE
            have hkp := fun (left0 : Int) (hl : 0 ≤ left0) => copyD_keeps (S := S) (dw := dw) (k := (symV S lw e.x - 256).toNat) (left := left0) (d := { e with x := symS S lw e.x }) (by omega) hoks hs2 HFA.out hl
            have hkp := hkp left hl0
            have hCI : CopyIn S { e with x := symS S lw e.x } dw left := ⟨hi.sz, hoks, hs2, hl2.1, hl2.2, HFA.out, by show 0 ≤ (symS S lw e.x).w; rw [hsw]; exact hi.w0, by show (symS S lw e.x).w ≤ 8; rw [hsw]; exact hi.w8, by have := hi.out; show e.out.length ≤ _; omega, hl0, hl4⟩
            have hCp := fun (Q : World) (hQ : DR Q b S { e with x := symS S lw e.x } vo' vn vf') (hS : Stp b vo' vn wr vo' vn Q) => Rcopy_any hQ (symV S lw e.x - 256).toNat (by omega) v2 dw (hWd.stp hS) left hCI
            rw [show (((symV S lw e.x - 256).toNat : Nat) : Int) = symV S lw e.x - 256 by omega] at hCp
            have HK : Hid (Keeps S { e with x := symS S lw e.x } left (copyD S dw (symV S lw e.x - 256).toNat left { e with x := symS S lw e.x }).1 (copyD S dw (symV S lw e.x - 256).toNat left { e with x := symS S lw e.x }).2) := hkp
            have hkn := hkp.n0
            have hkm := hkp.n1
            clear hkp hCI
            generalize (copyD S dw (symV S lw e.x - 256).toNat left { e with x := symS S lw e.x }).2 = e2 at *
            generalize (copyD S dw (symV S lw e.x - 256).toNat left { e with x := symS S lw e.x }).1 = n at *
            generalize symS S lw e.x = ys at *
            generalize symV S lw e.x = vs at *
            go_wp2_with (first
              | (go_at_call 63; refine (hCp _ (hDe.on_ hon4 hr4) (Stp.of_on _ _ hon4)).mono ?_; rintro e5 w5 ⟨vo5, vf5, rfl, hD5, hS5⟩)
              | (go_at_call 62; refine hSy.mono ?_; rintro e4 w4 ⟨rfl, hr4, hon4⟩; have c4 := hr4.c_state; have hfz4 := hr4.free; have c4o := hr4.c_out; rw [hst] at c4))
            go_roundg (gk - 1)
            case measure => omega
            case rel =>
              have K := HK.out
              have ko := K.out
              have kw : e2.x.w = ys.w := K.w
              exact ⟨left - n, e2, vo5, vf5, HE, fun q => by have := K.st q; omega, by omega, by omega, rfl, K.at_, K.far, kw.trans hsw, by dsimp only at ko; omega, hD5, (hSe.trans (Stp.of_on _ _ hon4)).trans hS5⟩
        · rw [if_pos hst] at HE
          generalize symS S lw e.x = ys at *
          generalize symV S lw e.x = vs at *
          go_wp2_with (first
            | (go_at_call 62; refine hSy.mono ?_; rintro e4 w4 ⟨rfl, hr4, hon4⟩; have c4 := hr4.c_state; have hfz4 := hr4.free))
          refine bodyPost_ret (results_none rfl _ _ _) rfl ?_
          rw [← HE.out]
          exact ⟨_, _, rfl, hDe.on_ hon4 hr4, (hS3.trans hSe).trans (Stp.of_on _ _ hon4)⟩
      · have HE : Hid (codedD S d = e) := HF.out.symm.trans (codedGo_stop gk (fun q => h0 q.2))
        go_wp2
        go_end0
        rw [HE.out]
        first
          | exact ⟨_, _, rfl, hDe, hS3.trans hSe⟩
          | exact ⟨rfl, _, ⟨_, hDe⟩, hS3.trans hSe⟩
    · have HE : Hid (codedD S d = e) := HF.out.symm.trans (codedGo_stop gk (fun q => hp q.1))
      go_wp2
      go_end0
      rw [HE.out]
      first
        | exact ⟨_, _, rfl, hDe, hS3.trans hSe⟩
        | exact ⟨rfl, _, ⟨_, hDe⟩, hS3.trans hSe⟩
end Go.Proofs.Ytmpfgdmdnghhgaa
