import Derived.Test.YtmpfgdmdnghhgaaR11
import Derived.Test.YtmpfgdmdnghhgaaRefP9
import Derived.Deep.RegionLaw
import Derived.Deep.DeepCutAuto
namespace Go.Proofs.Ytmpfgdmdnghhgaa
open Go.RowKit Wr

theorem copyList_succ (d : Nat) : ∀ (j : Nat) (l : List Int), copyList d (j + 1) l = copyList d j l ++ [(copyList d j l).getD ((copyList d j l).length - d) 0]
  | 0, _ => rfl
  | j + 1, l => by
    show copyList d (j + 1) (l ++ [l.getD (l.length - d) 0]) = copyList d j (l ++ [l.getD (l.length - d) 0]) ++ _
    rw [copyList_succ d j]
    rfl

theorem step_append_own_at {P : Program} {ops : Array Oper} {o : Oper} {a : Act} {w : World} {K : Act → World → Prop} {Q : Exit → Act → World → Prop} {E : Prop}
    (hg : o.guard = none) (s x : Operand) (t : TypeId) (hop : o.op = Op.call { callee := Callee.builtin Builtin.append, args := #[s, x], argTypes := #[t, t] })
    (base : Nat) (e : TypeId) (i : TypeInfo) (z : Value) (size bytes : Nat) (ht : P.underlying t = some (.slice e)) (hi : P.info? e = some i) (hz : i.zero = some z) (hsize : i.size = size) (hby : i.bytes = bytes) (hzs : z.cells.size = size) (hsz : 0 < size)
    (v : Value) (n : Nat) (xs : List Value) (hs : a.eval s = v) (hown : w.ownsRow base e size v n xs)
    (ad : Addr) (m c : Nat) (news : List Value) (hx : a.eval x = .slice (some ad) m c) (hl : news.length = m * size) (hnews : ∀ j u, news[j]? = some u → w.cell? (ad.add j) = some u) (h1 : ∀ u ∈ news, u.oneCell' = true)
    (h63 : n + m ≤ maxLen) (hbytes : (n + m) * bytes ≤ 140737488355328) (hbase : base ≤ w.heap.size)
    (hK : ∀ v' w', w'.ownsRow base e size v' (n + m) (xs ++ news) → w.grownBy w' v.ownBlock → (v'.ownBlock = v.ownBlock ∨ v'.ownBlock = some w.heap.size) → K (a.put o.dst v') w') :
    if Region.wanted o (yielded ops a.tmps) = true then Oper.wp P o a w K Q else E := by
  have hw : Region.wanted o (yielded ops a.tmps) = true := by simp [Region.wanted, hg]
  rw [if_pos hw]
  obtain ⟨v', w', hr, h2, h3, _, h5⟩ := run_append_own_at (P := P) w base t o.type e i z size bytes ht hi hz hsize hby hzs hsz v n xs hown ad m c news hl hnews h1 h63 hbytes hbase
  unfold Oper.wp execOp
  simp only [hop, resolve, invoke, builtin, Sem.run_bind, Sem.run_pure, Result.andThen_ok, List.map_toArray, List.map_cons, List.map_nil, hs, hx, hr]
  exact hK v' w' h2 h3 h5
theorem DR.drew {w : World} {b : Nat} {S : ByteArray} {d : Dr} {vo vn vf : Value} (h : DR w b S d vo vn vf) : DR w.drew b S d vo vn vf := ⟨h.row, h.out, h.notes, h.far, h.ob, h.nb, h.fb, h.on, h.of_, h.nf⟩
theorem Stp.drew {b : Nat} {vo vn vo' vn' : Value} {w w' : World} (h : Stp b vo vn w vo' vn' w') : Stp b vo vn w vo' vn' w'.drew := ⟨h.os, h.tape, h.output, h.size, h.block, h.oo, h.nn⟩
theorem DR.mid {w : World} {b : Nat} {S : ByteArray} {d : Dr} {vo vn vf : Value} {o : Obj} {w1 : World} (h : DR w b S d vo vn vf) (hg : (w.alloc o).grownBy w1 vo.ownBlock) : SRow w1 b S d.x vo vn vf := by
  have hsz : (w.alloc o).heap.size = w.heap.size + 1 := by simp
  have hbl := h.row.lt
  exact h.row.of_block ((hg.block b (by omega) (fun q => h.ob q.symm)).trans (Below.heap_alloc _ _ _ hbl))
/-- what the walk of a copy is told -/
structure CopyIn (S : ByteArray) (d : Dr) (dw : List Wd) (left : Int) : Prop where
  sz : S.size ≤ 268435456
  at_ : okAt S d.x
  sym : ∀ x ∈ dw, 0 ≤ x.sym ∧ x.sym < 16
  wd : wdOk dw
  len : dw.length ≤ 272
  far : ∀ i, i < 4 → 1 ≤ d.far i ∧ d.far i ≤ 4095
  w0 : 0 ≤ d.x.w
  w8 : d.x.w ≤ 8
  out : d.out.length ≤ 17592186044416
  l0 : 0 ≤ left
  l1 : left ≤ 4096

set_option maxRecDepth 100000 in
set_option maxHeartbeats 2000000 in
theorem Rcopy_any {w : World} {b : Nat} {S : ByteArray} {d : Dr} {vo vn vf : Value} (h : DR w b S d vo vn vf) (k : Nat) (hk : k ≤ 15) (v : Value) (dw : List Wd) (hw : WOk w v dw b vo vn) (left : Int) (hi : CopyIn S d dw left) :
    Calls Try.prog 63 #[.pointer (some ⟨b, 0, none⟩), .int .i64 k, v, .int .i64 left] w fun e w' => ∃ vo' vf', e = .returned (.int .i64 (copyD S dw k left d).1) ∧ DR w' b S (copyD S dw k left d).2 vo' vn vf' ∧ Stp b vo vn w vo' vn w' := by
  have hL := Rlength_any h.row hi.sz hi.at_ k hk
  have hok1 : okAt S (copyX S k d.x) := numS_ok hi.at_ _
  have hSy := fun (W : World) (hW : SRow W b S (copyX S k d.x) vo vn vf) (ho : On b w W) => Rsymbol_any hW hi.sz hok1 v dw (hw.stp (Stp.of_on vo vn ho)).words hi.wd hi.len hw.nb
  have hdb : 0 ≤ copyDd S dw k d.x ∧ copyDd S dw k d.x < 16 := symV_bounds (by omega) hi.sym _
  have hok2 : okAt S (symS S dw (copyX S k d.x)) := symS_at hok1
  have hyw : (symS S dw (copyX S k d.x)).w = d.x.w := (symS_w _ _ _).trans (numS_w _ _ _)
  have hnb : 3 ≤ copyN S k d.x ∧ copyN S k d.x ≤ 520 := by
    have hv := numV_bounds S d.x (k - 7)
    unfold copyN lenLeast
    by_cases h8 : (k : Int) < 8
    · rw [show k - 7 = 0 by omega] at hv ⊢
      have e : (2 : Int) ^ 0 = 1 := rfl
      rw [if_pos h8]
      omega
    · have hp : (2 : Int) ^ (k - 7) ≤ 256 := pow_mono2 (show k - 7 ≤ 8 by omega)
      have hp1 := pow_pos2 (k - 7)
      rw [if_neg h8, show ((k : Int) - 7).toNat = k - 7 by omega]
      have hp2 : (2 : Int) ^ 1 ≤ 2 ^ (k - 7) := pow_mono2 (by omega)
      have e : (2 : Int) ^ 1 = 2 := rfl
      omega
  have HS : Hid (∀ y A ok, awayS S (copyDd S dw k d.x) (symS S dw (copyX S k d.x)) = y → copyAway S dw k d = A → copyOk d.x.w d.out.length A (copyN S k d.x) left = ok → copyS S dw k left d = needS y ok) := by
    intro y A ok e1 e2 e3
    unfold copyS
    rw [e1, e2, e3]
  have hwb := h.row.lt
  obtain ⟨fg, rfl, hfr⟩ := h.far
  obtain ⟨oa, oc, rfl⟩ := owns_slice h.out
  obtain ⟨i0, hi1, hz0, hz1, hz2⟩ := info_parts info_u8
  have HI : Hid (Try.prog.info? 5 = some i0 ∧ i0.zero = some (.int .u8 0) ∧ i0.size = 1 ∧ i0.bytes = 1) := ⟨hi1, hz0, hz1, hz2⟩
  clear hi1 hz0 hz1 hz2
  have hfgb : fg ≠ b := fun q => h.fb (by rw [q]; rfl)
  have hw08 : 0 ≤ d.x.w ∧ d.x.w ≤ 8 := ⟨hi.w0, hi.w8⟩
  have hl01 : 0 ≤ left ∧ left ≤ 4096 := ⟨hi.l0, hi.l1⟩
  have hol := hi.out
  have hfar := hi.far
  have HL : Hid (lenLeast k + numV S d.x (k - 7) = copyN S k d.x ∧ numS S d.x (k - 7) = copyX S k d.x ∧ symV S dw (copyX S k d.x) = copyDd S dw k d.x) := ⟨rfl, rfl, rfl⟩
  rw [HL.out.1, HL.out.2.1] at hL
  rw [HL.out.2.2] at hSy
  clear HL
  obtain ⟨W, hW⟩ : ∃ W : Nat, d.x.w = W := ⟨d.x.w.toNat, by omega⟩
  obtain ⟨dn, hdn0⟩ : ∃ dn : Nat, copyDd S dw k d.x = dn := ⟨(copyDd S dw k d.x).toNat, by omega⟩
  have hdn : dn ≤ 15 := by omega
  rw [hdn0] at hSy
  have hawb := away_bounds (S := S) (k := k) hi.sym hfar
  obtain ⟨An, hAn⟩ : ∃ An : Nat, copyAway S dw k d = An := ⟨(copyAway S dw k d).toNat, by omega⟩
  have hab : 1 ≤ (An : Int) ∧ (An : Int) ≤ 4095 := by omega
  have HAA : Hid (copyAway S dw k d = An) := hAn
  have HAW : Hid (awayV S d.far dn (symS S dw (copyX S k d.x)) = An) := by
    rw [Hid, ← hdn0, ← hAn]
    rfl
  have HAS : Hid (awayS S dn (symS S dw (copyX S k d.x)) = awayS S (copyDd S dw k d.x) (symS S dw (copyX S k d.x))) := by rw [Hid, hdn0]
  have hyw2 : (awayS S (copyDd S dw k d.x) (symS S dw (copyX S k d.x))).w = d.x.w := (awayS_w _ _ _).trans hyw
  have hNu := fun (Q : World) (n : Nat) (hn : n ≤ 12) (hQ : SRow Q b S (symS S dw (copyX S k d.x)) (.slice oa d.out.length oc) vn (.slice (some ⟨fg, 0, none⟩) 4 4)) => Rnumber_any hQ hi.sz hok2 n hn
  have hvb := fun (n : Nat) => numV_bounds S (symS S dw (copyX S k d.x)) n
  clear hAn hawb
  generalize awayS S (copyDd S dw k d.x) (symS S dw (copyX S k d.x)) = yz at *
  generalize symS S dw (copyX S k d.x) = y at *
  generalize copyX S k d.x = yx at *
  go_enter Try.func63, Try.ntmps63
  go_upto_if 24 with (first
    | (go_at_call 62; refine (hSy _ hr1 hon1).mono ?_; rintro e w2 ⟨rfl, hr2, hon2⟩)
    | (go_at_call 80; refine hL.mono ?_; rintro e w1 ⟨rfl, hr1, hon1⟩))
  go_cut [11, 12, 13] (fun s11 _ _ wx => s11 = .int .i64 An ∧ SRow wx b S yz (.slice oa d.out.length oc) vn (.slice (some ⟨fg, 0, none⟩) 4 4) ∧ On b w wx)
  case first =>
    by_cases hd4 : dn < 4
    · have HE : Hid (d.far dn = An ∧ yz = y) := by
        have h1 := HAW.out
        have h2 := HAS.out
        unfold awayV at h1
        unfold awayS at h2
        rw [if_pos (by omega), Int.toNat_natCast] at h1
        rw [if_pos (by omega)] at h2
        exact ⟨h1, h2.symm⟩
      have hfc := World.rowIs.cell ((hon1.trans hon2).row hfgb hfr) hd4
      rw [HE.out.1] at hfc
      have c4 := hr2.c_far
      have hfz2 := hr2.free
      clear hSy hL hNu hvb
      go_wp2
      go_meet
      case rel => exact ⟨rfl, by rw [HE.out.2]; exact hr2, hon1.trans hon2⟩
    · have HE : Hid (2 ^ (dn - 4) + numV S y (dn - 4) = (An : Int) ∧ yz = numS S y (dn - 4)) := by
        have h1 := HAW.out
        have h2 := HAS.out
        unfold awayV at h1
        unfold awayS at h2
        rw [if_neg (by omega), show ((dn : Int) - 4).toNat = dn - 4 by omega] at h1
        rw [if_neg (by omega), show ((dn : Int) - 4).toNat = dn - 4 by omega] at h2
        exact ⟨h1, h2.symm⟩
      have hv := hvb (dn - 4)
      have hp11 : (2 : Int) ^ (dn - 4) ≤ 2048 := pow_mono2 (show dn - 4 ≤ 11 by omega)
      have hp0 := pow_pos2 (dn - 4)
      have hN2 := hNu _ (dn - 4) (by omega) hr2
      rw [show ((dn - 4 : Nat) : Int) = (dn : Int) - 4 by omega] at hN2
      have hAn := HE.out.1
      clear hSy hL hNu hvb
      generalize numV S y (dn - 4) = V at *
      go_wp2
      go_loopw [11, 12] (fun va vi wq => ∃ i : Nat, 4 ≤ i ∧ i ≤ dn ∧ va = .int .i64 (2 ^ (i - 4)) ∧ vi = .int .i64 i ∧ wq = w2) (fun _ vi _ => dn - (intOf vi).toNat)
      case atStart => exact ⟨4, by omega, by omega, rfl, rfl, rfl⟩
      case round =>
        obtain ⟨i4, hi4, hid, rfl, rfl, rfl⟩ := hrel
        have hq : (2 : Int) ^ (i4 - 4) ≤ 2048 := pow_mono2 (show i4 - 4 ≤ 11 by omega)
        have hq0 := pow_pos2 (i4 - 4)
        by_cases hlt4 : i4 < dn
        · have e2 : (2 : Int) ^ (i4 + 1 - 4) = 2 * 2 ^ (i4 - 4) := by rw [show i4 + 1 - 4 = i4 - 4 + 1 by omega, Int.pow_succ]; omega
          clear hAn
          generalize (2 : Int) ^ (i4 - 4) = P at *
          go_wp2
          go_roundw
          case rel => exact ⟨i4 + 1, by omega, by omega, by rw [e2], by go_num, by first | rfl | trivial⟩
          case measure => simp [intOf]; omega
        · have hid2 : i4 = dn := by omega
          subst hid2
          generalize (2 : Int) ^ (i4 - 4) = P at *
          go_wp2_with (first
            | (go_at_call 39; refine hN2.mono ?_; rintro e w3 ⟨rfl, hr3, hon3⟩))
          go_meet
          case rel => exact ⟨rfl, by rw [HE.out.2]; exact hr3, (hon1.trans hon2).trans hon3⟩
  case rest =>
  obtain ⟨rfl, hr3, hon3⟩ := hcut
  clear hSy hL hNu hvb HAW HAS hr1 hr2 hon1 hon2
  have c5 := hr3.c_w
  have hfz3 := hr3.free
  go_wp2
  have hAb : 1 ≤ (An : Int) ∧ (An : Int) ≤ 4095 := hab
  rw [hyw2, hW] at c5
  have hNN := fun (Q : World) (yy : Sr) (ok : Bool) (hQ : SRow Q b S yy (.slice oa d.out.length oc) vn (.slice (some ⟨fg, 0, none⟩) 4 4)) => Rneed_any hQ ok
  have hrA := hr3
  have cso := hrA.c_out
  have csn := hrA.c_state
  have hfzA := hrA.free
  go_loopw [14, 15] (fun vw vi wq => ∃ i : Nat, i ≤ W ∧ vw = .int .i64 (16 * 2 ^ i) ∧ vi = .int .i64 i ∧ wq = wc) (fun _ vi _ => W - (intOf vi).toNat)
  case atStart => exact ⟨0, by omega, rfl, rfl, rfl⟩
  case round =>
    obtain ⟨i, hiW, rfl, rfl, rfl⟩ := hrel
    have hp : (2 : Int) ^ i ≤ 256 := pow_mono2 (show i ≤ 8 by omega)
    have hp1 := pow_pos2 i
    by_cases hlt : i < W
    · have e2 : (2 : Int) ^ (i + 1) = 2 * 2 ^ i := by rw [Int.pow_succ]; omega
      generalize (2 : Int) ^ i = P at *
      go_wp2
      go_roundw
      case rel => exact ⟨i + 1, by omega, by rw [e2]; congr 1; omega, by go_num, by first | rfl | trivial⟩
      case measure => simp [intOf]; omega
    · have hiw : i = W := by omega
      subst hiw
      have HOK : Hid (copyOk d.x.w d.out.length ((An : Int)) (copyN S k d.x) left = decide ((An : Int) ≤ 16 * 2 ^ i ∧ (An : Int) ≤ (d.out.length : Int) ∧ copyN S k d.x ≤ left)) := by
        unfold copyOk
        rw [Hid, hW, Int.toNat_natCast]
      have hwi : 16 ≤ 16 * (2 : Int) ^ i ∧ 16 * (2 : Int) ^ i ≤ 4096 := by omega
      clear hp hp1 hlt
      have HC := HS.out _ _ _ rfl HAA.out HOK.out
      generalize 16 * (2 : Int) ^ i = WI at *
      clear HS HOK
      by_cases hok : (An : Int) ≤ WI ∧ (An : Int) ≤ (d.out.length : Int) ∧ copyN S k d.x ≤ left
      · rw [decide_eq_true hok, needS_true] at HC
        obtain ⟨hk1, hk2, hk3⟩ := hok
        by_cases h2 : yz.state = 0
        · have HR : Hid (copyD S dw k left d = (copyN S k d.x, { d with x := yz, far := if copyDd S dw k d.x = 0 then d.far else nearAdd d.far An, out := copyList An (copyN S k d.x).toNat d.out })) := by
            rw [Hid]; unfold copyD; rw [HC, if_neg (fun q => q h2), HAA.out, Int.toNat_natCast]
          rw [hdn0] at HR
          clear HC
          generalize copyN S k d.x = n at *
          rw [h2] at csn
          have HF : Hid (∃ F : Nat → Int, (if (dn : Int) = 0 then d.far else nearAdd d.far An) = F) := ⟨_, rfl⟩
          obtain ⟨F, hF⟩ := HF.out
          rw [hF] at HR
          have HQQ : Hid ((if (dn : Int) = 0 then d.far else nearAdd d.far An) = F) := hF
          clear hF HF
          go_upto_if 81 with (first
            | (go_at_call 40; refine (hNN _ _ true hrA).mono ?_; rintro e w5 ⟨rfl, hr5, hon5⟩; rw [needS_true] at hr5; have c6 := hr5.c_state; have hfz5 := hr5.free; have c7 := hr5.c_out; have c8 := hr5.c_far; have hb5 := hr5.lt; have hfr5 := (hon3.trans hon5).row hfgb hfr; have f0 := World.rowIs.cell hfr5 (show 0 < 4 by omega); have f1 := World.rowIs.cell hfr5 (show 1 < 4 by omega); have f2 := World.rowIs.cell hfr5 (show 2 < 4 by omega); rw [h2] at c6))
          go_cut [] (fun wx => ∃ vf', DR wx b S { d with x := yz, far := F } (.slice oa d.out.length oc) vn vf' ∧ Stp b (.slice oa d.out.length oc) vn w (.slice oa d.out.length oc) vn wx)
          case first =>
            have hDG : DR w5 b S { d with x := yz } (.slice oa d.out.length oc) vn (.slice (some ⟨fg, 0, none⟩) 4 4) := h.on_ (hon3.trans hon5) hr5
            by_cases hd0 : dn = 0
            · have HX : Hid (d.far = F) := by
                have := HQQ.out
                rw [if_pos (by omega)] at this
                exact this
              subst hd0
              go_wp2
              go_meet
              case rel => exact ⟨_, by rw [← HX.out]; exact hDG, Stp.of_on _ _ (hon3.trans hon5)⟩
            · have HX : Hid (nearAdd d.far An = F) := by
                have := HQQ.out
                rw [if_neg (by omega)] at this
                exact this
              obtain ⟨hDF, hSF0⟩ := hDG.set_far (c := #[.int .i64 An, .int .i64 (d.far 0), .int .i64 (d.far 1), .int .i64 (d.far 2)]) (f := nearAdd d.far An) rfl (fun i hi => by
                match i, hi with
                | 0, _ => rfl
                | 1, _ => rfl
                | 2, _ => rfl
                | 3, _ => rfl)
              rw [World.setCell_alloc_past (hn := hb5)] at hDF hSF0
              have HSF : Hid (Stp b (.slice oa d.out.length oc) vn w (.slice oa d.out.length oc) vn _) := (Stp.of_on (.slice oa d.out.length oc) vn (hon3.trans hon5)).trans hSF0
              have HDF := hDF
              clear hDG hSF0 hDF
              clear hk hi hdb hfr hw h hw08 hl01 hfar HAA hok2 hyw hok1 hyw2 hab hAb hNN hr3 hon3 hrA cso csn hfzA hW hiW c5 hwi hk1 h2 hk3
              go_wp2
              go_region
              all_goals
                go_wp2
                go_meet
                case rel => exact ⟨_, by rw [← HX.out]; exact HDF.drew, HSF.out.drew⟩
          case rest =>
          obtain ⟨vf9, hDF, hSF⟩ := hcut
          go_wp2
          go_loopw [16] (fun vi wq => ∃ (j : Nat) (vo' : Value), (j : Int) ≤ n ∧ vi = .int .i64 j ∧ DR wq b S { x := yz, out := copyList An j d.out, notes := d.notes, far := F } vo' vn vf9 ∧ Stp b (.slice oa d.out.length oc) vn w vo' vn wq) (fun vi _ => n.toNat - (intOf vi).toNat)
          case atStart => exact ⟨0, _, by omega, rfl, hDF, hSF⟩
          case round =>
            obtain ⟨j, vo', hj, rfl, hDq, hSq⟩ := hrel
            have HLEN : Hid ((copyList An j d.out).length = d.out.length + j) := copyList_len An j d.out
            have HSUC : Hid (copyList An (j + 1) d.out = copyList An j d.out ++ [(copyList An j d.out).getD ((copyList An j d.out).length - An) 0]) := copyList_succ An j d.out
            by_cases hjn : (j : Int) < n
            · generalize copyList An j d.out = l at *
              rcases hDq.out.2 with ⟨_, h0⟩ | ⟨g, cap, cur, rfl, hg0, hh, hnc, hcm, hcs, htk⟩
              · exfalso
                have := HLEN.out
                have h0 : l.length = 0 := h0
                omega
              · have hlb1 : An ≤ l.length := by have := HLEN.out; omega
                have hlb2 : l.length ≤ 17592186045000 := by have := HLEN.out; omega
                obtain ⟨M, hM⟩ : ∃ M, l.length - An = M := ⟨_, rfl⟩
                have hix : (l.length : Int) - An = (M : Int) := by omega
                have hMl : M < l.length := by omega
                have hwr : IntKind.i64.wrap (M : Int) = M := by rw [IntKind.wrap_i64]; omega
                rw [hM] at HSUC
                clear hM
                have hcl : wr.cell? ⟨g, M, none⟩ = some (.int .u8 (l.getD M 0)) := by
                  have := hDq.out.cells (g := g) rfl M (.int .u8 (l.getD M 0)) (by
                    show (l.map (Value.int .u8))[M]? = _
                    rw [List.getElem?_map, List.getD_eq_getElem?_getD, List.getElem?_eq_getElem hMl]
                    rfl)
                  rw [addr0] at this
                  exact this
                have cso2 := hDq.row.c_out
                have hfzq := hDq.row.free
                have hown2 : wr.ownsRow 0 5 1 (.slice (some ⟨g, 0, none⟩) l.length cap) l.length (l.map (Value.int .u8)) := hDq.out
                generalize l.getD M 0 = c at *
                clear hh hnc hcm hcs htk hg0
                have hDd := hDq.drew
                have hbr : b < wr.heap.size := hDq.row.lt
                have h1n : ∀ u ∈ [Value.int .u8 c], u.oneCell' = true := by intro u hu; simp at hu; subst hu; rfl
                clear hDq
                clear hk hi hdb hwb hfr hw h hfgb hw08 hl01 hfar HAA hok2 hyw hok1 hyw2 hab hAb hNN hr3 hon3 hrA cso csn hfzA hW hiW c5 hwi hk1 h2 hk3 hdn0 hdn hfz3 hDF hSF hr5 hon5 c6 hfz5 c7 c8 hb5 hfr5 f0 f1 f2 HQQ
                go_wp2
                go_region_law (refine step_append_own_at rfl (.tmp 114) (.tmp 128) 37 rfl 0 5 i0 (.int .u8 0) 1 1 Try.underlying37 HI.out.1 HI.out.2.1 HI.out.2.2.1 HI.out.2.2.2 rfl (by decide) (.slice (some ⟨g, 0, none⟩) l.length cap) l.length (l.map (Value.int .u8)) (by simp [Act.eval]) (hDd.out.alloc _) ⟨wr.heap.size, 0, none⟩ 1 1 [.int .u8 c] (by simp [Act.eval]) rfl (cell_one_new _ _ _) h1n (by unfold maxLen; omega) (by omega) (Nat.zero_le _) ?_; intro v' w1' hown' hgrow hat; obtain ⟨g2, cap2, hv2⟩ := owns_shape hown'; subst hv2; have hrm := hDd.mid hgrow; have cm := hrm.c_out; have hfm := hrm.free)
                all_goals
                  obtain ⟨hDp, hSp⟩ := hDd.push (c := c) hown' hgrow hat
                  clear hown' hgrow hat hown2 hcl hDd
                  go_wp2
                  go_roundw
                  case rel => exact ⟨j + 1, _, by omega, by go_num, by rw [HSUC.out]; exact hDp, hSq.drew.trans hSp⟩
                  case measure => simp [intOf]; omega
            · have hjn2 : (j : Int) = n := by omega
              have hjt : n.toNat = j := by omega
              go_wp2
              go_ret
              rw [HR.out, hjt]
              first
                | exact ⟨_, _, rfl, hDq, hSq⟩
                | exact ⟨rfl, _, ⟨_, hDq⟩, hSq⟩

        · have HR : Hid (copyD S dw k left d = (0, { d with x := yz })) := by
            rw [Hid]; unfold copyD; rw [HC, if_pos h2]
          clear HC
          generalize copyN S k d.x = n at *
          go_wp2_with (first
            | (go_at_call 40; refine (hNN _ _ true hrA).mono ?_; rintro e w5 ⟨rfl, hr5, hon5⟩; rw [needS_true] at hr5; have c6 := hr5.c_state; have hfz5 := hr5.free))
          go_ret
          rw [HR.out]
          exact ⟨_, _, rfl, h.on_ (hon3.trans hon5) hr5, (Stp.of_on _ _ (hon3.trans hon5))⟩
      · have hst : (needS yz false).state ≠ 0 := fun q => by have := (needS_zero.1 q).2; cases this
        rw [decide_eq_false hok] at HC
        have HR : Hid (copyD S dw k left d = (0, { d with x := needS yz false })) := by
          rw [Hid]; unfold copyD; rw [HC, if_pos hst]
        clear HC
        generalize copyN S k d.x = n at *
        have hN2 := fun (Q : World) (hQ : SRow Q b S yz (.slice oa d.out.length oc) vn (.slice (some ⟨fg, 0, none⟩) 4 4)) => hNN Q yz false hQ
        clear hNN
        generalize needS yz false = y3 at *
        by_cases hk1 : (An : Int) ≤ WI
        · by_cases hk2 : (An : Int) ≤ (d.out.length : Int)
          · have hk3 : ¬ n ≤ left := fun q => hok ⟨hk1, hk2, q⟩
            have hk4 : decide (n ≤ left) = false := decide_eq_false hk3
            clear hok
            go_wp2_with (first
              | (go_at_call 40; refine (hN2 _ hrA).mono ?_; rintro e w5 ⟨rfl, hr5, hon5⟩; have c6 := hr5.c_state; have hfz5 := hr5.free))
            go_ret
            rw [HR.out]
            exact ⟨_, _, rfl, h.on_ (hon3.trans hon5) hr5, (Stp.of_on _ _ (hon3.trans hon5))⟩
          · clear hok
            go_wp2_with (first
              | (go_at_call 40; refine (hN2 _ hrA).mono ?_; rintro e w5 ⟨rfl, hr5, hon5⟩; have c6 := hr5.c_state; have hfz5 := hr5.free))
            go_ret
            rw [HR.out]
            exact ⟨_, _, rfl, h.on_ (hon3.trans hon5) hr5, (Stp.of_on _ _ (hon3.trans hon5))⟩
        · clear hok
          go_wp2_with (first
            | (go_at_call 40; refine (hN2 _ hrA).mono ?_; rintro e w5 ⟨rfl, hr5, hon5⟩; have c6 := hr5.c_state; have hfz5 := hr5.free))
          go_ret
          rw [HR.out]
          exact ⟨_, _, rfl, h.on_ (hon3.trans hon5) hr5, (Stp.of_on _ _ (hon3.trans hon5))⟩

end Go.Proofs.Ytmpfgdmdnghhgaa
