import Derived.Test.YtmpfgdmdnghhgaaR4
import Derived.Test.YtmpfgdmdnghhgaaRefP4
import Derived.Lib.Strings
namespace Go.Proofs.Ytmpfgdmdnghhgaa
open Go.RowKit Wr

theorem bytes_list (s : ByteArray) : s.toList = s.data.toList := ByteArray.toList_eq s
theorem wd_at : ∀ (ws : List Wd) (i : Nat) (h : i < ws.length), (wdCells ws)[i * 2]? = some (.int .i64 ws[i].sym) ∧ (wdCells ws)[i * 2 + 1]? = some (.string (bstr ws[i].len ws[i].code))
  | x :: l, 0, _ => ⟨rfl, rfl⟩
  | x :: l, i + 1, h => by
    have := wd_at l i (by simpa using h)
    rw [show (i + 1) * 2 = i * 2 + 1 + 1 by omega]
    exact this

/-- a row of words -/
def Words (w : World) (v : Value) (ws : List Wd) : Prop :=
  ∃ a cap, v = .slice a ws.length cap ∧ (0 < ws.length → ∃ g, a = some ⟨g, 0, none⟩ ∧ g < w.heap.size ∧ ∀ i (h : i < ws.length), w.cell? ⟨g, i * 2, none⟩ = some (.int .i64 ws[i].sym) ∧ w.cell? ⟨g, i * 2 + 1, none⟩ = some (.string (bstr ws[i].len ws[i].code)))

theorem owns_words {w : World} {B : Nat} {e : TypeId} {v : Value} {ws : List Wd} (h : w.ownsRow B e 2 v ws.length (wdCells ws)) : Words w v ws := by
  rcases h.2 with ⟨h3, h4⟩ | ⟨g, cap, cur, hv, hg, hh, hn, hm, hc, ht⟩
  · exact ⟨none, 0, by rw [h3, h4], fun h0 => absurd h0 (by omega)⟩
  · have hlt : g < w.heap.size := by
      rcases Nat.lt_or_ge g w.heap.size with hl | hl
      · exact hl
      · rw [Array.getElem?_eq_none hl] at hh; cases hh
    refine ⟨_, cap, hv, fun _ => ⟨g, rfl, hlt, fun i hi => ?_⟩⟩
    obtain ⟨c1, c2⟩ := wd_at ws i hi
    rw [← ht] at c1 c2
    have key : ∀ j x, (cur.toList.take (ws.length * 2))[j]? = some x → w.cell? ⟨g, j, none⟩ = some x := by
      intro j x hx
      have hj := (List.getElem?_eq_some_iff.1 hx).1
      rw [List.getElem?_take_of_lt (by simp at hj; omega), Array.getElem?_toList] at hx
      simp [World.cell?, hh, hx]
    exact ⟨key _ _ c1, key _ _ c2⟩

set_option maxRecDepth 100000 in
set_option maxHeartbeats 2000000 in
theorem Rsymbol_any {w : World} {b : Nat} {S : ByteArray} {x : Sr} {vo vn vf : Value} (h : SRow w b S x vo vn vf) (hs : S.size ≤ 268435456) (ha : okAt S x) (v : Value) (ws : List Wd) (hw : Words w v ws) (hok : wdOk ws) (hlen : ws.length ≤ 272)
    (hbv : ∀ g, v.ownBlock = some g → g ≠ b) :
    Calls Try.prog 62 #[.pointer (some ⟨b, 0, none⟩), v] w fun e w' => e = .returned (.int .i64 (symV S ws x)) ∧ SRow w' b S (symS S ws x) vo vn vf ∧ On b w w' := by
  obtain ⟨a, cap, rfl, hrow⟩ := hw
  go_enter Try.func62, Try.ntmps62
  go_wp2
  go_loopg [5] 14 (fun g vb wr => ∃ (k : Nat) (m : Int) (y : Sr), k + g = 14 ∧ Hid (symGo S ws g k m y = symGo S ws 14 0 0 x) ∧ vb = .string (bstr k m) ∧ Hid (0 ≤ m ∧ m < 2 ^ k) ∧ (y.state = 0 → k ≤ 12) ∧ okAt S y ∧ SRow wr b S y vo vn vf ∧ On b w wr)
  case atStart => exact ⟨0, 0, x, rfl, rfl, rfl, ⟨Int.le_refl _, by decide⟩, fun _ => by omega, ha, h, On.refl b w⟩
  case round =>
    obtain ⟨k, m, y, hkg, HF, rfl, HM, hk12, hoky, hr, hon⟩ := hrel
    have c3 := hr.c_state
    have hfz := hr.free
    by_cases h0 : y.state = 0
    · have hk := hk12 h0
      rw [h0] at c3
      go_wp2
      go_loopw [6] (fun vi wq => ∃ i : Nat, i ≤ ws.length ∧ vi = .int .i64 i ∧ Hid (lookGo k m (ws.drop i) = lookGo k m ws) ∧ wq = wr) (fun vi _ => ws.length - (intOf vi).toNat)
      case atStart => exact ⟨0, by omega, rfl, rfl, rfl⟩
      case round =>
        obtain ⟨i, hi, rfl, HK, rfl⟩ := hrel
        have hbz := bstr_size k m
        by_cases hil : i < ws.length
        · obtain ⟨g, rfl, hgw, hcell⟩ := hrow (by omega)
          have hgb : g ≠ b := hbv g rfl
          obtain ⟨q1, q2⟩ := hcell i hil
          have hd1 := (World.cell?_of_block (a := ⟨g, i * 2, none⟩) (hon.block g hgw hgb)).trans q1
          have hd2 := (World.cell?_of_block (a := ⟨g, i * 2 + 1, none⟩) (hon.block g hgw hgb)).trans q2
          have hwd := hok ws[i] (List.getElem_mem hil)
          have HLD := look_drop (k := k) (m := m) ws i hil
          clear q1 q2 hcell hrow
          by_cases heq : ws[i].len = k ∧ ws[i].code = m
          · rw [if_pos heq, HK.out] at HLD
            have HE : Hid (symGo S ws gk k m y = (ws[i].sym, y)) := by
              rw [Hid, show gk = gk - 1 + 1 by omega]
              unfold symGo
              rw [if_neg (by omega), HLD]
            have HR : Hid (symV S ws x = ws[i].sym ∧ symS S ws x = y) := by
              have := HF.out.symm.trans HE.out
              unfold symV symS
              rw [this]
              exact ⟨rfl, rfl⟩
            rw [heq.1, heq.2] at hd2
            clear heq HLD HE HK HF HM hwd
            generalize ws[i].sym = sy at *
            generalize bstr k m = T at *
            go_wp2
            go_ret
            rw [HR.out.1, HR.out.2]
            exact ⟨rfl, hr, hon⟩
          · rw [if_neg heq, HK.out] at HLD
            have HK2 : Hid (lookGo k m (ws.drop (i + 1)) = lookGo k m ws) := HLD.symm
            have hne : ((bstr ws[i].len ws[i].code).toList == (bstr k m).toList) = false := by
              apply beq_false_of_ne
              intro e0
              have e : bstr ws[i].len ws[i].code = bstr k m := bytes_ext (by rw [← bytes_list, ← bytes_list]; exact e0)
              obtain ⟨e1, e2⟩ := bstr_inj hwd.2.1 hwd.2.2 HM.out.1 HM.out.2 e
              exact heq ⟨e1, e2⟩
            clear heq HLD HK HF HM hwd
            generalize bstr ws[i].len ws[i].code = T2 at *
            generalize bstr k m = T at *
            go_wp2
            go_roundw
            case rel => exact ⟨i + 1, by omega, by go_num, HK2, by first | rfl | trivial⟩
            case measure => simp [intOf]; omega
        · have hnone : lookGo k m ws = none := by
            rw [← HK.out, List.drop_of_length_le (by omega)]
            rfl
          have HE : Hid (symGo S ws gk k m y = symGo S ws (gk - 1) (k + 1) (2 * m + bitV S y) (needS (bitS S y) (decide (k + 1 ≤ 12)))) := by
            rw [Hid, show gk = gk - 1 + 1 by omega]
            conv => lhs; unfold symGo
            rw [if_neg (by omega), hnone]
            rfl
          have hb := bitV_bounds S y
          have hm := HM.out
          have HY : Hid (symGo S ws (gk - 1) (k + 1) (2 * m + bitV S y) (needS (bitS S y) (decide (k + 1 ≤ 12))) = symGo S ws 14 0 0 x ∧ (0 ≤ 2 * m + bitV S y ∧ 2 * m + bitV S y < 2 ^ (k + 1)) ∧ ((needS (bitS S y) (decide (k + 1 ≤ 12))).state = 0 → k + 1 ≤ 12) ∧ okAt S (needS (bitS S y) (decide (k + 1 ≤ 12)))) := by
            refine ⟨HE.out.symm.trans HF.out, ⟨by omega, by rw [Int.pow_succ]; omega⟩, ?_, needS_ok (bitS_ok hoky) _⟩
            intro hz
            by_cases h12 : k + 1 ≤ 12
            · exact h12
            · exfalso
              rw [decide_eq_false h12] at hz
              unfold needS at hz
              by_cases hq : (bitS S y).state = 0
              · rw [if_pos ⟨hq, rfl⟩] at hz
                exact absurd hz (by show (2 : Int) ≠ 0; decide)
              · rw [if_neg (fun hh => hq hh.1)] at hz
                exact hq hz
          have HD : Hid (bstr k m ++ ⟨#[if bitV S y = 0 then 48 else 49]⟩ = bstr (k + 1) (2 * m + bitV S y)) := digit_push _ hb.1 hb.2
          have hC := Rbit_any hr hs hoky
          have hN := fun (W : World) (hW : SRow W b S (bitS S y) vo vn vf) => Rneed_any hW (decide (k + 1 ≤ 12))
          clear HE hnone HK HF hm HM hrow hok
          by_cases h11 : k ≤ 11
          · rw [decide_eq_true (show k + 1 ≤ 12 by omega)] at hN HY
            generalize needS (bitS S y) true = y2 at *
            generalize bitS S y = y1 at *
            generalize bitV S y = bv at *
            generalize bstr k m = T at *
            rcases (show bv = 0 ∨ bv = 1 by omega) with rfl | rfl
            · rw [if_pos rfl] at HD
              go_wp2_with (first
                | (go_at_call 50; refine hC.mono ?_; rintro e w1 ⟨rfl, hr1, hon1⟩)
                | (go_at_call 40; rw [show decide ((k : Int) + 1 ≤ 12) = true from decide_eq_true (by omega)]; refine (hN _ hr1).mono ?_; rintro e w2 ⟨rfl, hr2, hon2⟩))
              go_roundg (gk - 1)
              case measure => omega
              case rel => exact ⟨k + 1, 2 * m + 0, y2, by omega, HY.out.1, by rw [← HD.out], HY.out.2.1, HY.out.2.2.1, HY.out.2.2.2, hr2, (hon.trans hon1).trans hon2⟩
            · rw [if_neg (by decide)] at HD
              go_wp2_with (first
                | (go_at_call 50; refine hC.mono ?_; rintro e w1 ⟨rfl, hr1, hon1⟩)
                | (go_at_call 40; rw [show decide ((k : Int) + 1 ≤ 12) = true from decide_eq_true (by omega)]; refine (hN _ hr1).mono ?_; rintro e w2 ⟨rfl, hr2, hon2⟩))
              go_roundg (gk - 1)
              case measure => omega
              case rel => exact ⟨k + 1, 2 * m + 1, y2, by omega, HY.out.1, by rw [← HD.out], HY.out.2.1, HY.out.2.2.1, HY.out.2.2.2, hr2, (hon.trans hon1).trans hon2⟩
          · rw [decide_eq_false (show ¬ k + 1 ≤ 12 by omega)] at hN HY
            generalize needS (bitS S y) false = y2 at *
            generalize bitS S y = y1 at *
            generalize bitV S y = bv at *
            generalize bstr k m = T at *
            rcases (show bv = 0 ∨ bv = 1 by omega) with rfl | rfl
            · rw [if_pos rfl] at HD
              go_wp2_with (first
                | (go_at_call 50; refine hC.mono ?_; rintro e w1 ⟨rfl, hr1, hon1⟩)
                | (go_at_call 40; rw [show decide ((k : Int) + 1 ≤ 12) = false from decide_eq_false (by omega)]; refine (hN _ hr1).mono ?_; rintro e w2 ⟨rfl, hr2, hon2⟩))
              go_roundg (gk - 1)
              case measure => omega
              case rel => exact ⟨k + 1, 2 * m + 0, y2, by omega, HY.out.1, by rw [← HD.out], HY.out.2.1, HY.out.2.2.1, HY.out.2.2.2, hr2, (hon.trans hon1).trans hon2⟩
            · rw [if_neg (by decide)] at HD
              go_wp2_with (first
                | (go_at_call 50; refine hC.mono ?_; rintro e w1 ⟨rfl, hr1, hon1⟩)
                | (go_at_call 40; rw [show decide ((k : Int) + 1 ≤ 12) = false from decide_eq_false (by omega)]; refine (hN _ hr1).mono ?_; rintro e w2 ⟨rfl, hr2, hon2⟩))
              go_roundg (gk - 1)
              case measure => omega
              case rel => exact ⟨k + 1, 2 * m + 1, y2, by omega, HY.out.1, by rw [← HD.out], HY.out.2.1, HY.out.2.2.1, HY.out.2.2.2, hr2, (hon.trans hon1).trans hon2⟩
    · have HE : Hid (symV S ws x = 0 ∧ symS S ws x = y) := by
        have e : symGo S ws gk k m y = (0, y) := by
          cases gk with
          | zero => rfl
          | succ f => unfold symGo; rw [if_pos h0]
        have := HF.out.symm.trans e
        unfold symV symS
        rw [this]
        exact ⟨rfl, rfl⟩
      go_wp2
      go_ret
      rw [HE.out.1, HE.out.2]
      exact ⟨rfl, hr, hon⟩
end Go.Proofs.Ytmpfgdmdnghhgaa
