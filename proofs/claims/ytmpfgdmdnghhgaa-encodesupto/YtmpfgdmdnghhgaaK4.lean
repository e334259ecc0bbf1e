import Derived.Test.YtmpfgdmdnghhgaaK2
/- THE FINDER WALKED: learn, find, newFinder. -/
namespace Go.Proofs.Ytmpfgdmdnghhgaa
open Go.RowKit Wr

section
variable {w : World} {q g cap : Nat} {P : List UInt8} {win : Int} {f : Fnd}
set_option maxRecDepth 100000 in
set_option maxHeartbeats 2000000 in
theorem ffind_any (h : FRow w q (.slice (some ⟨g, 0, none⟩) P.length cap) win f) (hb : Bts w g P) (hPl : P.length ≤ 4096) (hw : 0 ≤ win ∧ win ≤ 4096) (a : Nat) (ha : a < P.length) (hf : FdOk f a) :
    Calls Try.prog 106 #[.pointer (some ⟨q, 0, none⟩), .int .i64 a] w fun e w' => e = .returned (.tuple #[.int .i64 (findC P win f a).1, .int .i64 (findC P win f a).2]) ∧ w' = w := by
  have hS0 := fslot_any h hb hPl a (by omega)
  have c1 := h.c_block
  have c2 := h.c_window
  have hfz := h.free
  by_cases hlt2 : a + 2 < P.length
  · rw [if_pos hlt2] at hS0
    have sl := slotOf_lt P a
    have c3 := h.c_head (slotOf P a) sl
    have hh := hf.heads (slotOf P a)
    have sli : ((slotOf P a : Nat) : Int) < 1024 := by omega
    by_cases h520 : 520 < P.length - a
    · have HMO : Hid (mostOf P a = 520) := by rw [Hid, mostOf, if_pos h520]
      have hmost : a + 520 ≤ P.length := by omega
      have h520i : 520 < (P.length : Int) - a := by omega
      go_enter Try.func106, Try.ntmps106
      go_wp2_with (go_at_call 120; refine hS0.mono ?_; rintro e w' ⟨rfl, rfl⟩)
      clear hS0
      go_loopw [9, 10, 11, 12, 13] (fun vl vd vp vk _ wr => ∃ (k : Nat) (p l d : Int), k ≤ 32 ∧ -1 ≤ p ∧ p < a ∧ 2 ≤ l ∧ l ≤ 520 ∧ 0 ≤ d ∧ d ≤ 4096 ∧ vl = .int .i64 l ∧ vd = .int .i64 d ∧ vp = .int .i64 p ∧ vk = .int .i64 k ∧ seekGo P win f a 520 32 (f.heads (slotOf P a) - 1) 2 0 = seekGo P win f a 520 (32 - k) p l d ∧ wr = w') (fun _ _ _ vk _ _ => 32 - (intOf vk).toNat)
      case atStart => exact ⟨0, f.heads (slotOf P a) - 1, 2, 0, by omega, by omega, by omega, by omega, by omega, by omega, by omega, rfl, rfl, rfl, rfl, rfl, rfl⟩
      case round =>
        obtain ⟨k, p, l, d, hk, hp1, hp2, hl1, hl2, hd1, hd2, rfl, rfl, rfl, rfl, he, rfl⟩ := hrel
        have HE : Hid (seekGo P win f a 520 32 (f.heads (slotOf P a) - 1) 2 0 = seekGo P win f a 520 (32 - k) p l d) := he
        clear he c3
        by_cases hgo : k < 32 ∧ 0 ≤ p ∧ (a : Int) - p ≤ win ∧ l < (520 : Int)
        · obtain ⟨g1, g2, g3, g4⟩ := hgo
          obtain ⟨pn, rfl⟩ := Int.eq_ofNat_of_zero_le g2
          have hS := fsame_any h hb pn a 520 (by omega) hmost hPl
          have hb4 := hf.before pn
          have hX := fnext_any h pn (by omega) (by omega)
          obtain ⟨s1, s2, _⟩ := sameGo_spec (P := P) (p := pn) (a := a) 520 0
          have hsl : sameP P pn a 520 ≤ 520 := by show sameGo P pn a 520 0 ≤ 520; omega
          have g1i : (k : Int) < 32 := by omega
          have HST : Hid (seekGo P win f a 520 (32 - k) pn l d = if l < (sameP P pn a 520 : Nat) then seekGo P win f a 520 (32 - (k + 1)) (f.before pn - 1) (sameP P pn a 520 : Nat) ((a : Int) - pn) else seekGo P win f a 520 (32 - (k + 1)) (f.before pn - 1) l d) := by
            rw [Hid, show 32 - k = (32 - (k + 1)) + 1 by omega]
            conv => lhs; unfold seekGo
            rw [if_pos ⟨g2, g3, g4⟩, Int.toNat_natCast]
          clear s1 s2
          by_cases hlt : l < (sameP P pn a 520 : Nat)
          · have HN : Hid (seekGo P win f a 520 32 (f.heads (slotOf P a) - 1) 2 0 = seekGo P win f a 520 (32 - (k + 1)) (f.before pn - 1) (sameP P pn a 520 : Nat) ((a : Int) - pn)) := by rw [Hid, HE.out, HST.out, if_pos hlt]
            clear HST HE h hb hf
            generalize sameP P pn a 520 = y at *
            generalize f.before pn = z at *
            go_wp2_with (first
              | (go_at_call 121; refine hS.mono ?_; rintro e w' ⟨rfl, rfl⟩)
              | (go_at_call 122; refine hX.mono ?_; rintro e w' ⟨rfl, rfl⟩))
            go_roundw
            case rel => exact ⟨k + 1, z - 1, y, (a : Int) - pn, by omega, by omega, by omega, by omega, by omega, by omega, by omega, rfl, rfl, rfl, by go_num, HN.out, trivial⟩
            case measure => simp [intOf]; omega
          · have HN : Hid (seekGo P win f a 520 32 (f.heads (slotOf P a) - 1) 2 0 = seekGo P win f a 520 (32 - (k + 1)) (f.before pn - 1) l d) := by rw [Hid, HE.out, HST.out, if_neg hlt]
            clear HST HE h hb hf
            generalize sameP P pn a 520 = y at *
            generalize f.before pn = z at *
            go_wp2_with (first
              | (go_at_call 121; refine hS.mono ?_; rintro e w' ⟨rfl, rfl⟩)
              | (go_at_call 122; refine hX.mono ?_; rintro e w' ⟨rfl, rfl⟩))
            go_roundw
            case rel => exact ⟨k + 1, z - 1, l, d, by omega, by omega, by omega, by omega, by omega, by omega, by omega, rfl, rfl, rfl, by go_num, HN.out, trivial⟩
            case measure => simp [intOf]; omega
        · have HN : Hid (seekGo P win f a 520 32 (f.heads (slotOf P a) - 1) 2 0 = (l, d)) := by
            rw [Hid, HE.out]
            by_cases h32 : k = 32
            · rw [h32]; rfl
            · rw [show 32 - k = (31 - k) + 1 by omega]
              unfold seekGo
              rw [if_neg (fun q => hgo ⟨by omega, q.1, q.2.1, q.2.2⟩)]
          have hexit : (k = 32) ∨ (k < 32 ∧ (k : Int) < 32 ∧ p < 0) ∨ (k < 32 ∧ (k : Int) < 32 ∧ 0 ≤ p ∧ ¬ (a : Int) - p ≤ win) ∨ (k < 32 ∧ (k : Int) < 32 ∧ 0 ≤ p ∧ (a : Int) - p ≤ win ∧ ¬ l < (520 : Int)) := by omega
          clear HE hgo h hb hf
          by_cases hd : d = 0
          · subst hd
            have HF : Hid (findC P win f a = (0, 0)) := by
              unfold Hid findC
              rw [if_pos hlt2, HMO.out, HN.out, if_pos rfl]
            rcases hexit with rfl | ⟨x1, x2, x3⟩ | ⟨x1, x2, x3, x4⟩ | ⟨x1, x2, x3, x4, x5⟩
            all_goals
              go_wp2
              go_ret2
              rw [HF.out]
              exact ⟨rfl, rfl⟩
          · have HF : Hid (findC P win f a = (l, d)) := by
              unfold Hid findC
              rw [if_pos hlt2, HMO.out, HN.out, if_neg hd]
            have hdb : (d == 0) = false := beq_eq_false_iff_ne.2 hd
            rcases hexit with rfl | ⟨x1, x2, x3⟩ | ⟨x1, x2, x3, x4⟩ | ⟨x1, x2, x3, x4, x5⟩
            all_goals
              go_wp2
              go_ret2
              rw [HF.out]
              exact ⟨rfl, rfl⟩
    · have HMO : Hid (mostOf P a = P.length - a) := by rw [Hid, mostOf, if_neg h520]
      have h520i : ¬ 520 < (P.length : Int) - a := by omega
      go_enter Try.func106, Try.ntmps106
      go_wp2_with (go_at_call 120; refine hS0.mono ?_; rintro e w' ⟨rfl, rfl⟩)
      have hmi : (P.length : Int) - (a : Int) = ((P.length - a : Nat) : Int) := by omega
      rw [hmi]
      have hmost : a + (P.length - a) ≤ P.length := by omega
      have hmo5 : P.length - a ≤ 520 := by omega
      clear hS0 hmi h520i h520
      generalize P.length - a = mo at *
      go_loopw [9, 10, 11, 12, 13] (fun vl vd vp vk _ wr => ∃ (k : Nat) (p l d : Int), k ≤ 32 ∧ -1 ≤ p ∧ p < a ∧ 2 ≤ l ∧ l ≤ 520 ∧ 0 ≤ d ∧ d ≤ 4096 ∧ vl = .int .i64 l ∧ vd = .int .i64 d ∧ vp = .int .i64 p ∧ vk = .int .i64 k ∧ seekGo P win f a mo 32 (f.heads (slotOf P a) - 1) 2 0 = seekGo P win f a mo (32 - k) p l d ∧ wr = w') (fun _ _ _ vk _ _ => 32 - (intOf vk).toNat)
      case atStart => exact ⟨0, f.heads (slotOf P a) - 1, 2, 0, by omega, by omega, by omega, by omega, by omega, by omega, by omega, rfl, rfl, rfl, rfl, rfl, rfl⟩
      case round =>
        obtain ⟨k, p, l, d, hk, hp1, hp2, hl1, hl2, hd1, hd2, rfl, rfl, rfl, rfl, he, rfl⟩ := hrel
        have HE : Hid (seekGo P win f a mo 32 (f.heads (slotOf P a) - 1) 2 0 = seekGo P win f a mo (32 - k) p l d) := he
        clear he c3
        by_cases hgo : k < 32 ∧ 0 ≤ p ∧ (a : Int) - p ≤ win ∧ l < (mo : Int)
        · obtain ⟨g1, g2, g3, g4⟩ := hgo
          obtain ⟨pn, rfl⟩ := Int.eq_ofNat_of_zero_le g2
          have hS := fsame_any h hb pn a mo (by omega) hmost hPl
          have hb4 := hf.before pn
          have hX := fnext_any h pn (by omega) (by omega)
          obtain ⟨s1, s2, _⟩ := sameGo_spec (P := P) (p := pn) (a := a) mo 0
          have hsl : sameP P pn a mo ≤ 520 := by show sameGo P pn a mo 0 ≤ 520; omega
          have g1i : (k : Int) < 32 := by omega
          have HST : Hid (seekGo P win f a mo (32 - k) pn l d = if l < (sameP P pn a mo : Nat) then seekGo P win f a mo (32 - (k + 1)) (f.before pn - 1) (sameP P pn a mo : Nat) ((a : Int) - pn) else seekGo P win f a mo (32 - (k + 1)) (f.before pn - 1) l d) := by
            rw [Hid, show 32 - k = (32 - (k + 1)) + 1 by omega]
            conv => lhs; unfold seekGo
            rw [if_pos ⟨g2, g3, g4⟩, Int.toNat_natCast]
          clear s1 s2
          by_cases hlt : l < (sameP P pn a mo : Nat)
          · have HN : Hid (seekGo P win f a mo 32 (f.heads (slotOf P a) - 1) 2 0 = seekGo P win f a mo (32 - (k + 1)) (f.before pn - 1) (sameP P pn a mo : Nat) ((a : Int) - pn)) := by rw [Hid, HE.out, HST.out, if_pos hlt]
            clear HST HE h hb hf
            generalize sameP P pn a mo = y at *
            generalize f.before pn = z at *
            go_wp2_with (first
              | (go_at_call 121; refine hS.mono ?_; rintro e w' ⟨rfl, rfl⟩)
              | (go_at_call 122; refine hX.mono ?_; rintro e w' ⟨rfl, rfl⟩))
            go_roundw
            case rel => exact ⟨k + 1, z - 1, y, (a : Int) - pn, by omega, by omega, by omega, by omega, by omega, by omega, by omega, rfl, rfl, rfl, by go_num, HN.out, trivial⟩
            case measure => simp [intOf]; omega
          · have HN : Hid (seekGo P win f a mo 32 (f.heads (slotOf P a) - 1) 2 0 = seekGo P win f a mo (32 - (k + 1)) (f.before pn - 1) l d) := by rw [Hid, HE.out, HST.out, if_neg hlt]
            clear HST HE h hb hf
            generalize sameP P pn a mo = y at *
            generalize f.before pn = z at *
            go_wp2_with (first
              | (go_at_call 121; refine hS.mono ?_; rintro e w' ⟨rfl, rfl⟩)
              | (go_at_call 122; refine hX.mono ?_; rintro e w' ⟨rfl, rfl⟩))
            go_roundw
            case rel => exact ⟨k + 1, z - 1, l, d, by omega, by omega, by omega, by omega, by omega, by omega, by omega, rfl, rfl, rfl, by go_num, HN.out, trivial⟩
            case measure => simp [intOf]; omega
        · have HN : Hid (seekGo P win f a mo 32 (f.heads (slotOf P a) - 1) 2 0 = (l, d)) := by
            rw [Hid, HE.out]
            by_cases h32 : k = 32
            · rw [h32]; rfl
            · rw [show 32 - k = (31 - k) + 1 by omega]
              unfold seekGo
              rw [if_neg (fun q => hgo ⟨by omega, q.1, q.2.1, q.2.2⟩)]
          have hexit : (k = 32) ∨ (k < 32 ∧ (k : Int) < 32 ∧ p < 0) ∨ (k < 32 ∧ (k : Int) < 32 ∧ 0 ≤ p ∧ ¬ (a : Int) - p ≤ win) ∨ (k < 32 ∧ (k : Int) < 32 ∧ 0 ≤ p ∧ (a : Int) - p ≤ win ∧ ¬ l < (mo : Int)) := by omega
          clear HE hgo h hb hf
          by_cases hd : d = 0
          · subst hd
            have HF : Hid (findC P win f a = (0, 0)) := by
              unfold Hid findC
              rw [if_pos hlt2, HMO.out, HN.out, if_pos rfl]
            rcases hexit with rfl | ⟨x1, x2, x3⟩ | ⟨x1, x2, x3, x4⟩ | ⟨x1, x2, x3, x4, x5⟩
            all_goals
              go_wp2
              go_ret2
              rw [HF.out]
              exact ⟨rfl, rfl⟩
          · have HF : Hid (findC P win f a = (l, d)) := by
              unfold Hid findC
              rw [if_pos hlt2, HMO.out, HN.out, if_neg hd]
            have hdb : (d == 0) = false := beq_eq_false_iff_ne.2 hd
            rcases hexit with rfl | ⟨x1, x2, x3⟩ | ⟨x1, x2, x3, x4⟩ | ⟨x1, x2, x3, x4, x5⟩
            all_goals
              go_wp2
              go_ret2
              rw [HF.out]
              exact ⟨rfl, rfl⟩
  · rw [if_neg hlt2] at hS0
    have HF : Hid (findC P win f a = (0, 0)) := by
      unfold Hid findC
      rw [if_neg hlt2]
    go_enter Try.func106, Try.ntmps106
    go_wp2_with (go_at_call 120; refine hS0.mono ?_; rintro e w' ⟨rfl, rfl⟩)
    go_ret2
    rw [HF.out]
    exact ⟨rfl, rfl⟩
end
end Go.Proofs.Ytmpfgdmdnghhgaa

/- THE FINDER WALKED: learn. -/
namespace Go.Proofs.Ytmpfgdmdnghhgaa
open Go.RowKit Wr
section
variable {w : World} {q g cap : Nat} {P : List UInt8} {win : Int} {f : Fnd}
set_option maxRecDepth 100000 in
set_option maxHeartbeats 800000 in
theorem flearn_any (h : FRow w q (.slice (some ⟨g, 0, none⟩) P.length cap) win f) (hb : Bts w g P) (hgq : g ≠ q) (hPl : P.length ≤ 4096) (a n : Nat) (ha : a + n ≤ 4096) :
    Calls Try.prog 108 #[.pointer (some ⟨q, 0, none⟩), .int .i64 a, .int .i64 n] w fun e w' => e = .returned (.tuple #[]) ∧ FRow w' q (.slice (some ⟨g, 0, none⟩) P.length cap) win (learnGo P n a f) ∧ Tch (· = q) w w' := by
  go_enter Try.func108, Try.ntmps108
  go_wp2
  go_loopw [6, 7, 8] (fun vi _ _ wr => ∃ (c : Nat) (f' : Fnd), a ≤ c ∧ c ≤ a + n ∧ vi = .int .i64 c ∧ learnGo P n a f = learnGo P (a + n - c) c f' ∧ FRow wr q (.slice (some ⟨g, 0, none⟩) P.length cap) win f' ∧ Tch (· = q) w wr) (fun vi _ _ _ => a + n - (intOf vi).toNat)
  case atStart => exact ⟨a, f, by omega, by omega, rfl, by rw [show a + n - a = n by omega], h, Tch.refl _ _⟩
  case round =>
    obtain ⟨c, f', hc1, hc2, rfl, he, hr, ht⟩ := hrel
    have HE : Hid (learnGo P n a f = learnGo P (a + n - c) c f') := he
    clear he h
    by_cases hlt : c < a + n
    · have hcl : (c : Int) < (a : Int) + n := by omega
      have hc4 : (c : Int) < 4096 := by omega
      have hS := fslot_any hr (hb.keep ht hgq) hPl c (by omega)
      by_cases hf : c + 2 < P.length
      · rw [if_pos hf] at hS
        have sl := slotOf_lt P c
        have k1 := hr.c_head (slotOf P c) sl
        have k2 := hr.c_before c (by omega)
        have hfz := hr.free
        have HN : Hid (learnGo P n a f = learnGo P (a + n - (c + 1)) (c + 1) ⟨upd f'.heads (slotOf P c) ((c : Int) + 1), upd f'.before c (f'.heads (slotOf P c))⟩) := by
          rw [Hid, HE.out, show a + n - c = (a + n - (c + 1)) + 1 by omega]
          show (if _ then _ else _) = _
          rw [if_pos ⟨by omega, hf⟩]
        have hs := (hr.setBefore c (by omega) (f'.heads (slotOf P c))).setHead (slotOf P c) sl ((c : Int) + 1)
        have hts := ((ht.set ⟨q, 1026 + c, none⟩ (.int .i64 (f'.heads (slotOf P c))) (fun _ => rfl)).set ⟨q, 2 + slotOf P c, none⟩ (.int .i64 ((c : Int) + 1)) (fun _ => rfl)).drew
        have sli : ((slotOf P c : Nat) : Int) < 1024 := by omega
        clear hr HE ht
        generalize slotOf P c = s at *
        generalize f'.heads s = x at *
        generalize P.length = pl at *
        go_wp2_with (go_at_call 120; refine hS.mono ?_; rintro e w' ⟨rfl, rfl⟩)
        go_region
        go_wp2
        go_roundw
        case rel => exact ⟨c + 1, _, by omega, by omega, by go_num, HN.out, hs, hts⟩
        case measure => simp [intOf]; omega
      · rw [if_neg hf] at hS
        have HN : Hid (learnGo P n a f = f') := by
          rw [Hid, HE.out, show a + n - c = (a + n - (c + 1)) + 1 by omega]
          unfold learnGo
          rw [if_neg (fun q => hf q.2)]
        clear HE
        go_wp2_with (go_at_call 120; refine hS.mono ?_; rintro e w' ⟨rfl, rfl⟩)
        refine bodyPost_ret (results_none rfl _ _ _) rfl ?_
        rw [HN.out]
        exact ⟨rfl, hr, ht⟩
    · have hkn : c = a + n := by omega
      have HN : Hid (learnGo P n a f = f') := by rw [Hid, HE.out, hkn, Nat.sub_self]; rfl
      have hcl : ¬ (c : Int) < (a : Int) + n := by omega
      clear HE hkn
      go_wp2
      go_end0
      rw [HN.out]
      exact ⟨rfl, hr, ht⟩
end
end Go.Proofs.Ytmpfgdmdnghhgaa
