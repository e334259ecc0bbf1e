import Derived.Test.YtmpfgdmdnghhgaaS6
import Derived.Test.YtmpfgdmdnghhgaaB2
/- A CODE IS TOLD: lengthAt, same, tellRepeat, tellSome, tellSimple, Tell, Put. -/
namespace Go.Proofs.Ytmpfgdmdnghhgaa
open Go.RowKit Wr

section
variable {w : World} {b N : Nat} {wd n : Int} {nm len row : Nat → Int}
set_option maxRecDepth 10000 in
set_option maxHeartbeats 400000 in
theorem lengthAt_any (hr : SdRow w b N wd n nm len row) (i : Nat) (hi : i < 272) :
    Calls Try.prog 132 #[.pointer (some ⟨b, 0, none⟩), .int .i64 i] w fun e w' => e = .returned (.int .i64 (len i)) ∧ w' = w := by
  have c1 := hr.c_len i hi
  have hfz := hr.free
  have h1 : (i : Int) < 272 := by omega
  go_enter Try.func132, Try.ntmps132
  go_wp2
  go_ret
  exact ⟨rfl, rfl⟩

set_option maxRecDepth 10000 in
set_option maxHeartbeats 600000 in
theorem same_any (hr : SdRow w b N wd n nm len row) (hN : N ≤ 272) (a : Nat) (ha : a < N) :
    Calls Try.prog 133 #[.pointer (some ⟨b, 0, none⟩), .int .i64 a] w fun e w' => e = .returned (.int .i64 (sameN len N a : Nat)) ∧ w' = w := by
  have c1 := hr.c_size
  have hfz := hr.free
  have hL := fun (i : Nat) (hi : i < N) => lengthAt_any hr i (by omega)
  have hA := hL a ha
  have HS : Hid (((sameN len N a : Nat) : Int) = ((endGo len (len a) N (N - a) a : Nat) : Int) - a) := by
    obtain ⟨h1, _⟩ := endGo_spec (f := len) (v := len a) (N := N) (N - a) a (by omega)
    rw [Hid]
    unfold sameN
    omega
  go_enter Try.func133, Try.ntmps133
  go_wp2_with (go_at_call 132; refine hA.mono ?_; rintro e w' ⟨rfl, rfl⟩)
  go_loopw [6] (fun vi wr => ∃ i : Nat, a ≤ i ∧ i ≤ N ∧ vi = .int .i64 i ∧ endGo len (len a) N (N - a) a = endGo len (len a) N (N - i) i ∧ wr = w') (fun vi _ => N - (intOf vi).toNat)
  case atStart => exact ⟨a, by omega, by omega, rfl, rfl, rfl⟩
  case round =>
    obtain ⟨i, hai, hi, rfl, he, rfl⟩ := hrel
    have HE : Hid (endGo len (len a) N (N - a) a = endGo len (len a) N (N - i) i) := he
    clear he
    by_cases hlt : i < N
    · have hB := hL i hlt
      by_cases hq : len i = len a
      · have HN : Hid (endGo len (len a) N (N - a) a = endGo len (len a) N (N - (i + 1)) (i + 1)) := by
          rw [Hid, HE.out, show N - i = (N - (i + 1)) + 1 by omega]
          show (if _ then _ else _) = _
          rw [if_pos ⟨hlt, hq⟩]
        rw [hq] at hB
        clear hL HE HS hA
        go_wp2_with (go_at_call 132; refine hB.mono ?_; rintro e w' ⟨rfl, rfl⟩)
        go_roundw
        case rel => exact ⟨i + 1, by omega, by omega, by go_num, HN.out, trivial⟩
        case measure => simp [intOf]; omega
      · have HN : Hid (((endGo len (len a) N (N - a) a : Nat) : Int) = i) := by
          rw [Hid, HE.out, show N - i = (N - (i + 1)) + 1 by omega]
          unfold endGo
          rw [if_neg (fun h => hq h.2)]
        have hqb : (len i == len a) = false := beq_eq_false_iff_ne.2 hq
        clear hL HE hA
        go_wp2_with (go_at_call 132; refine hB.mono ?_; rintro e w' ⟨rfl, rfl⟩)
        go_ret
        rw [HS.out, HN.out]
        exact ⟨rfl, rfl⟩
    · have hiN : i = N := by omega
      subst hiN
      have HN : Hid (((endGo len (len a) i (i - a) a : Nat) : Int) = i) := by
        rw [Hid, HE.out, Nat.sub_self]
        rfl
      clear hL HE hA
      go_wp2
      go_ret
      rw [HS.out, HN.out]
      exact ⟨rfl, rfl⟩
end

section
variable {w : World} {T : TypeId} {n0 : Nat} {F : Value → Int → Int → Nat → Value} {r t : Nat} {L : List Int} {v : Value}
/-- numbers are added, one behind the other -/
def Adds (w w' : World) (T : TypeId) (n0 : Nat) (F : Value → Int → Int → Nat → Value) (r t : Nat) (L : List Int) (v : Value) : Prop := ∃ v', BB w' T n0 F r L t v' ∧ Own w v v' ∧ Tch (BT r v) w w'
theorem Adds.then {w1 w2 : World} {L1 L2 : List Int} (h : ∃ v', (BB w1 T n0 F r L1 t v' ∧ Own w v v' ∧ Tch (BT r v) w w1) ∧ Adds w1 w2 T n0 F r t L2 v') : Adds w w2 T n0 F r t L2 v := by
  obtain ⟨v', ⟨_, o1, t1⟩, v'', b2, o2, t2⟩ := h
  exact ⟨v'', b2, o1.trans o2 t1.size, t1.trans t2 (BT.next o1)⟩

set_option maxRecDepth 10000 in
set_option maxHeartbeats 600000 in
theorem tellRepeat_any (hF : IsBox F n0) (h : BB w T n0 F r L t v) (kind : Int) (same least width : Nat) (hk : (kind = 13 ∧ least = 3 ∧ width = 2) ∨ (kind = 14 ∧ least = 3 ∧ width = 3) ∨ (kind = 15 ∧ least = 11 ∧ width = 6)) (hs : least ≤ same) (hs2 : same ≤ 272) (hL : L.length ≤ 1000000000000) :
    Calls Try.prog 134 #[.pointer (some ⟨r, 0, none⟩), .int .i64 kind, .int .i64 same, .int .i64 least] w fun e w' => e = .returned (.int .i64 ((repL kind same least width).2 : Nat)) ∧ Adds w w' T n0 F r t (L ++ (repL kind same least width).1) v := by
  have hk0 : 0 ≤ kind ∧ kind < 16 := by omega
  have hm := moreN_le (same := same) (least := least) (width := width)
  have hw6 : width ≤ 6 := by omega
  have hpow : ((2 ^ width : Nat) : Int) = (2 : Int) ^ width := by simp
  have h1 := number_B hF h kind 4 hk0.1 (by show _ < (16 : Int); omega) (by omega) (by omega)
  have h2 := fun W u (hW : BB W T n0 F r (L ++ numBits kind 4) t u) => number_B hF hW ((moreN same least width : Nat) : Int) width (by omega) (by omega) (by omega) (by rw [List.length_append, numBits_length]; omega)
  have HR1 : Hid ((repL kind same least width).1 = numBits kind 4 ++ numBits ((moreN same least width : Nat) : Int) width) := rfl
  have HR2 : Hid (((repL kind same least width).2 : Nat) = (least : Int) + ((moreN same least width : Nat) : Int)) := by
    show ((least + moreN same least width : Nat) : Int) = _
    omega
  have HM : moreN same least width = if 2 ^ width ≤ same - least then 2 ^ width - 1 else same - least := rfl
  have htw := timesWidth_any w kind
  have hte : timesW kind = width := by
    unfold timesW
    rcases hk with ⟨rfl, _, rfl⟩ | ⟨rfl, _, rfl⟩ | ⟨rfl, _, rfl⟩ <;> rfl
  rw [hte] at htw
  clear hte
  rcases hk with ⟨rfl, rfl, rfl⟩ | ⟨rfl, rfl, rfl⟩ | ⟨rfl, rfl, rfl⟩
  · by_cases hc : 4 ≤ same - 3
    · have em : ((moreN same 3 2 : Nat) : Int) = 3 := by
        rw [HM, if_pos (show 2 ^ 2 ≤ same - 3 from hc)]
        rfl
      rw [em] at h2 HR1 HR2
      clear HM em hm
      have hc2 : 4 ≤ (same : Int) - 3 := by omega
      go_enter Try.func134, Try.ntmps134
      go_wp2_with (first
        | (go_at_call 43; refine (h2 _ _ hR1).mono ?_; rintro e w2 ⟨rfl, u2, hR2, ho2, ht2⟩)
        | (go_at_call 43; refine h1.mono ?_; rintro e w1 ⟨rfl, u1, hR1, ho1, ht1⟩)
        | (go_at_call 109; refine htw.mono ?_; rintro e w0 ⟨rfl, rfl⟩))
      go_ret
      rw [HR1.out, HR2.out, ← List.append_assoc]
      exact ⟨rfl, u2, hR2, ho1.trans ho2 ht1.size, ht1.trans ht2 (BT.next ho1)⟩
    · have em : ((moreN same 3 2 : Nat) : Int) = (same : Int) - 3 := by
        rw [HM, if_neg (show ¬ 2 ^ 2 ≤ same - 3 from hc)]
        omega
      rw [em] at h2 HR1 HR2
      clear HM em hm
      have hc2 : ¬ 4 ≤ (same : Int) - 3 := by omega
      go_enter Try.func134, Try.ntmps134
      go_wp2_with (first
        | (go_at_call 43; refine (h2 _ _ hR1).mono ?_; rintro e w2 ⟨rfl, u2, hR2, ho2, ht2⟩)
        | (go_at_call 43; refine h1.mono ?_; rintro e w1 ⟨rfl, u1, hR1, ho1, ht1⟩)
        | (go_at_call 109; refine htw.mono ?_; rintro e w0 ⟨rfl, rfl⟩))
      go_ret
      rw [HR1.out, HR2.out, ← List.append_assoc]
      exact ⟨by go_num, u2, hR2, ho1.trans ho2 ht1.size, ht1.trans ht2 (BT.next ho1)⟩
  · by_cases hc : 8 ≤ same - 3
    · have em : ((moreN same 3 3 : Nat) : Int) = 7 := by
        rw [HM, if_pos (show 2 ^ 3 ≤ same - 3 from hc)]
        rfl
      rw [em] at h2 HR1 HR2
      clear HM em hm
      have hc2 : 8 ≤ (same : Int) - 3 := by omega
      go_enter Try.func134, Try.ntmps134
      go_wp2_with (first
        | (go_at_call 43; refine (h2 _ _ hR1).mono ?_; rintro e w2 ⟨rfl, u2, hR2, ho2, ht2⟩)
        | (go_at_call 43; refine h1.mono ?_; rintro e w1 ⟨rfl, u1, hR1, ho1, ht1⟩)
        | (go_at_call 109; refine htw.mono ?_; rintro e w0 ⟨rfl, rfl⟩))
      go_ret
      rw [HR1.out, HR2.out, ← List.append_assoc]
      exact ⟨rfl, u2, hR2, ho1.trans ho2 ht1.size, ht1.trans ht2 (BT.next ho1)⟩
    · have em : ((moreN same 3 3 : Nat) : Int) = (same : Int) - 3 := by
        rw [HM, if_neg (show ¬ 2 ^ 3 ≤ same - 3 from hc)]
        omega
      rw [em] at h2 HR1 HR2
      clear HM em hm
      have hc2 : ¬ 8 ≤ (same : Int) - 3 := by omega
      go_enter Try.func134, Try.ntmps134
      go_wp2_with (first
        | (go_at_call 43; refine (h2 _ _ hR1).mono ?_; rintro e w2 ⟨rfl, u2, hR2, ho2, ht2⟩)
        | (go_at_call 43; refine h1.mono ?_; rintro e w1 ⟨rfl, u1, hR1, ho1, ht1⟩)
        | (go_at_call 109; refine htw.mono ?_; rintro e w0 ⟨rfl, rfl⟩))
      go_ret
      rw [HR1.out, HR2.out, ← List.append_assoc]
      exact ⟨by go_num, u2, hR2, ho1.trans ho2 ht1.size, ht1.trans ht2 (BT.next ho1)⟩
  · by_cases hc : 64 ≤ same - 11
    · have em : ((moreN same 11 6 : Nat) : Int) = 63 := by
        rw [HM, if_pos (show 2 ^ 6 ≤ same - 11 from hc)]
        rfl
      rw [em] at h2 HR1 HR2
      clear HM em hm
      have hc2 : 64 ≤ (same : Int) - 11 := by omega
      go_enter Try.func134, Try.ntmps134
      go_wp2_with (first
        | (go_at_call 43; refine (h2 _ _ hR1).mono ?_; rintro e w2 ⟨rfl, u2, hR2, ho2, ht2⟩)
        | (go_at_call 43; refine h1.mono ?_; rintro e w1 ⟨rfl, u1, hR1, ho1, ht1⟩)
        | (go_at_call 109; refine htw.mono ?_; rintro e w0 ⟨rfl, rfl⟩))
      go_ret
      rw [HR1.out, HR2.out, ← List.append_assoc]
      exact ⟨rfl, u2, hR2, ho1.trans ho2 ht1.size, ht1.trans ht2 (BT.next ho1)⟩
    · have em : ((moreN same 11 6 : Nat) : Int) = (same : Int) - 11 := by
        rw [HM, if_neg (show ¬ 2 ^ 6 ≤ same - 11 from hc)]
        omega
      rw [em] at h2 HR1 HR2
      clear HM em hm
      have hc2 : ¬ 64 ≤ (same : Int) - 11 := by omega
      go_enter Try.func134, Try.ntmps134
      go_wp2_with (first
        | (go_at_call 43; refine (h2 _ _ hR1).mono ?_; rintro e w2 ⟨rfl, u2, hR2, ho2, ht2⟩)
        | (go_at_call 43; refine h1.mono ?_; rintro e w1 ⟨rfl, u1, hR1, ho1, ht1⟩)
        | (go_at_call 109; refine htw.mono ?_; rintro e w0 ⟨rfl, rfl⟩))
      go_ret
      rw [HR1.out, HR2.out, ← List.append_assoc]
      exact ⟨by go_num, u2, hR2, ho1.trans ho2 ht1.size, ht1.trans ht2 (BT.next ho1)⟩
end
end Go.Proofs.Ytmpfgdmdnghhgaa

/- A CODE IS TOLD: tellSome, tellSimple, Tell, Put. -/
namespace Go.Proofs.Ytmpfgdmdnghhgaa
open Go.RowKit Wr

theorem Own.ne {w : World} {v v' : Value} {b : Nat} (h : Own w v v') (hb : b < w.heap.size) (hn : v.ownBlock ≠ some b) : v'.ownBlock ≠ some b := by
  rcases h with h | ⟨g, h1, h2⟩
  · rw [h]; exact hn
  · rw [h1]
    intro e
    injection e with e
    omega
theorem not_BT {b r : Nat} {v : Value} (h1 : b ≠ r) (h2 : v.ownBlock ≠ some b) : ¬ BT r v b := fun q => by
  rcases q with q | q
  · exact h1 q
  · exact h2 q

section
variable {w : World} {T : TypeId} {n0 : Nat} {F : Value → Int → Int → Nat → Value} {r t : Nat} {L : List Int} {v : Value} {b N : Nat} {wd n : Int} {nm len row : Nat → Int}

set_option maxRecDepth 10000 in
set_option maxHeartbeats 2000000 in
theorem tellSome_any (hF : IsBox F n0) (h : BB w T n0 F r L t v) (hr : SdRow w b N wd n nm len row) (hN : N ≤ 272) (a : Nat) (ha : a < N) (hf : ∀ i, 0 ≤ len i ∧ len i ≤ 12) (hL : L.length ≤ 1000000000000) :
    Calls Try.prog 118 #[.pointer (some ⟨b, 0, none⟩), .pointer (some ⟨r, 0, none⟩), .int .i64 a] w fun e w' => e = .returned (.int .i64 ((tellOne len N a).2 : Nat)) ∧ Adds w w' T n0 F r t (L ++ (tellOne len N a).1) v := by
  have hA := lengthAt_any hr a (by omega)
  have hS := same_any hr hN a ha
  have hB : 0 < a → Calls Try.prog 132 #[.pointer (some ⟨b, 0, none⟩), .int .i64 ((a : Int) - 1)] w fun e w' => e = .returned (.int .i64 (len (a - 1))) ∧ w' = w := fun h0 => by
    have := lengthAt_any hr (a - 1) (by omega)
    rw [show ((a - 1 : Nat) : Int) = (a : Int) - 1 by omega] at this
    exact this
  obtain ⟨s1, s2, _⟩ := same_spec (f := len) ha
  have hla := hf a
  have HT : Hid (tellOne len N a = if len a = 0 ∧ 11 ≤ sameN len N a then repL 15 (sameN len N a) 11 6
    else if len a = 0 ∧ 3 ≤ sameN len N a then repL 14 (sameN len N a) 3 3
    else if 0 < a ∧ len a = len (a - 1) ∧ 3 ≤ sameN len N a then repL 13 (sameN len N a) 3 2
    else (numBits (len a) 4, 1)) := rfl
  have hRep := fun (kind : Int) (least width : Nat) hk hs => tellRepeat_any hF h kind (sameN len N a) least width hk hs (by omega) hL
  have hNum : Calls Try.prog 43 #[.pointer (some ⟨r, 0, none⟩), .int .i64 (len a), .int .i64 4] w fun e w' => e = .returned (.tuple #[]) ∧ Adds w w' T n0 F r t (L ++ numBits (len a) 4) v := number_B hF h (len a) 4 hla.1 (by show _ < (16 : Int); omega) (by omega) (by omega)
  clear hf h hr
  generalize sameN len N a = sm at *
  generalize hl : len a = l at *
  by_cases h0 : l = 0
  · subst h0
    by_cases h11 : 11 ≤ sm
    · have HE : Hid (tellOne len N a = repL 15 sm 11 6) := by rw [Hid, HT.out, if_pos ⟨rfl, h11⟩]
      have hR := hRep 15 11 6 (Or.inr (Or.inr ⟨rfl, rfl, rfl⟩)) h11
      have h11i : 11 ≤ (sm : Int) := by omega
      clear hRep HT hB hNum
      go_enter Try.func118, Try.ntmps118
      go_wp2_with (first
        | (go_at_call 134; refine hR.mono ?_; rintro e w1 ⟨rfl, hA1⟩)
        | (go_at_call 133; refine hS.mono ?_; rintro e w0 ⟨rfl, rfl⟩; have tok : True := trivial)
        | (go_at_call 132; refine hA.mono ?_; rintro e w0 ⟨rfl, rfl⟩))
      go_ret
      rw [HE.out]
      exact ⟨rfl, hA1⟩
    by_cases h3 : 3 ≤ sm
    · have HE : Hid (tellOne len N a = repL 14 sm 3 3) := by rw [Hid, HT.out, if_neg (by omega), if_pos ⟨rfl, h3⟩]
      have hR := hRep 14 3 3 (Or.inr (Or.inl ⟨rfl, rfl, rfl⟩)) h3
      have h11i : ¬ 11 ≤ (sm : Int) := by omega
      have h3i : 3 ≤ (sm : Int) := by omega
      clear hRep HT hB hNum
      go_enter Try.func118, Try.ntmps118
      go_wp2_with (first
        | (go_at_call 134; refine hR.mono ?_; rintro e w1 ⟨rfl, hA1⟩)
        | (go_at_call 133; refine hS.mono ?_; rintro e w0 ⟨rfl, rfl⟩; have tok : True := trivial)
        | (go_at_call 132; refine hA.mono ?_; rintro e w0 ⟨rfl, rfl⟩))
      go_ret
      rw [HE.out]
      exact ⟨rfl, hA1⟩
    · have HE : Hid (tellOne len N a = (numBits 0 4, 1)) := by rw [Hid, HT.out, if_neg (by omega), if_neg (by omega), if_neg (by omega)]
      have h11i : ¬ 11 ≤ (sm : Int) := by omega
      have h3i : ¬ 3 ≤ (sm : Int) := by omega
      by_cases ha0 : 0 < a
      · have hB1 := hB ha0
        have ha1 : 0 < (a : Int) := by omega
        clear hRep HT hB hl hla h3 ha0
        by_cases hy : len (a - 1) = 0
        · rw [hy] at hB1
          clear hy
          go_enter Try.func118, Try.ntmps118
          go_wp2_with (first
            | (go_at_call 43; refine hNum.mono ?_; rintro e w1 ⟨rfl, hA1⟩)
            | (go_at_call 133; refine hS.mono ?_; rintro e w0 ⟨rfl, rfl⟩; have tok : True := trivial)
            | (go_at_call 132; have tk := tok; clear tk; refine hB1.mono ?_; rintro e w0 ⟨rfl, rfl⟩)
            | (go_at_call 132; refine hA.mono ?_; rintro e w0 ⟨rfl, rfl⟩))
          all_goals
            go_ret
            rw [HE.out]
            exact ⟨rfl, hA1⟩
        · generalize len (a - 1) = y at *
          have hyb : ((0 : Int) == y) = false := beq_eq_false_iff_ne.2 (fun q => hy q.symm)
          go_enter Try.func118, Try.ntmps118
          go_wp2_with (first
            | (go_at_call 43; refine hNum.mono ?_; rintro e w1 ⟨rfl, hA1⟩)
            | (go_at_call 133; refine hS.mono ?_; rintro e w0 ⟨rfl, rfl⟩; have tok : True := trivial)
            | (go_at_call 132; have tk := tok; clear tk; refine hB1.mono ?_; rintro e w0 ⟨rfl, rfl⟩)
            | (go_at_call 132; refine hA.mono ?_; rintro e w0 ⟨rfl, rfl⟩))
          all_goals
            go_ret
            rw [HE.out]
            exact ⟨rfl, hA1⟩
      · have ha1 : a = 0 := by omega
        subst ha1
        clear hRep HT hB
        go_enter Try.func118, Try.ntmps118
        go_wp2_with (first
          | (go_at_call 43; refine hNum.mono ?_; rintro e w1 ⟨rfl, hA1⟩)
          | (go_at_call 133; refine hS.mono ?_; rintro e w0 ⟨rfl, rfl⟩; have tok : True := trivial)
          | (go_at_call 132; refine hA.mono ?_; rintro e w0 ⟨rfl, rfl⟩))
        go_ret
        rw [HE.out]
        exact ⟨rfl, hA1⟩
  · have hlb : (l == 0) = false := beq_eq_false_iff_ne.2 h0
    by_cases hrep : 0 < a ∧ l = len (a - 1) ∧ 3 ≤ sm
    · obtain ⟨ha0, hq, h3⟩ := hrep
      have HE : Hid (tellOne len N a = repL 13 sm 3 2) := by rw [Hid, HT.out, if_neg (fun q => h0 q.1), if_neg (fun q => h0 q.1), if_pos ⟨ha0, hq, h3⟩]
      have hR := hRep 13 3 2 (Or.inl ⟨rfl, rfl, rfl⟩) h3
      have hB1 := hB ha0
      rw [← hq] at hB1
      have h3i : 3 ≤ (sm : Int) := by omega
      have ha1 : 0 < (a : Int) := by omega
      clear hRep HT hB hNum hq
      go_enter Try.func118, Try.ntmps118
      go_wp2_with (first
        | (go_at_call 134; refine hR.mono ?_; rintro e w1 ⟨rfl, hA1⟩)
        | (go_at_call 133; refine hS.mono ?_; rintro e w0 ⟨rfl, rfl⟩; have tok : True := trivial)
        | (go_at_call 132; have tk := tok; clear tk; refine hB1.mono ?_; rintro e w0 ⟨rfl, rfl⟩)
        | (go_at_call 132; refine hA.mono ?_; rintro e w0 ⟨rfl, rfl⟩))
      all_goals
        go_ret
        rw [HE.out]
        exact ⟨rfl, hA1⟩
    · have HE : Hid (tellOne len N a = (numBits l 4, 1)) := by rw [Hid, HT.out, if_neg (fun q => h0 q.1), if_neg (fun q => h0 q.1), if_neg hrep]
      by_cases ha0 : 0 < a
      · have hB1 := hB ha0
        have ha1 : 0 < (a : Int) := by omega
        have hcase : (l == len (a - 1)) = false ∨ (l = len (a - 1) ∧ ¬ 3 ≤ (sm : Int)) := by
          by_cases hq : l = len (a - 1)
          · exact Or.inr ⟨hq, by omega⟩
          · exact Or.inl (beq_eq_false_iff_ne.2 hq)
        clear hRep HT hB hrep
        rcases hcase with hq | ⟨hq, h3⟩
        · generalize len (a - 1) = y at *
          go_enter Try.func118, Try.ntmps118
          go_wp2_with (first
            | (go_at_call 43; refine hNum.mono ?_; rintro e w1 ⟨rfl, hA1⟩)
            | (go_at_call 133; refine hS.mono ?_; rintro e w0 ⟨rfl, rfl⟩; have tok : True := trivial)
            | (go_at_call 132; have tk := tok; clear tk; refine hB1.mono ?_; rintro e w0 ⟨rfl, rfl⟩)
            | (go_at_call 132; refine hA.mono ?_; rintro e w0 ⟨rfl, rfl⟩))
          all_goals
            go_ret
            rw [HE.out]
            exact ⟨rfl, hA1⟩
        · rw [← hq] at hB1
          clear hq
          go_enter Try.func118, Try.ntmps118
          go_wp2_with (first
            | (go_at_call 43; refine hNum.mono ?_; rintro e w1 ⟨rfl, hA1⟩)
            | (go_at_call 133; refine hS.mono ?_; rintro e w0 ⟨rfl, rfl⟩; have tok : True := trivial)
            | (go_at_call 132; have tk := tok; clear tk; refine hB1.mono ?_; rintro e w0 ⟨rfl, rfl⟩)
            | (go_at_call 132; refine hA.mono ?_; rintro e w0 ⟨rfl, rfl⟩))
          all_goals
            go_ret
            rw [HE.out]
            exact ⟨rfl, hA1⟩
      · have ha1 : a = 0 := by omega
        subst ha1
        clear hRep HT hB hrep
        go_enter Try.func118, Try.ntmps118
        go_wp2_with (first
          | (go_at_call 43; refine hNum.mono ?_; rintro e w1 ⟨rfl, hA1⟩)
          | (go_at_call 133; refine hS.mono ?_; rintro e w0 ⟨rfl, rfl⟩; have tok : True := trivial)
          | (go_at_call 132; refine hA.mono ?_; rintro e w0 ⟨rfl, rfl⟩))
        go_ret
        rw [HE.out]
        exact ⟨rfl, hA1⟩
end
end Go.Proofs.Ytmpfgdmdnghhgaa

/- A CODE IS TOLD: tellSimple, Tell, Put. -/
namespace Go.Proofs.Ytmpfgdmdnghhgaa
open Go.RowKit Wr

theorem namesL_length (nm : Nat → Int) (sz : Nat) : ∀ k, (namesL nm sz k).length = sz * k
  | 0 => rfl
  | k + 1 => by
    show (namesL nm sz k ++ numBits (nm k) sz).length = _
    rw [List.length_append, namesL_length nm sz k, numBits_length, Nat.mul_succ]
theorem tellOne_length (f : Nat → Int) (N a : Nat) : (tellOne f N a).1.length ≤ 10 := by
  unfold tellOne repL
  repeat' split
  all_goals
    dsimp only
    first
      | (rw [List.length_append, numBits_length, numBits_length])
      | (rw [numBits_length]; omega)
    try omega

section
variable {w : World} {T : TypeId} {n0 : Nat} {F : Value → Int → Int → Nat → Value} {r t : Nat} {L : List Int} {v : Value} {b N : Nat} {nm len row : Nat → Int}

set_option maxRecDepth 10000 in
set_option maxHeartbeats 800000 in
theorem tellSimple_any (hF : IsBox F n0) (h : BB w T n0 F r L t v) {n sz : Nat} (hr : SdRow w b N sz n nm len row) (hbr : b ≠ r) (hbv : v.ownBlock ≠ some b) (h1 : 1 ≤ n) (h4 : n ≤ 4) (hsz : sz ≤ 12) (hnm : ∀ p, p < n → 0 ≤ nm p ∧ nm p < 2 ^ sz) (hL : L.length ≤ 900000000000) :
    Calls Try.prog 117 #[.pointer (some ⟨b, 0, none⟩), .pointer (some ⟨r, 0, none⟩)] w fun e w' => e = .returned (.tuple #[]) ∧ Adds w w' T n0 F r t (L ++ (numBits 0 1 ++ (numBits ((n : Int) - 1) 2 ++ namesL nm sz n))) v := by
  have hA1 : Calls Try.prog 43 #[.pointer (some ⟨r, 0, none⟩), .int .i64 0, .int .i64 1] w fun e w' => e = .returned (.tuple #[]) ∧ Adds w w' T n0 F r t (L ++ numBits 0 1) v := number_B hF h 0 1 (by omega) (by decide) (by omega) (by omega)
  have hA2 : ∀ W u, BB W T n0 F r (L ++ numBits 0 1) t u → Calls Try.prog 43 #[.pointer (some ⟨r, 0, none⟩), .int .i64 ((n : Int) - 1), .int .i64 2] W fun e w' => e = .returned (.tuple #[]) ∧ Adds W w' T n0 F r t (L ++ numBits 0 1 ++ numBits ((n : Int) - 1) 2) u := fun W u hW => number_B hF hW ((n : Int) - 1) 2 (by omega) (by show _ < (4 : Int); omega) (by omega) (by rw [List.length_append, numBits_length]; omega)
  have hbw := hr.lt
  have hwn : IntKind.i64.wrap ((n : Int) - 1) = (n : Int) - 1 := by rw [IntKind.wrap_i64]; omega
  have HE : Hid (L ++ (numBits 0 1 ++ (numBits ((n : Int) - 1) 2 ++ namesL nm sz n)) = L ++ numBits 0 1 ++ numBits ((n : Int) - 1) 2 ++ namesL nm sz n) := by rw [Hid]; simp only [List.append_assoc]
  have hL2 : (L ++ numBits 0 1 ++ numBits ((n : Int) - 1) 2).length = L.length + 3 := by rw [List.length_append, List.length_append, numBits_length, numBits_length]
  go_enter Try.func117, Try.ntmps117
  go_wp2_with (first
    | (go_at_call 43; refine (hA2 _ _ hR1).mono ?_; rintro e w2 ⟨rfl, u2, hR2, ho2, ht2⟩)
    | (go_at_call 43; refine hA1.mono ?_; rintro e w1 ⟨rfl, u1, hR1, ho1, ht1⟩; have hr1 : SdRow w1 b N sz n nm len row := ht1.rowIs hr (not_BT hbr hbv); have k1 := hr1.c_count; have kf := hr1.free))
  have ho : Own w v u2 := ho1.trans ho2 ht1.size
  have ht : Tch (BT r v) w w2 := ht1.trans ht2 (BT.next ho1)
  generalize L ++ numBits 0 1 ++ numBits ((n : Int) - 1) 2 = L2 at *
  clear hA1 hA2 hR1 ho1 ht1 ho2 ht2 hr1 k1 kf h
  go_loopw [4] (fun vi wr => ∃ (i : Nat) (u : Value), i ≤ n ∧ vi = .int .i64 i ∧ BB wr T n0 F r (L2 ++ namesL nm sz i) t u ∧ Own w v u ∧ Tch (BT r v) w wr) (fun vi _ => n - (intOf vi).toNat)
  case atStart =>
    refine ⟨0, u2, by omega, rfl, ?_, ho, ht⟩
    show BB _ T n0 F r (L2 ++ []) t u2
    rw [List.append_nil]
    exact hR2
  case round =>
    obtain ⟨i, u, hi, rfl, hRi, hoi, hti⟩ := hrel
    clear hR2 ho ht
    have hri : SdRow wr b N sz n nm len row := hti.rowIs hr (not_BT hbr hbv)
    have k1 := hri.c_count
    have k2 := hri.c_width
    have hfz := hri.free
    by_cases hlt : i < n
    · have k3 := hri.c_name i (by omega)
      have nb := hnm i hlt
      have hl2 : (L2 ++ namesL nm sz i).length ≤ 1000000000000 := by
        have h48 : sz * i ≤ 12 * 4 := Nat.mul_le_mul hsz (by omega)
        rw [List.length_append, namesL_length]
        omega
      have HT : Hid (L2 ++ namesL nm sz (i + 1) = L2 ++ namesL nm sz i ++ numBits (nm i) sz) := by
        show L2 ++ (namesL nm sz i ++ numBits (nm i) sz) = _
        rw [List.append_assoc]
      have hN : ∀ W, BB W T n0 F r (L2 ++ namesL nm sz i) t u → Calls Try.prog 43 #[.pointer (some ⟨r, 0, none⟩), .int .i64 (nm i), .int .i64 sz] W fun e w' => e = .returned (.tuple #[]) ∧ Adds W w' T n0 F r t (L2 ++ namesL nm sz i ++ numBits (nm i) sz) u := fun W hW => number_B hF hW (nm i) sz nb.1 nb.2 hsz (by omega)
      have hNN := hN _ (hRi.keep (Tch.refl NoOld wr).drew (fun q => q) (fun _ _ q => q))
      have hi4 : (i : Int) < 4 := by omega
      generalize nm i = x at *
      clear hN hri hr hRi HE
      go_wp2
      go_region_with (go_at_call 43; refine hNN.mono ?_; rintro e w3 ⟨rfl, u3, hR3, ho3, ht3⟩)
      all_goals
        go_wp2
        go_roundw
        case rel => exact ⟨i + 1, u3, by omega, by go_num, by rw [HT.out]; exact hR3, hoi.trans ho3 hti.size, hti.trans ((Tch.refl (BT r u) _).drew.trans ht3 (fun _ _ q => q)) (BT.next hoi)⟩
        case measure => simp [intOf]; omega
    · have hin : i = n := by omega
      subst hin
      clear hr
      go_wp2
      go_end0
      rw [HE.out]
      exact ⟨rfl, u, hRi, hoi, hti⟩

set_option maxRecDepth 10000 in
set_option maxHeartbeats 800000 in
theorem sput_any (hF : IsBox F n0) (h : BB w T n0 F r L t v) {n sz : Int} (hr : SdRow w b N sz n nm len row) (i : Nat) (hi : i < 272) (hl : 0 ≤ len i ∧ len i ≤ 12) (hrow : 0 ≤ row i ∧ row i < 2 ^ (len i).toNat) (hL : L.length ≤ 900000000000) :
    Calls Try.prog 119 #[.pointer (some ⟨b, 0, none⟩), .pointer (some ⟨r, 0, none⟩), .int .i64 i] w fun e w' => e = .returned (.tuple #[]) ∧ Adds w w' T n0 F r t (L ++ numBits (row i) (len i).toNat) v := by
  have k1 := hr.c_len i hi
  have k2 := hr.c_row i hi
  have hfz := hr.free
  have hi2 : (i : Int) < 272 := by omega
  obtain ⟨l, hle⟩ := Int.eq_ofNat_of_zero_le hl.1
  rw [hle] at k1 hrow hl ⊢
  rw [Int.toNat_natCast] at hrow ⊢
  have hN : ∀ W, BB W T n0 F r L t v → Calls Try.prog 43 #[.pointer (some ⟨r, 0, none⟩), .int .i64 (row i), .int .i64 l] W fun e w' => e = .returned (.tuple #[]) ∧ Adds W w' T n0 F r t (L ++ numBits (row i) l) v := fun W hW => number_B hF hW (row i) l hrow.1 hrow.2 (by omega) (by omega)
  have hNN := hN _ (h.keep (Tch.refl NoOld w).drew (fun q => q) (fun _ _ q => q))
  generalize row i = x at *
  clear hN hr h hrow
  go_enter Try.func119, Try.ntmps119
  go_wp2
  go_region_with (go_at_call 43; refine hNN.mono ?_; rintro e w3 ⟨rfl, u3, hR3, ho3, ht3⟩)
  all_goals
    go_wp2
    go_end0
    exact ⟨rfl, u3, hR3, ho3, (Tch.refl (BT r v) _).drew.trans ht3 (fun _ _ q => q)⟩

set_option maxRecDepth 10000 in
set_option maxHeartbeats 800000 in
theorem tell_any (hF : IsBox F n0) (h : BB w T n0 F r L t v) (s : Snd) {sz : Nat} (hr : SdRow w b N sz (s.n : Nat) s.nm s.len row) (hbr : b ≠ r) (hbv : v.ownBlock ≠ some b) (hN : N ≤ 272) (h4 : s.n ≤ 4) (hsz : sz ≤ 12) (hnm : ∀ p, p < s.n → 0 ≤ s.nm p ∧ s.nm p < 2 ^ sz) (hf : ∀ i, 0 ≤ s.len i ∧ s.len i ≤ 12) (hL : L.length ≤ 900000000000) :
    Calls Try.prog 103 #[.pointer (some ⟨b, 0, none⟩), .pointer (some ⟨r, 0, none⟩)] w fun e w' => e = .returned (.tuple #[]) ∧ Adds w w' T n0 F r t (L ++ tellL s N sz) v := by
  have k1 := hr.c_count
  have hfz := hr.free
  by_cases h0 : 0 < s.n
  · have HE : Hid (tellL s N sz = numBits 0 1 ++ (numBits ((s.n : Int) - 1) 2 ++ namesL s.nm sz s.n)) := by rw [Hid, tellL, if_pos h0]
    have hT := tellSimple_any hF h hr hbr hbv h0 h4 hsz hnm hL
    have h0i : 0 < (s.n : Int) := by omega
    clear hr h
    go_enter Try.func103, Try.ntmps103
    go_wp2_with (go_at_call 117; refine hT.mono ?_; rintro e w1 ⟨rfl, hA⟩)
    refine bodyPost_ret (results_none rfl _ _ _) rfl ?_
    rw [HE.out]
    exact ⟨rfl, hA⟩
  · have HE : Hid (tellL s N sz = numBits 1 1 ++ tellGo s.len N (N + 1) 0) := by rw [Hid, tellL, if_neg h0]
    have hA1 : Calls Try.prog 43 #[.pointer (some ⟨r, 0, none⟩), .int .i64 1, .int .i64 1] w fun e w' => e = .returned (.tuple #[]) ∧ Adds w w' T n0 F r t (L ++ numBits 1 1) v := number_B hF h 1 1 (by omega) (by decide) (by omega) (by omega)
    have hz : (s.n : Int) = 0 := by omega
    rw [hz] at k1
    have hL1 : (L ++ numBits 1 1).length = L.length + 1 := by rw [List.length_append, numBits_length]
    go_enter Try.func103, Try.ntmps103
    go_wp2_with (go_at_call 43; refine hA1.mono ?_; rintro e w1 ⟨rfl, u1, hR1, ho1, ht1⟩)
    generalize hL1e : L ++ numBits 1 1 = L1 at *
    have HE2 : Hid (L ++ tellL s N sz = L1 ++ tellGo s.len N (N + 1) 0) := by rw [Hid, HE.out, ← List.append_assoc, hL1e]
    clear hA1 k1 hz HE hL1e
    go_loopg [4] (N + 1) (fun g va wr => ∃ (a : Nat) (M : List Int) (u : Value), a ≤ N ∧ N < a + g ∧ va = .int .i64 a ∧ M ++ tellGo s.len N g a = tellGo s.len N (N + 1) 0 ∧ M.length ≤ 10 * a ∧ BB wr T n0 F r (L1 ++ M) t u ∧ Own w v u ∧ Tch (BT r v) w wr)
    case atStart =>
      refine ⟨0, [], u1, by omega, by omega, rfl, rfl, Nat.le_refl _, ?_, ho1, ht1⟩
      rw [List.append_nil]
      exact hR1
    case round =>
      obtain ⟨a, M, u, haN, hg, rfl, hM, hMl, hRa, hoa, hta⟩ := hrel
      have HM : Hid (M ++ tellGo s.len N gk a = tellGo s.len N (N + 1) 0) := hM
      clear hM hR1 ho1 ht1
      have hra : SdRow wr b N sz (s.n : Nat) s.nm s.len row := hta.rowIs hr (not_BT hbr hbv)
      have k1 := hra.c_size
      have hfz := hra.free
      by_cases hlt : a < N
      · obtain ⟨o1, o2, _⟩ := tellOne_spec (f := s.len) hlt
        have ol := tellOne_length s.len N a
        have hT := tellSome_any hF hRa hra hN a hlt hf (by rw [List.length_append]; omega)
        obtain ⟨g', rfl⟩ : ∃ g', gk = g' + 1 := ⟨gk - 1, by omega⟩
        have HN : Hid ((M ++ (tellOne s.len N a).1) ++ tellGo s.len N g' (a + (tellOne s.len N a).2) = tellGo s.len N (N + 1) 0) := by
          rw [Hid, ← HM.out, List.append_assoc]
          congr 1
          conv => rhs; unfold tellGo
          rw [if_pos hlt]
        have hML : Hid ((M ++ (tellOne s.len N a).1).length ≤ 10 * (a + (tellOne s.len N a).2)) := by rw [Hid, List.length_append]; omega
        generalize (tellOne s.len N a).2 = k at *
        generalize (tellOne s.len N a).1 = X at *
        clear hra hRa HM
        go_wp2_with (go_at_call 118; refine hT.mono ?_; rintro e w2 ⟨rfl, u2, hR2, ho2, ht2⟩)
        go_roundg g'
        case measure => omega
        case rel => exact ⟨a + k, M ++ X, u2, by omega, by omega, by go_num, HN.out, hML.out, by rw [← List.append_assoc]; exact hR2, hoa.trans ho2 hta.size, hta.trans ht2 (BT.next hoa)⟩
      · have haN2 : a = N := by omega
        subst haN2
        have HN : Hid (L ++ tellL s a sz = L1 ++ M) := by
          rw [Hid, HE2.out, ← HM.out]
          obtain ⟨g', rfl⟩ : ∃ g', gk = g' + 1 := ⟨gk - 1, by omega⟩
          unfold tellGo
          rw [if_neg (by omega), List.append_nil]
        clear hra
        go_wp2
        go_end0
        rw [HN.out]
        exact ⟨rfl, u, hRa, hoa, hta⟩
end
end Go.Proofs.Ytmpfgdmdnghhgaa
