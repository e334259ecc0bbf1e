import Derived.Test.YtmpfgdmdnghhgaaK9
import Derived.Test.YtmpfgdmdnghhgaaRefP9
import Derived.Test.YtmpfgdmdnghhgaaRefT
/- THE DOCUMENT READS WHAT A SENDER SAYS: symbols, codes. No Go. -/
namespace Wr

theorem first_nonneg {cnt : Nat → Int} (lo : ∀ i, 0 ≤ cnt i) : ∀ l, 0 ≤ firstOf cnt l
  | 0 => Int.le_refl _
  | l + 1 => by
    have := first_nonneg lo l
    have := lo l
    show 0 ≤ 2 * (firstOf cnt l + cnt l)
    omega
section
variable {S : ByteArray} {L Y : List Int} {w : Int}
theorem rd_sym {cnt sym : Nat → Int} {N : Int} (hc : Cod cnt sym N) {l : Nat} {q : Int} (hl : l ≤ 12) (q0 : 0 ≤ q) (q1 : q < cnt l) (hL : isBits L)
    (h : TextOf S (L ++ (numBits (msb (firstOf cnt l + q) l) l ++ Y))) :
    symV S (codeWs cnt sym) (atX L.length w) = sym (aheadOf cnt l + q).toNat ∧ symS S (codeWs cnt sym) (atX L.length w) = atX (L ++ numBits (msb (firstOf cnt l + q) l) l).length w := by
  have fn := first_nonneg hc.lo l
  have room := first_room hc.lo hc.full hl
  generalize hcode : firstOf cnt l + q = c at *
  have c0 : 0 ≤ c := by omega
  have c1 : c < 2 ^ l := by omega
  have mb := msb_bounds c l
  have hlen := h.len
  rw [List.length_append, List.length_append, numBits_length] at hlen
  have eH : holdAt S (atX L.length w) = msb c l + 2 ^ l * Wr.valOf Y := by
    unfold holdAt atX
    dsimp only
    rw [h.val, val_tail hL, val_num_head _ mb.1 mb.2]
  have em : msb (holdAt S (atX L.length w)) l = c := by
    rw [eH, msb_mod _ _ _ l (Nat.le_refl _), msb_twice, Int.emod_eq_of_lt c0 c1]
  have before : ∀ j, j < l → lookGo j (msb (holdAt S (atX L.length w)) j) (codeWs cnt sym) = none := by
    intro j hj
    refine look_miss hc.lo ?_
    have e := msb_pre (holdAt S (atX L.length w)) j (l - j)
    rw [show j + (l - j) = l by omega, em] at e
    have t := first_top hc.lo (l - j - 1) j
    rw [show l - j - 1 + 1 = l - j by omega, show j + 1 + (l - j - 1) = l by omega] at t
    have hp := pow_pos2 (l - j)
    have : firstOf cnt j + cnt j ≤ c / 2 ^ (l - j) := (Int.le_ediv_iff_mul_le (by omega)).2 (by omega)
    omega
  have r := symGo_reach (S := S) (ws := codeWs cnt sym) (x := atX L.length w) rfl _ rfl l hl (by show L.length + l ≤ _; omega) before (14 - l)
  rw [show 14 - l + l = 14 by omega] at r
  have e : symGo S (codeWs cnt sym) (14 - l) l (msb (holdAt S (atX L.length w)) l) { atX L.length w with at_ := (atX L.length w).at_ + l } = (sym (aheadOf cnt l + q).toNat, atX (L ++ numBits (msb c l) l).length w) := by
    rw [show 14 - l = 13 - l + 1 by omega]
    unfold symGo
    rw [if_neg (fun q => q rfl), em, look_code hc.lo hl (by omega) (by omega)]
    rw [List.length_append, numBits_length, show aheadOf cnt l + c - firstOf cnt l = aheadOf cnt l + q by omega]
    rfl
  rw [e] at r
  unfold symV symS
  rw [r]
  exact ⟨rfl, rfl⟩

/- names -/
theorem namesL_head (nm : Nat → Int) (sz : Nat) : ∀ (i k : Nat), namesL nm sz (i + k) = namesL nm sz i ++ namesL (fun j => nm (i + j)) sz k
  | i, 0 => by show namesL nm sz i = namesL nm sz i ++ []; rw [List.append_nil]
  | i, k + 1 => by
    show namesL nm sz (i + k) ++ numBits (nm (i + k)) sz = _ ++ (namesL _ sz k ++ numBits (nm (i + k)) sz)
    rw [namesL_head nm sz i k, List.append_assoc]
theorem namesL_bits (nm : Nat → Int) (sz : Nat) : ∀ k, isBits (namesL nm sz k)
  | 0 => fun b hb => by cases hb
  | k + 1 => isBits_cat (namesL_bits nm sz k) (numBits_isBits _ _)
/-- names i to i + k are read -/
theorem rd_names {N sz : Nat} {nm : Nat → Int} {n : Nat} (ok : NamesOk N nm n) (hN : (N : Int) ≤ 2 ^ sz) : ∀ (k i : Nat) (f : Nat → Int) {L : List Int}, i + k = n → (∀ p, p < i → f p = nm p) → isBits L → TextOf S (L ++ (namesL (fun j => nm (i + j)) sz k ++ Y)) →
    (∀ p, p < n → (nameGo S N sz k i f (atX L.length w)).1 p = nm p) ∧ (nameGo S N sz k i f (atX L.length w)).2 = atX (L ++ namesL (fun j => nm (i + j)) sz k).length w
  | 0, i, f, L, hk, hf, _, _ => by
    refine ⟨fun p hp => hf p (by omega), ?_⟩
    show atX L.length w = atX (L ++ []).length w
    rw [List.append_nil]
  | k + 1, i, f, L, hk, hf, hL, h => by
    have e1 : namesL (fun j => nm (i + j)) sz (k + 1) = numBits (nm i) sz ++ namesL (fun j => nm (i + 1 + j)) sz k := by
      have := namesL_head (fun j => nm (i + j)) sz 1 k
      rw [Nat.add_comm 1 k] at this
      rw [this]
      show ([] ++ numBits (nm (i + 0)) sz) ++ _ = _
      rw [List.nil_append]
      congr 2
      funext j
      show nm (i + (1 + j)) = nm (i + 1 + j)
      rw [Nat.add_assoc]
    rw [e1, List.append_assoc] at h
    have b := ok.lt i (by omega)
    obtain ⟨a1, a2, a3⟩ := rd_num (w := w) b.1 (show nm i < 2 ^ sz by omega) hL h
    have hbef : befN f i < nm i := by
      unfold befN
      by_cases hi : i = 0
      · rw [if_pos hi]; omega
      · rw [if_neg hi, hf (i - 1) (by omega)]
        exact ok.mono (by omega) (by omega)
    unfold nameGo
    rw [a1, a2, decide_eq_true (show befN f i < nm i ∧ nm i < (N : Int) from ⟨hbef, b.2⟩), needS_true, if_neg (fun q => q rfl)]
    obtain ⟨r1, r2⟩ := rd_names ok hN k (i + 1) (upd f i (nm i)) (by omega) (fun p hp => by
      unfold upd
      by_cases e : p = i
      · rw [if_pos e, e]
      · rw [if_neg e]; exact hf p (by omega)) (isBits_cat hL (numBits_isBits _ _)) a3
    rw [e1, ← List.append_assoc]
    exact ⟨r1, r2⟩

/-- a simple code -/
theorem rd_simple {N sz : Nat} {nm : Nat → Int} {n : Nat} (h1 : 1 ≤ n) (h4 : n ≤ 4) (ok : NamesOk N nm n) (hN : (N : Int) ≤ 2 ^ sz) (hL : isBits L)
    (h : TextOf S (L ++ (numBits 0 1 ++ (numBits ((n : Int) - 1) 2 ++ namesL nm sz n) ++ Y))) :
    codeS S N sz (atX L.length w) = atX (L ++ (numBits 0 1 ++ (numBits ((n : Int) - 1) 2 ++ namesL nm sz n))).length w ∧ (codeC S N sz (atX L.length w)).1 = simpleCnt n ∧ ∀ p, p < n → (codeC S N sz (atX L.length w)).2 p = nm p := by
  rw [List.append_assoc, List.append_assoc] at h
  obtain ⟨a1, a2, a3⟩ := rd_bit (w := w) (Int.le_refl 0) (by omega) hL h
  obtain ⟨b1, b2, b3⟩ := rd_num (w := w) (show 0 ≤ (n : Int) - 1 by omega) (show (n : Int) - 1 < 2 ^ 2 by show _ < (4 : Int); omega) (isBits_cat hL (numBits_isBits _ _)) a3
  have e0 : namesL nm sz n = namesL (fun j => nm (0 + j)) sz n := by
    congr 1
    funext j
    rw [Nat.zero_add]
  rw [e0] at b3 ⊢
  obtain ⟨c1, c2⟩ := rd_names (w := w) ok hN n 0 (fun _ => 0) (by omega) (fun p hp => absurd hp (by omega)) (isBits_cat (isBits_cat hL (numBits_isBits _ _)) (numBits_isBits _ _)) b3
  have er : simpR S N sz (atX (L ++ numBits 0 1).length w) = nameGo S N sz n 0 (fun _ => 0) (atX ((L ++ numBits 0 1) ++ numBits ((n : Int) - 1) 2).length w) := by
    unfold simpR
    rw [b1, b2, show ((n : Int) - 1 + 1).toNat = n by omega]
  unfold codeS codeC
  rw [a1, if_pos rfl, if_pos rfl, a2]
  unfold simpC
  rw [er, b1]
  refine ⟨?_, ?_, c1⟩
  · rw [c2]
    simp only [List.append_assoc]
  · show simpleCnt ((n : Int) - 1 + 1) = _
    rw [show (n : Int) - 1 + 1 = n by omega]

/- a full code -/
theorem tellOne_bits (f : Nat → Int) (N a : Nat) : isBits (tellOne f N a).1 := by
  unfold tellOne repL
  repeat' split
  all_goals first
    | exact numBits_isBits _ _
    | exact isBits_cat (numBits_isBits _ _) (numBits_isBits _ _)
theorem tellGo_bits (f : Nat → Int) (N : Nat) : ∀ g a, isBits (tellGo f N g a)
  | 0, _ => fun b hb => by cases hb
  | g + 1, a => by
    unfold tellGo
    split
    · exact isBits_cat (tellOne_bits _ _ _) (tellGo_bits f N g _)
    · exact fun b hb => by cases hb
theorem rd_one {f g : Nat → Int} {N a : Nat} (_ha : a < N) (hf : ∀ i, 0 ≤ f i ∧ f i ≤ 12) (hg : ∀ j, j < a → g j = f j) (hL : isBits L) (h : TextOf S (L ++ ((tellOne f N a).1 ++ Y))) :
    fullOne S g a (atX L.length w) = (f a, ((tellOne f N a).2 : Int), atX (L ++ (tellOne f N a).1).length w) := by
  have fb := hf a
  have rep : ∀ (kind : Int) (least width : Nat), 0 ≤ kind → kind < 16 → TextOf S (L ++ ((repL kind (sameN f N a) least width).1 ++ Y)) →
      numV S (atX L.length w) 4 = kind ∧ numS S (atX L.length w) 4 = atX (L ++ numBits kind 4).length w ∧ numV S (atX (L ++ numBits kind 4).length w) width = (moreN (sameN f N a) least width : Nat) ∧
        numS S (atX (L ++ numBits kind 4).length w) width = atX (L ++ (repL kind (sameN f N a) least width).1).length w := by
    intro kind least width k0 k1 ht
    unfold repL at ht
    dsimp only at ht
    rw [List.append_assoc] at ht
    obtain ⟨a1, a2, a3⟩ := rd_num (w := w) k0 (show kind < 2 ^ 4 by show _ < (16 : Int); omega) hL ht
    have mm := (moreN_le (same := sameN f N a) (least := least) (width := width)).2
    obtain ⟨b1, b2, _⟩ := rd_num (w := w) (n := width) (v := ((moreN (sameN f N a) least width : Nat) : Int)) (by omega) (by
      have : ((2 ^ width : Nat) : Int) = (2 : Int) ^ width := by simp
      omega) (isBits_cat hL (numBits_isBits _ _)) a3
    refine ⟨a1, a2, b1, ?_⟩
    rw [b2]
    unfold repL
    rw [← List.append_assoc]
  unfold fullOne
  unfold tellOne at h ⊢
  by_cases h15 : f a = 0 ∧ 11 ≤ sameN f N a
  · rw [if_pos h15] at h
    rw [if_pos h15]
    obtain ⟨a1, a2, a3, a4⟩ := rep 15 11 6 (by omega) (by omega) h
    rw [a1, a2, if_neg (by omega), if_neg (by omega), if_pos rfl, a3, a4, h15.1]
    show ((0 : Int), _, _) = ((0 : Int), ((11 + moreN (sameN f N a) 11 6 : Nat) : Int), _)
    rw [Int.natCast_add]
    rfl
  rw [if_neg h15] at h
  rw [if_neg h15]
  by_cases h14 : f a = 0 ∧ 3 ≤ sameN f N a
  · rw [if_pos h14] at h
    rw [if_pos h14]
    obtain ⟨a1, a2, a3, a4⟩ := rep 14 3 3 (by omega) (by omega) h
    rw [a1, a2, if_neg (by omega), if_pos rfl, a3, a4, h14.1]
    show ((0 : Int), _, _) = ((0 : Int), ((3 + moreN (sameN f N a) 3 3 : Nat) : Int), _)
    rw [Int.natCast_add]
    rfl
  rw [if_neg h14] at h
  rw [if_neg h14]
  by_cases h13 : 0 < a ∧ f a = f (a - 1) ∧ 3 ≤ sameN f N a
  · rw [if_pos h13] at h
    rw [if_pos h13]
    obtain ⟨a1, a2, a3, a4⟩ := rep 13 3 2 (by omega) (by omega) h
    rw [a1, a2, if_pos rfl, if_pos h13.1, decide_eq_true h13.1, needS_true, a3, a4, hg (a - 1) (by omega), ← h13.2.1]
    show (f a, _, _) = (f a, ((3 + moreN (sameN f N a) 3 2 : Nat) : Int), _)
    rw [Int.natCast_add]
    rfl
  rw [if_neg h13] at h
  rw [if_neg h13]
  obtain ⟨a1, a2, a3⟩ := rd_num (w := w) fb.1 (show f a < 2 ^ 4 by show _ < (16 : Int); omega) hL h
  rw [a1, a2, if_neg (by omega), if_neg (by omega), if_neg (by omega)]
  rfl
theorem rd_fullGo {f : Nat → Int} {N : Nat} (hf : ∀ i, 0 ≤ f i ∧ f i ≤ 12) : ∀ (k a : Nat) (g : Nat → Int) {L : List Int}, N < a + k → a ≤ N → (∀ j, j < a → g j = f j) → isBits L → TextOf S (L ++ (tellGo f N k a ++ Y)) →
    (∀ j, j < N → (fullGo S N k g a (atX L.length w)).1 j = f j) ∧ (fullGo S N k g a (atX L.length w)).2.1 = N ∧ (fullGo S N k g a (atX L.length w)).2.2 = atX (L ++ tellGo f N k a).length w
  | 0, a, g, L, h1, h2, _, _, _ => absurd h1 (by omega)
  | k + 1, a, g, L, h1, h2, hg, hL, h => by
    unfold fullGo
    unfold tellGo at h ⊢
    by_cases ha : a < N
    · rw [if_pos ha, List.append_assoc] at h
      rw [if_pos (show a < N ∧ (atX L.length w).state = 0 from ⟨ha, rfl⟩), if_pos ha]
      have one := rd_one (w := w) ha hf hg hL h
      obtain ⟨t1, t2, t3⟩ := tellOne_spec (f := f) ha
      rw [one]
      dsimp only
      rw [decide_eq_true (show (a : Int) + ((tellOne f N a).2 : Int) ≤ (N : Int) by omega), needS_true, if_pos (show (atX _ w).state = 0 from rfl), Int.toNat_natCast]
      have := rd_fullGo (N := N) hf k (a + (tellOne f N a).2) (fillLen g a (f a) (tellOne f N a).2) (L := L ++ (tellOne f N a).1) (by omega) (by omega) (fun j hj => by
        unfold fillLen
        by_cases e : a ≤ j
        · rw [if_pos ⟨e, hj⟩, t3 j e hj]
        · rw [if_neg (fun q => e q.1)]
          exact hg j (by omega)) (isBits_cat hL (tellOne_bits _ _ _)) (by rw [List.append_assoc]; exact h)
      rw [← List.append_assoc]
      exact this
    · rw [if_neg (fun q => ha q.1), if_neg ha]
      have : a = N := by omega
      subst this
      refine ⟨hg, rfl, ?_⟩
      show atX L.length w = atX (L ++ []).length w
      rw [List.append_nil]
theorem rd_full {f : Nat → Int} {N sz : Nat} (hf : ∀ i, 0 ≤ f i ∧ f i ≤ 12) (hs : (countGo f N).2 = 4096) (hL : isBits L) (h : TextOf S (L ++ (numBits 1 1 ++ tellGo f N (N + 1) 0 ++ Y))) :
    codeS S N sz (atX L.length w) = atX (L ++ (numBits 1 1 ++ tellGo f N (N + 1) 0)).length w ∧ codeC S N sz (atX L.length w) = ((countGo f N).1, (orderGo (countGo f N).1 (fun _ => 0) f N).1) := by
  rw [List.append_assoc] at h
  obtain ⟨a1, a2, a3⟩ := rd_bit (w := w) (show (0 : Int) ≤ 1 by omega) (by omega) hL h
  obtain ⟨b1, b2, b3⟩ := rd_fullGo (w := w) hf (N + 1) 0 (fun _ => 0) (by omega) (by omega) (fun j hj => absurd hj (by omega)) (isBits_cat hL (numBits_isBits _ _)) a3
  have ec : countGo (fullR S N (atX (L ++ numBits 1 1).length w)).1 (fullR S N (atX (L ++ numBits 1 1).length w)).2.1 = countGo f N := by
    unfold fullR
    rw [b2]
    exact count_congr b1
  have eo : orderGo (countGo f N).1 (fun _ => 0) (fullR S N (atX (L ++ numBits 1 1).length w)).1 (fullR S N (atX (L ++ numBits 1 1).length w)).2.1 = orderGo (countGo f N).1 (fun _ => 0) f N := by
    unfold fullR
    rw [b2]
    exact order_congr b1
  unfold codeS codeC
  rw [a1, if_neg (by omega), if_neg (by omega), a2]
  unfold fullS fullC
  rw [ec, eo, hs, decide_eq_true rfl, needS_true]
  refine ⟨?_, rfl⟩
  unfold fullR
  rw [b3, List.append_assoc]
end
end Wr

/- THE DOCUMENT READS A SENDER's CODE AND ITS SYMBOLS. No Go. -/
namespace Wr

/-- the words of a code read the symbols of a sender -/
def Says (s : Snd) (N : Nat) (ws : List Wd) (c : Nat → Int) : Prop := ∀ (i : Nat), i < N → 0 < c i → ∀ (S : ByteArray) (L Y : List Int) (w : Int), isBits L → TextOf S (L ++ (putL s N i ++ Y)) →
  symV S ws (atX L.length w) = i ∧ symS S ws (atX L.length w) = atX (L ++ putL s N i).length w
theorem putL_bits (s : Snd) (N i : Nat) : isBits (putL s N i) := numBits_isBits _ _
theorem tellL_bits (s : Snd) (N sz : Nat) : isBits (tellL s N sz) := by
  unfold tellL
  split
  · exact isBits_cat (numBits_isBits _ _) (isBits_cat (numBits_isBits _ _) (namesL_bits _ _ _))
  · exact isBits_cat (numBits_isBits _ _) (tellGo_bits _ _ _ _)

theorem says_len {f cnt sym : Nat → Int} {N : Nat} {s : Snd} {c : Nat → Int} (hs : s.len = f) (hcnt : cnt = (countGo f N).1) (hc : Cod cnt sym N) (hf : ∀ i, i < N → 0 < c i → 1 ≤ f i ∧ f i ≤ 12)
    (hsym : ∀ i, i < N → 0 < c i → sym (placeOf cnt f i).toNat = i) : Says s N (codeWs cnt sym) c := by
  intro i hi hci S L Y w hL h
  obtain ⟨f1, f2⟩ := hf i hi hci
  have e : putL s N i = numBits (msb (firstOf cnt (f i).toNat + occ f (f i) i) (f i).toNat) (f i).toNat := by
    unfold putL rowOf codeOf
    rw [hs, if_pos ⟨f1, f2, hi⟩, hcnt]
  rw [e] at h ⊢
  have q0 := occ_nonneg f (f i) i
  have q1 : occ f (f i) i < cnt (f i).toNat := by
    rw [hcnt, count_occ, if_pos (by omega), show (((f i).toNat : Nat) : Int) = f i by omega]
    exact occ_lt f hi
  obtain ⟨r1, r2⟩ := rd_sym (w := w) hc (l := (f i).toNat) (by omega) q0 q1 hL h
  refine ⟨?_, r2⟩
  rw [r1]
  exact hsym i hi hci

theorem rd_snd {S : ByteArray} {L Y : List Int} {w : Int} {c : Nat → Int} {N sz : Nat} (h1 : 1 ≤ N) (h272 : N ≤ 272) (hN : (N : Int) ≤ 2 ^ sz) (c0 : ∀ i, 0 ≤ c i) (cs : sumTo c N ≤ 4096) (hL : isBits L) (h : TextOf S (L ++ (tellL (sndOf c N sz) N sz ++ Y))) :
    codeS S N sz (atX L.length w) = atX (L ++ tellL (sndOf c N sz) N sz).length w ∧ Says (sndOf c N sz) N (codeWs (codeC S N sz (atX L.length w)).1 (codeC S N sz (atX L.length w)).2) c := by
  have key_full : 2 ≤ usedTo c N → TextOf S (L ++ (tellL (fullSnd c N) N sz ++ Y)) → codeS S N sz (atX L.length w) = atX (L ++ tellL (fullSnd c N) N sz).length w ∧ Says (fullSnd c N) N (codeWs (codeC S N sz (atX L.length w)).1 (codeC S N sz (atX L.length w)).2) c := by
    intro hu h
    obtain ⟨fits, hsum⟩ := lensFor_full c0 cs hu
    have hb : ∀ i, 0 ≤ lensFor c N i ∧ lensFor c N i ≤ 12 := by
      intro i
      by_cases hi : i < N ∧ 0 < c i
      · have := fits.used i hi.1 hi.2
        omega
      · rw [fits.none i (fun a b => hi ⟨a, b⟩)]
        omega
    have e : tellL (fullSnd c N) N sz = numBits 1 1 ++ tellGo (lensFor c N) N (N + 1) 0 := by
      unfold tellL fullSnd
      rw [if_neg (by show ¬ 0 < 0; omega)]
    rw [e] at h ⊢
    obtain ⟨r1, r2⟩ := rd_full (w := w) (sz := sz) hb hsum hL h
    have hcod := code_cod (S := S) (N := N) (sz := sz) (x := atX L.length w) h272 (by rw [r1]; rfl)
    refine ⟨r1, ?_⟩
    rw [r2] at hcod ⊢
    exact says_len (f := lensFor c N) rfl rfl hcod (fun i hi hci => fits.used i hi hci) (fun i hi hci => by
      have := fits.used i hi hci
      exact (order_spec (lensFor c N) (fun _ => 0) N h272 N (Nat.le_refl _)).2 i hi this.1 this.2)
  have key_simp : usedTo c N ≤ 4 → TextOf S (L ++ (tellL (simpSnd c N) N sz ++ Y)) → codeS S N sz (atX L.length w) = atX (L ++ tellL (simpSnd c N) N sz).length w ∧ Says (simpSnd c N) N (codeWs (codeC S N sz (atX L.length w)).1 (codeC S N sz (atX L.length w)).2) c := by
    intro hu h
    have nb : 1 ≤ smN c N ∧ smN c N ≤ 4 := by
      have := smGo_le c N
      unfold smN
      split <;> omega
    have ok : NamesOk N (smGo c N).2 (smN c N) := by
      have hk := (smGo_ok c N N (Nat.le_refl _)).1
      unfold smN
      split
      · rename_i hz
        have e0 : ∀ i, (smGo c i).1 = 0 → (smGo c i).2 = fun _ => 0 := by
          intro i
          induction i with
          | zero => intro _; rfl
          | succ i ih =>
            intro h
            unfold smGo at h ⊢
            by_cases hc : 0 < c i ∧ (smGo c i).1 < 4
            · rw [if_pos hc] at h
              cases h
            · rw [if_neg hc] at h ⊢
              exact ih h
        refine ⟨fun p hp => ?_, fun p hp => absurd hp (by omega)⟩
        rw [e0 N hz]
        show (0 : Int) ≤ 0 ∧ (0 : Int) < N
        omega
      · exact hk
    obtain ⟨all1, all2⟩ := smGo_all c N hu
    have named : ∀ j, j < N → 0 < c j → ∃ p, p < smN c N ∧ (smGo c N).2 p = j := by
      intro j hj hcj
      obtain ⟨p, p1, p2⟩ := all2 j hj hcj
      refine ⟨p, ?_, p2⟩
      unfold smN
      split <;> omega
    have e : tellL (simpSnd c N) N sz = numBits 0 1 ++ (numBits ((smN c N : Int) - 1) 2 ++ namesL (smGo c N).2 sz (smN c N)) := by
      unfold tellL simpSnd
      rw [if_pos (show 0 < smN c N from nb.1)]
    rw [e] at h ⊢
    obtain ⟨r1, r2, r3⟩ := rd_simple (w := w) nb.1 nb.2 ok hN hL h
    have hcod := code_cod (S := S) (N := N) (sz := sz) (x := atX L.length w) h272 (by rw [r1]; rfl)
    refine ⟨r1, ?_⟩
    rw [r2] at hcod ⊢
    generalize (codeC S N sz (atX L.length w)).2 = sym at *
    by_cases n1 : smN c N = 1
    · intro i hi hci S' L' Y' w' hL' h'
      obtain ⟨p, p1, p2⟩ := named i hi hci
      have p0 : p = 0 := by omega
      subst p0
      have ef : (simpSnd c N).len i = 0 := by
        show slenGo (smN c N) (smGo c N).2 (smN c N) i = 0
        rw [n1, slen_one]
      have ep : putL (simpSnd c N) N i = numBits (msb (firstOf (simpleCnt (smN c N : Int)) 0 + 0) 0) 0 := by
        unfold putL
        rw [ef]
        rfl
      rw [ep] at h' ⊢
      obtain ⟨q1, q2⟩ := rd_sym (w := w') hcod (l := 0) (q := 0) (by omega) (Int.le_refl _) (by rw [n1]; decide) hL' h'
      refine ⟨?_, q2⟩
      rw [q1]
      have : sym (aheadOf (simpleCnt (smN c N : Int)) 0 + 0).toNat = sym 0 := rfl
      rw [this, r3 0 (by omega), p2]
    · have n2 : 2 ≤ smN c N := by omega
      have hlen : (simpSnd c N).len = lenF (smN c N) (smGo c N).2 (smN c N) := slen_lenF _ n1 _
      have hcnt : simpleCnt (smN c N : Int) = (countGo (lenF (smN c N) (smGo c N).2 (smN c N)) N).1 := (simp_count n2 nb.2 ok).symm
      refine says_len hlen hcnt hcod (fun i hi hci => ?_) (fun i hi hci => ?_)
      · obtain ⟨p, p1, p2⟩ := named i hi hci
        have := lenF_at (n := smN c N) ok p p1
        rw [p2, Int.toNat_natCast] at this
        rw [this]
        unfold simpLen
        split <;> omega
      · obtain ⟨p, p1, p2⟩ := named i hi hci
        have := simp_place n2 nb.2 ok p p1
        rw [p2, Int.toNat_natCast] at this
        rw [this, Int.toNat_natCast, r3 p p1, p2]
  revert h
  unfold sndOf
  intro h
  by_cases u2 : usedTo c N ≤ 2
  · rw [if_pos u2] at h ⊢
    exact key_simp (by omega) h
  rw [if_neg u2] at h ⊢
  by_cases u4 : 4 < usedTo c N
  · rw [if_pos u4] at h ⊢
    exact key_full (by omega) h
  rw [if_neg u4] at h ⊢
  by_cases hc : costOf (simpSnd c N) c N sz ≤ costOf (fullSnd c N) c N sz
  · rw [if_pos hc] at h ⊢
    exact key_simp (by omega) h
  · rw [if_neg hc] at h ⊢
    exact key_full (by omega) h
end Wr
