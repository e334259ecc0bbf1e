import Derived.Test.YtmpfgdmdnghhgaaGreatQ3
import Derived.Test.YtmpfgdmdnghhgaaGreatX1
/- HOW SHORT A STREAM IS THAT COMES AGAIN AND AGAIN. -/
namespace Go.Proofs.YtmpfgdmdnghhgaaGreat
open Go.RowKit Wr

/-- a byte of a text that comes again -/
def ptB (p : ByteArray) (i : Nat) : UInt8 := p.data.toList.getD (i % p.size) 0
/-- a part of it -/
def IsPt (p : ByteArray) (o : Nat) (P : List UInt8) : Prop := ∀ i, i < P.length → P.getD i 0 = ptB p (o + i)
theorem pt_per {p : ByteArray} {o : Nat} {P : List UInt8} (h : IsPt p o P) : Per P p.size := by
  intro i hi
  have e1 := h (i + p.size) hi
  have e2 := h i (by omega)
  unfold pB
  rw [e1, e2]
  unfold ptB
  rw [show o + (i + p.size) = o + i + p.size by omega, Nat.add_mod_right]
theorem pt_tail {p : ByteArray} {o : Nat} {c : UInt8} {l : List UInt8} (h : IsPt p o (c :: l)) : c = ptB p o ∧ IsPt p (o + 1) l := by
  refine ⟨h 0 (by rw [List.length_cons]; omega), fun i hi => ?_⟩
  have := h (i + 1) (by rw [List.length_cons]; omega)
  rw [show o + (i + 1) = o + 1 + i by omega] at this
  exact this
theorem pt_snoc {p : ByteArray} {o : Nat} {c : UInt8} {l : List UInt8} (h : IsPt p o l) (hc : c = ptB p (o + l.length)) : IsPt p o (l ++ [c]) := by
  intro i hi
  rw [List.length_append, List.length_singleton] at hi
  rw [List.getD_eq_getElem?_getD]
  by_cases e : i < l.length
  · rw [List.getElem?_append_left e, ← List.getD_eq_getElem?_getD]
    exact h i e
  · have e2 : i = l.length := by omega
    subst e2
    rw [List.getElem?_append_right (Nat.le_refl _), Nat.sub_self]
    exact hc
/-- how long a block of it is -/
structure Lim (p : ByteArray) (lv wn C : Int) : Prop where
  l1 : 1 ≤ lv
  c0 : 0 ≤ C
  best : ∀ (far : Nat → Int) (P : List UInt8) (o : Nat), P.length ≤ 4096 → IsPt p o P → ((bestL ⟨lv, wn, far⟩ P).1.length : Int) + 40 ≤ C
section
variable {p : ByteArray} {lv wn C : Int}
theorem blk_lim (hL : Lim p lv wn C) {k : Wk} (h1 : k.lv = lv) (h2 : k.wn = wn) (L : List Int) (l : Bool) {P : List UInt8} {o : Nat} (hP : P.length ≤ 4096) (hp : IsPt p o P) : ((blkS k L l P).2.length : Int) ≤ L.length + C - 18 ∧ (blkS k L l P).1.lv = lv ∧ (blkS k L l P).1.wn = wn := by
  have hb := hL.best k.far P o hP hp
  have hl1 := hL.l1
  have hk : (⟨lv, wn, k.far⟩ : Wk) = k := by rw [← h1, ← h2]
  rw [hk] at hb
  unfold blkS codedP
  rw [if_neg (by omega)]
  by_cases hc : 8 * P.length ≤ (bestL k P).1.length
  · rw [if_pos hc]
    refine ⟨?_, h1, h2⟩
    show ((stoL L l P).length : Int) ≤ _
    unfold stoL
    have e1 := padL_le (headL L l 1 ++ numBits ((P.length : Int) - 1) 12)
    have e2 := headL_length L l 1
    rw [List.length_append, numBits_length] at e1
    rw [List.length_append, byteBits_length]
    omega
  · rw [if_neg hc]
    refine ⟨?_, h1, h2⟩
    show ((codL L l P (bestL k P).1).length : Int) ≤ _
    unfold codL
    rw [List.length_append, List.length_append, headL_length, numBits_length]
    omega
theorem let_lim (hL : Lim p lv wn C) {u : St} (h1 : u.k.lv = lv) (h2 : u.k.wn = wn) {P : List UInt8} {o : Nat} (hP : P.length ≤ 4096) (hp : IsPt p o P) : ((letS u P).L.length : Int) ≤ u.L.length + C - 18 ∧ (letS u P).k.lv = lv ∧ (letS u P).k.wn = wn := by
  have hb := hL.best u.k.far P o hP hp
  unfold letS
  by_cases e : P = []
  · rw [if_pos e]
    exact ⟨by omega, h1, h2⟩
  · rw [if_neg e]
    exact blk_lim hL h1 h2 u.L false hP hp
theorem write_lim (hL : Lim p lv wn C) (K : Int) : ∀ (l : List UInt8) (e : St × List UInt8) (n F : Nat), e.2.length ≤ 4096 → e.1.k.lv = lv → e.1.k.wn = wn → IsPt p (n - e.2.length) e.2 → IsPt p n l → 4096 * F + e.2.length ≤ n → (e.1.L.length : Int) ≤ K + C * F →
    (writeS e l).2.length ≤ 4096 ∧ (writeS e l).1.k.lv = lv ∧ (writeS e l).1.k.wn = wn ∧ IsPt p (n + l.length - (writeS e l).2.length) (writeS e l).2 ∧ ∃ F' : Nat, 4096 * F' + (writeS e l).2.length ≤ n + l.length ∧ ((writeS e l).1.L.length : Int) ≤ K + C * F'
  | [], e, n, F, h1, h2, h3, h4, _, h6, h7 => ⟨h1, h2, h3, h4, F, h6, h7⟩
  | c :: l, e, n, F, h1, h2, h3, h4, h5, h6, h7 => by
    obtain ⟨hc, hl⟩ := pt_tail h5
    have c0 := hL.c0
    by_cases hf : 4096 ≤ e.2.length
    · have ha : addS e c = (blkT e.1 false e.2, [c]) := by unfold addS; rw [if_pos hf]
      obtain ⟨b1, b2, b3⟩ := blk_lim hL h2 h3 e.1.L false h1 h4
      have hm : C * ((F + 1 : Nat) : Int) = C * F + C := by rw [Int.natCast_add, Int.mul_add]; omega
      have ih := write_lim hL K l (addS e c) (n + 1) (F + 1) (by rw [ha]; show 1 ≤ 4096; omega) (by rw [ha]; exact b2) (by rw [ha]; exact b3)
        (by rw [ha]; intro i hi; have hi' : i < 1 := hi; rw [show i = 0 by omega]; exact hc) hl (by rw [ha]; show 4096 * (F + 1) + 1 ≤ n + 1; omega) (by
        rw [ha, hm]
        show ((blkS e.1.k e.1.L false e.2).2.length : Int) ≤ _
        omega)
      rw [show n + 1 + l.length = n + (c :: l).length by rw [List.length_cons]; omega] at ih
      exact ih
    · have ha : addS e c = (e.1, e.2 ++ [c]) := by unfold addS; rw [if_neg hf]
      have hel : (e.2 ++ [c]).length = e.2.length + 1 := by rw [List.length_append]; rfl
      have ih := write_lim hL K l (addS e c) (n + 1) F (by rw [ha]; show (e.2 ++ [c]).length ≤ 4096; omega) (by rw [ha]; exact h2) (by rw [ha]; exact h3)
        (by
          rw [ha]
          show IsPt p (n + 1 - (e.2 ++ [c]).length) (e.2 ++ [c])
          rw [hel, show n + 1 - (e.2.length + 1) = n - e.2.length by omega]
          exact pt_snoc h4 (by rw [show n - e.2.length + e.2.length = n by omega]; exact hc)) hl (by rw [ha]; show 4096 * F + (e.2 ++ [c]).length ≤ n + 1; omega) (by rw [ha]; exact h7)
      rw [show n + 1 + l.length = n + (c :: l).length by rw [List.length_cons]; omega] at ih
      exact ih

/-- a work of such a text -/
structure SP (p : ByteArray) (lv wn C : Int) (r : Rn) : Prop where
  lv : r.u.k.lv = lv
  wn : r.u.k.wn = wn
  few : r.P.length ≤ 4096
  pt : IsPt p (r.k.plain.size - r.P.length) r.P
  f0 : 0 ≤ r.k.flushes
  n0 : 0 ≤ r.k.notes
  b0 : 0 ≤ r.k.bytes
  ex : ∃ F : Nat, 4096 * F + r.P.length ≤ r.k.plain.size ∧ (r.u.L.length : Int) ≤ 4 + 8 * r.k.bytes + C * (r.k.flushes + r.k.notes) + C * F
theorem empty_le (L : List Int) (l : Bool) : (emptyL L l).length ≤ L.length + 10 := by
  unfold emptyL
  have h1 := padL_le (headL L l 0)
  have h2 := headL_length L l 0
  omega
theorem callS_lim (hL : Lim p lv wn C) (kind : Int) (T : ByteArray) {r : Rn} (h : SP p lv wn C r) (hT : kind = 1 → IsPt p r.k.plain.size T.data.toList) : SP p lv wn C (callS kind T r) := by
  obtain ⟨F, e1, e2⟩ := h.ex
  have c0 := hL.c0
  have hts := noteT_size T
  have f0 := h.f0
  have n0 := h.n0
  have b0 := h.b0
  unfold callS
  by_cases k1 : kind = 1
  · rw [if_pos k1]
    have hTs : T.data.toList.length = T.size := by simp
    have hp : (r.k.plain ++ T).size = r.k.plain.size + T.data.toList.length := by rw [ByteArray.size_append, hTs]
    obtain ⟨g1, g2, g3, g4, F', g5, g6⟩ := write_lim hL (4 + 8 * r.k.bytes + C * (r.k.flushes + r.k.notes)) T.data.toList (r.u, r.P) r.k.plain.size F h.few h.lv h.wn h.pt (hT k1) e1 e2
    refine ⟨g2, g3, g1, ?_, f0, n0, b0, F', ?_, g6⟩
    · show IsPt p ((r.k.plain ++ T).size - (writeS (r.u, r.P) T.data.toList).2.length) (writeS (r.u, r.P) T.data.toList).2
      rw [hp]
      exact g4
    · show 4096 * F' + (writeS (r.u, r.P) T.data.toList).2.length ≤ (r.k.plain ++ T).size
      rw [hp]
      exact g5
  rw [if_neg k1]
  obtain ⟨l1, l2, l3⟩ := let_lim hL h.lv h.wn h.few h.pt
  by_cases k2 : kind = 2
  · rw [if_pos k2]
    have hm : C * (r.k.flushes + 1 + r.k.notes) = C * (r.k.flushes + r.k.notes) + C := by rw [show r.k.flushes + 1 + r.k.notes = r.k.flushes + r.k.notes + 1 by omega, Int.mul_add, Int.mul_one]
    have hfl : ((flushS r.u r.P).L.length : Int) ≤ r.u.L.length + C ∧ (flushS r.u r.P).k.lv = lv ∧ (flushS r.u r.P).k.wn = wn := by
      unfold flushS
      split
      · exact ⟨by omega, l2, l3⟩
      · have := empty_le (letS r.u r.P).L false
        exact ⟨by show ((emptyL (letS r.u r.P).L false).length : Int) ≤ _; omega, l2, l3⟩
    refine ⟨hfl.2.1, hfl.2.2, Nat.zero_le _, (fun i hi => absurd hi (Nat.not_lt_zero _)), by show 0 ≤ r.k.flushes + 1; omega, n0, b0, F, by show 4096 * F + 0 ≤ r.k.plain.size; omega, ?_⟩
    show ((flushS r.u r.P).L.length : Int) ≤ 4 + 8 * r.k.bytes + C * (r.k.flushes + 1 + r.k.notes) + C * F
    rw [hm]
    omega
  rw [if_neg k2]
  by_cases k3 : kind = 3
  · rw [if_pos k3]
    have hm : C * (r.k.flushes + (r.k.notes + 1)) = C * (r.k.flushes + r.k.notes) + C := by rw [show r.k.flushes + (r.k.notes + 1) = r.k.flushes + r.k.notes + 1 by omega, Int.mul_add, Int.mul_one]
    have hNT : (noteT T).data.toList.length = (noteT T).size := by simp
    have hn := noteL_length (letS r.u r.P).L (noteT T).data.toList
    refine ⟨l2, l3, Nat.zero_le _, (fun i hi => absurd hi (Nat.not_lt_zero _)), f0, by show 0 ≤ r.k.notes + 1; omega, by show 0 ≤ r.k.bytes + ((noteT T).size : Int); omega, F, by show 4096 * F + 0 ≤ r.k.plain.size; omega, ?_⟩
    show ((noteL (letS r.u r.P).L (noteT T).data.toList).length : Int) ≤ 4 + 8 * (r.k.bytes + ((noteT T).size : Int)) + C * (r.k.flushes + (r.k.notes + 1)) + C * F
    rw [hm]
    omega
  rw [if_neg k3]
  exact h
theorem end_lim {E : Int} (hL : Lim p lv wn (8 * E)) {r : Rn} (h : SP p lv wn (8 * E) r) : ((endOut r).size : Int) ≤ r.k.bytes + E * (((r.k.plain.size : Int) + 4095) / 4096 + r.k.flushes + r.k.notes) + 8 := by
  obtain ⟨F, e1, e2⟩ := h.ex
  have c0 := hL.c0
  have hE : 0 ≤ E := by omega
  have hb : ∀ z : Int, z ≤ ((r.k.plain.size : Int) + 4095) / 4096 → E * z ≤ E * (((r.k.plain.size : Int) + 4095) / 4096) := fun z hz => Int.mul_le_mul_of_nonneg_left hz hE
  have h1 : (8 * E) * (r.k.flushes + r.k.notes) = 8 * (E * (r.k.flushes + r.k.notes)) := by rw [Int.mul_assoc]
  have h2 : (8 * E) * (F : Int) = 8 * (E * F) := by rw [Int.mul_assoc]
  have h3 : E * (((r.k.plain.size : Int) + 4095) / 4096 + r.k.flushes + r.k.notes) = E * (((r.k.plain.size : Int) + 4095) / 4096) + E * (r.k.flushes + r.k.notes) := by rw [Int.add_assoc, Int.mul_add]
  rw [h1, h2] at e2
  rw [h3]
  unfold endOut
  rw [bytesL_size]
  unfold finS
  by_cases hP : r.P = []
  · rw [if_pos hP]
    have := empty_le r.u.L true
    have hF := hb F (by omega)
    show (((emptyL r.u.L true).length / 8 : Nat) : Int) ≤ _
    omega
  · rw [if_neg hP]
    obtain ⟨b1, _, _⟩ := blk_lim hL h.lv h.wn r.u.L true h.few h.pt
    have hpos : 1 ≤ r.P.length := by
      cases hq : r.P with
      | nil => exact absurd hq hP
      | cons a b => rw [List.length_cons]; omega
    have hF := hb ((F : Int) + 1) (by omega)
    rw [Int.mul_add, Int.mul_one] at hF
    have hpd := padL_le (blkS r.u.k r.u.L true r.P).2
    show (((padL (blkS r.u.k r.u.L true r.P).2).length / 8 : Nat) : Int) ≤ _
    omega
end

/- the limits -/
theorem best_let (k : Wk) (P : List UInt8) : (bestL k P).1.length ≤ (bodyL (lettersC P)).length := by
  unfold bestL
  split
  · rename_i h
    exact Nat.le_of_lt h.2
  · exact Nat.le_refl _
theorem best_copy (k : Wk) (P : List UInt8) (h : 2 ≤ k.lv) : (bestL k P).1.length ≤ (bodyL (copiesC P k.wn k.far).1).length := by
  unfold bestL
  split
  · exact Nat.le_refl _
  · rename_i hc
    have : ¬ (bodyL (copiesC P k.wn k.far).1).length < (bodyL (lettersC P)).length := fun q => hc ⟨h, q⟩
    show (bodyL (lettersC P)).length ≤ _
    omega
theorem lim_one {p : ByteArray} (hp : p.size = 1) {lv wn : Int} (h1 : 1 ≤ lv) : Lim p lv wn (8 * 12) := by
  refine ⟨h1, by omega, fun far P o _ h => ?_⟩
  have h2 := pt_per h
  rw [hp] at h2
  have h3 := body_one h2
  have h4 := best_let ⟨lv, wn, far⟩ P
  omega
theorem lim_many {p : ByteArray} (h1 : 1 ≤ p.size) (h16 : p.size ≤ 16) {lv wn : Int} (h2 : lv = 2) (hw : 16 ≤ wn) : Lim p lv wn (8 * 128) := by
  refine ⟨by omega, by omega, fun far P o hP h => ?_⟩
  obtain ⟨_, hl⟩ := copiesC_ok (P := P) (win := wn) far hP
  have fA : ∀ i, 0 ≤ (sndL (copiesC P wn far).1).len i ∧ (sndL (copiesC P wn far).1).len i ≤ 12 := by
    unfold sndL
    exact (snd_ok (cntL (copiesC P wn far).1) 272 9 (by omega) (by show ((272 : Nat) : Int) ≤ 512; omega) (cntL_Cnt _ hl)).2.2.1
  have fB : ∀ i, 0 ≤ (sndF (copiesC P wn far).1).len i ∧ (sndF (copiesC P wn far).1).len i ≤ 12 := by
    unfold sndF
    exact (snd_ok (cntF (copiesC P wn far).1) 16 4 (by omega) (by show ((16 : Nat) : Int) ≤ 16; omega) (cntF_Cnt _ hl)).2.2.1
  have h3 := body_again far hP (pt_per h) h1 h16 hw fA fB
  have h4 := best_copy ⟨lv, wn, far⟩ P (by show 2 ≤ lv; omega)
  have h4' : (bestL ⟨lv, wn, far⟩ P).1.length ≤ (bodyL (copiesC P wn far).1).length := h4
  omega

/- the text that is written -/
def againP (t : ByteArray) (n : Nat) : List Int := (List.range n).map fun i => ((t.data.toList.getD (i % t.size) 0).toNat : Int)
theorem againP_succ (t : ByteArray) (n : Nat) : againP t (n + 1) = againP t n ++ [((t.data.toList.getD (n % t.size) 0).toNat : Int)] := by simp [againP, List.range_succ]
theorem againP_length (t : ByteArray) (n : Nat) : (againP t n).length = n := by simp [againP]
/-- m bytes behind n of them -/
def agT (p : ByteArray) (n m : Nat) : ByteArray := (outStr (againP p (n + m))).extract n (n + m)
theorem again_list (p : ByteArray) (n : Nat) : (outStr (againP p n)).data.toList = (List.range n).map (ptB p) := by
  rw [outStr_list]
  unfold againP
  rw [List.map_map]
  refine List.map_congr_left fun i _ => ?_
  show UInt8.ofNat (((p.data.toList.getD (i % p.size) 0).toNat : Int)).toNat = ptB p i
  rw [Int.toNat_natCast]
  exact UInt8.ofNat_toNat
theorem again_size (p : ByteArray) (n : Nat) : (outStr (againP p n)).size = n := by
  have h : (outStr (againP p n)).data.toList.length = n := by rw [again_list, List.length_map, List.length_range]
  have h2 : (outStr (againP p n)).data.toList.length = (outStr (againP p n)).size := by simp
  omega
theorem agT_list (p : ByteArray) (n m : Nat) : (agT p n m).data.toList = ((List.range (n + m)).map (ptB p)).drop n := by
  unfold agT
  rw [Lib.extract_data, again_list, Nat.add_sub_cancel_left]
  exact List.take_of_length_le (by rw [List.length_drop, List.length_map, List.length_range]; omega)
theorem agT_size (p : ByteArray) (n m : Nat) : (agT p n m).size = m := by
  have h : (agT p n m).data.toList.length = m := by rw [agT_list, List.length_drop, List.length_map, List.length_range]; omega
  have h2 : (agT p n m).data.toList.length = (agT p n m).size := by simp
  omega
theorem agT_pt (p : ByteArray) (n m : Nat) : IsPt p n (agT p n m).data.toList := by
  rw [agT_list]
  intro i hi
  rw [List.length_drop, List.length_map, List.length_range] at hi
  rw [List.getD_eq_getElem?_getD, List.getElem?_drop, List.getElem?_map, List.getElem?_range (by omega)]
  rfl
def plainN (c : Nat → Int × ByteArray) : Nat → Nat
  | 0 => 0
  | n + 1 => plainN c n + if (c n).1 = 1 then (c n).2.size else 0
/-- the calls as they are made -/
def cAg (p : ByteArray) (c : Nat → Int × ByteArray) (i : Nat) : Int × ByteArray := if (c i).1 = 1 then ((c i).1, agT p (plainN c i) (c i).2.size) else c i
theorem cAg_kind (p : ByteArray) (c : Nat → Int × ByteArray) (i : Nat) : (cAg p c i).1 = (c i).1 := by
  unfold cAg
  split <;> rfl
theorem cAg_size (p : ByteArray) (c : Nat → Int × ByteArray) (i : Nat) : (cAg p c i).2.size = (c i).2.size := by
  unfold cAg
  split
  · exact agT_size _ _ _
  · rfl
theorem cAg_bulk (p : ByteArray) (c : Nat → Int × ByteArray) : ∀ n, bulk (cAg p c) n = bulk c n
  | 0 => rfl
  | n + 1 => by
    show bulk (cAg p c) n + ((cAg p c n).2.size + 4) = bulk c n + ((c n).2.size + 4)
    rw [cAg_bulk p c n, cAg_size]
theorem plainN_le (c : Nat → Int × ByteArray) : ∀ n, plainN c n ≤ bulk c n
  | 0 => Nat.le_refl _
  | n + 1 => by
    have := plainN_le c n
    show plainN c n + _ ≤ bulk c n + ((c n).2.size + 4)
    split <;> omega
theorem plain_is (c : Nat → Int × ByteArray) (p : ByteArray) (r : Rn) (h0 : r.k.plain.size = 0) : ∀ n, (runS (cAg p c) r n).k.plain.size = plainN c n
  | 0 => h0
  | n + 1 => by
    have ih := plain_is c p r h0 n
    show (callS (cAg p c n).1 (cAg p c n).2 (runS (cAg p c) r n)).k.plain.size = plainN c n + _
    rw [cAg_kind]
    unfold callS
    by_cases k1 : (c n).1 = 1
    · rw [if_pos k1, if_pos k1]
      show ((runS (cAg p c) r n).k.plain ++ (cAg p c n).2).size = _
      rw [ByteArray.size_append, ih, cAg_size]
    rw [if_neg k1, if_neg k1]
    split
    · exact ih
    · split
      · exact ih
      · exact ih
theorem run_lim {p : ByteArray} {C : Int} (c : Nat → Int × ByteArray) (x l : Int) (hL : Lim p (levelP l) (16 * 2 ^ (windowP x).toNat) C) : ∀ n, SP p (levelP l) (16 * 2 ^ (windowP x).toNat) C (runS (cAg p c) (initS x l) n)
  | 0 => by
    refine ⟨rfl, rfl, Nat.zero_le _, (fun i hi => absurd hi (Nat.not_lt_zero _)), Int.le_refl _, Int.le_refl _, Int.le_refl _, 0, Nat.le_refl _, ?_⟩
    show ((numBits (windowP x) 4).length : Int) ≤ 4 + 8 * 0 + C * (0 + 0) + C * ((0 : Nat) : Int)
    rw [numBits_length, show ((0 : Nat) : Int) = 0 from rfl, Int.add_zero, Int.mul_zero]
    omega
  | n + 1 => by
    refine callS_lim hL _ _ (run_lim c x l hL n) fun hk => ?_
    rw [cAg_kind] at hk
    rw [plain_is c p (initS x l) rfl n]
    unfold cAg
    rw [if_pos hk]
    exact agT_pt _ _ _
theorem end_shorter {p : ByteArray} {E : Int} (c : Nat → Int × ByteArray) (x l : Int) (n : Nat) (hL : Lim p (levelP l) (16 * 2 ^ (windowP x).toNat) (8 * E)) :
    ((endOut (runS (cAg p c) (initS x l) n)).size : Int) ≤ (runS (cAg p c) (initS x l) n).k.bytes + E * ((((runS (cAg p c) (initS x l) n).k.plain.size : Int) + 4095) / 4096 + (runS (cAg p c) (initS x l) n).k.flushes + (runS (cAg p c) (initS x l) n).k.notes) + 8 :=
  end_lim hL (run_lim c x l hL n)
end Go.Proofs.YtmpfgdmdnghhgaaGreat
