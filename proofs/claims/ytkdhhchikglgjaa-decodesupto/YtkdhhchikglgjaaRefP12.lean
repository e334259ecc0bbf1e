/- A CODE, WHOLE: the document's and the reader's. No Go. -/
import Derived.Test.YtkdhhchikglgjaaRefP11
namespace Wr

theorem numS_off {S : ByteArray} {x : Sr} (h : x.state ≠ 0) (n : Nat) : numS S x n = x := by unfold numS; rw [if_pos h]
theorem fullOne_halt {S : ByteArray} {f : Nat → Int} {n : Nat} {x : Sr} (h : (numS S x 4).state ≠ 0) : (fullOne S f n x).2.2 = numS S x 4 := by
  unfold fullOne
  split
  · dsimp only
    rw [needS_stop h, numS_off h]
  · split
    · dsimp only
      rw [numS_off h]
    · split
      · dsimp only
        rw [numS_off h]
      · rfl
theorem full_end {S : ByteArray} {N g : Nat} {f : Nat → Int} {n : Nat} {x y : Sr} (hn : n < N) (h0 : x.state = 0) (he : (fullOne S f n x).2.2 = y) (hy : y.state ≠ 0) : fullEndS S N (g + 1) f n x = y := by
  have st : fullGo S N (g + 1) f n x = (f, n, y) := by
    conv => lhs; unfold fullGo
    rw [if_pos ⟨hn, h0⟩, he, needS_stop hy, if_neg hy]
  exact end_stop st hy

theorem full_sim {S : ByteArray} {N : Nat} (hN : N ≤ 272) : ∀ (g : Nat) (f : Nat → Int) (n : Nat) (x : Sr) (s : Rd), N < n + g → n < N → Inv (setAt S x s) → x.state = 0 → FullAt s N n f →
    CodeEnd S s x (fullEndS S N g f n x) (fullEndC S N g f n x) (fullEndM S N g f n x)
  | 0, _, n, _, _, h, hn, _, _, _ => absurd h (by omega)
  | g + 1, f, n, x, s, hg, hn, hI, h0, hs => by
    have hp := hs.part
    have w4 : mWidth s = ((4 : Nat) : Int) := by
      unfold mWidth
      rw [hs.step]
      rfl
    rcases code_num hI h0 hp w4 with ⟨hn4, hd, hi⟩ | ⟨hn4, hd⟩
    · have cb := numV_bounds S x 4
      rw [show (2 : Int) ^ 4 = 16 from rfl] at cb
      have eg : give s (numV S x 4) = lengthP s (numV S x 4) := by
        unfold give
        rw [hs.step]
        rfl
      by_cases c12 : numV S x 4 ≤ 12
      · have hR : fullOne S f n x = (numV S x 4, ((1 : Nat) : Int), numS S x 4) := by
          unfold fullOne
          rw [if_neg (by omega), if_neg (by omega), if_neg (by omega)]
          rfl
        have e : give s (numV S x 4) = lay s (numV S x 4) ((1 : Nat) : Int) := by
          rw [eg]
          unfold lengthP
          rw [if_pos c12]
          rfl
        rw [useCode_of, e] at hd hi
        exact lay_sim hN hn h0 hn4 hR (Alone.refl s) hs hd hi (by omega) (fun t ht hF hlt => full_sim hN g _ _ _ t (by omega) hlt ht hn4 hF)
      · by_cases c13 : numV S x 4 = 13 ∧ n = 0
        · have hst : (needS (numS S x 4) false).state = 2 := by
            unfold needS
            rw [if_pos ⟨hn4, rfl⟩]
          have e : give s (numV S x 4) = (s, 2) := by
            rw [eg]
            unfold lengthP
            rw [if_neg c12, if_pos ⟨c13.1, by rw [hs.at_, c13.2]; rfl⟩]
          have he : (fullOne S f n x).2.2 = needS (numS S x 4) false := by
            unfold fullOne
            rw [if_pos c13.1, decide_eq_false (by omega)]
            dsimp only
            exact numS_off (by rw [hst]; omega) 2
          rw [useCode_wrong e] at hd
          have fe := fault_end (S := S) (x := numS S x 4) (s := s)
          have es := full_end (g := g) hn h0 he (by rw [hst]; omega)
          exact .wrong (by rw [es]; exact hst) (by rw [hd]; exact fe.1) (by rw [hd]; exact fe.2)
        · have e : give s (numV S x 4) = ({ s with mrepeat := numV S x 4, mstep := 4 }, 0) := by
            rw [eg]
            unfold lengthP
            rw [if_neg c12, if_neg (fun q => c13 ⟨q.1, by have := q.2; rw [hs.at_] at this; omega⟩)]
          rw [useCode_more2 e] at hd hi
          have key : ∀ (k : Nat) (V base : Int), 1 ≤ base → mWidth { s with mrepeat := numV S x 4, mstep := 4 } = k → (∀ v : Int, times { s with mrepeat := numV S x 4, mstep := 4 } v = lay { s with mrepeat := numV S x 4, mstep := 3 } V (base + v)) →
              fullOne S f n x = (V, base + numV S (numS S x 4) k, numS S (numS S x 4) k) → CodeEnd S s x (fullEndS S N (g + 1) f n x) (fullEndC S N (g + 1) f n x) (fullEndM S N (g + 1) f n x) := by
            intro k V base hb hw ht hR
            have vb := numV_bounds S (numS S x 4) k
            rcases code_num (s := { s with mrepeat := numV S x 4, mstep := 4 }) hi hn4 hp hw with ⟨hk, hd2, hi2⟩ | ⟨hk, hd2⟩
            · have e2 : give { s with mrepeat := numV S x 4, mstep := 4 } (numV S (numS S x 4) k) = lay { s with mrepeat := numV S x 4, mstep := 3 } V (base + numV S (numS S x 4) k) := ht _
              rw [useCode_of, e2] at hd2 hi2
              obtain ⟨T, hT⟩ : ∃ T : Nat, base + numV S (numS S x 4) k = (T : Int) := ⟨(base + numV S (numS S x 4) k).toNat, by omega⟩
              rw [hT] at hd2 hi2 hR
              exact lay_sim hN hn h0 hk hR (s2 := { s with mrepeat := numV S x 4, mstep := 3 }) ⟨rfl, rfl, rfl, rfl, rfl, rfl, rfl, rfl, rfl, rfl, rfl, rfl, rfl, rfl⟩ ⟨hs.part, rfl, hs.size, hs.at_, hs.len⟩ (hd.trans hd2) hi2 (by omega) (fun t ht hF hlt => full_sim hN g _ _ _ t (by omega) hlt ht hk hF)
            · have es := full_end (g := g) hn h0 (by rw [hR]) (show (numS S (numS S x 4) k).state ≠ 0 by rw [hk]; omega)
              exact .stuck (by rw [es]; exact hk) (by rw [hd, hd2]; show s.part ≤ 9; omega) (by rw [hd, hd2]; rfl)
          by_cases d13 : numV S x 4 = 13
          · have hn0 : 0 < n := by
              rcases Nat.eq_zero_or_pos n with q | q
              · exact absurd ⟨d13, q⟩ c13
              · exact q
            refine key 2 (f (n - 1)) 3 (by omega) ?_ ?_ ?_
            · unfold mWidth
              show (if (4 : Int) = 0 then (1 : Int) else if (4 : Int) = 1 then 2 else if (4 : Int) = 2 then s.mwidth else if (4 : Int) = 3 then 4 else if numV S x 4 = 13 then 2 else if numV S x 4 = 14 then 3 else 6) = _
              rw [if_neg (by omega), if_neg (by omega), if_neg (by omega), if_neg (by omega), if_pos d13]
              rfl
            · intro v
              unfold times
              dsimp only
              rw [if_pos d13]
              have hbf : before { s with mrepeat := numV S x 4, mstep := 3 } = f (n - 1) := by
                unfold before
                show (if s.mat < 1 ∨ 272 < s.mat then 0 else s.mlen (s.mat - 1).toNat) = _
                rw [if_neg (by rw [hs.at_]; omega), hs.at_, show ((n : Int) - 1).toNat = n - 1 by omega, hs.len (n - 1) (by omega)]
              rw [hbf]
            · unfold fullOne
              rw [if_pos d13, decide_eq_true hn0, needS_true, if_pos hn0]
          · by_cases d14 : numV S x 4 = 14
            · refine key 3 0 3 (by omega) ?_ ?_ ?_
              · unfold mWidth
                show (if (4 : Int) = 0 then (1 : Int) else if (4 : Int) = 1 then 2 else if (4 : Int) = 2 then s.mwidth else if (4 : Int) = 3 then 4 else if numV S x 4 = 13 then 2 else if numV S x 4 = 14 then 3 else 6) = _
                rw [if_neg (by omega), if_neg (by omega), if_neg (by omega), if_neg (by omega), if_neg d13, if_pos d14]
                rfl
              · intro v
                unfold times
                dsimp only
                rw [if_neg d13, if_pos d14]
              · unfold fullOne
                rw [if_neg d13, if_pos d14]
            · refine key 6 0 11 (by omega) ?_ ?_ ?_
              · unfold mWidth
                show (if (4 : Int) = 0 then (1 : Int) else if (4 : Int) = 1 then 2 else if (4 : Int) = 2 then s.mwidth else if (4 : Int) = 3 then 4 else if numV S x 4 = 13 then 2 else if numV S x 4 = 14 then 3 else 6) = _
                rw [if_neg (by omega), if_neg (by omega), if_neg (by omega), if_neg (by omega), if_neg d13, if_neg d14]
                rfl
              · intro v
                unfold times
                dsimp only
                rw [if_neg d13, if_neg d14]
              · unfold fullOne
                rw [if_neg d13, if_neg d14, if_pos (by omega)]
    · have es := full_end (g := g) (f := f) hn h0 (fullOne_halt (by rw [hn4]; omega)) (by rw [hn4]; omega)
      exact .stuck (by rw [es]; exact hn4) (by rw [hd]; show s.part ≤ 9; omega) (by rw [hd]; rfl)

theorem bit_num {S : ByteArray} {x : Sr} (hok : okAt S x) : bitS S x = numS S x 1 ∧ bitV S x = numV S x 1 := by
  have h1 := numS_succ hok 0
  have h2 := numV_succ hok 0
  rw [numS_zero hok] at h1 h2
  rw [numV_zero] at h2
  refine ⟨h1.symm, ?_⟩
  rw [h2, Int.pow_zero]
  omega
/-- a maker that begins -/
structure BeginAt (s : Rd) (N sz : Nat) : Prop where
  part : s.part = 4 ∨ s.part = 5
  step : s.mstep = 0
  size : s.msize = N
  width : s.mwidth = sz
  at_ : s.mat = 0
theorem CodeEnd.from {S : ByteArray} {s t : Rd} {x y z : Sr} {cnt sym : Nat → Int} (h : CodeEnd S t y z cnt sym) (hd : drive (setAt S x s) = drive (setAt S y t)) (ha : Alone s t) : CodeEnd S s x z cnt sym := by
  cases h with
  | stuck h p o => exact .stuck h (by rw [hd]; exact p) (by rw [hd]; exact o.trans ha.out)
  | wrong h p o => exact .wrong h (by rw [hd]; exact p) (by rw [hd]; exact o.trans ha.out)
  | read h u a c m d i => exact .read h u (ha.trans a) c m (hd.trans d) i
theorem code_sim {S : ByteArray} {N sz : Nat} (hN : N ≤ 272) (hN1 : 1 ≤ N) {x : Sr} {s : Rd} (hI : Inv (setAt S x s)) (h0 : x.state = 0) (hok : okAt S x) (hs : BeginAt s N sz) :
    CodeEnd S s x (codeS S N sz x) (codeC S N sz x).1 (codeC S N sz x).2 := by
  obtain ⟨eb, ev⟩ := bit_num hok
  have vb := numV_bounds S x 1
  rw [show (2 : Int) ^ 1 = 2 from rfl] at vb
  have hp := hs.part
  have w1 : mWidth s = ((1 : Nat) : Int) := by
    unfold mWidth
    rw [hs.step]
    rfl
  have eg : give s (numV S x 1) = ({ s with mstep := if numV S x 1 = 1 then 3 else 1 }, 0) := by
    unfold give
    rw [hs.step]
    rfl
  rcases code_num hI h0 hp w1 with ⟨hn, hd, hi⟩ | ⟨hn, hd⟩
  · rw [useCode_more2 eg] at hd hi
    unfold codeS codeC
    rw [eb, ev]
    by_cases hb : numV S x 1 = 0
    · rw [if_pos hb, if_pos hb]
      rw [hb] at hd hi
      have hd1 : drive (setAt S x s) = drive (setAt S (numS S x 1) { s with mstep := 1 }) := hd
      have hi1 : Inv (setAt S (numS S x 1) { s with mstep := 1 }) := hi
      have nb := numV_bounds S (numS S x 1) 2
      rw [show (2 : Int) ^ 2 = 4 from rfl] at nb
      have w2 : mWidth { s with mstep := 1 } = ((2 : Nat) : Int) := rfl
      have eg2 : give { s with mstep := 1 } (numV S (numS S x 1) 2) = ({ s with mwanted := numV S (numS S x 1) 2 + 1, mstep := 2 }, 0) := rfl
      rcases code_num (s := { s with mstep := 1 }) hi1 hn hp w2 with ⟨hn2, hd2, hi2⟩ | ⟨hn2, hd2⟩
      · rw [useCode_more2 eg2] at hd2 hi2
        obtain ⟨k, hk⟩ : ∃ k : Nat, numV S (numS S x 1) 2 + 1 = ((0 + (k + 1) : Nat) : Int) := ⟨(numV S (numS S x 1) 2).toNat, by omega⟩
        have r := names_sim hN k 0 (fun _ => 0) (numS S (numS S x 1) 2) { s with mwanted := numV S (numS S x 1) 2 + 1, mstep := 2 } hi2 hn2 ⟨hs.part, rfl, hs.size, hs.width, hs.at_, hk, fun p hp => absurd hp (by omega)⟩ (by omega)
        have e1 : simpR S N sz (numS S x 1) = nameGo S N sz (k + 1) 0 (fun _ => 0) (numS S (numS S x 1) 2) := by
          unfold simpR
          rw [hk, Int.toNat_natCast, Nat.zero_add]
        have e2 : simpC S N sz (numS S x 1) = (simpleCnt ((0 + (k + 1) : Nat) : Int), (nameGo S N sz (k + 1) 0 (fun _ => 0) (numS S (numS S x 1) 2)).1) := by
          unfold simpC
          rw [e1, hk]
        rw [e1, e2]
        exact r.from (hd1.trans hd2) ⟨rfl, rfl, rfl, rfl, rfl, rfl, rfl, rfl, rfl, rfl, rfl, rfl, rfl, rfl⟩
      · have es : (simpR S N sz (numS S x 1)).2 = numS S (numS S x 1) 2 := by
          unfold simpR
          obtain ⟨k, hk⟩ : ∃ k : Nat, (numV S (numS S x 1) 2 + 1).toNat = k + 1 := ⟨(numV S (numS S x 1) 2).toNat, by omega⟩
          rw [hk]
          unfold nameGo
          have hne : (numS S (numS S x 1) 2).state ≠ 0 := by rw [hn2]; omega
          rw [numS_off hne, needS_stop hne, if_pos hne]
        rw [es]
        exact .stuck hn2 (by rw [hd1, hd2]; show s.part ≤ 9; omega) (by rw [hd1, hd2]; rfl)
    · have h1 : numV S x 1 = 1 := by omega
      rw [if_neg hb, if_neg hb]
      rw [h1] at hd hi
      have r := full_sim hN (N + 1) (fun _ => 0) 0 (numS S x 1) { s with mstep := 3 } (by omega) (by omega) hi hn ⟨hs.part, rfl, hs.size, hs.at_, fun p hp => absurd hp (by omega)⟩
      exact r.from hd ⟨rfl, rfl, rfl, rfl, rfl, rfl, rfl, rfl, rfl, rfl, rfl, rfl, rfl, rfl⟩
  · have hne : (numS S x 1).state ≠ 0 := by rw [hn]; omega
    have v0 : bitV S (numS S x 1) = 0 := by unfold bitV; rw [if_pos hne]
    have es : (codeS S N sz x).state = 1 := by
      unfold codeS
      rw [eb]
      split
      · unfold simpR
        rw [numS_off hne]
        obtain ⟨k, hk⟩ : ∃ k : Nat, (numV S (numS S x 1) 2 + 1).toNat = k + 1 := ⟨(numV S (numS S x 1) 2).toNat, by have := numV_bounds S (numS S x 1) 2; omega⟩
        rw [hk]
        unfold nameGo
        rw [numS_off hne, needS_stop hne, if_pos hne]
        exact hn
      · unfold fullS fullR
        rw [full_stop (N + 1) (fun _ => 0) 0 (fun q => hne q.2)]
        dsimp only
        rw [needS_stop hne]
        exact hn
    exact .stuck es (by rw [hd]; show s.part ≤ 9; omega) (by rw [hd]; rfl)
end Wr
