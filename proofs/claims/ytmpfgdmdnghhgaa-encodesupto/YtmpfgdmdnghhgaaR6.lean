import Derived.Test.YtmpfgdmdnghhgaaR3
import Derived.Test.YtmpfgdmdnghhgaaRefP5
import Derived.Lib.Strings
namespace Go.Proofs.Ytmpfgdmdnghhgaa
open Go.RowKit Wr

def wdCells : List Wd → List Value
  | [] => []
  | x :: l => .int .i64 x.sym :: .string (bstr x.len x.code) :: wdCells l
theorem wdCells_length : ∀ l : List Wd, (wdCells l).length = l.length * 2
  | [] => rfl
  | x :: l => by
    show (wdCells l).length + 1 + 1 = (l.length + 1) * 2
    rw [wdCells_length l]
    omega
theorem wdCells_append : ∀ a b : List Wd, wdCells (a ++ b) = wdCells a ++ wdCells b
  | [], _ => rfl
  | x :: a, b => by
    show _ :: _ :: wdCells (a ++ b) = _ :: _ :: (wdCells a ++ wdCells b)
    rw [wdCells_append a b]

def strN : Value → Nat
  | .string s => s.size
  | _ => 0

theorem info_word : (Try.prog.info? 126).map (fun i => (i.zero, i.size, i.bytes)) = some (some (.agg #[.int .i64 0, .string ByteArray.empty]), 2, 24) := by kernel_rfl

set_option maxRecDepth 100000 in
set_option maxHeartbeats 1000000 in
theorem Rwords_any (w : World) (a : Option Addr) (N cap : Nat) (f : Nat → Int) (hI : Ints w a N f) (hf : ∀ i, i < N → 0 ≤ f i ∧ f i ≤ 12) (hs : (countGo f N).2 = 4096) :
    Calls Try.prog 98 #[.slice a N cap] w fun e w' => ∃ v ws, e = .returned v ∧ WordsAt f N 13 0 ws ∧ w'.ownsRow w.heap.size 126 2 v ws.length (wdCells ws) ∧ Below w.heap.size w w' := by
  obtain ⟨hn, hrow⟩ := hI
  obtain ⟨i0, hi, hz0, hz1, hz2⟩ := info_parts info_word
  have HI : Hid (Try.prog.info? 126 = some i0 ∧ i0.zero = some (.agg #[.int .i64 0, .string ByteArray.empty]) ∧ i0.size = 2 ∧ i0.bytes = 24) := ⟨hi, hz0, hz1, hz2⟩
  clear hi hz0 hz1 hz2
  go_enter Try.func98, Try.ntmps98
  go_wp2
  go_loopw [3, 4, 5] (fun vl vb vn wr => ∃ (n m : Nat) (c : Int) (ws : List Wd), 1 ≤ n ∧ n ≤ 13 ∧ vn = .int .i64 n ∧ vb = .string (bstr m c) ∧ Hid (WordsAt f N n 0 ws ∧ BitsAt f N n 0 ws m c) ∧ wr.ownsRow w.heap.size 126 2 vl ws.length (wdCells ws) ∧ Below w.heap.size w wr) (fun _ _ vn _ => 13 - (intOf vn).toNat)
  case atStart => exact ⟨1, 0, 0, [], by omega, by omega, rfl, rfl, words_start f N, World.ownsRow_nil _ _ _ _, Below.refl _ _⟩
  case round =>
    obtain ⟨n, m, c, ws, hn1, hn2, rfl, rfl, HW, hown, hbw⟩ := hrel
    by_cases hlt : n ≤ 12
    · go_wp2
      rw [show decide ((n : Int) ≤ 12) = true from decide_eq_true (by omega)]
      go_loopw [3, 4, 6] (fun vl vb vi wq => ∃ (i m : Nat) (c : Int) (ws : List Wd), i ≤ N ∧ vi = .int .i64 i ∧ vb = .string (bstr m c) ∧ Hid (WordsAt f N n i ws ∧ BitsAt f N n i ws m c) ∧ wq.ownsRow w.heap.size 126 2 vl ws.length (wdCells ws) ∧ Below w.heap.size w wq) (fun _ _ vi _ => N - (intOf vi).toNat)
      case atStart => exact ⟨0, m, c, ws, by omega, rfl, rfl, HW, hown, hbw⟩
      case round =>
        clear hown hbw HW
        clear ws
        obtain ⟨i, m, c, ws, hi, rfl, rfl, HW, hown, hbw⟩ := hrel
        by_cases hiN : i < N
        · obtain ⟨ad, rfl, hbb, hcell⟩ := hrow (by omega)
          have hsz := hbw.size
          have hck := (hbw.cell (p := ad.add i) (by rw [ad_block]; omega)).trans (hcell i hiN)
          obtain ⟨f0, f1⟩ := hf i hiN
          by_cases hfi : f i = n
          · have hnr := next_room hs hn1 hlt hiN hfi
            have HT : Hid (WordsAt f N n (i + 1) (ws ++ [⟨i, n, nextCode f N n i⟩]) ∧ BitsAt f N n (i + 1) (ws ++ [⟨i, n, nextCode f N n i⟩]) n (nextCode f N n i)) := words_take HW.out.1 hfi
            rw [hfi] at hck
            have hle := HW.out.2.le
            have HL : Hid (ws.length ≤ 1000000) := by rw [Hid]; have h5 := HW.out.1.len; have h6 := words_few hn1 hlt hiN hfi (N := N); omega
            clear hcell hrow
            obtain ⟨la, lc, rfl⟩ := owns_slice hown
            rcases HW.out.2.is with ⟨hw0, hm0, hc0, hz⟩ | ⟨hw0, hc0, hx⟩
            · have hw1 : ws.length = 0 := by rw [hw0]; rfl
              have HD : Hid (c * 2 ^ (n - m) = nextCode f N n i) := by rw [Hid, hz, hc0, Int.zero_mul]
              clear hz hnr HW hfi hs hf hw0 hm0 hc0
              go_wp2
              clear hw1
              have hwl : ws.length ≤ 1000000 := HL.out
              go_loopw [4] (fun vb wz => ∃ e : Nat, m + e ≤ n ∧ vb = .string (bstr (m + e) (c * 2 ^ e)) ∧ wz = wr) (fun vb _ => n - strN vb)
              case atStart => exact ⟨0, by omega, by rw [Int.pow_zero, Int.mul_one]; rfl, rfl⟩
              case round =>
                obtain ⟨e, he, rfl, rfl⟩ := hrel
                have hbs := bstr_size (m + e) (c * 2 ^ e)
                by_cases hlt2 : m + e < n
                · have hp1 := pad_eq (m + e) 1 (c * 2 ^ e)
                  rw [show (2 : Int) ^ 1 = 2 from rfl] at hp1
                  have HP : Hid (bstr (m + e) (c * 2 ^ e) ++ ⟨#[48]⟩ = bstr (m + (e + 1)) (c * 2 ^ (e + 1))) := by
                    rw [Hid, Int.pow_succ, ← Int.mul_assoc, ← Nat.add_assoc]
                    exact hp1
                  clear hp1
                  generalize bstr (m + e) (c * 2 ^ e) = T at *
                  go_wp2
                  go_roundw
                  case rel => exact ⟨e + 1, by omega, by rw [HP.out], by first | rfl | trivial⟩
                  case measure =>
                    show n - (T ++ ⟨#[48]⟩ : ByteArray).size < n - T.size
                    rw [ByteArray.size_append]
                    show n - (T.size + 1) < _
                    omega
                · have hT : bstr (m + e) (c * 2 ^ e) = bstr n (nextCode f N n i) := by rw [show e = n - m by omega, HD.out, show m + (n - m) = n by omega]
                  rw [hT] at hbs ⊢
                  clear hT
                  have HT2 : Hid (wdCells (ws ++ [⟨i, n, nextCode f N n i⟩]) = wdCells ws ++ [.int .i64 i, .string (bstr n (nextCode f N n i))]) := wdCells_append _ _
                  generalize hTT : bstr n (nextCode f N n i) = T at *
                  go_wp2_with (at_builtin; refine wpList_append_own _ rfl _ _ 115 rfl w.heap.size 126 i0 (.agg #[.int .i64 0, .string ByteArray.empty]) 2 24 Try.underlying115 HI.out.1 HI.out.2.1 HI.out.2.2.1 HI.out.2.2.2 rfl (by decide) _ _ _ rfl (hown.alloc _) ⟨_, 0, none⟩ 1 1 [.int .i64 i, .string T] rfl rfl ?c1 ?c2 ?c3 ?c4 ?c5 ?_)
                  case c1 =>
                    intro j u hj
                    match j, hj with
                    | 0, hj => simp at hj; subst hj; simp [Addr.add]
                    | 1, hj => simp at hj; subst hj; simp [Addr.add]
                  case c2 => intro u hu; simp at hu; rcases hu with rfl | rfl <;> rfl
                  case c3 => unfold maxLen; omega
                  case c4 => omega
                  case c5 => simp; omega
                  · intro v' w1 hown' hgrow _
                    have hb1 : Below w.heap.size w w1 := (hbw.alloc (by omega) _).grown hgrow (by simp; omega) (fun k hk => (hown.lt k hk).1)
                    have ho2 : w1.ownsRow w.heap.size 126 2 v' (ws ++ [(⟨i, n, nextCode f N n i⟩ : Wd)]).length (wdCells (ws ++ [⟨i, n, nextCode f N n i⟩])) := by
                      rw [HT2.out, List.length_append]
                      exact hown'
                    clear hown' hgrow hown
                    go_wp2
                    go_roundw
                    case rel => exact ⟨i + 1, n, nextCode f N n i, _, by omega, by go_num, by rw [hTT], HT, ho2, hb1⟩
                    case measure => simp [intOf]; omega
            · have hne : 0 < ws.length := List.length_pos_iff.2 hw0
              have hc1 : c + 1 < 2 ^ m := by
                rw [← hx, show n = m + (n - m) by omega, pow_add2, show m + (n - m) - m = n - m by omega] at hnr
                exact Int.lt_of_mul_lt_mul_right hnr (by have := pow_pos2 (n - m); omega)
              have HD : Hid ((c + 1) * 2 ^ (n - m) = nextCode f N n i) := hx
              have hM := fun (W : World) => Rmore_any W m c hc0 hc1 (by omega)
              clear hx hnr HW hfi hs hf hc1 hc0
              go_wp2_with (go_at_call 115; refine (hM _).mono ?_; rintro e W1 ⟨rfl, rfl⟩)
              have hwl : ws.length ≤ 1000000 := HL.out
              go_loopw [4] (fun vb wz => ∃ e : Nat, m + e ≤ n ∧ vb = .string (bstr (m + e) ((c + 1) * 2 ^ e)) ∧ wz = W1) (fun vb _ => n - strN vb)
              case atStart => exact ⟨0, by omega, by rw [Int.pow_zero, Int.mul_one]; rfl, rfl⟩
              case round =>
                obtain ⟨e, he, rfl, rfl⟩ := hrel
                have hbs := bstr_size (m + e) ((c + 1) * 2 ^ e)
                by_cases hlt2 : m + e < n
                · have hp1 := pad_eq (m + e) 1 ((c + 1) * 2 ^ e)
                  rw [show (2 : Int) ^ 1 = 2 from rfl] at hp1
                  have HP : Hid (bstr (m + e) ((c + 1) * 2 ^ e) ++ ⟨#[48]⟩ = bstr (m + (e + 1)) ((c + 1) * 2 ^ (e + 1))) := by
                    rw [Hid, Int.pow_succ, ← Int.mul_assoc, ← Nat.add_assoc]
                    exact hp1
                  clear hp1
                  generalize bstr (m + e) ((c + 1) * 2 ^ e) = T at *
                  go_wp2
                  go_roundw
                  case rel => exact ⟨e + 1, by omega, by rw [HP.out], by first | rfl | trivial⟩
                  case measure =>
                    show n - (T ++ ⟨#[48]⟩ : ByteArray).size < n - T.size
                    rw [ByteArray.size_append]
                    show n - (T.size + 1) < _
                    omega
                · have hT : bstr (m + e) ((c + 1) * 2 ^ e) = bstr n (nextCode f N n i) := by rw [show e = n - m by omega, HD.out, show m + (n - m) = n by omega]
                  rw [hT] at hbs ⊢
                  clear hT
                  have HT2 : Hid (wdCells (ws ++ [⟨i, n, nextCode f N n i⟩]) = wdCells ws ++ [.int .i64 i, .string (bstr n (nextCode f N n i))]) := wdCells_append _ _
                  generalize hTT : bstr n (nextCode f N n i) = T at *
                  go_wp2_with (at_builtin; refine wpList_append_own _ rfl _ _ 115 rfl w.heap.size 126 i0 (.agg #[.int .i64 0, .string ByteArray.empty]) 2 24 Try.underlying115 HI.out.1 HI.out.2.1 HI.out.2.2.1 HI.out.2.2.2 rfl (by decide) _ _ _ rfl (hown.alloc _) ⟨_, 0, none⟩ 1 1 [.int .i64 i, .string T] rfl rfl ?c1 ?c2 ?c3 ?c4 ?c5 ?_)
                  case c1 =>
                    intro j u hj
                    match j, hj with
                    | 0, hj => simp at hj; subst hj; simp [Addr.add]
                    | 1, hj => simp at hj; subst hj; simp [Addr.add]
                  case c2 => intro u hu; simp at hu; rcases hu with rfl | rfl <;> rfl
                  case c3 => unfold maxLen; omega
                  case c4 => omega
                  case c5 => simp; omega
                  · intro v' w1 hown' hgrow _
                    have hb1 : Below w.heap.size w w1 := (hbw.alloc (by omega) _).grown hgrow (by simp; omega) (fun k hk => (hown.lt k hk).1)
                    have ho2 : w1.ownsRow w.heap.size 126 2 v' (ws ++ [(⟨i, n, nextCode f N n i⟩ : Wd)]).length (wdCells (ws ++ [⟨i, n, nextCode f N n i⟩])) := by
                      rw [HT2.out, List.length_append]
                      exact hown'
                    clear hown' hgrow hown
                    go_wp2
                    go_roundw
                    case rel => exact ⟨i + 1, n, nextCode f N n i, _, by omega, by go_num, by rw [hTT], HT, ho2, hb1⟩
                    case measure => simp [intOf]; omega
          · have HN : Hid (WordsAt f N n (i + 1) ws ∧ BitsAt f N n (i + 1) ws m c) := words_skip HW.out.1 HW.out.2 hfi
            clear hcell hrow
            generalize f i = F at *
            go_wp2
            go_roundw
            case rel => exact ⟨i + 1, m, c, ws, by omega, by go_num, rfl, HN, hown, hbw⟩
            case measure => simp [intOf]; omega
        · have hin : i = N := by omega
          subst hin
          have HN : Hid (WordsAt f i (n + 1) 0 ws ∧ BitsAt f i (n + 1) 0 ws m c) := words_next hn1 hlt HW.out.1 HW.out.2
          clear hrow
          go_wp2
          go_roundw
          case rel => exact ⟨n + 1, m, c, ws, by omega, by omega, by go_num, rfl, HN, hown, hbw⟩
          case measure => simp [intOf]; omega
    · have hn13 : n = 13 := by omega
      subst hn13
      go_wp2
      go_ret
      exact ⟨_, ws, rfl, HW.out.1, hown, hbw⟩
end Go.Proofs.Ytmpfgdmdnghhgaa

namespace Go.Proofs.Ytmpfgdmdnghhgaa
open Go.RowKit Wr

theorem bytes_list (s : ByteArray) : s.toList = s.data.toList := ByteArray.toList_eq s
theorem wd_at : ∀ (ws : List Wd) (i : Nat) (h : i < ws.length), (wdCells ws)[i * 2]? = some (.int .i64 ws[i].sym) ∧ (wdCells ws)[i * 2 + 1]? = some (.string (bstr ws[i].len ws[i].code))
  | x :: l, 0, _ => ⟨rfl, rfl⟩
  | x :: l, i + 1, h => by
    have := wd_at l i (by simpa using h)
    rw [show (i + 1) * 2 = i * 2 + 1 + 1 by omega]
    exact this

/-- a row of words -/
def Words (w : World) (v : Value) (ws : List Wd) : Prop :=
  ∃ a cap, v = .slice a ws.length cap ∧ (0 < ws.length → ∃ g, a = some ⟨g, 0, none⟩ ∧ g < w.heap.size ∧ ∀ i (h : i < ws.length), w.cell? ⟨g, i * 2, none⟩ = some (.int .i64 ws[i].sym) ∧ w.cell? ⟨g, i * 2 + 1, none⟩ = some (.string (bstr ws[i].len ws[i].code)))

theorem owns_words {w : World} {B : Nat} {e : TypeId} {v : Value} {ws : List Wd} (h : w.ownsRow B e 2 v ws.length (wdCells ws)) : Words w v ws := by
  rcases h.2 with ⟨h3, h4⟩ | ⟨g, cap, cur, hv, hg, hh, hn, hm, hc, ht⟩
  · exact ⟨none, 0, by rw [h3, h4], fun h0 => absurd h0 (by omega)⟩
  · have hlt : g < w.heap.size := by
      rcases Nat.lt_or_ge g w.heap.size with hl | hl
      · exact hl
      · rw [Array.getElem?_eq_none hl] at hh; cases hh
    refine ⟨_, cap, hv, fun _ => ⟨g, rfl, hlt, fun i hi => ?_⟩⟩
    obtain ⟨c1, c2⟩ := wd_at ws i hi
    rw [← ht] at c1 c2
    have key : ∀ j x, (cur.toList.take (ws.length * 2))[j]? = some x → w.cell? ⟨g, j, none⟩ = some x := by
      intro j x hx
      have hj := (List.getElem?_eq_some_iff.1 hx).1
      rw [List.getElem?_take_of_lt (by simp at hj; omega), Array.getElem?_toList] at hx
      simp [World.cell?, hh, hx]
    exact ⟨key _ _ c1, key _ _ c2⟩

set_option maxRecDepth 100000 in
set_option maxHeartbeats 2000000 in
theorem Rsymbol_any {w : World} {b : Nat} {S : ByteArray} {x : Sr} {vo vn vf : Value} (h : SRow w b S x vo vn vf) (hs : S.size ≤ 268435456) (ha : okAt S x) (v : Value) (ws : List Wd) (hw : Words w v ws) (hok : wdOk ws) (hlen : ws.length ≤ 272)
    (hbv : ∀ g, v.ownBlock = some g → g ≠ b) :
    Calls Try.prog 62 #[.pointer (some ⟨b, 0, none⟩), v] w fun e w' => e = .returned (.int .i64 (symV S ws x)) ∧ SRow w' b S (symS S ws x) vo vn vf ∧ On b w w' := by
  obtain ⟨a, cap, rfl, hrow⟩ := hw
  go_enter Try.func62, Try.ntmps62
  go_wp2
  go_loopg [5] 14 (fun g vb wr => ∃ (k : Nat) (m : Int) (y : Sr), k + g = 14 ∧ Hid (symGo S ws g k m y = symGo S ws 14 0 0 x) ∧ vb = .string (bstr k m) ∧ Hid (0 ≤ m ∧ m < 2 ^ k) ∧ (y.state = 0 → k ≤ 12) ∧ okAt S y ∧ SRow wr b S y vo vn vf ∧ On b w wr)
  case atStart => exact ⟨0, 0, x, rfl, rfl, rfl, ⟨Int.le_refl _, by decide⟩, fun _ => by omega, ha, h, On.refl b w⟩
  case round =>
    obtain ⟨k, m, y, hkg, HF, rfl, HM, hk12, hoky, hr, hon⟩ := hrel
    have c3 := hr.c_state
    have hfz := hr.free
    by_cases h0 : y.state = 0
    · have hk := hk12 h0
      rw [h0] at c3
      go_wp2
      go_loopw [6] (fun vi wq => ∃ i : Nat, i ≤ ws.length ∧ vi = .int .i64 i ∧ Hid (lookGo k m (ws.drop i) = lookGo k m ws) ∧ wq = wr) (fun vi _ => ws.length - (intOf vi).toNat)
      case atStart => exact ⟨0, by omega, rfl, rfl, rfl⟩
      case round =>
        obtain ⟨i, hi, rfl, HK, rfl⟩ := hrel
        have hbz := bstr_size k m
        by_cases hil : i < ws.length
        · obtain ⟨g, rfl, hgw, hcell⟩ := hrow (by omega)
          have hgb : g ≠ b := hbv g rfl
          obtain ⟨q1, q2⟩ := hcell i hil
          have hd1 := (World.cell?_of_block (a := ⟨g, i * 2, none⟩) (hon.block g hgw hgb)).trans q1
          have hd2 := (World.cell?_of_block (a := ⟨g, i * 2 + 1, none⟩) (hon.block g hgw hgb)).trans q2
          have hwd := hok ws[i] (List.getElem_mem hil)
          have HLD := look_drop (k := k) (m := m) ws i hil
          clear q1 q2 hcell hrow
          by_cases heq : ws[i].len = k ∧ ws[i].code = m
          · rw [if_pos heq, HK.out] at HLD
            have HE : Hid (symGo S ws gk k m y = (ws[i].sym, y)) := by
              rw [Hid, show gk = gk - 1 + 1 by omega]
              unfold symGo
              rw [if_neg (by omega), HLD]
            have HR : Hid (symV S ws x = ws[i].sym ∧ symS S ws x = y) := by
              have := HF.out.symm.trans HE.out
              unfold symV symS
              rw [this]
              exact ⟨rfl, rfl⟩
            rw [heq.1, heq.2] at hd2
            clear heq HLD HE HK HF HM hwd
            generalize ws[i].sym = sy at *
            generalize bstr k m = T at *
            go_wp2
            go_ret
            rw [HR.out.1, HR.out.2]
            exact ⟨rfl, hr, hon⟩
          · rw [if_neg heq, HK.out] at HLD
            have HK2 : Hid (lookGo k m (ws.drop (i + 1)) = lookGo k m ws) := HLD.symm
            have hne : ((bstr ws[i].len ws[i].code).toList == (bstr k m).toList) = false := by
              apply beq_false_of_ne
              intro e0
              have e : bstr ws[i].len ws[i].code = bstr k m := bytes_ext (by rw [← bytes_list, ← bytes_list]; exact e0)
              obtain ⟨e1, e2⟩ := bstr_inj hwd.2.1 hwd.2.2 HM.out.1 HM.out.2 e
              exact heq ⟨e1, e2⟩
            clear heq HLD HK HF HM hwd
            generalize bstr ws[i].len ws[i].code = T2 at *
            generalize bstr k m = T at *
            go_wp2
            go_roundw
            case rel => exact ⟨i + 1, by omega, by go_num, HK2, by first | rfl | trivial⟩
            case measure => simp [intOf]; omega
        · have hnone : lookGo k m ws = none := by
            rw [← HK.out, List.drop_of_length_le (by omega)]
            rfl
          have HE : Hid (symGo S ws gk k m y = symGo S ws (gk - 1) (k + 1) (2 * m + bitV S y) (needS (bitS S y) (decide (k + 1 ≤ 12)))) := by
            rw [Hid, show gk = gk - 1 + 1 by omega]
            conv => lhs; unfold symGo
            rw [if_neg (by omega), hnone]
            rfl
          have hb := bitV_bounds S y
          have hm := HM.out
          have HY : Hid (symGo S ws (gk - 1) (k + 1) (2 * m + bitV S y) (needS (bitS S y) (decide (k + 1 ≤ 12))) = symGo S ws 14 0 0 x ∧ (0 ≤ 2 * m + bitV S y ∧ 2 * m + bitV S y < 2 ^ (k + 1)) ∧ ((needS (bitS S y) (decide (k + 1 ≤ 12))).state = 0 → k + 1 ≤ 12) ∧ okAt S (needS (bitS S y) (decide (k + 1 ≤ 12)))) := by
            refine ⟨HE.out.symm.trans HF.out, ⟨by omega, by rw [Int.pow_succ]; omega⟩, ?_, needS_ok (bitS_ok hoky) _⟩
            intro hz
            by_cases h12 : k + 1 ≤ 12
            · exact h12
            · exfalso
              rw [decide_eq_false h12] at hz
              unfold needS at hz
              by_cases hq : (bitS S y).state = 0
              · rw [if_pos ⟨hq, rfl⟩] at hz
                exact absurd hz (by show (2 : Int) ≠ 0; decide)
              · rw [if_neg (fun hh => hq hh.1)] at hz
                exact hq hz
          have HD : Hid (bstr k m ++ ⟨#[if bitV S y = 0 then 48 else 49]⟩ = bstr (k + 1) (2 * m + bitV S y)) := digit_push _ hb.1 hb.2
          have hC := Rbit_any hr hs hoky
          have hN := fun (W : World) (hW : SRow W b S (bitS S y) vo vn vf) => Rneed_any hW (decide (k + 1 ≤ 12))
          clear HE hnone HK HF hm HM hrow hok
          by_cases h11 : k ≤ 11
          · rw [decide_eq_true (show k + 1 ≤ 12 by omega)] at hN HY
            generalize needS (bitS S y) true = y2 at *
            generalize bitS S y = y1 at *
            generalize bitV S y = bv at *
            generalize bstr k m = T at *
            rcases (show bv = 0 ∨ bv = 1 by omega) with rfl | rfl
            · rw [if_pos rfl] at HD
              go_wp2_with (first
                | (go_at_call 50; refine hC.mono ?_; rintro e w1 ⟨rfl, hr1, hon1⟩)
                | (go_at_call 40; rw [show decide ((k : Int) + 1 ≤ 12) = true from decide_eq_true (by omega)]; refine (hN _ hr1).mono ?_; rintro e w2 ⟨rfl, hr2, hon2⟩))
              go_roundg (gk - 1)
              case measure => omega
              case rel => exact ⟨k + 1, 2 * m + 0, y2, by omega, HY.out.1, by rw [← HD.out], HY.out.2.1, HY.out.2.2.1, HY.out.2.2.2, hr2, (hon.trans hon1).trans hon2⟩
            · rw [if_neg (by decide)] at HD
              go_wp2_with (first
                | (go_at_call 50; refine hC.mono ?_; rintro e w1 ⟨rfl, hr1, hon1⟩)
                | (go_at_call 40; rw [show decide ((k : Int) + 1 ≤ 12) = true from decide_eq_true (by omega)]; refine (hN _ hr1).mono ?_; rintro e w2 ⟨rfl, hr2, hon2⟩))
              go_roundg (gk - 1)
              case measure => omega
              case rel => exact ⟨k + 1, 2 * m + 1, y2, by omega, HY.out.1, by rw [← HD.out], HY.out.2.1, HY.out.2.2.1, HY.out.2.2.2, hr2, (hon.trans hon1).trans hon2⟩
          · rw [decide_eq_false (show ¬ k + 1 ≤ 12 by omega)] at hN HY
            generalize needS (bitS S y) false = y2 at *
            generalize bitS S y = y1 at *
            generalize bitV S y = bv at *
            generalize bstr k m = T at *
            rcases (show bv = 0 ∨ bv = 1 by omega) with rfl | rfl
            · rw [if_pos rfl] at HD
              go_wp2_with (first
                | (go_at_call 50; refine hC.mono ?_; rintro e w1 ⟨rfl, hr1, hon1⟩)
                | (go_at_call 40; rw [show decide ((k : Int) + 1 ≤ 12) = false from decide_eq_false (by omega)]; refine (hN _ hr1).mono ?_; rintro e w2 ⟨rfl, hr2, hon2⟩))
              go_roundg (gk - 1)
              case measure => omega
              case rel => exact ⟨k + 1, 2 * m + 0, y2, by omega, HY.out.1, by rw [← HD.out], HY.out.2.1, HY.out.2.2.1, HY.out.2.2.2, hr2, (hon.trans hon1).trans hon2⟩
            · rw [if_neg (by decide)] at HD
              go_wp2_with (first
                | (go_at_call 50; refine hC.mono ?_; rintro e w1 ⟨rfl, hr1, hon1⟩)
                | (go_at_call 40; rw [show decide ((k : Int) + 1 ≤ 12) = false from decide_eq_false (by omega)]; refine (hN _ hr1).mono ?_; rintro e w2 ⟨rfl, hr2, hon2⟩))
              go_roundg (gk - 1)
              case measure => omega
              case rel => exact ⟨k + 1, 2 * m + 1, y2, by omega, HY.out.1, by rw [← HD.out], HY.out.2.1, HY.out.2.2.1, HY.out.2.2.2, hr2, (hon.trans hon1).trans hon2⟩
    · have HE : Hid (symV S ws x = 0 ∧ symS S ws x = y) := by
        have e : symGo S ws gk k m y = (0, y) := by
          cases gk with
          | zero => rfl
          | succ f => unfold symGo; rw [if_pos h0]
        have := HF.out.symm.trans e
        unfold symV symS
        rw [this]
        exact ⟨rfl, rfl⟩
      go_wp2
      go_ret
      rw [HE.out.1, HE.out.2]
      exact ⟨rfl, hr, hon⟩
end Go.Proofs.Ytmpfgdmdnghhgaa

namespace Go.Proofs.Ytmpfgdmdnghhgaa
open Go.RowKit Wr

set_option maxRecDepth 100000 in
set_option maxHeartbeats 1000000 in
theorem Rlength_any {w : World} {b : Nat} {S : ByteArray} {x : Sr} {vo vn vf : Value} (h : SRow w b S x vo vn vf) (hs : S.size ≤ 268435456) (ha : okAt S x) (k : Nat) (hk : k ≤ 15) :
    Calls Try.prog 80 #[.pointer (some ⟨b, 0, none⟩), .int .i64 k] w fun e w' => e = .returned (.int .i64 (lenLeast k + numV S x (k - 7))) ∧ SRow w' b S (numS S x (k - 7)) vo vn vf ∧ On b w w' := by
  by_cases h8 : k < 8
  · have e1 : lenLeast k + numV S x (k - 7) = 3 + k := by
      rw [show k - 7 = 0 by omega, numV_zero]
      unfold lenLeast
      rw [if_pos (by omega)]
      omega
    have e2 : numS S x (k - 7) = x := by rw [show k - 7 = 0 by omega, numS_zero ha]
    rw [e1, e2]
    clear e1 e2
    go_enter Try.func80, Try.ntmps80
    go_wp2
    go_ret
    exact ⟨rfl, h, On.refl b w⟩
  · have hC := fun (W : World) (hW : SRow W b S x vo vn vf) => Rnumber_any hW hs ha (k - 7) (by omega)
    rw [show ((k - 7 : Nat) : Int) = (k : Int) - 7 by omega] at hC
    have hv := numV_bounds S x (k - 7)
    have hp : (2 : Int) ^ (k - 7) ≤ 256 := pow_mono2 (show k - 7 ≤ 8 by omega)
    have e1 : lenLeast k = 9 + 2 ^ (k - 7) := by
      unfold lenLeast
      rw [if_neg (by omega), show ((k : Int) - 7).toNat = k - 7 by omega]
    rw [e1]
    clear e1
    generalize numV S x (k - 7) = V at *
    generalize numS S x (k - 7) = y at *
    go_enter Try.func80, Try.ntmps80
    go_wp2
    go_loopw [5, 6, 7] (fun vf' vm vi wr => ∃ i : Nat, 8 ≤ i ∧ i ≤ k ∧ vf' = .int .i64 (9 + 2 ^ (i - 7)) ∧ vm = .int .i64 (2 ^ (i - 7)) ∧ vi = .int .i64 i ∧ wr = w) (fun _ _ vi _ => k - (intOf vi).toNat)
    case atStart => exact ⟨8, by omega, by omega, rfl, rfl, rfl, rfl⟩
    case round =>
      obtain ⟨i, hi8, hik, rfl, rfl, rfl, rfl⟩ := hrel
      have hpi : (2 : Int) ^ (i - 7) ≤ 256 := pow_mono2 (show i - 7 ≤ 8 by omega)
      have hp1 := pow_pos2 (i - 7)
      by_cases hlt : i < k
      · have e : (2 : Int) ^ (i + 1 - 7) = 2 * 2 ^ (i - 7) := by
          rw [show i + 1 - 7 = i - 7 + 1 by omega, Int.pow_succ]
          omega
        generalize (2 : Int) ^ (i - 7) = P at *
        go_wp2
        go_roundw
        case rel => exact ⟨i + 1, by omega, by omega, by rw [e]; congr 1; omega, by rw [e], by go_num, by first | rfl | trivial⟩
        case measure => simp [intOf]; omega
      · have hki : i = k := by omega
        subst hki
        generalize hP : (2 : Int) ^ (i - 7) = P at *
        go_wp2_with (go_at_call 39; refine (hC _ h).mono ?_; rintro e w1 ⟨rfl, hr1, hon1⟩)
        go_ret
        rw [hP]
        exact ⟨rfl, hr1, hon1⟩
end Go.Proofs.Ytmpfgdmdnghhgaa
