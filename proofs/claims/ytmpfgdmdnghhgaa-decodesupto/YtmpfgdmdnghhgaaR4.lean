import Derived.Test.YtmpfgdmdnghhgaaR3
import Derived.Test.YtmpfgdmdnghhgaaRefP3
namespace Go.Proofs.Ytmpfgdmdnghhgaa
open Go.RowKit Wr

def wdCells : List Wd → List Value
  | [] => []
  | x :: l => .int .i64 x.sym :: .string (bstr x.len x.code) :: wdCells l
theorem wdCells_length : ∀ l : List Wd, (wdCells l).length = l.length * 2
  | [] => rfl
  | x :: l => by
    show (wdCells l).length + 1 + 1 = (l.length + 1) * 2
    rw [wdCells_length l]
    omega
theorem wdCells_append : ∀ a b : List Wd, wdCells (a ++ b) = wdCells a ++ wdCells b
  | [], _ => rfl
  | x :: a, b => by
    show _ :: _ :: wdCells (a ++ b) = _ :: _ :: (wdCells a ++ wdCells b)
    rw [wdCells_append a b]

def strN : Value → Nat
  | .string s => s.size
  | _ => 0

theorem info_word : (Try.prog.info? 126).map (fun i => (i.zero, i.size, i.bytes)) = some (some (.agg #[.int .i64 0, .string ByteArray.empty]), 2, 24) := by kernel_rfl

set_option maxRecDepth 100000 in
set_option maxHeartbeats 1000000 in
theorem Rwords_any (w : World) (a : Option Addr) (N cap : Nat) (f : Nat → Int) (hI : Ints w a N f) (hf : ∀ i, i < N → 0 ≤ f i ∧ f i ≤ 12) (hs : (countGo f N).2 = 4096) :
    Calls Try.prog 98 #[.slice a N cap] w fun e w' => ∃ v ws, e = .returned v ∧ WordsAt f N 13 0 ws ∧ w'.ownsRow w.heap.size 126 2 v ws.length (wdCells ws) ∧ Below w.heap.size w w' := by
  obtain ⟨hn, hrow⟩ := hI
  obtain ⟨i0, hi, hz0, hz1, hz2⟩ := info_parts info_word
  have HI : Hid (Try.prog.info? 126 = some i0 ∧ i0.zero = some (.agg #[.int .i64 0, .string ByteArray.empty]) ∧ i0.size = 2 ∧ i0.bytes = 24) := ⟨hi, hz0, hz1, hz2⟩
  clear hi hz0 hz1 hz2
  go_enter Try.func98, Try.ntmps98
  go_wp2
  go_loopw [3, 4, 5] (fun vl vb vn wr => ∃ (n m : Nat) (c : Int) (ws : List Wd), 1 ≤ n ∧ n ≤ 13 ∧ vn = .int .i64 n ∧ vb = .string (bstr m c) ∧ Hid (WordsAt f N n 0 ws ∧ BitsAt f N n 0 ws m c) ∧ wr.ownsRow w.heap.size 126 2 vl ws.length (wdCells ws) ∧ Below w.heap.size w wr) (fun _ _ vn _ => 13 - (intOf vn).toNat)
  case atStart => exact ⟨1, 0, 0, [], by omega, by omega, rfl, rfl, words_start f N, World.ownsRow_nil _ _ _ _, Below.refl _ _⟩
  case round =>
    obtain ⟨n, m, c, ws, hn1, hn2, rfl, rfl, HW, hown, hbw⟩ := hrel
    by_cases hlt : n ≤ 12
    · go_wp2
      rw [show decide ((n : Int) ≤ 12) = true from decide_eq_true (by omega)]
      go_loopw [3, 4, 6] (fun vl vb vi wq => ∃ (i m : Nat) (c : Int) (ws : List Wd), i ≤ N ∧ vi = .int .i64 i ∧ vb = .string (bstr m c) ∧ Hid (WordsAt f N n i ws ∧ BitsAt f N n i ws m c) ∧ wq.ownsRow w.heap.size 126 2 vl ws.length (wdCells ws) ∧ Below w.heap.size w wq) (fun _ _ vi _ => N - (intOf vi).toNat)
      case atStart => exact ⟨0, m, c, ws, by omega, rfl, rfl, HW, hown, hbw⟩
      case round =>
        clear hown hbw HW
        clear ws
        obtain ⟨i, m, c, ws, hi, rfl, rfl, HW, hown, hbw⟩ := hrel
        by_cases hiN : i < N
        · obtain ⟨ad, rfl, hbb, hcell⟩ := hrow (by omega)
          have hsz := hbw.size
          have hck := (hbw.cell (p := ad.add i) (by rw [ad_block]; omega)).trans (hcell i hiN)
          obtain ⟨f0, f1⟩ := hf i hiN
          by_cases hfi : f i = n
          · have hnr := next_room hs hn1 hlt hiN hfi
            have HT : Hid (WordsAt f N n (i + 1) (ws ++ [⟨i, n, nextCode f N n i⟩]) ∧ BitsAt f N n (i + 1) (ws ++ [⟨i, n, nextCode f N n i⟩]) n (nextCode f N n i)) := words_take HW.out.1 hfi
            rw [hfi] at hck
            have hle := HW.out.2.le
            have HL : Hid (ws.length ≤ 1000000) := by rw [Hid]; have h5 := HW.out.1.len; have h6 := words_few hn1 hlt hiN hfi (N := N); omega
            clear hcell hrow
            obtain ⟨la, lc, rfl⟩ := owns_slice hown
            rcases HW.out.2.is with ⟨hw0, hm0, hc0, hz⟩ | ⟨hw0, hc0, hx⟩
            · have hw1 : ws.length = 0 := by rw [hw0]; rfl
              have HD : Hid (c * 2 ^ (n - m) = nextCode f N n i) := by rw [Hid, hz, hc0, Int.zero_mul]
              clear hz hnr HW hfi hs hf hw0 hm0 hc0
              go_wp2
              clear hw1
              have hwl : ws.length ≤ 1000000 := HL.out
              go_loopw [4] (fun vb wz => ∃ e : Nat, m + e ≤ n ∧ vb = .string (bstr (m + e) (c * 2 ^ e)) ∧ wz = wr) (fun vb _ => n - strN vb)
              case atStart => exact ⟨0, by omega, by rw [Int.pow_zero, Int.mul_one]; rfl, rfl⟩
              case round =>
                obtain ⟨e, he, rfl, rfl⟩ := hrel
                have hbs := bstr_size (m + e) (c * 2 ^ e)
                by_cases hlt2 : m + e < n
                · have hp1 := pad_eq (m + e) 1 (c * 2 ^ e)
                  rw [show (2 : Int) ^ 1 = 2 from rfl] at hp1
                  have HP : Hid (bstr (m + e) (c * 2 ^ e) ++ ⟨#[48]⟩ = bstr (m + (e + 1)) (c * 2 ^ (e + 1))) := by
                    rw [Hid, Int.pow_succ, ← Int.mul_assoc, ← Nat.add_assoc]
                    exact hp1
                  clear hp1
                  generalize bstr (m + e) (c * 2 ^ e) = T at *
                  go_wp2
                  go_roundw
                  case rel => exact ⟨e + 1, by omega, by rw [HP.out], by first | rfl | trivial⟩
                  case measure =>
                    show n - (T ++ ⟨#[48]⟩ : ByteArray).size < n - T.size
                    rw [ByteArray.size_append]
                    show n - (T.size + 1) < _
                    omega
                · have hT : bstr (m + e) (c * 2 ^ e) = bstr n (nextCode f N n i) := by rw [show e = n - m by omega, HD.out, show m + (n - m) = n by omega]
                  rw [hT] at hbs ⊢
                  clear hT
                  have HT2 : Hid (wdCells (ws ++ [⟨i, n, nextCode f N n i⟩]) = wdCells ws ++ [.int .i64 i, .string (bstr n (nextCode f N n i))]) := wdCells_append _ _
                  generalize hTT : bstr n (nextCode f N n i) = T at *
                  go_wp2_with (at_builtin; refine wpList_append_own _ rfl _ _ 115 rfl w.heap.size 126 i0 (.agg #[.int .i64 0, .string ByteArray.empty]) 2 24 Try.underlying115 HI.out.1 HI.out.2.1 HI.out.2.2.1 HI.out.2.2.2 rfl (by decide) _ _ _ rfl (hown.alloc _) ⟨_, 0, none⟩ 1 1 [.int .i64 i, .string T] rfl rfl ?c1 ?c2 ?c3 ?c4 ?c5 ?_)
                  case c1 =>
                    intro j u hj
                    match j, hj with
                    | 0, hj => simp at hj; subst hj; simp [Addr.add]
                    | 1, hj => simp at hj; subst hj; simp [Addr.add]
                  case c2 => intro u hu; simp at hu; rcases hu with rfl | rfl <;> rfl
                  case c3 => unfold maxLen; omega
                  case c4 => omega
                  case c5 => simp; omega
                  · intro v' w1 hown' hgrow _
                    have hb1 : Below w.heap.size w w1 := (hbw.alloc (by omega) _).grown hgrow (by simp; omega) (fun k hk => (hown.lt k hk).1)
                    have ho2 : w1.ownsRow w.heap.size 126 2 v' (ws ++ [(⟨i, n, nextCode f N n i⟩ : Wd)]).length (wdCells (ws ++ [⟨i, n, nextCode f N n i⟩])) := by
                      rw [HT2.out, List.length_append]
                      exact hown'
                    clear hown' hgrow hown
                    go_wp2
                    go_roundw
                    case rel => exact ⟨i + 1, n, nextCode f N n i, _, by omega, by go_num, by rw [hTT], HT, ho2, hb1⟩
                    case measure => simp [intOf]; omega
            · have hne : 0 < ws.length := List.length_pos_iff.2 hw0
              have hc1 : c + 1 < 2 ^ m := by
                rw [← hx, show n = m + (n - m) by omega, pow_add2, show m + (n - m) - m = n - m by omega] at hnr
                exact Int.lt_of_mul_lt_mul_right hnr (by have := pow_pos2 (n - m); omega)
              have HD : Hid ((c + 1) * 2 ^ (n - m) = nextCode f N n i) := hx
              have hM := fun (W : World) => Rmore_any W m c hc0 hc1 (by omega)
              clear hx hnr HW hfi hs hf hc1 hc0
              go_wp2_with (go_at_call 115; refine (hM _).mono ?_; rintro e W1 ⟨rfl, rfl⟩)
              have hwl : ws.length ≤ 1000000 := HL.out
              go_loopw [4] (fun vb wz => ∃ e : Nat, m + e ≤ n ∧ vb = .string (bstr (m + e) ((c + 1) * 2 ^ e)) ∧ wz = W1) (fun vb _ => n - strN vb)
              case atStart => exact ⟨0, by omega, by rw [Int.pow_zero, Int.mul_one]; rfl, rfl⟩
              case round =>
                obtain ⟨e, he, rfl, rfl⟩ := hrel
                have hbs := bstr_size (m + e) ((c + 1) * 2 ^ e)
                by_cases hlt2 : m + e < n
                · have hp1 := pad_eq (m + e) 1 ((c + 1) * 2 ^ e)
                  rw [show (2 : Int) ^ 1 = 2 from rfl] at hp1
                  have HP : Hid (bstr (m + e) ((c + 1) * 2 ^ e) ++ ⟨#[48]⟩ = bstr (m + (e + 1)) ((c + 1) * 2 ^ (e + 1))) := by
                    rw [Hid, Int.pow_succ, ← Int.mul_assoc, ← Nat.add_assoc]
                    exact hp1
                  clear hp1
                  generalize bstr (m + e) ((c + 1) * 2 ^ e) = T at *
                  go_wp2
                  go_roundw
                  case rel => exact ⟨e + 1, by omega, by rw [HP.out], by first | rfl | trivial⟩
                  case measure =>
                    show n - (T ++ ⟨#[48]⟩ : ByteArray).size < n - T.size
                    rw [ByteArray.size_append]
                    show n - (T.size + 1) < _
                    omega
                · have hT : bstr (m + e) ((c + 1) * 2 ^ e) = bstr n (nextCode f N n i) := by rw [show e = n - m by omega, HD.out, show m + (n - m) = n by omega]
                  rw [hT] at hbs ⊢
                  clear hT
                  have HT2 : Hid (wdCells (ws ++ [⟨i, n, nextCode f N n i⟩]) = wdCells ws ++ [.int .i64 i, .string (bstr n (nextCode f N n i))]) := wdCells_append _ _
                  generalize hTT : bstr n (nextCode f N n i) = T at *
                  go_wp2_with (at_builtin; refine wpList_append_own _ rfl _ _ 115 rfl w.heap.size 126 i0 (.agg #[.int .i64 0, .string ByteArray.empty]) 2 24 Try.underlying115 HI.out.1 HI.out.2.1 HI.out.2.2.1 HI.out.2.2.2 rfl (by decide) _ _ _ rfl (hown.alloc _) ⟨_, 0, none⟩ 1 1 [.int .i64 i, .string T] rfl rfl ?c1 ?c2 ?c3 ?c4 ?c5 ?_)
                  case c1 =>
                    intro j u hj
                    match j, hj with
                    | 0, hj => simp at hj; subst hj; simp [Addr.add]
                    | 1, hj => simp at hj; subst hj; simp [Addr.add]
                  case c2 => intro u hu; simp at hu; rcases hu with rfl | rfl <;> rfl
                  case c3 => unfold maxLen; omega
                  case c4 => omega
                  case c5 => simp; omega
                  · intro v' w1 hown' hgrow _
                    have hb1 : Below w.heap.size w w1 := (hbw.alloc (by omega) _).grown hgrow (by simp; omega) (fun k hk => (hown.lt k hk).1)
                    have ho2 : w1.ownsRow w.heap.size 126 2 v' (ws ++ [(⟨i, n, nextCode f N n i⟩ : Wd)]).length (wdCells (ws ++ [⟨i, n, nextCode f N n i⟩])) := by
                      rw [HT2.out, List.length_append]
                      exact hown'
                    clear hown' hgrow hown
                    go_wp2
                    go_roundw
                    case rel => exact ⟨i + 1, n, nextCode f N n i, _, by omega, by go_num, by rw [hTT], HT, ho2, hb1⟩
                    case measure => simp [intOf]; omega
          · have HN : Hid (WordsAt f N n (i + 1) ws ∧ BitsAt f N n (i + 1) ws m c) := words_skip HW.out.1 HW.out.2 hfi
            clear hcell hrow
            generalize f i = F at *
            go_wp2
            go_roundw
            case rel => exact ⟨i + 1, m, c, ws, by omega, by go_num, rfl, HN, hown, hbw⟩
            case measure => simp [intOf]; omega
        · have hin : i = N := by omega
          subst hin
          have HN : Hid (WordsAt f i (n + 1) 0 ws ∧ BitsAt f i (n + 1) 0 ws m c) := words_next hn1 hlt HW.out.1 HW.out.2
          clear hrow
          go_wp2
          go_roundw
          case rel => exact ⟨n + 1, m, c, ws, by omega, by omega, by go_num, rfl, HN, hown, hbw⟩
          case measure => simp [intOf]; omega
    · have hn13 : n = 13 := by omega
      subst hn13
      go_wp2
      go_ret
      exact ⟨_, ws, rfl, HW.out.1, hown, hbw⟩
end Go.Proofs.Ytmpfgdmdnghhgaa
