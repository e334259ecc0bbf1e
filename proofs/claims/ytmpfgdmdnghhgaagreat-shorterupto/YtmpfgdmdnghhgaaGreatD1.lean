import Derived.Test.YtmpfgdmdnghhgaaGreatRing
import Derived.Test.YtmpfgdmdnghhgaaGreatW17
/- FEEDING PIECE BY PIECE: what came out before is left alone. No Go. -/
namespace Wr

def addOut (p : List Int) (s : Rd) : Rd := { s with out := p ++ s.out }
theorem addOut_nil (s : Rd) : addOut [] s = s := rfl
theorem put_pre (p : List Int) (s : Rd) (c : Int) : put (addOut p s) c = addOut p (put s c) := by
  have e : (p ++ s.out) ++ [c] = p ++ (s.out ++ [c]) := List.append_assoc _ _ _
  unfold put addRing addOut
  dsimp only
  rw [e]
theorem fillTo_pre (p : List Int) (s : Rd) : fillTo (addOut p s) = addOut p (fillTo s) := by
  have e : fillOk (addOut p s) = fillOk s := rfl
  unfold fillTo
  rw [e]
  split <;> rfl
theorem endBlock_pre (p : List Int) (s : Rd) : endBlock (addOut p s) = addOut p (endBlock s) := by
  have e : fillOk (addOut p s) = fillOk s := rfl
  have e2 : (addOut p s).last = s.last := rfl
  unfold endBlock
  rw [e, e2, fillTo_pre]
  split
  · split <;> rfl
  · rfl
theorem endCommand_pre (p : List Int) (s : Rd) : endCommand (addOut p s) = addOut p (endCommand s) := by
  have e2 : (addOut p s).left = s.left := rfl
  unfold endCommand
  rw [e2]
  split
  · exact endBlock_pre p { s with part := 6 }
  · rfl
theorem copy_pre (p : List Int) (d : Int) : ∀ (n : Nat) (s : Rd), copyGo n (addOut p s) d = addOut p (copyGo n s d)
  | 0, _ => rfl
  | n + 1, s => by
    show copyGo n (put (addOut p s) (agoP s d)) d = _
    rw [put_pre, copy_pre p d n]
    rfl
theorem useCopy_pre (p : List Int) (s : Rd) (d : Int) : useCopy (addOut p s) d = addOut p (useCopy s d) := by
  have e1 : (addOut p s).reach = s.reach := rfl
  have e2 : (addOut p s).left = s.left := rfl
  have e3 : (addOut p s).length = s.length := rfl
  unfold useCopy
  rw [e1, e2, e3]
  split
  · rfl
  · rw [copy_pre, endCommand_pre]
theorem useWindow_pre (p : List Int) (s : Rd) (x : Int) : useWindow (addOut p s) x = addOut p (useWindow s x) := by
  unfold useWindow
  split <;> rfl
theorem useBlock_pre (p : List Int) (s : Rd) (x : Int) : useBlock (addOut p s) x = addOut p (useBlock s x) := by
  unfold useBlock
  dsimp only
  split
  · have e : ({ addOut p s with last := x % 2 == 1, kind := x / 2 } : Rd) = addOut p { s with last := x % 2 == 1, kind := x / 2 } := rfl
    have e2 : fillOk (addOut p { s with last := x % 2 == 1, kind := x / 2 }) = fillOk { s with last := x % 2 == 1, kind := x / 2 } := rfl
    rw [e, e2, fillTo_pre, endBlock_pre]
    split <;> rfl
  · rfl
theorem useSize_pre (p : List Int) (s : Rd) (x : Int) : useSize (addOut p s) x = addOut p (useSize s x) := by
  have key : ∀ t : Rd, (if fillOk (addOut p t) then (if ({ fillTo (addOut p t) with part := 3 } : Rd).left = 0 then endBlock { fillTo (addOut p t) with part := 3 } else { fillTo (addOut p t) with part := 3 }) else fillTo (addOut p t)) =
      addOut p (if fillOk t then (if ({ fillTo t with part := 3 } : Rd).left = 0 then endBlock { fillTo t with part := 3 } else { fillTo t with part := 3 }) else fillTo t) := by
    intro t
    have e2 : fillOk (addOut p t) = fillOk t := rfl
    rw [e2, fillTo_pre]
    split
    · have e3 : ({ addOut p (fillTo t) with part := 3 } : Rd) = addOut p { fillTo t with part := 3 } := rfl
      rw [e3, endBlock_pre]
      have e4 : (addOut p { fillTo t with part := 3 }).left = ({ fillTo t with part := 3 } : Rd).left := rfl
      rw [e4]
      split <;> rfl
    · rfl
  unfold useSize
  by_cases h : s.kind = 2
  · rw [if_pos (show (addOut p s).kind = 2 from h), if_pos h]
    rfl
  · rw [if_neg (show ¬ (addOut p s).kind = 2 from h), if_neg h]
    exact key { s with left := if s.kind = 1 then x + 1 else x }
theorem useByte_pre (p : List Int) (s : Rd) (x : Int) : useByte (addOut p s) x = addOut p (useByte s x) := by
  have e0 : (addOut p s).kind = s.kind := rfl
  have key : ∀ t : Rd, (if (addOut p t).left = 0 then endBlock (addOut p t) else addOut p t) = addOut p (if t.left = 0 then endBlock t else t) := by
    intro t
    have e : (addOut p t).left = t.left := rfl
    rw [e, endBlock_pre]
    split <;> rfl
  unfold useByte
  dsimp only
  rw [e0]
  by_cases h : s.kind = 1
  · rw [if_pos h, if_pos h, put_pre]
    exact key _
  · rw [if_neg h, if_neg h]
    exact key { s with left := s.left - 1 }
theorem useLetter_pre (p : List Int) (s : Rd) (x : Int) : useLetter (addOut p s) x = addOut p (useLetter s x) := by
  unfold useLetter
  split
  · rw [put_pre, endCommand_pre]
  · rfl
theorem useDistance_pre (p : List Int) (s : Rd) (x : Int) : useDistance (addOut p s) x = addOut p (useDistance s x) := by
  have e0 : (addOut p s).near = s.near := rfl
  unfold useDistance
  rw [e0]
  split
  · split
    · exact useCopy_pre p { s with near := nearAdd s.near (s.near x.toNat) } _
    · exact useCopy_pre p s _
  · rfl
theorem lay_pre (p : List Int) (s : Rd) (x n : Int) : lay (addOut p s) x n = (addOut p (lay s x n).1, (lay s x n).2) := by
  unfold lay
  have e1 : (addOut p s).msize = s.msize := rfl
  have e2 : (addOut p s).mat = s.mat := rfl
  have e3 : (addOut p s).mlen = s.mlen := rfl
  have e4 : (addOut p s).msym = s.msym := rfl
  rw [e1, e2, e3, e4]
  split
  · rfl
  · dsimp only
    split
    · rfl
    · split <;> rfl
theorem give_pre (p : List Int) (s : Rd) (x : Int) : give (addOut p s) x = (addOut p (give s x).1, (give s x).2) := by
  unfold give
  have e1 : (addOut p s).mstep = s.mstep := rfl
  rw [e1]
  split
  · rfl
  split
  · rfl
  split
  · unfold nameP
    have e2 : (addOut p s).msize = s.msize := rfl
    have e3 : (addOut p s).mat = s.mat := rfl
    have e4 : (addOut p s).msym = s.msym := rfl
    rw [e2, e3, e4]
    split
    · rfl
    split
    · rfl
    · dsimp only
      have e5 : (addOut p s).mwanted = s.mwanted := rfl
      rw [e5]
      split <;> rfl
  split
  · unfold lengthP
    have e3 : (addOut p s).mat = s.mat := rfl
    rw [e3]
    split
    · exact lay_pre p s x 1
    split <;> rfl
  · unfold times
    dsimp only
    have e3 : (addOut p s).mrepeat = s.mrepeat := rfl
    rw [e3]
    split
    · exact lay_pre p { s with mstep := 3 } (before { s with mstep := 3 }) (3 + x)
    split
    · exact lay_pre p { s with mstep := 3 } 0 (3 + x)
    · exact lay_pre p { s with mstep := 3 } 0 (11 + x)
theorem useCode_pre (p : List Int) (s : Rd) (x : Int) : useCode (addOut p s) x = addOut p (useCode s x) := by
  unfold useCode
  rw [give_pre]
  dsimp only
  have e1 : (addOut p (give s x).1).part = (give s x).1.part := rfl
  rw [e1]
  split
  · rfl
  split
  · rfl
  split <;> rfl
theorem use_pre (p : List Int) (s : Rd) (x : Int) : use (addOut p s) x = addOut p (use s x) := by
  have e1 : (addOut p s).part = s.part := rfl
  unfold use
  rw [e1]
  split
  · exact useWindow_pre p s x
  split
  · exact useBlock_pre p s x
  split
  · exact useSize_pre p s x
  split
  · exact useByte_pre p s x
  split
  · exact useCode_pre p s x
  split
  · exact useLetter_pre p s x
  split
  · rfl
  split
  · exact useDistance_pre p s x
  split
  · exact useCopy_pre p { s with near := nearAdd s.near (s.least + x) } (s.least + x)
  · rfl
theorem step_pre (p : List Int) (s : Rd) : step (addOut p s) = (step s).map (addOut p) := by
  have e1 : (addOut p s).part = s.part := rfl
  have e2 : peek (addOut p s) = peek s := rfl
  have e3 : (addOut p s).have_ = s.have_ := rfl
  unfold step
  rw [e1, e2, e3]
  split
  · rfl
  split
  · rfl
  · show some (use (addOut p (drop s (peek s).2)) (peek s).1) = some (addOut p (use (drop s (peek s).2) (peek s).1))
    rw [use_pre]
theorem steps_pre (p : List Int) : ∀ (n : Nat) (s : Rd), steps n (addOut p s) = addOut p (steps n s)
  | 0, _ => rfl
  | n + 1, s => by
    unfold steps
    rw [step_pre]
    cases step s with
    | none => rfl
    | some t => exact steps_pre p n t
theorem drive_pre (p : List Int) (s : Rd) : drive (addOut p s) = addOut p (drive s) := steps_pre p _ s
theorem take_pre (p : List Int) (s : Rd) (c : Int) : take (addOut p s) c = addOut p (take s c) := by
  have e1 : (addOut p s).part = s.part := rfl
  unfold take
  rw [e1]
  split
  · rfl
  · exact drive_pre p (more8 s c)
theorem feed_pre (p : List Int) : ∀ (l : List UInt8) (s : Rd), feed (addOut p s) l = addOut p (feed s l)
  | [], _ => rfl
  | c :: l, s => by
    have e1 : (addOut p s).part = s.part := rfl
    have e2 : (addOut p s).trailing = s.trailing := rfl
    unfold feed
    rw [e1, e2]
    split
    · rfl
    · rw [take_pre, feed_pre p l]
theorem feed_append : ∀ (a b : List UInt8) (s : Rd), feed s (a ++ b) = feed (feed s a) b
  | [], _, _ => rfl
  | c :: a, b, s => by
    by_cases h : s.part = 11 ∨ s.trailing = true
    · rw [feed_stop h, feed_stop h, feed_stop h]
    · rw [List.cons_append, feed_go h, feed_go h, feed_append a b]

/-- the reader behind a piece, emptied -/
def emptied (s : Rd) : Rd := { s with out := [] }
theorem emptied_back (s : Rd) : addOut s.out (emptied s) = s := by
  show { s with out := s.out ++ [] } = s
  rw [List.append_nil]
/-- a piece more: what it lets out is what comes out beyond what came out before -/
theorem feed_piece (a b : List UInt8) : (feed initRd (a ++ b)).out = (feed initRd a).out ++ (feed (emptied (feed initRd a)) b).out ∧ emptied (feed initRd (a ++ b)) = emptied (feed (emptied (feed initRd a)) b) := by
  have e : feed initRd (a ++ b) = addOut (feed initRd a).out (feed (emptied (feed initRd a)) b) := by
    rw [feed_append, ← feed_pre, emptied_back]
  rw [e]
  exact ⟨rfl, rfl⟩
theorem errno_emptied (s : Rd) : errno (emptied s) = errno s := rfl
end Wr

namespace Go.Proofs.YtmpfgdmdnghhgaaGreat
open Go.RowKit Wr

/-- a decoder: its reader, or none, and what Close said -/
def decCells (r : Option Nat) (said : Int) (o : Nat) : Value := if o = 0 then .pointer (r.map fun b => ⟨b, 0, none⟩) else .int .i64 said
def DecAt (w : World) (q : Nat) (r : Option Nat) (said : Int) : Prop := w.rowIs q 55 2 (decCells r said)

theorem On.decAt {b q : Nat} {w w' : World} {r : Option Nat} {said : Int} (h : On b w w') (hq : q ≠ b) (hd : DecAt w q r said) : DecAt w' q r said := World.rowIs.of_block hd (h.block q (World.rowIs.lt hd) hq)

set_option maxHeartbeats 400000 in
theorem NewDecoder_any (w : World) : Calls Tryz.prog 15 #[] w fun e w' => ∃ q b, e = .returned (.pointer (some ⟨q, 0, none⟩)) ∧ w.heap.size ≤ b ∧ b < q ∧ Row w' b initRd (.slice none 0 0) ∧ DecAt w' q (some b) 0 ∧ Below w.heap.size w w' := by
  go_enter Tryz.func15, Tryz.ntmps15
  go_wp2_with (first
    | (go_at_call 21; refine (New_any _).mono ?_; rintro e w1 ⟨b, rfl, hb0, hr1, hb1⟩))
  go_ret
  refine ⟨w1.heap.size, b, rfl, hb0, hr1.lt, hr1.alloc _, ?_, hb1.alloc hb1.size _⟩
  exact World.rowIs_alloc w1 _ 55 (decCells (some b) 0) (fun i hi => by
    match i, hi with
    | 0, _ => rfl
    | 1, _ => rfl)

set_option maxHeartbeats 400000 in
theorem Feed_open {w : World} {q b : Nat} {s : Rd} {said : Int} (hd : DecAt w q (some b) said) (hqb : q ≠ b) (hr : Row w b s (.slice none 0 0)) (ho : s.out = []) (h : Wr.Rest s) (x : ByteArray) (hx : x.size ≤ 268435456) (hp : psi s ≤ 1099511627776) :
    Calls Tryz.prog 17 #[.pointer (some ⟨q, 0, none⟩), .string x] w fun e w' => e = .returned (.string (outStr (feed s x.data.toList).out)) ∧ Row w' b (emptied (feed s x.data.toList)) (.slice none 0 0) ∧ DecAt w' q (some b) said ∧ On b w w' := by
  have c0 : w.cell? ⟨q, 0, none⟩ = some (.pointer (some ⟨b, 0, none⟩)) := World.rowIs.cell hd (by omega)
  have hfz := World.rowIs.frozen hd
  have hR := Read_any hr ho h x hx hp
  generalize feed s x.data.toList = t at *
  go_enter Tryz.func17, Tryz.ntmps17
  go_wp2_with (first
    | (go_at_call 22; refine hR.mono ?_; rintro e w1 ⟨rfl, hr1, hon1⟩))
  go_ret
  exact ⟨rfl, hr1, hon1.decAt hqb hd, hon1⟩

set_option maxHeartbeats 400000 in
theorem Feed_closed {w : World} {q : Nat} {said : Int} (hd : DecAt w q none said) (x : ByteArray) :
    Calls Tryz.prog 17 #[.pointer (some ⟨q, 0, none⟩), .string x] w fun e w' => e = .returned (.string ByteArray.empty) ∧ w' = w := by
  have c0 : w.cell? ⟨q, 0, none⟩ = some (.pointer none) := World.rowIs.cell hd (by omega)
  have hfz := World.rowIs.frozen hd
  go_enter Tryz.func17, Tryz.ntmps17
  go_wp2
  go_ret
  exact ⟨rfl, rfl⟩

set_option maxHeartbeats 400000 in
theorem Close_open {w : World} {q b : Nat} {s : Rd} {said : Int} {v : Value} (hd : DecAt w q (some b) said) (hr : Row w b s v) :
    Calls Tryz.prog 24 #[.pointer (some ⟨q, 0, none⟩)] w fun e w' => e = .returned (.int .i64 (errno s)) ∧ DecAt w' q none (errno s) ∧ On q w w' := by
  have c0 : w.cell? ⟨q, 0, none⟩ = some (.pointer (some ⟨b, 0, none⟩)) := World.rowIs.cell hd (by omega)
  have c1 : w.cell? ⟨q, 1, none⟩ = some (.int .i64 said) := World.rowIs.cell hd (by omega)
  have hfz := World.rowIs.frozen hd
  have hE := Errno_any hr
  generalize errno s = er at *
  go_enter Tryz.func24, Tryz.ntmps24
  go_wp2_with (first
    | (go_at_call 23; refine hE.mono ?_; rintro e w1 ⟨rfl, rfl⟩))
  go_ret
  refine ⟨rfl, ?_, ((On.refl q _).set _ _).set _ _⟩
  refine (World.rowIs.set (World.rowIs.set hd 1 (.int .i64 er)) 0 (.pointer none)).congr fun i hi => ?_
  match i, hi with
  | 0, _ => rfl
  | 1, _ => rfl

set_option maxHeartbeats 400000 in
theorem Close_closed {w : World} {q : Nat} {said : Int} (hd : DecAt w q none said) :
    Calls Tryz.prog 24 #[.pointer (some ⟨q, 0, none⟩)] w fun e w' => e = .returned (.int .i64 said) ∧ w' = w := by
  have c0 : w.cell? ⟨q, 0, none⟩ = some (.pointer none) := World.rowIs.cell hd (by omega)
  have c1 : w.cell? ⟨q, 1, none⟩ = some (.int .i64 said) := World.rowIs.cell hd (by omega)
  have hfz := World.rowIs.frozen hd
  go_enter Tryz.func24, Tryz.ntmps24
  go_wp2
  go_ret
  exact ⟨rfl, rfl⟩
end Go.Proofs.YtmpfgdmdnghhgaaGreat

namespace Go.Proofs.YtmpfgdmdnghhgaaGreat
open Go.RowKit Wr

theorem emptied_part {s : Rd} (h : Part s) : Part (emptied s) := by
  rcases h with h | ⟨h1, h2⟩
  · exact Or.inl h
  · refine Or.inr ⟨h1, ?_⟩
    rcases h2 with h2 | ⟨h2, m⟩ | ⟨h2, m, c⟩ | ⟨c1, c2, h3⟩
    · exact Or.inl h2
    · exact Or.inr (Or.inl ⟨h2, ⟨m.size, m.width, m.at0, m.step⟩⟩)
    · exact Or.inr (Or.inr (Or.inl ⟨h2, ⟨m.size, m.width, m.at0, m.step⟩, c⟩))
    · exact Or.inr (Or.inr (Or.inr ⟨c1, c2, h3⟩))
theorem emptied_rest {s : Rd} (h : Wr.Rest s) : Wr.Rest (emptied s) := ⟨⟨h.1.1.of rfl rfl rfl rfl rfl rfl ⟨h.1.1.l0, h.1.1.l1⟩, emptied_part h.1.2⟩, h.2⟩
theorem feed_rest : ∀ (l : List UInt8) (s : Rd), Wr.Rest s → Wr.Rest (feed s l) ∧ psi (feed s l) ≤ psi s + 4096 * l.length
  | [], s, h => ⟨h, by show psi s ≤ psi s + 4096 * ((0 : Nat) : Int); omega⟩
  | c :: l, s, h => by
    by_cases hs : s.part = 11 ∨ s.trailing = true
    · rw [feed_stop hs]
      refine ⟨h, ?_⟩
      have : (0 : Int) ≤ ((c :: l).length : Int) := by omega
      omega
    · rw [feed_go hs]
      have cb := byte_bounds c
      obtain ⟨t1, t2⟩ := take_rest h c.toNat cb.1 cb.2 (fun q => hs (Or.inl q))
      obtain ⟨i1, i2⟩ := feed_rest l (Wr.take s c.toNat) t1
      refine ⟨i1, ?_⟩
      simp only [List.length_cons]
      omega
theorem emptied_psi (s : Rd) : psi (emptied s) ≤ psi s := by
  show (([] : List Int).length : Int) + s.left + 512 * s.have_ ≤ (s.out.length : Int) + s.left + 512 * s.have_
  simp only [List.length_nil]
  omega
/-- the reader behind all that was fed -/
def readerOf (S : ByteArray) : Rd := emptied (feed initRd S.data.toList)
theorem readerOf_ok (S : ByteArray) (hs : S.size ≤ 67108864) : Wr.Rest (readerOf S) ∧ psi (readerOf S) ≤ 1099511627776 ∧ (readerOf S).out = [] := by
  obtain ⟨h1, h2⟩ := feed_rest S.data.toList initRd init_rest
  have h3 := emptied_psi (feed initRd S.data.toList)
  have h4 : psi initRd = 0 := rfl
  have h5 : S.data.toList.length = S.size := by simp
  refine ⟨emptied_rest h1, ?_, rfl⟩
  show psi (emptied (feed initRd S.data.toList)) ≤ _
  omega
end Go.Proofs.YtmpfgdmdnghhgaaGreat
