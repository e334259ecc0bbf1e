/- FEEDING PIECE BY PIECE: what came out before is left alone. No Go. -/
import Derived.Test.YtmjigodhncjfjaaFeed
namespace Wr

def addOut (p : List Int) (s : Rd) : Rd := { s with out := p ++ s.out }
theorem addOut_nil (s : Rd) : addOut [] s = s := rfl
theorem put_pre (p : List Int) (s : Rd) (c : Int) : put (addOut p s) c = addOut p (put s c) := by
  have e : (p ++ s.out) ++ [c] = p ++ (s.out ++ [c]) := List.append_assoc _ _ _
  unfold put addRing addOut
  dsimp only
  rw [e]
theorem fillTo_pre (p : List Int) (s : Rd) : fillTo (addOut p s) = addOut p (fillTo s) := by
  have e : fillOk (addOut p s) = fillOk s := rfl
  unfold fillTo
  rw [e]
  split <;> rfl
theorem endBlock_pre (p : List Int) (s : Rd) : endBlock (addOut p s) = addOut p (endBlock s) := by
  have e : fillOk (addOut p s) = fillOk s := rfl
  have e2 : (addOut p s).last = s.last := rfl
  unfold endBlock
  rw [e, e2, fillTo_pre]
  split
  · split <;> rfl
  · rfl
theorem endCommand_pre (p : List Int) (s : Rd) : endCommand (addOut p s) = addOut p (endCommand s) := by
  have e2 : (addOut p s).left = s.left := rfl
  unfold endCommand
  rw [e2]
  split
  · exact endBlock_pre p { s with part := 6 }
  · rfl
theorem copy_pre (p : List Int) (d : Int) : ∀ (n : Nat) (s : Rd), copyGo n (addOut p s) d = addOut p (copyGo n s d)
  | 0, _ => rfl
  | n + 1, s => by
    show copyGo n (put (addOut p s) (agoP s d)) d = _
    rw [put_pre, copy_pre p d n]
    rfl
theorem useCopy_pre (p : List Int) (s : Rd) (d : Int) : useCopy (addOut p s) d = addOut p (useCopy s d) := by
  have e1 : (addOut p s).reach = s.reach := rfl
  have e2 : (addOut p s).left = s.left := rfl
  have e3 : (addOut p s).length = s.length := rfl
  unfold useCopy
  rw [e1, e2, e3]
  split
  · rfl
  · rw [copy_pre, endCommand_pre]
theorem useWindow_pre (p : List Int) (s : Rd) (x : Int) : useWindow (addOut p s) x = addOut p (useWindow s x) := by
  unfold useWindow
  split <;> rfl
theorem useBlock_pre (p : List Int) (s : Rd) (x : Int) : useBlock (addOut p s) x = addOut p (useBlock s x) := by
  unfold useBlock
  dsimp only
  split
  · have e : ({ addOut p s with last := x % 2 == 1, kind := x / 2 } : Rd) = addOut p { s with last := x % 2 == 1, kind := x / 2 } := rfl
    have e2 : fillOk (addOut p { s with last := x % 2 == 1, kind := x / 2 }) = fillOk { s with last := x % 2 == 1, kind := x / 2 } := rfl
    rw [e, e2, fillTo_pre, endBlock_pre]
    split <;> rfl
  · rfl
theorem useSize_pre (p : List Int) (s : Rd) (x : Int) : useSize (addOut p s) x = addOut p (useSize s x) := by
  have key : ∀ t : Rd, (if fillOk (addOut p t) then (if ({ fillTo (addOut p t) with part := 3 } : Rd).left = 0 then endBlock { fillTo (addOut p t) with part := 3 } else { fillTo (addOut p t) with part := 3 }) else fillTo (addOut p t)) =
      addOut p (if fillOk t then (if ({ fillTo t with part := 3 } : Rd).left = 0 then endBlock { fillTo t with part := 3 } else { fillTo t with part := 3 }) else fillTo t) := by
    intro t
    have e2 : fillOk (addOut p t) = fillOk t := rfl
    rw [e2, fillTo_pre]
    split
    · have e3 : ({ addOut p (fillTo t) with part := 3 } : Rd) = addOut p { fillTo t with part := 3 } := rfl
      rw [e3, endBlock_pre]
      have e4 : (addOut p { fillTo t with part := 3 }).left = ({ fillTo t with part := 3 } : Rd).left := rfl
      rw [e4]
      split <;> rfl
    · rfl
  unfold useSize
  by_cases h : s.kind = 2
  · rw [if_pos (show (addOut p s).kind = 2 from h), if_pos h]
    rfl
  · rw [if_neg (show ¬ (addOut p s).kind = 2 from h), if_neg h]
    exact key { s with left := if s.kind = 1 then x + 1 else x }
theorem useByte_pre (p : List Int) (s : Rd) (x : Int) : useByte (addOut p s) x = addOut p (useByte s x) := by
  have e0 : (addOut p s).kind = s.kind := rfl
  have key : ∀ t : Rd, (if (addOut p t).left = 0 then endBlock (addOut p t) else addOut p t) = addOut p (if t.left = 0 then endBlock t else t) := by
    intro t
    have e : (addOut p t).left = t.left := rfl
    rw [e, endBlock_pre]
    split <;> rfl
  unfold useByte
  dsimp only
  rw [e0]
  by_cases h : s.kind = 1
  · rw [if_pos h, if_pos h, put_pre]
    exact key _
  · rw [if_neg h, if_neg h]
    exact key { s with left := s.left - 1 }
theorem useLetter_pre (p : List Int) (s : Rd) (x : Int) : useLetter (addOut p s) x = addOut p (useLetter s x) := by
  unfold useLetter
  split
  · rw [put_pre, endCommand_pre]
  · rfl
theorem useDistance_pre (p : List Int) (s : Rd) (x : Int) : useDistance (addOut p s) x = addOut p (useDistance s x) := by
  have e0 : (addOut p s).near = s.near := rfl
  unfold useDistance
  rw [e0]
  split
  · split
    · exact useCopy_pre p { s with near := nearAdd s.near (s.near x.toNat) } _
    · exact useCopy_pre p s _
  · rfl
theorem lay_pre (p : List Int) (s : Rd) (x n : Int) : lay (addOut p s) x n = (addOut p (lay s x n).1, (lay s x n).2) := by
  unfold lay
  have e1 : (addOut p s).msize = s.msize := rfl
  have e2 : (addOut p s).mat = s.mat := rfl
  have e3 : (addOut p s).mlen = s.mlen := rfl
  have e4 : (addOut p s).msym = s.msym := rfl
  rw [e1, e2, e3, e4]
  split
  · rfl
  · dsimp only
    split
    · rfl
    · split <;> rfl
theorem give_pre (p : List Int) (s : Rd) (x : Int) : give (addOut p s) x = (addOut p (give s x).1, (give s x).2) := by
  unfold give
  have e1 : (addOut p s).mstep = s.mstep := rfl
  rw [e1]
  split
  · rfl
  split
  · rfl
  split
  · unfold nameP
    have e2 : (addOut p s).msize = s.msize := rfl
    have e3 : (addOut p s).mat = s.mat := rfl
    have e4 : (addOut p s).msym = s.msym := rfl
    rw [e2, e3, e4]
    split
    · rfl
    split
    · rfl
    · dsimp only
      have e5 : (addOut p s).mwanted = s.mwanted := rfl
      rw [e5]
      split <;> rfl
  split
  · unfold lengthP
    have e3 : (addOut p s).mat = s.mat := rfl
    rw [e3]
    split
    · exact lay_pre p s x 1
    split <;> rfl
  · unfold times
    dsimp only
    have e3 : (addOut p s).mrepeat = s.mrepeat := rfl
    rw [e3]
    split
    · exact lay_pre p { s with mstep := 3 } (before { s with mstep := 3 }) (3 + x)
    split
    · exact lay_pre p { s with mstep := 3 } 0 (3 + x)
    · exact lay_pre p { s with mstep := 3 } 0 (11 + x)
theorem useCode_pre (p : List Int) (s : Rd) (x : Int) : useCode (addOut p s) x = addOut p (useCode s x) := by
  unfold useCode
  rw [give_pre]
  dsimp only
  have e1 : (addOut p (give s x).1).part = (give s x).1.part := rfl
  rw [e1]
  split
  · rfl
  split
  · rfl
  split <;> rfl
theorem use_pre (p : List Int) (s : Rd) (x : Int) : use (addOut p s) x = addOut p (use s x) := by
  have e1 : (addOut p s).part = s.part := rfl
  unfold use
  rw [e1]
  split
  · exact useWindow_pre p s x
  split
  · exact useBlock_pre p s x
  split
  · exact useSize_pre p s x
  split
  · exact useByte_pre p s x
  split
  · exact useCode_pre p s x
  split
  · exact useLetter_pre p s x
  split
  · rfl
  split
  · exact useDistance_pre p s x
  split
  · exact useCopy_pre p { s with near := nearAdd s.near (s.least + x) } (s.least + x)
  · rfl
theorem step_pre (p : List Int) (s : Rd) : step (addOut p s) = (step s).map (addOut p) := by
  have e1 : (addOut p s).part = s.part := rfl
  have e2 : peek (addOut p s) = peek s := rfl
  have e3 : (addOut p s).have_ = s.have_ := rfl
  unfold step
  rw [e1, e2, e3]
  split
  · rfl
  split
  · rfl
  · show some (use (addOut p (drop s (peek s).2)) (peek s).1) = some (addOut p (use (drop s (peek s).2) (peek s).1))
    rw [use_pre]
theorem steps_pre (p : List Int) : ∀ (n : Nat) (s : Rd), steps n (addOut p s) = addOut p (steps n s)
  | 0, _ => rfl
  | n + 1, s => by
    unfold steps
    rw [step_pre]
    cases step s with
    | none => rfl
    | some t => exact steps_pre p n t
theorem drive_pre (p : List Int) (s : Rd) : drive (addOut p s) = addOut p (drive s) := steps_pre p _ s
theorem take_pre (p : List Int) (s : Rd) (c : Int) : take (addOut p s) c = addOut p (take s c) := by
  have e1 : (addOut p s).part = s.part := rfl
  unfold take
  rw [e1]
  split
  · rfl
  · exact drive_pre p (more8 s c)
theorem feed_pre (p : List Int) : ∀ (l : List UInt8) (s : Rd), feed (addOut p s) l = addOut p (feed s l)
  | [], _ => rfl
  | c :: l, s => by
    have e1 : (addOut p s).part = s.part := rfl
    have e2 : (addOut p s).trailing = s.trailing := rfl
    unfold feed
    rw [e1, e2]
    split
    · rfl
    · rw [take_pre, feed_pre p l]
theorem feed_append : ∀ (a b : List UInt8) (s : Rd), feed s (a ++ b) = feed (feed s a) b
  | [], _, _ => rfl
  | c :: a, b, s => by
    by_cases h : s.part = 11 ∨ s.trailing = true
    · rw [feed_stop h, feed_stop h, feed_stop h]
    · rw [List.cons_append, feed_go h, feed_go h, feed_append a b]

/-- the reader behind a piece, emptied -/
def emptied (s : Rd) : Rd := { s with out := [] }
theorem emptied_back (s : Rd) : addOut s.out (emptied s) = s := by
  show { s with out := s.out ++ [] } = s
  rw [List.append_nil]
/-- a piece more: what it lets out is what comes out beyond what came out before -/
theorem feed_piece (a b : List UInt8) : (feed initRd (a ++ b)).out = (feed initRd a).out ++ (feed (emptied (feed initRd a)) b).out ∧ emptied (feed initRd (a ++ b)) = emptied (feed (emptied (feed initRd a)) b) := by
  have e : feed initRd (a ++ b) = addOut (feed initRd a).out (feed (emptied (feed initRd a)) b) := by
    rw [feed_append, ← feed_pre, emptied_back]
  rw [e]
  exact ⟨rfl, rfl⟩
theorem errno_emptied (s : Rd) : errno (emptied s) = errno s := rfl
end Wr
