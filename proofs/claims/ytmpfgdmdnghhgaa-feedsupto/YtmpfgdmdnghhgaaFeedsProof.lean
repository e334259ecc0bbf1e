import Derived.Test.YtmpfgdmdnghhgaaFeed
import Derived.Test.YtmpfgdmdnghhgaaW17
import Derived.Test.YtmpfgdmdnghhgaaBig2
import Derived.Test.YtmpfgdmdnghhgaaDecodesProof
import Derived.Maps.AppendAt
import Derived.Deep.RegionHeld3
import Derived.Test.YtmpfgdmdnghhgaaRows
import Derived.WalkKit
import Derived.ProofKit
import Derived.OpenShut
import Derived.ShutString
import Derived.ChangeOld
import Derived.Below
import Derived.JoinedCond
import Derived.Deep.Slices
import Derived.Deep.Strs
/- FEEDING PIECE BY PIECE: what came out before is left alone. No Go. -/
namespace Wr

def addOut (p : List Int) (s : Rd) : Rd := { s with out := p ++ s.out }
theorem addOut_nil (s : Rd) : addOut [] s = s := rfl
theorem put_pre (p : List Int) (s : Rd) (c : Int) : put (addOut p s) c = addOut p (put s c) := by
  have e : (p ++ s.out) ++ [c] = p ++ (s.out ++ [c]) := List.append_assoc _ _ _
  unfold put addRing addOut
  dsimp only
  rw [e]
theorem fillTo_pre (p : List Int) (s : Rd) : fillTo (addOut p s) = addOut p (fillTo s) := by
  have e : fillOk (addOut p s) = fillOk s := rfl
  unfold fillTo
  rw [e]
  split <;> rfl
theorem endBlock_pre (p : List Int) (s : Rd) : endBlock (addOut p s) = addOut p (endBlock s) := by
  have e : fillOk (addOut p s) = fillOk s := rfl
  have e2 : (addOut p s).last = s.last := rfl
  unfold endBlock
  rw [e, e2, fillTo_pre]
  split
  · split <;> rfl
  · rfl
theorem endCommand_pre (p : List Int) (s : Rd) : endCommand (addOut p s) = addOut p (endCommand s) := by
  have e2 : (addOut p s).left = s.left := rfl
  unfold endCommand
  rw [e2]
  split
  · exact endBlock_pre p { s with part := 6 }
  · rfl
theorem copy_pre (p : List Int) (d : Int) : ∀ (n : Nat) (s : Rd), copyGo n (addOut p s) d = addOut p (copyGo n s d)
  | 0, _ => rfl
  | n + 1, s => by
    show copyGo n (put (addOut p s) (agoP s d)) d = _
    rw [put_pre, copy_pre p d n]
    rfl
theorem useCopy_pre (p : List Int) (s : Rd) (d : Int) : useCopy (addOut p s) d = addOut p (useCopy s d) := by
  have e1 : (addOut p s).reach = s.reach := rfl
  have e2 : (addOut p s).left = s.left := rfl
  have e3 : (addOut p s).length = s.length := rfl
  unfold useCopy
  rw [e1, e2, e3]
  split
  · rfl
  · rw [copy_pre, endCommand_pre]
theorem useWindow_pre (p : List Int) (s : Rd) (x : Int) : useWindow (addOut p s) x = addOut p (useWindow s x) := by
  unfold useWindow
  split <;> rfl
theorem useBlock_pre (p : List Int) (s : Rd) (x : Int) : useBlock (addOut p s) x = addOut p (useBlock s x) := by
  unfold useBlock
  dsimp only
  split
  · have e : ({ addOut p s with last := x % 2 == 1, kind := x / 2 } : Rd) = addOut p { s with last := x % 2 == 1, kind := x / 2 } := rfl
    have e2 : fillOk (addOut p { s with last := x % 2 == 1, kind := x / 2 }) = fillOk { s with last := x % 2 == 1, kind := x / 2 } := rfl
    rw [e, e2, fillTo_pre, endBlock_pre]
    split <;> rfl
  · rfl
theorem useSize_pre (p : List Int) (s : Rd) (x : Int) : useSize (addOut p s) x = addOut p (useSize s x) := by
  have key : ∀ t : Rd, (if fillOk (addOut p t) then (if ({ fillTo (addOut p t) with part := 3 } : Rd).left = 0 then endBlock { fillTo (addOut p t) with part := 3 } else { fillTo (addOut p t) with part := 3 }) else fillTo (addOut p t)) =
      addOut p (if fillOk t then (if ({ fillTo t with part := 3 } : Rd).left = 0 then endBlock { fillTo t with part := 3 } else { fillTo t with part := 3 }) else fillTo t) := by
    intro t
    have e2 : fillOk (addOut p t) = fillOk t := rfl
    rw [e2, fillTo_pre]
    split
    · have e3 : ({ addOut p (fillTo t) with part := 3 } : Rd) = addOut p { fillTo t with part := 3 } := rfl
      rw [e3, endBlock_pre]
      have e4 : (addOut p { fillTo t with part := 3 }).left = ({ fillTo t with part := 3 } : Rd).left := rfl
      rw [e4]
      split <;> rfl
    · rfl
  unfold useSize
  by_cases h : s.kind = 2
  · rw [if_pos (show (addOut p s).kind = 2 from h), if_pos h]
    rfl
  · rw [if_neg (show ¬ (addOut p s).kind = 2 from h), if_neg h]
    exact key { s with left := if s.kind = 1 then x + 1 else x }
theorem useByte_pre (p : List Int) (s : Rd) (x : Int) : useByte (addOut p s) x = addOut p (useByte s x) := by
  have e0 : (addOut p s).kind = s.kind := rfl
  have key : ∀ t : Rd, (if (addOut p t).left = 0 then endBlock (addOut p t) else addOut p t) = addOut p (if t.left = 0 then endBlock t else t) := by
    intro t
    have e : (addOut p t).left = t.left := rfl
    rw [e, endBlock_pre]
    split <;> rfl
  unfold useByte
  dsimp only
  rw [e0]
  by_cases h : s.kind = 1
  · rw [if_pos h, if_pos h, put_pre]
    exact key _
  · rw [if_neg h, if_neg h]
    exact key { s with left := s.left - 1 }
theorem useLetter_pre (p : List Int) (s : Rd) (x : Int) : useLetter (addOut p s) x = addOut p (useLetter s x) := by
  unfold useLetter
  split
  · rw [put_pre, endCommand_pre]
  · rfl
theorem useDistance_pre (p : List Int) (s : Rd) (x : Int) : useDistance (addOut p s) x = addOut p (useDistance s x) := by
  have e0 : (addOut p s).near = s.near := rfl
  unfold useDistance
  rw [e0]
  split
  · split
    · exact useCopy_pre p { s with near := nearAdd s.near (s.near x.toNat) } _
    · exact useCopy_pre p s _
  · rfl
theorem lay_pre (p : List Int) (s : Rd) (x n : Int) : lay (addOut p s) x n = (addOut p (lay s x n).1, (lay s x n).2) := by
  unfold lay
  have e1 : (addOut p s).msize = s.msize := rfl
  have e2 : (addOut p s).mat = s.mat := rfl
  have e3 : (addOut p s).mlen = s.mlen := rfl
  have e4 : (addOut p s).msym = s.msym := rfl
  rw [e1, e2, e3, e4]
  split
  · rfl
  · dsimp only
    split
    · rfl
    · split <;> rfl
theorem give_pre (p : List Int) (s : Rd) (x : Int) : give (addOut p s) x = (addOut p (give s x).1, (give s x).2) := by
  unfold give
  have e1 : (addOut p s).mstep = s.mstep := rfl
  rw [e1]
  split
  · rfl
  split
  · rfl
  split
  · unfold nameP
    have e2 : (addOut p s).msize = s.msize := rfl
    have e3 : (addOut p s).mat = s.mat := rfl
    have e4 : (addOut p s).msym = s.msym := rfl
    rw [e2, e3, e4]
    split
    · rfl
    split
    · rfl
    · dsimp only
      have e5 : (addOut p s).mwanted = s.mwanted := rfl
      rw [e5]
      split <;> rfl
  split
  · unfold lengthP
    have e3 : (addOut p s).mat = s.mat := rfl
    rw [e3]
    split
    · exact lay_pre p s x 1
    split <;> rfl
  · unfold times
    dsimp only
    have e3 : (addOut p s).mrepeat = s.mrepeat := rfl
    rw [e3]
    split
    · exact lay_pre p { s with mstep := 3 } (before { s with mstep := 3 }) (3 + x)
    split
    · exact lay_pre p { s with mstep := 3 } 0 (3 + x)
    · exact lay_pre p { s with mstep := 3 } 0 (11 + x)
theorem useCode_pre (p : List Int) (s : Rd) (x : Int) : useCode (addOut p s) x = addOut p (useCode s x) := by
  unfold useCode
  rw [give_pre]
  dsimp only
  have e1 : (addOut p (give s x).1).part = (give s x).1.part := rfl
  rw [e1]
  split
  · rfl
  split
  · rfl
  split <;> rfl
theorem use_pre (p : List Int) (s : Rd) (x : Int) : use (addOut p s) x = addOut p (use s x) := by
  have e1 : (addOut p s).part = s.part := rfl
  unfold use
  rw [e1]
  split
  · exact useWindow_pre p s x
  split
  · exact useBlock_pre p s x
  split
  · exact useSize_pre p s x
  split
  · exact useByte_pre p s x
  split
  · exact useCode_pre p s x
  split
  · exact useLetter_pre p s x
  split
  · rfl
  split
  · exact useDistance_pre p s x
  split
  · exact useCopy_pre p { s with near := nearAdd s.near (s.least + x) } (s.least + x)
  · rfl
theorem step_pre (p : List Int) (s : Rd) : step (addOut p s) = (step s).map (addOut p) := by
  have e1 : (addOut p s).part = s.part := rfl
  have e2 : peek (addOut p s) = peek s := rfl
  have e3 : (addOut p s).have_ = s.have_ := rfl
  unfold step
  rw [e1, e2, e3]
  split
  · rfl
  split
  · rfl
  · show some (use (addOut p (drop s (peek s).2)) (peek s).1) = some (addOut p (use (drop s (peek s).2) (peek s).1))
    rw [use_pre]
theorem steps_pre (p : List Int) : ∀ (n : Nat) (s : Rd), steps n (addOut p s) = addOut p (steps n s)
  | 0, _ => rfl
  | n + 1, s => by
    unfold steps
    rw [step_pre]
    cases step s with
    | none => rfl
    | some t => exact steps_pre p n t
theorem drive_pre (p : List Int) (s : Rd) : drive (addOut p s) = addOut p (drive s) := steps_pre p _ s
theorem take_pre (p : List Int) (s : Rd) (c : Int) : take (addOut p s) c = addOut p (take s c) := by
  have e1 : (addOut p s).part = s.part := rfl
  unfold take
  rw [e1]
  split
  · rfl
  · exact drive_pre p (more8 s c)
theorem feed_pre (p : List Int) : ∀ (l : List UInt8) (s : Rd), feed (addOut p s) l = addOut p (feed s l)
  | [], _ => rfl
  | c :: l, s => by
    have e1 : (addOut p s).part = s.part := rfl
    have e2 : (addOut p s).trailing = s.trailing := rfl
    unfold feed
    rw [e1, e2]
    split
    · rfl
    · rw [take_pre, feed_pre p l]
theorem feed_append : ∀ (a b : List UInt8) (s : Rd), feed s (a ++ b) = feed (feed s a) b
  | [], _, _ => rfl
  | c :: a, b, s => by
    by_cases h : s.part = 11 ∨ s.trailing = true
    · rw [feed_stop h, feed_stop h, feed_stop h]
    · rw [List.cons_append, feed_go h, feed_go h, feed_append a b]

/-- the reader behind a piece, emptied -/
def emptied (s : Rd) : Rd := { s with out := [] }
theorem emptied_back (s : Rd) : addOut s.out (emptied s) = s := by
  show { s with out := s.out ++ [] } = s
  rw [List.append_nil]
/-- a piece more: what it lets out is what comes out beyond what came out before -/
theorem feed_piece (a b : List UInt8) : (feed initRd (a ++ b)).out = (feed initRd a).out ++ (feed (emptied (feed initRd a)) b).out ∧ emptied (feed initRd (a ++ b)) = emptied (feed (emptied (feed initRd a)) b) := by
  have e : feed initRd (a ++ b) = addOut (feed initRd a).out (feed (emptied (feed initRd a)) b) := by
    rw [feed_append, ← feed_pre, emptied_back]
  rw [e]
  exact ⟨rfl, rfl⟩
theorem errno_emptied (s : Rd) : errno (emptied s) = errno s := rfl
end Wr

namespace Go.Proofs.Ytmpfgdmdnghhgaa
open Go.RowKit Wr

/-- a decoder: its reader, or none, and what Close said -/
def decCells (r : Option Nat) (said : Int) (o : Nat) : Value := if o = 0 then .pointer (r.map fun b => ⟨b, 0, none⟩) else .int .i64 said
def DecAt (w : World) (q : Nat) (r : Option Nat) (said : Int) : Prop := w.rowIs q 73 2 (decCells r said)

theorem On.decAt {b q : Nat} {w w' : World} {r : Option Nat} {said : Int} (h : On b w w') (hq : q ≠ b) (hd : DecAt w q r said) : DecAt w' q r said := World.rowIs.of_block hd (h.block q (World.rowIs.lt hd) hq)

set_option maxHeartbeats 400000 in
theorem NewDecoder_any (w : World) : Calls Try.prog 18 #[] w fun e w' => ∃ q b, e = .returned (.pointer (some ⟨q, 0, none⟩)) ∧ w.heap.size ≤ b ∧ b < q ∧ Row w' b initRd (.slice none 0 0) ∧ DecAt w' q (some b) 0 ∧ Below w.heap.size w w' := by
  go_enter Try.func18, Try.ntmps18
  go_wp2_with (first
    | (go_at_call 27; refine (New_any _).mono ?_; rintro e w1 ⟨b, rfl, hb0, hr1, hb1⟩))
  go_ret
  refine ⟨w1.heap.size, b, rfl, hb0, hr1.lt, hr1.alloc _, ?_, hb1.alloc hb1.size _⟩
  exact World.rowIs_alloc w1 _ 73 (decCells (some b) 0) (fun i hi => by
    match i, hi with
    | 0, _ => rfl
    | 1, _ => rfl)

set_option maxHeartbeats 400000 in
theorem Feed_open {w : World} {q b : Nat} {s : Rd} {said : Int} (hd : DecAt w q (some b) said) (hqb : q ≠ b) (hr : Row w b s (.slice none 0 0)) (ho : s.out = []) (h : Wr.Rest s) (x : ByteArray) (hx : x.size ≤ 268435456) (hp : psi s ≤ 1099511627776) :
    Calls Try.prog 21 #[.pointer (some ⟨q, 0, none⟩), .string x] w fun e w' => e = .returned (.string (outStr (feed s x.data.toList).out)) ∧ Row w' b (emptied (feed s x.data.toList)) (.slice none 0 0) ∧ DecAt w' q (some b) said ∧ On b w w' := by
  have c0 : w.cell? ⟨q, 0, none⟩ = some (.pointer (some ⟨b, 0, none⟩)) := World.rowIs.cell hd (by omega)
  have hfz := World.rowIs.frozen hd
  have hR := Read_any hr ho h x hx hp
  generalize feed s x.data.toList = t at *
  go_enter Try.func21, Try.ntmps21
  go_wp2_with (first
    | (go_at_call 28; refine hR.mono ?_; rintro e w1 ⟨rfl, hr1, hon1⟩))
  go_ret
  exact ⟨rfl, hr1, hon1.decAt hqb hd, hon1⟩

set_option maxHeartbeats 400000 in
theorem Feed_closed {w : World} {q : Nat} {said : Int} (hd : DecAt w q none said) (x : ByteArray) :
    Calls Try.prog 21 #[.pointer (some ⟨q, 0, none⟩), .string x] w fun e w' => e = .returned (.string ByteArray.empty) ∧ w' = w := by
  have c0 : w.cell? ⟨q, 0, none⟩ = some (.pointer none) := World.rowIs.cell hd (by omega)
  have hfz := World.rowIs.frozen hd
  go_enter Try.func21, Try.ntmps21
  go_wp2
  go_ret
  exact ⟨rfl, rfl⟩

set_option maxHeartbeats 400000 in
theorem Close_open {w : World} {q b : Nat} {s : Rd} {said : Int} {v : Value} (hd : DecAt w q (some b) said) (hr : Row w b s v) :
    Calls Try.prog 22 #[.pointer (some ⟨q, 0, none⟩)] w fun e w' => e = .returned (.int .i64 (errno s)) ∧ DecAt w' q none (errno s) ∧ On q w w' := by
  have c0 : w.cell? ⟨q, 0, none⟩ = some (.pointer (some ⟨b, 0, none⟩)) := World.rowIs.cell hd (by omega)
  have c1 : w.cell? ⟨q, 1, none⟩ = some (.int .i64 said) := World.rowIs.cell hd (by omega)
  have hfz := World.rowIs.frozen hd
  have hE := Errno_any hr
  generalize errno s = er at *
  go_enter Try.func22, Try.ntmps22
  go_wp2_with (first
    | (go_at_call 29; refine hE.mono ?_; rintro e w1 ⟨rfl, rfl⟩))
  go_ret
  refine ⟨rfl, ?_, ((On.refl q _).set _ _).set _ _⟩
  refine (World.rowIs.set (World.rowIs.set hd 1 (.int .i64 er)) 0 (.pointer none)).congr fun i hi => ?_
  match i, hi with
  | 0, _ => rfl
  | 1, _ => rfl

set_option maxHeartbeats 400000 in
theorem Close_closed {w : World} {q : Nat} {said : Int} (hd : DecAt w q none said) :
    Calls Try.prog 22 #[.pointer (some ⟨q, 0, none⟩)] w fun e w' => e = .returned (.int .i64 said) ∧ w' = w := by
  have c0 : w.cell? ⟨q, 0, none⟩ = some (.pointer none) := World.rowIs.cell hd (by omega)
  have c1 : w.cell? ⟨q, 1, none⟩ = some (.int .i64 said) := World.rowIs.cell hd (by omega)
  have hfz := World.rowIs.frozen hd
  go_enter Try.func22, Try.ntmps22
  go_wp2
  go_ret
  exact ⟨rfl, rfl⟩
end Go.Proofs.Ytmpfgdmdnghhgaa

namespace Go.Proofs.Ytmpfgdmdnghhgaa
open Go.RowKit Wr

def pickL (c : Int) : Int := (if c < 0 then -(c + 1) else c) % 3
theorem pickL_bounds (c : Int) : 0 ≤ pickL c ∧ pickL c ≤ 2 := by unfold pickL; split <;> omega

set_option maxHeartbeats 400000 in
theorem lawPick_any (w : World) (c : Int) (h0 : -9223372036854775808 ≤ c) (h1 : c ≤ 9223372036854775807) :
    Calls Try.prog 19 #[.int .i64 c, .int .i64 3] w fun e w' => e = .returned (.int .i64 (pickL c)) ∧ w' = w := by
  unfold pickL
  by_cases hc : c < 0
  · rw [if_pos hc]
    go_enter Try.func19, Try.ntmps19
    go_wp2
    go_ret
    refine ⟨?_, rfl⟩
    show Ending.returned (.int .i64 (-((c + 1).tmod 3))) = _
    rw [← Int.neg_tmod, Int.tmod_eq_emod_of_nonneg (by omega)]
  · rw [if_neg hc]
    go_enter Try.func19, Try.ntmps19
    go_wp2
    go_ret
    exact ⟨rfl, rfl⟩
end Go.Proofs.Ytmpfgdmdnghhgaa

namespace Go.Proofs.Ytmpfgdmdnghhgaa
open Go.RowKit Wr

theorem emptied_part {s : Rd} (h : Part s) : Part (emptied s) := by
  rcases h with h | ⟨h1, h2⟩
  · exact Or.inl h
  · refine Or.inr ⟨h1, ?_⟩
    rcases h2 with h2 | ⟨h2, m⟩ | ⟨h2, m, c⟩ | ⟨c1, c2, h3⟩
    · exact Or.inl h2
    · exact Or.inr (Or.inl ⟨h2, ⟨m.size, m.width, m.at0, m.step⟩⟩)
    · exact Or.inr (Or.inr (Or.inl ⟨h2, ⟨m.size, m.width, m.at0, m.step⟩, c⟩))
    · exact Or.inr (Or.inr (Or.inr ⟨c1, c2, h3⟩))
theorem emptied_rest {s : Rd} (h : Wr.Rest s) : Wr.Rest (emptied s) := ⟨⟨h.1.1.of rfl rfl rfl rfl rfl rfl ⟨h.1.1.l0, h.1.1.l1⟩, emptied_part h.1.2⟩, h.2⟩
theorem feed_rest : ∀ (l : List UInt8) (s : Rd), Wr.Rest s → Wr.Rest (feed s l) ∧ psi (feed s l) ≤ psi s + 4096 * l.length
  | [], s, h => ⟨h, by show psi s ≤ psi s + 4096 * ((0 : Nat) : Int); omega⟩
  | c :: l, s, h => by
    by_cases hs : s.part = 11 ∨ s.trailing = true
    · rw [feed_stop hs]
      refine ⟨h, ?_⟩
      have : (0 : Int) ≤ ((c :: l).length : Int) := by omega
      omega
    · rw [feed_go hs]
      have cb := byte_bounds c
      obtain ⟨t1, t2⟩ := take_rest h c.toNat cb.1 cb.2 (fun q => hs (Or.inl q))
      obtain ⟨i1, i2⟩ := feed_rest l (Wr.take s c.toNat) t1
      refine ⟨i1, ?_⟩
      simp only [List.length_cons]
      omega
theorem emptied_psi (s : Rd) : psi (emptied s) ≤ psi s := by
  show (([] : List Int).length : Int) + s.left + 512 * s.have_ ≤ (s.out.length : Int) + s.left + 512 * s.have_
  simp only [List.length_nil]
  omega
/-- the reader behind all that was fed -/
def readerOf (S : ByteArray) : Rd := emptied (feed initRd S.data.toList)
theorem readerOf_ok (S : ByteArray) (hs : S.size ≤ 67108864) : Wr.Rest (readerOf S) ∧ psi (readerOf S) ≤ 1099511627776 ∧ (readerOf S).out = [] := by
  obtain ⟨h1, h2⟩ := feed_rest S.data.toList initRd init_rest
  have h3 := emptied_psi (feed initRd S.data.toList)
  have h4 : psi initRd = 0 := rfl
  have h5 : S.data.toList.length = S.size := by simp
  refine ⟨emptied_rest h1, ?_, rfl⟩
  show psi (emptied (feed initRd S.data.toList)) ≤ _
  omega
end Go.Proofs.Ytmpfgdmdnghhgaa

namespace Go.Proofs.Ytmpfgdmdnghhgaa
open Go.RowKit Wr

theorem readerOf_errno (S : ByteArray) : errno (readerOf S) = readV S := (errno_emptied _).trans (dec_doc S).2

def fedCells (q : Nat) (S : ByteArray) (n : Int) (done : Bool) (o : Nat) : Value :=
  if o = 0 then .pointer (some ⟨q, 0, none⟩) else if o = 1 then .string S else if o = 2 then .int .i64 n else .bool done
structure Fed (w : World) (f q b : Nat) (S : ByteArray) (done : Bool) : Prop where
  row : w.rowIs f 46 4 (fedCells q S (readD S).out.length done)
  dec : DecAt w q (if done then none else some b) (if done then readV S else 0)
  rd : done = false → Row w b (readerOf S) (.slice none 0 0)
  fq : f ≠ q
  fb : f ≠ b
  qb : q ≠ b
/-- all that was there is as it was, but these three -/
structure On3 (f q b : Nat) (w w' : World) : Prop where
  os : w'.os = w.os
  tape : w'.tape = w.tape
  output : w'.output = w.output
  size : w.heap.size ≤ w'.heap.size
  block : ∀ k, k < w.heap.size → k ≠ f → k ≠ q → k ≠ b → w'.heap[k]? = w.heap[k]?

end Go.Proofs.Ytmpfgdmdnghhgaa

namespace Go.Proofs.Ytmpfgdmdnghhgaa
open Go.RowKit Wr

theorem On3.of1 {f q b : Nat} {w w' : World} (h : On f w w') : On3 f q b w w' := ⟨h.os, h.tape, h.output, h.size, fun i hi h1 _ _ => h.block i hi h1⟩
theorem On3.of2 {f q b : Nat} {w w' : World} (h : On q w w') : On3 f q b w w' := ⟨h.os, h.tape, h.output, h.size, fun i hi _ h2 _ => h.block i hi h2⟩
theorem On3.of3 {f q b : Nat} {w w' : World} (h : On b w w') : On3 f q b w w' := ⟨h.os, h.tape, h.output, h.size, fun i hi _ _ h3 => h.block i hi h3⟩
theorem On3.below {f q b : Nat} {w w' : World} (h : Below w.heap.size w w') : On3 f q b w w' := ⟨h.os, h.tape, h.output, h.size, fun i hi _ _ _ => h.block i hi⟩
theorem On3.trans {f q b : Nat} {w w' w'' : World} (h : On3 f q b w w') (k : On3 f q b w' w'') : On3 f q b w w'' :=
  ⟨k.os.trans h.os, k.tape.trans h.tape, k.output.trans h.output, Nat.le_trans h.size k.size, fun i hi h1 h2 h3 => (k.block i (Nat.lt_of_lt_of_le hi h.size) h1 h2 h3).trans (h.block i hi h1 h2 h3)⟩
def FedRow (w : World) (f q : Nat) (S : ByteArray) (n : Int) (done : Bool) : Prop := w.rowIs f 46 4 (fedCells q S n done)
theorem On.fedRow {b f q : Nat} {w w' : World} {S : ByteArray} {n : Int} {d : Bool} (h : On b w w') (hf : f ≠ b) (hd : FedRow w f q S n d) : FedRow w' f q S n d := World.rowIs.of_block hd (h.block f (World.rowIs.lt hd) hf)
theorem below_fedRow {f q : Nat} {w w' : World} {S : ByteArray} {n : Int} {d : Bool} (h : Below w.heap.size w w') (hd : FedRow w f q S n d) : FedRow w' f q S n d := World.rowIs.of_block hd (h.block f (World.rowIs.lt hd))
theorem below_decAt {q : Nat} {w w' : World} {r : Option Nat} {said : Int} (h : Below w.heap.size w w') (hd : DecAt w q r said) : DecAt w' q r said := World.rowIs.of_block hd (h.block q (World.rowIs.lt hd))
theorem below_row {b : Nat} {w w' : World} {s : Rd} {v : Value} (h : Below w.heap.size w w') (hd : Row w b s v) : Row w' b s v := hd.of_block (h.block b hd.lt)
theorem FedRow.done {w : World} {f q : Nat} {S : ByteArray} {n : Int} {d : Bool} (h : FedRow w f q S n d) (x : Bool) : FedRow (w.setCell ⟨f, 3, none⟩ (.bool x)) f q S n x :=
  (World.rowIs.set h _ _).congr fun i hi => by
    match i, hi with
    | 0, _ => rfl
    | 1, _ => rfl
    | 2, _ => rfl
    | 3, _ => rfl
theorem FedRow.s {w : World} {f q : Nat} {S : ByteArray} {n : Int} {d : Bool} (h : FedRow w f q S n d) (x : ByteArray) : FedRow (w.setCell ⟨f, 1, none⟩ (.string x)) f q x n d :=
  (World.rowIs.set h _ _).congr fun i hi => by
    match i, hi with
    | 0, _ => rfl
    | 1, _ => rfl
    | 2, _ => rfl
    | 3, _ => rfl
theorem FedRow.n {w : World} {f q : Nat} {S : ByteArray} {n : Int} {d : Bool} (h : FedRow w f q S n d) (x : Int) : FedRow (w.setCell ⟨f, 2, none⟩ (.int .i64 x)) f q S x d :=
  (World.rowIs.set h _ _).congr fun i hi => by
    match i, hi with
    | 0, _ => rfl
    | 1, _ => rfl
    | 2, _ => rfl
    | 3, _ => rfl

set_option maxRecDepth 100000 in
set_option maxHeartbeats 1000000 in
theorem takes_close0 {w : World} {f q b : Nat} {S : ByteArray} (hF : Fed w f q b S false) (hs : S.size ≤ 67108864) (c : Int) (p : ByteArray) :
    Calls Try.prog 20 #[.pointer (some ⟨f, 0, none⟩), .agg #[.int .i64 c, .string p, .bool true]] w fun e w' => e = .returned (.bool true) ∧ Fed w' f q b S true ∧ On3 f q b w w' := by
  have hrow : FedRow w f q S (readD S).out.length false := hF.row
  have hdec : DecAt w q (some b) 0 := hF.dec
  have hrd := hF.rd rfl
  have c0 : w.cell? ⟨f, 0, none⟩ = some (.pointer (some ⟨q, 0, none⟩)) := World.rowIs.cell hrow (by omega)
  have hfz := World.rowIs.frozen hrow
  have hfl : f < w.heap.size := World.rowIs.lt hrow
  have hC := fun o => Close_open (w := w.alloc o) (World.rowIs.alloc hdec o) (hrd.alloc o)
  have hvb := readV_bounds S
  rw [readerOf_errno] at hC
  have hR := fun (W : World) => Rdecode_any W S (by omega)
  have hN := fun (W : World) => num_any W (readV S) hvb.1 (by omega)
  have HQ : Hid (Fed w f q b S false) := hF
  generalize outStr (readD S).out = T at *
  generalize hV : readV S = V at *
  have HV2 : Hid (readV S = V) := hV
  clear hF hdec hrd hV
  go_enter Try.func20, Try.ntmps20
  go_wp2_with (first
    | (go_at_call 10; refine (hN _).mono ?_; rintro e w3 ⟨rfl, rfl⟩)
    | (go_at_call 9; refine (hR _).mono ?_; rintro e w2 ⟨rfl, hb2⟩)
    | (go_at_call 22; refine (hC _).mono ?_; rintro e w1 ⟨rfl, hd1, hon1⟩; have hr1 := hon1.fedRow HQ.out.fq (World.rowIs.alloc hrow _); have d0 : w1.cell? ⟨f, 1, none⟩ = some (.string S) := World.rowIs.cell hr1 (by omega); have d1 : w1.cell? ⟨f, 3, none⟩ = some (.bool false) := World.rowIs.cell hr1 (by omega); have hfz1 := World.rowIs.frozen hr1))
  go_ret
  have ho1 : On3 f q b w w1 := (On3.below ((Below.refl _ w).alloc (Nat.le_refl _) _)).trans (On3.of2 hon1)
  have hof : On f w1 (w1.setCell ⟨f, 3, none⟩ (.bool true)) := (On.refl f w1).set _ _
  have hd2 := hof.decAt HQ.out.fq.symm hd1
  rw [← HV2.out] at hd2
  exact ⟨rfl, ⟨below_fedRow hb2 (hr1.done true), below_decAt hb2 hd2, fun h => (by cases h), HQ.out.fq, HQ.out.fb, HQ.out.qb⟩, (ho1.trans (On3.of1 hof)).trans (On3.below hb2)⟩

set_option maxRecDepth 100000 in
set_option maxHeartbeats 1000000 in
theorem takes_close1 {w : World} {f q b : Nat} {S : ByteArray} (hF : Fed w f q b S true) (hs : S.size ≤ 67108864) (c : Int) (p : ByteArray) :
    Calls Try.prog 20 #[.pointer (some ⟨f, 0, none⟩), .agg #[.int .i64 c, .string p, .bool true]] w fun e w' => e = .returned (.bool true) ∧ Fed w' f q b S true ∧ On3 f q b w w' := by
  have hrow : FedRow w f q S (readD S).out.length true := hF.row
  have hdec : DecAt w q none (readV S) := hF.dec
  have c0 : w.cell? ⟨f, 0, none⟩ = some (.pointer (some ⟨q, 0, none⟩)) := World.rowIs.cell hrow (by omega)
  have hfz := World.rowIs.frozen hrow
  have hfl : f < w.heap.size := World.rowIs.lt hrow
  have hC := fun o => Close_closed (w := w.alloc o) (World.rowIs.alloc hdec o)
  have hvb := readV_bounds S
  have hR := fun (W : World) => Rdecode_any W S (by omega)
  have hN := fun (W : World) => num_any W (readV S) hvb.1 (by omega)
  have HQ : Hid (Fed w f q b S true) := hF
  generalize outStr (readD S).out = T at *
  have HV : Hid (DecAt w q none (readV S)) := hdec
  generalize hV : readV S = V at *
  have HV2 : Hid (readV S = V) := hV
  have d0 : w.cell? ⟨f, 1, none⟩ = some (.string S) := World.rowIs.cell hrow (by omega)
  have d1 : w.cell? ⟨f, 3, none⟩ = some (.bool true) := World.rowIs.cell hrow (by omega)
  clear hF hdec hV
  go_enter Try.func20, Try.ntmps20
  go_wp2_with (first
    | (go_at_call 10; refine (hN _).mono ?_; rintro e w3 ⟨rfl, rfl⟩)
    | (go_at_call 9; refine (hR _).mono ?_; rintro e w2 ⟨rfl, hb2⟩)
    | (go_at_call 22; refine (hC _).mono ?_; rintro e w1 ⟨rfl, rfl⟩))
  go_ret
  have hof : On f w ((w.setCell ⟨f, 3, none⟩ (.bool true)).alloc (.cells #[.int .i64 c, .string p, .bool true] 48)) := ((On.refl f w).set _ _).alloc _
  have hd2 := hof.decAt HQ.out.fq.symm HV.out
  rw [← HV2.out] at hd2
  have hr2 : FedRow ((w.setCell ⟨f, 3, none⟩ (.bool true)).alloc (.cells #[.int .i64 c, .string p, .bool true] 48)) f q S (readD S).out.length true := World.rowIs.alloc (FedRow.done hrow true) _
  exact ⟨rfl, ⟨below_fedRow hb2 hr2, below_decAt hb2 hd2, fun h => (by cases h), HQ.out.fq, HQ.out.fb, HQ.out.qb⟩, (On3.of1 hof).trans (On3.below hb2)⟩

theorem doc_piece (S p : ByteArray) : (readD (S ++ p)).out = (readD S).out ++ (feed (readerOf S) p.data.toList).out ∧ readerOf (S ++ p) = emptied (feed (readerOf S) p.data.toList) := by
  have e : ∀ X : ByteArray, (feed initRd X.data.toList).out = (readD X).out := fun X => by rw [(feed_full X.data.toList).1, (doc_eq X).1]
  have hp := feed_piece S.data.toList p.data.toList
  unfold readerOf
  rw [← e, ← e, ByteArray.data_append, Array.toList_append]
  exact hp

set_option maxRecDepth 100000 in
set_option maxHeartbeats 1000000 in
theorem takes_feed1 {w : World} {f q b : Nat} {S : ByteArray} (hF : Fed w f q b S true) (c : Int) (p : ByteArray) :
    Calls Try.prog 20 #[.pointer (some ⟨f, 0, none⟩), .agg #[.int .i64 c, .string p, .bool false]] w fun e w' => e = .returned (.bool true) ∧ Fed w' f q b S true ∧ On3 f q b w w' := by
  have hrow : FedRow w f q S (readD S).out.length true := hF.row
  have hdec : DecAt w q none (readV S) := hF.dec
  have c0 : w.cell? ⟨f, 0, none⟩ = some (.pointer (some ⟨q, 0, none⟩)) := World.rowIs.cell hrow (by omega)
  have hfz := World.rowIs.frozen hrow
  have hfl : f < w.heap.size := World.rowIs.lt hrow
  have hC := fun o => Feed_closed (w := (w.alloc o).drew) (World.rowIs.alloc hdec o) p
  have d1 : w.cell? ⟨f, 3, none⟩ = some (.bool true) := World.rowIs.cell hrow (by omega)
  have HQ : Hid (Fed w f q b S true) := hF
  clear hF
  go_enter Try.func20, Try.ntmps20
  go_wp2
  go_region_with (go_at_call 21; refine (hC _).mono ?_; rintro e w1 ⟨rfl, rfl⟩)
  all_goals
    go_wp2
    go_ret
    have hof : On f w ((w.alloc (.cells #[.int .i64 c, .string p, .bool false] 48)).drew) := ((On.refl f w).alloc _).drew
    exact ⟨rfl, ⟨World.rowIs.alloc hrow _, hof.decAt HQ.out.fq.symm hdec, fun h => (by cases h), HQ.out.fq, HQ.out.fb, HQ.out.qb⟩, On3.of1 hof⟩

set_option maxRecDepth 100000 in
set_option maxHeartbeats 1000000 in
theorem takes_feed0 {w : World} {f q b : Nat} {S : ByteArray} (hF : Fed w f q b S false) (c : Int) (p : ByteArray) (hs : S.size + p.size ≤ 67108864) :
    Calls Try.prog 20 #[.pointer (some ⟨f, 0, none⟩), .agg #[.int .i64 c, .string p, .bool false]] w fun e w' => e = .returned (.bool true) ∧ Fed w' f q b (S ++ p) false ∧ On3 f q b w w' := by
  have hrow : FedRow w f q S (readD S).out.length false := hF.row
  have hdec : DecAt w q (some b) 0 := hF.dec
  have hrd := hF.rd rfl
  have c0 : w.cell? ⟨f, 0, none⟩ = some (.pointer (some ⟨q, 0, none⟩)) := World.rowIs.cell hrow (by omega)
  have hfz := World.rowIs.frozen hrow
  have hfl : f < w.heap.size := World.rowIs.lt hrow
  obtain ⟨k1, k2, k3⟩ := readerOf_ok S (by omega)
  obtain ⟨dp1, dp2⟩ := doc_piece S p
  have hC := fun o => Feed_open (w := (w.alloc o).drew) (World.rowIs.alloc hdec o) hF.qb (hrd.alloc o) k3 k1 p (by omega) k2
  rw [← dp2] at hC
  have hR := fun (W : World) => Rdecode_any W (S ++ p) (by rw [ByteArray.size_append]; omega)
  have HQ : Hid (Fed w f q b S false) := hF
  have hol : (readD S).out.length ≤ (readD (S ++ p)).out.length := by rw [dp1, List.length_append]; omega
  have hoz : (outStr (readD (S ++ p)).out).size = (readD (S ++ p)).out.length := outStr_size _
  have hex : (outStr (readD (S ++ p)).out).extract (readD S).out.length (outStr (readD (S ++ p)).out).size = outStr (feed (readerOf S) p.data.toList).out := by
    have e2 : (outStr (readD (S ++ p)).out).data.toList = ((readD S).out.map fun n => UInt8.ofNat n.toNat) ++ (outStr (feed (readerOf S) p.data.toList).out).data.toList := by
      rw [outStr_list, outStr_list, dp1, List.map_append]
    have e3 : ((outStr (readD (S ++ p)).out).extract (readD S).out.length (outStr (readD (S ++ p)).out).size).data.toList = (outStr (feed (readerOf S) p.data.toList).out).data.toList := by
      rw [Lib.extract_data, e2, List.drop_left' (by simp)]
      refine List.take_of_length_le ?_
      rw [outStr_list, List.length_map, hoz, dp1, List.length_append]
      omega
    have e4 := congrArg List.toArray e3
    revert e4
    generalize (outStr (readD (S ++ p)).out).extract (readD S).out.length (outStr (readD (S ++ p)).out).size = X
    generalize outStr (feed (readerOf S) p.data.toList).out = Y
    intro e4
    cases X
    cases Y
    simpa using e4
  have hcat : S.size + p.size ≤ 9223372036854775807 := by omega
  clear dp1 dp2 k1 k2 k3 hdec hrd hF
  generalize outStr (feed (readerOf S) p.data.toList).out = A at *
  generalize outStr (readD (S ++ p)).out = T at *
  have HN : Hid (((readD (S ++ p)).out.length : Int) = (T.size : Int)) := by rw [Hid, hoz]
  clear hoz
  generalize hn : (readD S).out.length = n at *
  have hnT : n ≤ T.size := by have := HN.out; omega
  clear hol hn
  have d1 : w.cell? ⟨f, 3, none⟩ = some (.bool false) := World.rowIs.cell hrow (by omega)
  have hbl : b < w.heap.size := (HQ.out.rd rfl).lt
  have hPA : ∀ (_ : Unit), ((w.alloc (.cells #[.int .i64 c, .string p, .bool false] 48)).drew).rowIs w.heap.size 48 3 (fun i => if i = 0 then .int .i64 c else if i = 1 then .string p else .bool false) := fun _ => World.rowIs_alloc w #[.int .i64 c, .string p, .bool false] 48 _ (fun i hi => by
    match i, hi with
    | 0, _ => rfl
    | 1, _ => rfl
    | 2, _ => rfl)
  go_enter Try.func20, Try.ntmps20
  go_wp2
  go_region_with (go_at_call 21; refine (hC _).mono ?_; rintro e w1 ⟨rfl, hr1, hd1, hon1⟩; have hf1 := hon1.fedRow HQ.out.fb (World.rowIs.alloc hrow _))
  all_goals
    have g4 : w1.cell? ⟨w.heap.size, 1, none⟩ = some (.string p) := World.rowIs.cell (World.rowIs.of_block (hPA ()) (hon1.block w.heap.size (World.rowIs.lt (hPA ())) (by omega))) (by omega)
    have g0 : w1.cell? ⟨f, 1, none⟩ = some (.string S) := World.rowIs.cell hf1 (by omega)
    have g1 : w1.cell? ⟨f, 2, none⟩ = some (.int .i64 n) := World.rowIs.cell hf1 (by omega)
    have g2 : w1.cell? ⟨f, 3, none⟩ = some (.bool false) := World.rowIs.cell hf1 (by omega)
    have g3 := World.rowIs.frozen hf1
    have hd2 := hd1
    clear hd1 hC
    go_wp2
    go_region
    all_goals
      go_wp2_with (first
        | (go_at_call 9; refine (hR _).mono ?_; rintro e w2 ⟨rfl, hb2⟩; have hf2 := below_fedRow hb2 (FedRow.s hf1 (S ++ p)); have k1 : w2.cell? ⟨f, 2, none⟩ = some (.int .i64 n) := World.rowIs.cell hf2 (by omega); have k3 := World.rowIs.frozen hf2)
        | fail)
      go_ret
      have hof : On f w1 ((w1.setCell ⟨f, 1, none⟩ (.string (S ++ p))).drew) := ((On.refl f w1).set _ _).drew
      have hog : On f w2 (w2.setCell ⟨f, 2, none⟩ (.int .i64 T.size)) := (On.refl f w2).set _ _
      have ho1 : On3 f q b w w1 := (On3.of1 (((On.refl f w).alloc _).drew)).trans (On3.of3 hon1)
      refine ⟨rfl, ⟨?_, hog.decAt HQ.out.fq.symm (below_decAt hb2 (hof.decAt HQ.out.fq.symm hd2)), fun _ => ?_, HQ.out.fq, HQ.out.fb, HQ.out.qb⟩, ((ho1.trans (On3.of1 hof)).trans (On3.below hb2)).trans (On3.of1 hog)⟩
      · show FedRow _ f q (S ++ p) (readD (S ++ p)).out.length false
        rw [HN.out]
        exact FedRow.n hf2 _
      · have hrb := below_row hb2 (hr1.of_block (hof.block b hr1.lt HQ.out.fb.symm))
        exact hrb.of_block (hog.block b hrb.lt HQ.out.fb.symm)
end Go.Proofs.Ytmpfgdmdnghhgaa

namespace Go.Proofs.Ytmpfgdmdnghhgaa
open Go.RowKit Wr

theorem owns_ne {w : World} {B : Nat} {e : TypeId} {size : Nat} {v : Value} {n : Nat} {xs : List Value} (ho : w.ownsRow B e size v n xs) {f : Nat} {t : TypeId} {m : Nat} {c : Nat → Value} (hr : w.rowIs f t m c) (hte : t ≠ e) : some f ≠ v.ownBlock := by
  intro h
  obtain ⟨_, h2⟩ := ho
  rcases h2 with ⟨h3, _⟩ | ⟨g, cap, cur, hv, _, hh, _⟩
  · rw [h3] at h; cases h
  · rw [hv] at h
    have e1 : f = g := by simpa [Value.ownBlock] using h
    obtain ⟨c', hc, _⟩ := hr
    rw [e1, hh] at hc
    injection hc with hc
    injection hc with _ h4 _
    exact hte h4.symm

/-- takes, whatever is done -/
theorem takes_any {w : World} {f q b : Nat} {S : ByteArray} {d : Bool} (hF : Fed w f q b S d) (c : Int) (p : ByteArray) (cl : Bool) (hs : S.size + p.size ≤ 67108864) :
    Calls Try.prog 20 #[.pointer (some ⟨f, 0, none⟩), .agg #[.int .i64 c, .string p, .bool cl]] w fun e w' => e = .returned (.bool true) ∧ (∃ S' d', Fed w' f q b S' d' ∧ S'.size ≤ S.size + p.size) ∧ On3 f q b w w' := by
  cases cl
  · cases d
    · refine (takes_feed0 hF c p hs).mono ?_
      rintro e w' ⟨rfl, h1, h2⟩
      exact ⟨rfl, ⟨_, _, h1, by rw [ByteArray.size_append]; omega⟩, h2⟩
    · refine (takes_feed1 hF c p).mono ?_
      rintro e w' ⟨rfl, h1, h2⟩
      exact ⟨rfl, ⟨_, _, h1, by omega⟩, h2⟩
  · cases d
    · refine (takes_close0 hF (by omega) c p).mono ?_
      rintro e w' ⟨rfl, h1, h2⟩
      exact ⟨rfl, ⟨_, _, h1, by omega⟩, h2⟩
    · refine (takes_close1 hF (by omega) c p).mono ?_
      rintro e w' ⟨rfl, h1, h2⟩
      exact ⟨rfl, ⟨_, _, h1, by omega⟩, h2⟩

theorem Fed.lt {w : World} {f q b : Nat} {S : ByteArray} {d : Bool} (h : Fed w f q b S d) : f < w.heap.size ∧ q < w.heap.size := ⟨World.rowIs.lt h.row, World.rowIs.lt h.dec⟩
theorem Fed.keep {w w' : World} {f q b : Nat} {S : ByteArray} {d : Bool} (h : Fed w f q b S d) (hf : w'.heap[f]? = w.heap[f]?) (hq : w'.heap[q]? = w.heap[q]?) (hb : w'.heap[b]? = w.heap[b]?) : Fed w' f q b S d :=
  ⟨World.rowIs.of_block h.row hf, World.rowIs.of_block h.dec hq, fun e => (h.rd e).of_block hb, h.fq, h.fb, h.qb⟩
theorem Fed.below {w w' : World} {f q b : Nat} {S : ByteArray} {d : Bool} (h : Fed w f q b S d) (hB : Below w.heap.size w w') (hb : b < w.heap.size) : Fed w' f q b S d := h.keep (hB.block f h.lt.1) (hB.block q h.lt.2) (hB.block b hb)

theorem info_fedp : (Try.prog.info? 44).map (fun i => (i.zero, i.size, i.bytes)) = some (some (.pointer none), 1, 8) := by kernel_rfl
theorem owns_lt {w : World} {B : Nat} {e : TypeId} {size : Nat} {v : Value} {n : Nat} {xs : List Value} (ho : w.ownsRow B e size v n xs) {g : Nat} (hg : v.ownBlock = some g) : g < w.heap.size := by
  obtain ⟨_, h2⟩ := ho
  rcases h2 with ⟨h3, _⟩ | ⟨g', cap, cur, hv, _, hh, _⟩
  · rw [h3] at hg; cases hg
  · rw [hv] at hg
    have e1 : g' = g := by simpa [Value.ownBlock] using hg
    subst e1
    rcases Nat.lt_or_ge g' w.heap.size with hl | hl
    · exact hl
    · rw [Array.getElem?_eq_none hl] at hh; cases hh
theorem owns_below {w w' : World} {B : Nat} {e : TypeId} {size : Nat} {v : Value} {n : Nat} {xs : List Value} (ho : w.ownsRow B e size v n xs) (hB : Below w.heap.size w w') : w'.ownsRow B e size v n xs :=
  owns_of_block ho fun g hg => hB.block g (owns_lt ho hg)
def tri (fs : Nat → Nat × Nat × Nat) (i : Nat) : List Value := (List.range i).map fun j => .pointer (some ⟨(fs j).1, 0, none⟩)
theorem tri_succ (fs : Nat → Nat × Nat × Nat) (i : Nat) : tri fs (i + 1) = tri fs i ++ [.pointer (some ⟨(fs i).1, 0, none⟩)] := by simp [tri, List.range_succ]
theorem tri_length (fs : Nat → Nat × Nat × Nat) (i : Nat) : (tri fs i).length = i := by simp [tri]
theorem doc_none : (readD ByteArray.empty).out = [] := by
  rw [← (doc_eq ByteArray.empty).1]
  kernel_rfl
def updT (fs : Nat → Nat × Nat × Nat) (i : Nat) (t : Nat × Nat × Nat) (j : Nat) : Nat × Nat × Nat := if j = i then t else fs j
theorem updT_same (fs : Nat → Nat × Nat × Nat) (i : Nat) (t : Nat × Nat × Nat) : updT fs i t i = t := if_pos rfl
theorem updT_other (fs : Nat → Nat × Nat × Nat) {i j : Nat} (t : Nat × Nat × Nat) (h : j ≠ i) : updT fs i t j = fs j := if_neg h
theorem tri_upd (fs : Nat → Nat × Nat × Nat) (i : Nat) (t : Nat × Nat × Nat) : tri (updT fs i t) i = tri fs i := by
  unfold tri
  refine List.map_congr_left fun j hj => ?_
  rw [updT_other fs t (by have := List.mem_range.1 hj; omega)]
/-- three decoders, one behind the other -/
structure Three (w : World) (B : Nat) (fs : Nat → Nat × Nat × Nat) (i : Nat) : Prop where
  fed : ∀ j, j < i → Fed w (fs j).1 (fs j).2.1 (fs j).2.2 ByteArray.empty false
  b0 : ∀ j, j < i → B ≤ (fs j).2.2
  bq : ∀ j, j < i → (fs j).2.2 < (fs j).2.1
  qf : ∀ j, j < i → (fs j).2.1 < (fs j).1
  up : ∀ j k, j < k → k < i → (fs j).1 < (fs k).2.2
theorem Three.below {w w' : World} {B : Nat} {fs : Nat → Nat × Nat × Nat} {i : Nat} (h : Three w B fs i) (hB : Below w.heap.size w w') : Three w' B fs i :=
  ⟨fun j hj => (h.fed j hj).below hB (((h.fed j hj).rd rfl).lt), h.b0, h.bq, h.qf, h.up⟩

theorem owns_cells {w : World} {B : Nat} {e : TypeId} {v : Value} {n : Nat} {xs : List Value} (ho : w.ownsRow B e 1 v (n + 1) xs) : ∃ g cap, v = .slice (some ⟨g, 0, none⟩) (n + 1) cap ∧ (∀ j, j < n + 1 → w.cell? ⟨g, j, none⟩ = xs[j]?) ∧ g < w.heap.size := by
  have ho' := ho
  obtain ⟨h1, h2⟩ := ho
  rcases h2 with ⟨_, h3⟩ | ⟨g, cap, cur, hv, _, hh, hn, hc, hs, ht⟩
  · omega
  · refine ⟨g, cap, hv, fun j hj => ?_, owns_lt ho' (by rw [hv]; rfl)⟩
    rw [cell_of_row w g j cur e (0, 0) hh, ← Array.getElem?_toList, ← ht, List.getElem?_take, if_pos (by omega)]
theorem Three.order {w : World} {B : Nat} {fs : Nat → Nat × Nat × Nat} (h : Three w B fs 3) : ∀ j k, j < 3 → k < 3 → j ≠ k → (fs j).1 ≠ (fs k).1 ∧ (fs j).1 ≠ (fs k).2.1 ∧ (fs j).1 ≠ (fs k).2.2 ∧ (fs j).2.1 ≠ (fs k).1 ∧ (fs j).2.1 ≠ (fs k).2.1 ∧ (fs j).2.1 ≠ (fs k).2.2 ∧ (fs j).2.2 ≠ (fs k).1 ∧ (fs j).2.2 ≠ (fs k).2.1 ∧ (fs j).2.2 ≠ (fs k).2.2 ∧ B ≤ (fs k).1 ∧ B ≤ (fs k).2.1 ∧ B ≤ (fs k).2.2 := by
  intro j k hj hk hne
  have a1 := h.bq j hj
  have a2 := h.qf j hj
  have a3 := h.bq k hk
  have a4 := h.qf k hk
  have a5 := h.b0 k hk
  rcases Nat.lt_or_gt_of_ne hne with hlt | hlt
  · have := h.up j k hlt hk
    omega
  · have := h.up k j hlt hj
    omega
/-- a slice of parts -/
def IsParts (W : World) (a : Option Addr) (len : Nat) (c : Nat → Int × ByteArray × Bool) : Prop :=
  len ≤ 9223372036854775807 ∧ (0 < len → ∃ cb co, a = some ⟨cb, co, none⟩ ∧ cb < W.heap.size ∧ ∀ i, i < len → W.cell? ⟨cb, co + i * 3, none⟩ = some (.int .i64 (c i).1) ∧ W.cell? ⟨cb, co + i * 3 + 1, none⟩ = some (.string (c i).2.1) ∧ W.cell? ⟨cb, co + i * 3 + 2, none⟩ = some (.bool (c i).2.2) ∧ -9223372036854775808 ≤ (c i).1 ∧ (c i).1 ≤ 9223372036854775807)
def bulkP (c : Nat → Int × ByteArray × Bool) : Nat → Nat
  | 0 => 0
  | n + 1 => bulkP c n + ((c n).2.1.size + 4)
theorem bulkP_le (c : Nat → Int × ByteArray × Bool) {n m : Nat} (h : n ≤ m) : bulkP c n ≤ bulkP c m := by
  induction m with
  | zero => rw [Nat.le_zero.1 h]; exact Nat.le_refl _
  | succ m ih =>
    by_cases e : n = m + 1
    · rw [e]; exact Nat.le_refl _
    · have := ih (by omega)
      show _ ≤ bulkP c m + _
      omega

theorem three_more {w0 wr w1 w2 : World} {fs : Nat → Nat × Nat × Nat} {i q b : Nat} {u3 : Value} {o2 : Obj} (hT : Three wr w0.heap.size fs i) (hown : wr.ownsRow w0.heap.size 44 1 u3 i (tri fs i)) (hB1 : Below wr.heap.size wr w1)
    (hr1 : Row w1 b initRd (.slice none 0 0)) (hd1 : DecAt w1 q (some b) 0) (hb0 : wr.heap.size ≤ b) (hbq : b < q) (hwz : w0.heap.size ≤ wr.heap.size)
    (hgrow : ((w1.alloc (.cells #[.pointer (some ⟨q, 0, none⟩), .string ByteArray.empty, .int .i64 0, .bool false] 46)).alloc o2).grownBy w2 u3.ownBlock) : Three w2 w0.heap.size (updT fs i (w1.heap.size, q, b)) (i + 1) := by
  have hq1 : q < w1.heap.size := World.rowIs.lt hd1
  have hz1 := hB1.size
  have hX : ∀ k, k < w1.heap.size → ((w1.alloc (.cells #[.pointer (some ⟨q, 0, none⟩), .string ByteArray.empty, .int .i64 0, .bool false] 46)).alloc o2).heap[k]? = w1.heap[k]? := fun k hk => (Below.heap_alloc _ _ _ (by simp; omega)).trans (Below.heap_alloc _ _ _ hk)
  have hG : ∀ k, k < w1.heap.size → some k ≠ u3.ownBlock → w2.heap[k]? = w1.heap[k]? := fun k hk hn => (hgrow.block k (by simp; omega) hn).trans (hX k hk)
  have ho1 := owns_below hown hB1
  have key : ∀ j, j < i → Fed w2 (fs j).1 (fs j).2.1 (fs j).2.2 ByteArray.empty false := fun j hj => by
    have h1 := (hT.fed j hj).below hB1 (((hT.fed j hj).rd rfl).lt)
    exact h1.keep (hG _ h1.lt.1 (owns_ne ho1 h1.row (by decide))) (hG _ h1.lt.2 (owns_ne ho1 h1.dec (by decide))) (hG _ ((h1.rd rfl).lt) (owns_ne ho1 (h1.rd rfl) (by decide)))
  have hnew : Fed w2 w1.heap.size q b ByteArray.empty false := by
    have hrow : (w1.alloc (.cells #[.pointer (some ⟨q, 0, none⟩), .string ByteArray.empty, .int .i64 0, .bool false] 46)).rowIs w1.heap.size 46 4 (fedCells q ByteArray.empty (readD ByteArray.empty).out.length false) := by
      rw [doc_none]
      exact World.rowIs_alloc w1 #[.pointer (some ⟨q, 0, none⟩), .string ByteArray.empty, .int .i64 0, .bool false] 46 _ (fun k hk => by
        match k, hk with
        | 0, _ => rfl
        | 1, _ => rfl
        | 2, _ => rfl
        | 3, _ => rfl)
    have hne : some w1.heap.size ≠ u3.ownBlock := fun h => by
      have := owns_lt ho1 h.symm
      omega
    refine ⟨World.rowIs.of_block hrow ((hgrow.block _ (by simp; omega) hne).trans (Below.heap_alloc _ _ _ (by simp))), World.rowIs.of_block hd1 (hG q hq1 (owns_ne ho1 hd1 (by decide))), fun _ => hr1.of_block (hG b hr1.lt (owns_ne ho1 hr1 (by decide))), by omega, by omega, by omega⟩
  refine ⟨fun j hj => ?_, fun j hj => ?_, fun j hj => ?_, fun j hj => ?_, fun j k hjk hk => ?_⟩
  · by_cases e : j = i
    · subst e; rw [updT_same]; exact hnew
    · rw [updT_other _ _ e]; exact key j (by omega)
  · by_cases e : j = i
    · subst e; rw [updT_same]; show _ ≤ b; omega
    · rw [updT_other _ _ e]; exact hT.b0 j (by omega)
  · by_cases e : j = i
    · subst e; rw [updT_same]; exact hbq
    · rw [updT_other _ _ e]; exact hT.bq j (by omega)
  · by_cases e : j = i
    · subst e; rw [updT_same]; exact hq1
    · rw [updT_other _ _ e]; exact hT.qf j (by omega)
  · rw [updT_other _ _ (show j ≠ i by omega)]
    by_cases e : k = i
    · subst e; rw [updT_same]
      have := (hT.fed j hjk).lt.1
      show (fs j).1 < b
      omega
    · rw [updT_other _ _ e]; exact hT.up j k hjk (by omega)

theorem ex_one : outStr (feed initRd (exBytes.extract 0 7).data.toList).out = ByteArray.empty := by kernel_rfl
theorem ex_two : outStr (feed (emptied (feed initRd (exBytes.extract 0 7).data.toList)) (exBytes.extract 7 8).data.toList).out = ⟨#[97, 98, 97, 98, 97, 98, 97, 98]⟩ := by kernel_rfl
theorem ex_three : errno (emptied (feed (emptied (feed initRd (exBytes.extract 0 7).data.toList)) (exBytes.extract 7 8).data.toList)) = 0 := by kernel_rfl
theorem last_dec {q b : Nat} (hqb : q ≠ b) :
    (∀ W, DecAt W q (some b) 0 → Row W b initRd (.slice none 0 0) → Calls Try.prog 21 #[.pointer (some ⟨q, 0, none⟩), .string (ByteArray.extract ⟨#[208, 3, 96, 24, 49, 3, 17, 26]⟩ 0 7)] W fun e w' => e = .returned (.string ByteArray.empty) ∧ Row w' b (readerOf (exBytes.extract 0 7)) (.slice none 0 0) ∧ DecAt w' q (some b) 0 ∧ On b W w') ∧
    (∀ W, DecAt W q (some b) 0 → Row W b (readerOf (exBytes.extract 0 7)) (.slice none 0 0) → Calls Try.prog 21 #[.pointer (some ⟨q, 0, none⟩), .string (ByteArray.extract ⟨#[208, 3, 96, 24, 49, 3, 17, 26]⟩ 7 8)] W fun e w' => e = .returned (.string ⟨#[97, 98, 97, 98, 97, 98, 97, 98]⟩) ∧ Row w' b (emptied (feed (readerOf (exBytes.extract 0 7)) (exBytes.extract 7 8).data.toList)) (.slice none 0 0) ∧ DecAt w' q (some b) 0 ∧ On b W w') ∧
    (∀ W, DecAt W q (some b) 0 → Row W b (emptied (feed (readerOf (exBytes.extract 0 7)) (exBytes.extract 7 8).data.toList)) (.slice none 0 0) → Calls Try.prog 22 #[.pointer (some ⟨q, 0, none⟩)] W fun e w' => e = .returned (.int .i64 0) ∧ DecAt w' q none 0 ∧ On q W w') := by
  have e1 : exBytes = ⟨#[208, 3, 96, 24, 49, 3, 17, 26]⟩ := rfl
  have hz7 : (exBytes.extract 0 7).size = 7 := by rw [ByteArray.size_extract]; rfl
  have hz8 : (exBytes.extract 7 8).size = 1 := by rw [ByteArray.size_extract]; rfl
  obtain ⟨k1, k2, k3⟩ := readerOf_ok (exBytes.extract 0 7) (by omega)
  rw [← e1]
  refine ⟨fun W hd hr => ?_, fun W hd hr => ?_, fun W hd hr => ?_⟩
  · have := Feed_open hd hqb hr rfl init_rest (exBytes.extract 0 7) (by omega) (by decide)
    rw [ex_one] at this
    exact this
  · have := Feed_open hd hqb hr k3 k1 (exBytes.extract 7 8) (by omega) k2
    unfold readerOf at this ⊢
    rw [ex_two] at this
    exact this
  · have := Close_open hd hr
    unfold readerOf at this
    rw [ex_three] at this
    exact this

set_option maxRecDepth 100000 in
set_option maxHeartbeats 2000000 in
theorem Feeds_any (w : World) (a : Option Addr) (len cap : Nat) (c : Nat → Int × ByteArray × Bool) (hc : IsParts w a len c) (hbk : bulkP c len ≤ 33554432) :
    Calls Try.prog 6 #[.slice a len cap] w fun e w' => e = .returned (.bool true) ∧ Below w.heap.size w w' := by
  obtain ⟨i0, hi, hz0, hz1, hz2⟩ := info_parts info_fedp
  have HI : Hid (Try.prog.info? 44 = some i0 ∧ i0.zero = some (.pointer none) ∧ i0.size = 1 ∧ i0.bytes = 8) := ⟨hi, hz0, hz1, hz2⟩
  clear hi hz0 hz1 hz2
  go_enter Try.func6, Try.ntmps6
  go_wp2
  go_loopw [3, 4, 5] (fun vl vi _ wr => ∃ (i : Nat) (fs : Nat → Nat × Nat × Nat), i ≤ 3 ∧ vi = .int .i64 i ∧ wr.ownsRow w.heap.size 44 1 vl i (tri fs i) ∧ Three wr w.heap.size fs i ∧ Below w.heap.size w wr) (fun _ vi _ _ => 3 - (intOf vi).toNat)
  case atStart => exact ⟨0, fun _ => (0, 0, 0), by omega, rfl, World.ownsRow_nil _ _ _ _, ⟨fun j hj => absurd hj (by omega), fun j hj => absurd hj (by omega), fun j hj => absurd hj (by omega), fun j hj => absurd hj (by omega), fun j k _ hj => absurd hj (by omega)⟩, Below.refl _ _⟩
  case round =>
    obtain ⟨i, fs, hi3, rfl, hown, hT, hB⟩ := hrel
    have hwz := hB.size
    by_cases hlt : i < 3
    · go_wp2_with (first
        | (go_at_call 18; refine (NewDecoder_any _).mono ?_; rintro e w1 ⟨q, b, rfl, hb0, hbq, hr1, hd1, hB1⟩; have hq1 : q < w1.heap.size := World.rowIs.lt hd1; have hz1 := hB1.size)
        | (at_builtin; refine wpList_append_own _ rfl _ _ 41 rfl w.heap.size 44 i0 (.pointer none) 1 8 Try.underlying41 HI.out.1 HI.out.2.1 HI.out.2.2.1 HI.out.2.2.2 rfl (by decide) _ _ _ rfl (((owns_below hown hB1).alloc _).alloc _) ⟨w1.heap.size + 1, 0, none⟩ 1 1 [.pointer (some ⟨w1.heap.size, 0, none⟩)] rfl rfl ?c1 ?c2 ?c3 ?c4 ?c5 ?_))
      case c1 =>
        intro j u hj
        match j, hj with
        | 0, hj => simp at hj; subst hj; simp [Addr.add]
      case c2 => intro u hu; simp at hu; subst hu; rfl
      case c3 => unfold maxLen; omega
      case c4 => omega
      case c5 => simp; omega
      · intro v' w2 hown' hgrow _
        obtain ⟨g, cap2, hv⟩ := owns_shape hown'
        subst hv
        have hT2 := three_more hT hown hB1 hr1 hd1 hb0 hbq hwz hgrow
        have hB2 : Below w.heap.size w w2 := (((hB.trans (hB1.mono hwz)).alloc (by omega) _).alloc (by simp; omega) _).grown hgrow (by simp; omega) (owns_above hown)
        have ht := tri_succ (updT fs i (w1.heap.size, q, b)) i
        rw [tri_upd, updT_same] at ht
        have ho2 : w2.ownsRow w.heap.size 44 1 (.slice (some ⟨g, 0, none⟩) (i + 1) cap2) (i + 1) (tri (updT fs i (w1.heap.size, q, b)) (i + 1)) := by rw [ht]; exact hown'
        clear hgrow hown hown' hT hr1 hd1 ht
        go_wp2
        exact ⟨⟨i + 1, _, by omega, by go_num, ho2, hT2, hB2⟩, by simp [intOf]; omega⟩
    · have hi : i = 3 := by omega
      subst hi
      obtain ⟨g, gc, hv3, hgc, hgl⟩ := owns_cells hown
      have hv4 : u3 = .slice (some ⟨g, 0, none⟩) 3 gc := hv3
      clear hv3
      subst hv4
      obtain ⟨G, hG⟩ : ∃ G, wr.heap[g]? = some G := ⟨_, Array.getElem?_eq_getElem hgl⟩
      have hGc : ∀ W : World, W.heap[g]? = some G → ∀ j, j < 3 → W.cell? ⟨g, j, none⟩ = some (.pointer (some ⟨(fs j).1, 0, none⟩)) := fun W hW j hj => by
        have e1 : W.cell? ⟨g, j, none⟩ = wr.cell? ⟨g, j, none⟩ := World.cell?_of_block (w := wr) (a := ⟨g, j, none⟩) (hW.trans hG.symm)
        rw [e1, hgc j hj]
        simp [tri, hj]
      clear hgc
      have hgn : ∀ k, k < 3 → g ≠ (fs k).1 ∧ g ≠ (fs k).2.1 ∧ g ≠ (fs k).2.2 := fun k hk => by
        have h1 := hT.fed k hk
        have n1 := owns_ne hown h1.row (by decide)
        have n2 := owns_ne hown h1.dec (by decide)
        have n3 := owns_ne hown (h1.rd rfl) (by decide)
        simp only [Value.ownBlock] at n1 n2 n3
        exact ⟨fun q => n1 (by rw [q]), fun q => n2 (by rw [q]), fun q => n3 (by rw [q])⟩
      have HT := Three.order hT
      have hge : ∀ k, k < 3 → w.heap.size ≤ (fs k).1 ∧ w.heap.size ≤ (fs k).2.1 ∧ w.heap.size ≤ (fs k).2.2 := fun k hk => by
        have a1 := hT.b0 k hk
        have a2 := hT.bq k hk
        have a3 := hT.qf k hk
        omega
      have hF0 := hT.fed
      clear hown hT
      rw [show ((3 : Nat) : Int) = 3 from rfl]
      go_wp2
      go_loopw [6] (fun vi wq => ∃ (n : Nat) (Ss : Nat → ByteArray) (ds : Nat → Bool), n ≤ len ∧ vi = .int .i64 n ∧ (∀ j, j < 3 → Fed wq (fs j).1 (fs j).2.1 (fs j).2.2 (Ss j) (ds j) ∧ (Ss j).size ≤ bulkP c n) ∧ wq.heap[g]? = some G ∧ Below w.heap.size w wq) (fun vi _ => len - (intOf vi).toNat)
      case atStart => exact ⟨0, fun _ => ByteArray.empty, fun _ => false, by omega, rfl, fun j hj => ⟨hF0 j hj, Nat.le_refl _⟩, hG, hB⟩
      case round =>
        obtain ⟨n, Ss, ds, hn, rfl, hFn, hgn2, hBn⟩ := hrel
        clear hF0 hG hB hwz hgl
        by_cases hlt2 : n < len
        · obtain ⟨cb, co, rfl, hcb, hcells⟩ := hc.2 (by omega)
          obtain ⟨x1, x2, x3, x4, x5⟩ := hcells n hlt2
          have y1 : wr.cell? ⟨cb, co + n * 3, none⟩ = some (.int .i64 (c n).1) := (hBn.cell (p := ⟨cb, co + n * 3, none⟩) hcb).trans x1
          have y2 : wr.cell? ⟨cb, co + n * 3 + 1, none⟩ = some (.string (c n).2.1) := (hBn.cell (p := ⟨cb, co + n * 3 + 1, none⟩) hcb).trans x2
          have y3 : wr.cell? ⟨cb, co + n * 3 + 2, none⟩ = some (.bool (c n).2.2) := (hBn.cell (p := ⟨cb, co + n * 3 + 2, none⟩) hcb).trans x3
          have hbn : bulkP c (n + 1) = bulkP c n + ((c n).2.1.size + 4) := rfl
          have hbl := bulkP_le c (show n + 1 ≤ len by omega)
          have hpb := pickL_bounds (c n).1
          have hPk := fun W => lawPick_any W (c n).1 x4 x5
          obtain ⟨k, hk⟩ := Int.eq_ofNat_of_zero_le hpb.1
          rw [hk] at hPk hpb
          have hk3 : k < 3 := by omega
          have y4 := hGc _ hgn2 k hk3
          have hK := takes_any ((hFn k hk3).1.keep (w' := wr.drew) rfl rfl rfl) (c n).1 (c n).2.1 (c n).2.2 (by have := (hFn k hk3).2; omega)
          have hln := hc.1
          have hg9 := hge k hk3
          have hn9 := hgn k hk3
          have hcbr : cb < wr.heap.size := Nat.lt_of_lt_of_le hcb hBn.size
          have hgr : g < wr.heap.size := by
            rcases Nat.lt_or_ge g wr.heap.size with hl | hl
            · exact hl
            · rw [Array.getElem?_eq_none hl] at hgn2; cases hgn2
          have hAt : ∀ W, On3 (fs k).1 (fs k).2.1 (fs k).2.2 wr.drew W → W.heap[g]? = wr.heap[g]? ∧ (∀ o, W.cell? ⟨cb, o, none⟩ = wr.cell? ⟨cb, o, none⟩) ∧ (∀ o, W.cell? ⟨g, o, none⟩ = wr.cell? ⟨g, o, none⟩) := fun W h => by
            have e1 : W.heap[g]? = wr.heap[g]? := h.block g hgr hn9.1 hn9.2.1 hn9.2.2
            have e2 : W.heap[cb]? = wr.heap[cb]? := h.block cb hcbr (by omega) (by omega) (by omega)
            exact ⟨e1, fun o => World.cell?_of_block (w := wr) (a := ⟨cb, o, none⟩) e2, fun o => World.cell?_of_block (w := wr) (a := ⟨g, o, none⟩) e1⟩
          have k0 : (0 : Int) ≤ (k : Int) := by omega
          have k3 : (k : Int) < 3 := by omega
          have n0 : (0 : Int) ≤ (n : Int) := by omega
          have nl : (n : Int) < (len : Int) := by omega
          clear hcells x1 x2 x3 x4 x5 hk
          have HFn : Hid (∀ j, j < 3 → Fed wr (fs j).1 (fs j).2.1 (fs j).2.2 (Ss j) (ds j) ∧ (Ss j).size ≤ bulkP c n) := hFn
          have HBN : Hid (bulkP c (n + 1) = bulkP c n + ((c n).2.1.size + 4)) := hbn
          clear hFn hbn
          generalize (c n).1 = z at *
          generalize hz2 : (c n).2.1 = T at *
          generalize (c n).2.2 = cl at *
          generalize hf9 : (fs k).1 = f9 at *
          generalize hq9 : (fs k).2.1 = q9 at *
          generalize hb9 : (fs k).2.2 = b9 at *
          have H9 : Hid ((fs k).1 = f9 ∧ (fs k).2.1 = q9 ∧ (fs k).2.2 = b9) := ⟨hf9, hq9, hb9⟩
          clear hf9 hq9 hb9 hz2 hGc
          go_wp2
          go_region_held3 (fun W => W.cell? ⟨cb, co + n * 3, none⟩ = some (.int .i64 z) ∧ W.cell? ⟨cb, co + n * 3 + 1, none⟩ = some (.string T) ∧ W.cell? ⟨cb, co + n * 3 + 2, none⟩ = some (.bool cl) ∧ W.cell? ⟨g, k, none⟩ = some (.pointer (some ⟨f9, 0, none⟩))) (go_keep)
            (first
              | (go_at_call 19; refine (hPk _).mono ?_; rintro e w9 ⟨rfl, rfl⟩)
              | (go_at_call 20; refine hK.mono ?_; rintro e w2 ⟨rfl, ⟨S', d', hF2, hS2⟩, ho2⟩; obtain ⟨hG2, z1, z2⟩ := hAt _ ho2; have r1 := (z1 (co + n * 3)).trans y1; have r2 := (z1 (co + n * 3 + 1)).trans y2; have r3 := (z1 (co + n * 3 + 2)).trans y3; have r4 := (z2 k).trans y4; clear z1 z2))
          have hB2 : Below w.heap.size w w2 := hBn.drew.trans ⟨ho2.os, ho2.tape, ho2.output, ho2.size, fun i hi => ho2.block i (Nat.lt_of_lt_of_le hi hBn.size) (by omega) (by omega) (by omega)⟩
          have hnew : ∀ j, j < 3 → Fed w2 (fs j).1 (fs j).2.1 (fs j).2.2 (if j = k then S' else Ss j) (if j = k then d' else ds j) ∧ (if j = k then S' else Ss j).size ≤ bulkP c (n + 1) := fun j hj => by
            have h1 := HFn.out j hj
            have hbn := HBN.out
            have h9 := H9.out
            by_cases e : j = k
            · subst e
              rw [if_pos rfl, if_pos rfl, h9.1, h9.2.1, h9.2.2]
              exact ⟨hF2, by omega⟩
            · rw [if_neg e, if_neg e]
              have hh := HT j k hj hk3 e
              rw [h9.1, h9.2.1, h9.2.2] at hh
              have hlt := h1.1.lt
              refine ⟨⟨World.rowIs.of_block h1.1.row (ho2.block _ hlt.1 hh.1 hh.2.1 hh.2.2.1), World.rowIs.of_block h1.1.dec (ho2.block _ hlt.2 hh.2.2.2.1 hh.2.2.2.2.1 hh.2.2.2.2.2.1), fun q => (h1.1.rd q).of_block (ho2.block _ (h1.1.rd q).lt hh.2.2.2.2.2.2.1 hh.2.2.2.2.2.2.2.1 hh.2.2.2.2.2.2.2.2.1), h1.1.fq, h1.1.fb, h1.1.qb⟩, by omega⟩
          have hgG := hG2.trans hgn2
          clear r1 r2 r3 r4 y1 y2 y3 y4 hK hPk hAt
          go_wp2
          exact ⟨⟨n + 1, _, _, by omega, by go_num, hnew, hgG, hB2⟩, by simp [intOf]; omega⟩
        · clear hFn hGc hgn HT hge
          go_wp2_with (first
            | (go_at_call 22; refine (hY3 _ hd3 hr3).mono ?_; rintro e w4 ⟨rfl, hd4, ho4⟩)
            | (go_at_call_of 21 (Value.string (ByteArray.extract ⟨#[208, 3, 96, 24, 49, 3, 17, 26]⟩ 7 8)); refine (hY2 _ hd2 hr2).mono ?_; rintro e w3 ⟨rfl, hr3, hd3, ho3⟩)
            | (go_at_call 21; refine (hY1 _ hd1 hr1).mono ?_; rintro e w2 ⟨rfl, hr2, hd2, ho2⟩)
            | (go_at_call 18; refine (NewDecoder_any _).mono ?_; rintro e w1 ⟨q, b, rfl, hb0, hbq, hr1, hd1, hB1⟩; obtain ⟨hY1, hY2, hY3⟩ := last_dec (q := q) (b := b) (by omega)))
          go_ret
          have z0 := hBn.size
          have z1 := hB1.size
          have z2 := ho2.size
          have z3 := ho3.size
          have m1 := hBn.trans (hB1.mono z0)
          have m2 : Below w.heap.size w w2 := m1.trans ⟨ho2.os, ho2.tape, ho2.output, ho2.size, fun i hi => ho2.block i (by omega) (by omega)⟩
          have m3 : Below w.heap.size w w3 := m2.trans ⟨ho3.os, ho3.tape, ho3.output, ho3.size, fun i hi => ho3.block i (by omega) (by omega)⟩
          exact ⟨rfl, m3.trans ⟨ho4.os, ho4.tape, ho4.output, ho4.size, fun i hi => ho4.block i (by omega) (by omega)⟩⟩
end Go.Proofs.Ytmpfgdmdnghhgaa

namespace Go.Proofs.Ytmpfgdmdnghhgaa
open Go.RowKit Wr
open Go.ChangeShapes Go.WideShapes Go.ChangeAt Go.Deep

theorem cellsF_part : Try.prog.cellsOf 48 = 3 := by kernel_rfl
theorem cellsF_int : Try.prog.cellsOf 3 = 1 := by kernel_rfl
theorem cellsF_string : Try.prog.cellsOf 9 = 1 := by kernel_rfl
theorem cellsF_bool : Try.prog.cellsOf 4 = 1 := by kernel_rfl
theorem cellF_lt {w : World} {p : Addr} {v : Value} (h : w.cell? p = some v) : p.block < w.heap.size := by
  by_cases hp : p.block < w.heap.size
  · exact hp
  · exfalso
    rw [World.cell?] at h
    simp [hp] at h
theorem intF_bounds {n : Int} (h : (Lit.int .i64 n).wf = true) : -9223372036854775808 ≤ n ∧ n ≤ 9223372036854775807 := by
  have := bounds_i64 h
  omega
theorem bulkF_append {H : Type} : ∀ (a b : List (DataW H)), Rows.uptoBulkAll (a ++ b) = Rows.uptoBulkAll a + Rows.uptoBulkAll b
  | [], b => by simp [Rows.uptoBulkAll]
  | d :: a, b => by
    show Rows.uptoBulk d + Rows.uptoBulkAll (a ++ b) = Rows.uptoBulk d + Rows.uptoBulkAll a + Rows.uptoBulkAll b
    rw [bulkF_append a b]
    omega
theorem bulkP_sum {H : Type} (D : Nat → DataW H) (c : Nat → Int × ByteArray × Bool) : ∀ n : Nat, (∀ i, i < n → (c i).2.1.size + 4 ≤ Rows.uptoBulk (D i)) → bulkP c n ≤ Rows.uptoBulkAll ((List.range n).map D)
  | 0, _ => Nat.zero_le _
  | n + 1, h => by
    rw [List.range_succ, List.map_append, bulkF_append]
    have h1 := bulkP_sum D c n (fun i hi => h i (by omega))
    have h2 := h n (by omega)
    show bulkP c n + ((c n).2.1.size + 4) ≤ _ + (Rows.uptoBulk (D n) + 0)
    omega

set_option maxRecDepth 100000 in
theorem open_parts {H : Type} {enc : TypeId × Value → H} {W : World} {a : Option Addr} {len cap : Nat} {d : DataW H} {p : List MemPlace}
    (h : DataW.Trod enc Try.prog W 0 (fun _ => true) true 40 (.slice a len cap) d p) : ∃ c, IsParts W a len c ∧ bulkP c len ≤ Rows.uptoBulk d := by
  obtain ⟨fuel, hf⟩ := h
  rcases open_slice Try.underlying40 hf with ⟨hcs, _⟩ | ⟨x, l, cp, m, n, D, Pl, hcs, _, hl, hm, hmm, hx, hall⟩
  · simp [Value.cells] at hcs
    obtain ⟨rfl, rfl, rfl⟩ := hcs
    exact ⟨fun _ => (0, ByteArray.empty, false), ⟨by omega, fun h => absurd h (by omega)⟩, Nat.zero_le _⟩
  · simp [Value.cells] at hcs
    obtain ⟨rfl, rfl, rfl⟩ := hcs
    simp only [if_true] at hmm
    subst hmm
    have each : ∀ i, i < len → ∃ q : Int × ByteArray × Bool, W.cell? (x.add (i * 3)) = some (.int .i64 q.1) ∧ W.cell? (x.add (i * 3 + 1)) = some (.string q.2.1) ∧ W.cell? (x.add (i * 3 + 2)) = some (.bool q.2.2) ∧ D i = .agg [.lit (.int .i64 q.1), .lit (.string q.2.1.data.toList), .lit (.bool q.2.2)] ∧ (Lit.int .i64 q.1).wf = true := by
      intro i hi
      obtain ⟨cs', h1, h2⟩ := hall i (by omega)
      rw [cellsF_part] at h1
      obtain ⟨_, hlen, hcell⟩ := World.cells?_some h1
      obtain ⟨y0, y1, y2, n', hxy, _, g0, g1, g2⟩ := trod_struct3 Try.underlying48 h2
      match cs', hlen with
      | [v0, v1, v2], _ =>
        obtain ⟨z, e1, e2, ew⟩ := DataW.trod_int Try.underlying3 g0
        obtain ⟨s, e3, e4, _⟩ := DataW.trod_string Try.underlying9 g1
        obtain ⟨bb, e5, e6⟩ := DataW.trod_bool Try.underlying4 g2
        simp [cellsF_int, cellsF_string, cellsF_bool] at e1 e3 e5
        have c0 := hcell 0 (by omega)
        have c1 := hcell 1 (by omega)
        have c2 := hcell 2 (by omega)
        rw [add_add] at c0 c1 c2
        simp only [Prod.mk.injEq] at hxy
        subst e1 e3 e5
        refine ⟨(z, s, bb), by simpa using c0, by simpa using c1, by simpa using c2, ?_, ew⟩
        rw [hxy.1, e2, e4, e6]
    obtain ⟨q, hq⟩ := choose_lt each
    simp only [Prod.mk.injEq] at hx
    obtain ⟨rfl, _⟩ := hx
    refine ⟨q, ⟨by unfold maxLen at hm; omega, fun h0 => ?_⟩, ?_⟩
    · obtain ⟨xb, xo, xs⟩ := x
      have hspot : xs = none := by simpa [Addr.add] using World.cell?_spot (hq 0 (by omega)).1
      subst hspot
      refine ⟨xb, xo, rfl, ?_, fun i hi => ?_⟩
      · have h1 := (hq 0 (by omega)).1
        rw [Addr.add_lit] at h1
        exact cellF_lt h1
      · obtain ⟨c0, c1, c2, _, ew⟩ := hq i hi
        rw [Addr.add_lit] at c0 c1 c2
        exact ⟨c0, c1, c2, intF_bounds ew⟩
    · have hs := bulkP_sum D q len (fun i hi => by
        rw [(hq i hi).2.2.2.1]
        show _ ≤ (1 + (_ + 1 + (1 + 0))) + 1
        have e : (q i).2.1.data.toList.length = (q i).2.1.size := by simp
        omega)
      show _ ≤ Rows.uptoBulkAll _ + Rows.uptoBulkAll _ + 1
      omega
end Go.Proofs.Ytmpfgdmdnghhgaa
/- THE STATEMENT 'Rows.FeedsUptoSaid'. -/
namespace Go.Proofs.Ytmpfgdmdnghhgaa.feeds
open Go.ChangeShapes Go.WideShapes Go.ChangeAt Go.RowKit
open Go.ChangeMaps (open_string shut_string)

theorem own : ownKnob Try.prog.godebug = none := by kernel_rfl
theorem laidOut : laidOutB Try.prog = true := by kernel_rfl
theorem small {H : Type} {d0 : DataW H} (hk : Rows.uptoSmall H [d0] = true) : Rows.uptoBulk d0 ≤ 1048576 := by
  have h : Rows.uptoBulkAll [d0] ≤ 1048576 := of_decide_eq_true hk
  simp only [Rows.uptoBulkAll] at h
  omega

set_option maxRecDepth 100000 in
theorem contract (H : Type) (enc : TypeId × Value → H) (W : World) (base : Nat) (args : Array Value) (ds gs : List (DataW H)) (before : List MemPlace)
    (hval0 : ∀ (j : Nat) t v, Try.f6.params[j]? = some t → args[j]? = some v → Value.okWide Try.prog W .any base t v)
    (hW : DataW.Whole enc Try.prog Try.f6.params.toList Rows.feedsSpec.vars false W args.toList ds gs before) (hk : Rows.uptoSmall H (ds ++ gs) = true) :
    Calls Try.prog 6 args W fun e W' => ∃ v, e = .returned v ∧ Rows.feedsSpec.post enc Try.prog Try.f6 false true false false W args v W' := by
  have hval : ∀ (j : Nat) t v, Try.f6.params[j]? = some t → args[j]? = some v → Value.okWide Try.prog W .any base t v := hval0
  have hW' := hW
  obtain ⟨p, q, hA0, hV, rfl, hfz, hnd⟩ := hW
  have hA : DataW.TrodAll enc Try.prog W 0 (fun _ => true) true Try.f6.params.toList args.toList ds p := hA0
  rw [Try.params6] at hA hval
  obtain ⟨v0, vs0, d0, ds0, p0, q0, hargs, rfl, rfl, h0, r0⟩ := trodAll_cons hA
  obtain ⟨rfl, rfl, rfl⟩ := trodAll_nil r0
  obtain rfl : args = #[v0] := by cases args; simp_all
  obtain ⟨rfl, rfl⟩ := trodVars_none hV
  obtain ⟨a0, len0, cap0, rfl⟩ := okWide_slice Try.underlying40 (hval 0 40 v0 rfl rfl)
  have k0 := h0
  have lt0 : ∀ x ∈ p0, x.block < W.heap.size := by obtain ⟨m, hm⟩ := k0; exact DataW.trod_lt m _ _ _ hm
  obtain ⟨c0, hc0, hb0⟩ := open_parts h0
  clear hA0 hval0
  simp only [List.append_nil] at hW' hk
  have hs := small hk
  refine (Feeds_any W a0 len0 cap0 c0 hc0 (by omega)).mono fun e W' ⟨he, bel⟩ => ?_
  subst he
  exact ⟨_, rfl, _, _, _, [], _, [], hW', trodAll_mk1 (shut_bool Try.underlying4 _), (trodAll_cons_mk (Below.trod laidOut (by kernel_rfl) (of_decide_eq_true (by kernel_rfl)) k0 bel lt0) trodAll_mk0), rfl, bel.frame _, fun h => by cases h⟩

set_option maxRecDepth 100000 in
theorem lifted (os : Os) (started : os.Started) (H : Type) (enc : TypeId × Value → H) (F : Stop.Interp) :
    ReturnsInHanded {} Try.checked os 6 .any ((Rows.OpenSpec.upto Rows.feedsSpec).pre6 enc Try.prog Try.f6 Rows.feedsUptoRow.domain false) (((Rows.OpenSpec.upto Rows.feedsSpec).at F).post enc Try.prog Try.f6 false true false false) := by
  refine returnsInHanded_of_cond (C := Try.checked) (s := Rows.OpenSpec.upto Rows.feedsSpec) (k := Rows.uptoSmall) rfl own started (by kernel_rfl) Try.func6
    (OpenSpec.witness (enc := enc) (C := Try.checked) (s := Rows.OpenSpec.upto Rows.feedsSpec) (k := Rows.uptoSmall) rfl false ⟨#[], #[.slice none 0 0], []⟩ 8 (by kernel_rfl) (by kernel_rfl) (by kernel_rfl)
      (x := ([.nil], [], [])) (by kernel_rfl) rfl (by kernel_rfl)) ?_
  intro W base args ds gs before hval hW _ hk _
  exact contract H enc W base args ds gs before hval hW hk

theorem proved : Rows.FeedsUptoSaid :=
  OpenClaim.holds_of_cond 6 Try.f6 rfl rfl rfl rfl rfl rfl rfl ⟨rfl, rfl, rfl, rfl, rfl⟩ rfl rfl rfl rfl rfl (by kernel_rfl) Try.func6 (by kernel_rfl)
    (of_decide_eq_true (by kernel_rfl)) (by unfold Func.isWrapper; first | (rw [if_pos (by decide +kernel)]; kernel_rfl) | (rw [if_neg (by decide +kernel)]; exact ⟨rfl, rfl⟩))
    (fun os started H enc _ F => lifted os started H enc F)
end Go.Proofs.Ytmpfgdmdnghhgaa.feeds
