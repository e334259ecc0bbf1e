import Derived.Test.YtmpfgdmdnghhgaaRows
import Derived.WalkKit
import Derived.WalkSpells
import Derived.WalkLawsBesides
import Derived.Deep.OwnRows
/- THE READER AS A PLAIN STATE: what each Go function of the reader does, said of numbers alone. No Go, no program. -/
namespace Wr

def upd (f : Nat → Int) (i : Nat) (v : Int) : Nat → Int := fun j => if j = i then v else f j

structure Rd where
  hold : Int
  have_ : Int
  part : Int
  last : Bool
  kind : Int
  left : Int
  msize : Int
  mwidth : Int
  mstep : Int
  mwanted : Int
  mat : Int
  mrepeat : Int
  mlen : Nat → Int
  mcnt : Nat → Int
  msym : Nat → Int
  lcnt : Nat → Int
  lsym : Nat → Int
  dcnt : Nat → Int
  dsym : Nat → Int
  least : Int
  more : Int
  length : Int
  near : Nat → Int
  ring : Nat → Int
  at_ : Int
  window : Int
  reach : Int
  trailing : Bool
  out : List Int

def fault (s : Rd) : Rd := { s with part := 11 }

def addRing (s : Rd) (c : Int) : Rd :=
  { s with ring := upd s.ring s.at_.toNat c, at_ := (s.at_ + 1) % 4096, reach := if s.reach < s.window then s.reach + 1 else s.reach }

def agoP (s : Rd) (d : Int) : Int := s.ring ((s.at_ + 4096 - d) % 4096).toNat

def put (s : Rd) (c : Int) : Rd :=
  let t := addRing { s with out := s.out ++ [c] } c
  { t with left := t.left - 1 }

def fillOk (s : Rd) : Bool := s.hold % 2 ^ (s.have_ % 8).toNat == 0
def fillTo (s : Rd) : Rd :=
  if fillOk s then { s with hold := s.hold / 2 ^ (s.have_ % 8).toNat, have_ := s.have_ - s.have_ % 8 } else fault s

def endBlock (s : Rd) : Rd :=
  if s.last then (if fillOk s then { fillTo s with part := 10 } else fillTo s) else { s with part := 1 }

def endCommand (s : Rd) : Rd :=
  if s.left = 0 then endBlock { s with part := 6 } else { s with part := 6 }

def useWindow (s : Rd) (w : Int) : Rd :=
  if 8 < w then fault s else { s with window := 16 * 2 ^ w.toNat, part := 1 }

def useBlock (s : Rd) (v : Int) : Rd :=
  let t : Rd := { s with last := v % 2 == 1, kind := v / 2 }
  if v / 2 = 0 then (if fillOk t then endBlock (fillTo t) else fillTo t) else { t with part := 2 }

def begin (s : Rd) (size width : Int) : Rd := { s with msize := size, mwidth := width, mstep := 0, mat := 0 }

def useSize (s : Rd) (v : Int) : Rd :=
  if s.kind = 2 then { begin { s with left := v + 1 } 272 9 with part := 4 }
  else
    let t : Rd := { s with left := if s.kind = 1 then v + 1 else v }
    if fillOk t then
      let u : Rd := { fillTo t with part := 3 }
      if u.left = 0 then endBlock u else u
    else fillTo t

def useByte (s : Rd) (v : Int) : Rd :=
  let t : Rd := if s.kind = 1 then put s v else { s with left := s.left - 1 }
  if t.left = 0 then endBlock t else t

/- copies -/
def lenLeast (k : Int) : Int := if k < 8 then 3 + k else 9 + 2 ^ (k - 7).toNat
def lenMore (k : Int) : Int := if k < 8 then 0 else k - 7
def distLeast (d : Int) : Int := if d < 4 then 0 else 2 ^ (d - 4).toNat
def distMore (d : Int) : Int := if d < 4 then 0 else d - 4

def nearAdd (f : Nat → Int) (d : Int) : Nat → Int := fun j => if j = 0 then d else if j < 4 then f (j - 1) else f j

def copyGo : Nat → Rd → Int → Rd
  | 0, s, _ => s
  | n + 1, s, d => copyGo n (put s (agoP s d)) d

def useCopy (s : Rd) (d : Int) : Rd :=
  if s.reach < d ∨ s.left < s.length then fault s else endCommand (copyGo s.length.toNat s d)

def useLetter (s : Rd) (v : Int) : Rd :=
  if v < 256 then endCommand (put s v)
  else { s with least := lenLeast (v - 256), more := lenMore (v - 256), part := 7 }

def useDistance (s : Rd) (v : Int) : Rd :=
  if v < 4 then
    useCopy (if 0 < v then { s with near := nearAdd s.near (s.near v.toNat) } else s) (s.near v.toNat)
  else { s with least := distLeast v, more := distMore v, part := 9 }

/- codes -/
def findGo (cnt sym : Nat → Int) (hold have_ : Int) : Nat → Nat → Int → Int → Int → Int × Int
  | 0, _, _, _, _ => (0, have_ + 1)
  | f + 1, len, bits, first, ahead =>
    if len ≤ 12 ∧ (len : Int) ≤ have_ then
      if bits - first < cnt len ∧ 0 ≤ ahead + bits - first ∧ ahead + bits - first < 272 then (sym (ahead + bits - first).toNat, len)
      else findGo cnt sym hold have_ f (len + 1) (2 * bits + hold / 2 ^ len % 2) (2 * (first + cnt len)) (ahead + cnt len)
    else (0, have_ + 1)
def find (cnt sym : Nat → Int) (hold have_ : Int) : Int × Int := findGo cnt sym hold have_ 14 0 0 0 0

def countGo (len : Nat → Int) : Nat → (Nat → Int) × Int
  | 0 => (fun _ => 0, 0)
  | n + 1 =>
    let r := countGo len n
    if 0 < len n ∧ len n ≤ 12 then (upd r.1 (len n).toNat (r.1 (len n).toNat + 1), r.2 + 2 ^ (12 - len n).toNat) else r

def nextGo (cnt : Nat → Int) : Nat → Int
  | 0 => 0
  | 1 => 0
  | n + 2 => nextGo cnt (n + 1) + cnt (n + 1)

/-- order: the symbols and the next places, behind the first n lengths -/
def orderGo (cnt sym len : Nat → Int) : Nat → (Nat → Int) × (Nat → Int)
  | 0 => (sym, nextGo cnt)
  | n + 1 =>
    let r := orderGo cnt sym len n
    if 0 < len n ∧ len n ≤ 12 ∧ r.2 (len n).toNat < 272 then
      (upd r.1 (r.2 (len n).toNat).toNat n, upd r.2 (len n).toNat (r.2 (len n).toNat + 1))
    else r

def simpleCnt (n : Int) : Nat → Int := fun j =>
  if n = 1 then (if j = 0 then 1 else 0) else if n = 2 then (if j = 1 then 2 else 0)
  else if n = 3 then (if j = 1 then 1 else if j = 2 then 2 else 0) else (if j = 2 then 4 else 0)

def fillLen (f : Nat → Int) (at_ : Nat) (v : Int) (n : Nat) : Nat → Int := fun j => if at_ ≤ j ∧ j < at_ + n then v else f j

def lay (s : Rd) (v times : Int) : Rd × Int :=
  if s.msize < s.mat + times ∨ 272 < s.mat + times then (s, 2)
  else
    let t : Rd := { s with mlen := fillLen s.mlen s.mat.toNat v times.toNat, mat := s.mat + times }
    if t.mat < t.msize then (t, 0)
    else
      let c := countGo t.mlen t.mat.toNat
      let u : Rd := { t with mcnt := c.1 }
      if c.2 = 4096 then ({ u with msym := (orderGo u.mcnt u.msym u.mlen u.mat.toNat).1 }, 1) else (u, 2)

def before (s : Rd) : Int := if s.mat < 1 ∨ 272 < s.mat then 0 else s.mlen (s.mat - 1).toNat

def times (s : Rd) (v : Int) : Rd × Int :=
  let t : Rd := { s with mstep := 3 }
  if s.mrepeat = 13 then lay t (before t) (3 + v) else if s.mrepeat = 14 then lay t 0 (3 + v) else lay t 0 (11 + v)

def lengthP (s : Rd) (v : Int) : Rd × Int :=
  if v ≤ 12 then lay s v 1
  else if v = 13 ∧ s.mat = 0 then (s, 2)
  else ({ s with mrepeat := v, mstep := 4 }, 0)

def nameP (s : Rd) (v : Int) : Rd × Int :=
  if s.msize ≤ v ∨ 272 ≤ s.mat then (s, 2)
  else if 0 < s.mat ∧ v ≤ s.msym (s.mat - 1).toNat then (s, 2)
  else
    let t : Rd := { s with msym := upd s.msym s.mat.toNat v, mat := s.mat + 1 }
    if t.mat < t.mwanted then (t, 0) else ({ t with mcnt := simpleCnt t.mwanted }, 1)

def give (s : Rd) (v : Int) : Rd × Int :=
  if s.mstep = 0 then ({ s with mstep := if v = 1 then 3 else 1 }, 0)
  else if s.mstep = 1 then ({ s with mwanted := v + 1, mstep := 2 }, 0)
  else if s.mstep = 2 then nameP s v
  else if s.mstep = 3 then lengthP s v
  else times s v

def mWidth (s : Rd) : Int :=
  if s.mstep = 0 then 1 else if s.mstep = 1 then 2 else if s.mstep = 2 then s.mwidth else if s.mstep = 3 then 4
  else if s.mrepeat = 13 then 2 else if s.mrepeat = 14 then 3 else 6

def useCode (s : Rd) (v : Int) : Rd :=
  let r := give s v
  if r.2 = 2 then fault r.1
  else if r.2 = 0 then r.1
  else if r.1.part = 4 then { begin { r.1 with lcnt := r.1.mcnt, lsym := r.1.msym } 16 4 with part := 5 }
  else { r.1 with dcnt := r.1.mcnt, dsym := r.1.msym, part := 6 }

def width (s : Rd) : Int :=
  if s.part = 0 then 4 else if s.part = 1 then 3 else if s.part = 2 then (if s.kind = 3 then 8 else 12)
  else if s.part = 4 ∨ s.part = 5 then mWidth s else if s.part = 7 ∨ s.part = 9 then s.more else 8

/-- the value and the number of bits of the next part -/
def peek (s : Rd) : Int × Int :=
  if s.part = 6 then find s.lcnt s.lsym s.hold s.have_
  else if s.part = 8 then find s.dcnt s.dsym s.hold s.have_
  else (s.hold % 2 ^ (width s).toNat, width s)

def drop (s : Rd) (n : Int) : Rd := { s with hold := s.hold / 2 ^ n.toNat, have_ := s.have_ - n }

def use (s : Rd) (v : Int) : Rd :=
  if s.part = 0 then useWindow s v else if s.part = 1 then useBlock s v else if s.part = 2 then useSize s v
  else if s.part = 3 then useByte s v else if s.part = 4 ∨ s.part = 5 then useCode s v else if s.part = 6 then useLetter s v
  else if s.part = 7 then { s with length := s.least + v, part := 8 }
  else if s.part = 8 then useDistance s v
  else if s.part = 9 then useCopy { s with near := nearAdd s.near (s.least + v) } (s.least + v) else s

/-- none: no step can be taken -/
def step (s : Rd) : Option Rd :=
  if s.part = 10 ∨ s.part = 11 then none
  else if s.have_ < (peek s).2 then none else some (use (drop s (peek s).2) (peek s).1)

def steps : Nat → Rd → Rd
  | 0, s => s
  | n + 1, s => match step s with
    | none => s
    | some t => steps n t

end Wr

/- WHERE THE READER's STATE LIES: one block of 5247 cells, and what has come out in a row of its own. -/
namespace Go.Proofs.Ytmpfgdmdnghhgaa
open Go.RowKit Wr

def cellsOf (s : Rd) (v : Value) (o : Nat) : Value :=
  if o = 0 then .int .i64 s.hold
  else if o = 1 then .int .i64 s.have_
  else if o = 2 then .int .i64 s.part
  else if o = 3 then .bool s.last
  else if o = 4 then .int .i64 s.kind
  else if o = 5 then .int .i64 s.left
  else if o = 6 then .int .i64 s.msize
  else if o = 7 then .int .i64 s.mwidth
  else if o = 8 then .int .i64 s.mstep
  else if o = 9 then .int .i64 s.mwanted
  else if o = 10 then .int .i64 s.mat
  else if o = 11 then .int .i64 s.mrepeat
  else if 12 ≤ o ∧ o < 12 + 272 then .int .i64 (s.mlen (o - 12))
  else if 284 ≤ o ∧ o < 284 + 13 then .int .i64 (s.mcnt (o - 284))
  else if 297 ≤ o ∧ o < 297 + 272 then .int .i64 (s.msym (o - 297))
  else if 569 ≤ o ∧ o < 569 + 13 then .int .i64 (s.lcnt (o - 569))
  else if 582 ≤ o ∧ o < 582 + 272 then .int .i64 (s.lsym (o - 582))
  else if 854 ≤ o ∧ o < 854 + 13 then .int .i64 (s.dcnt (o - 854))
  else if 867 ≤ o ∧ o < 867 + 272 then .int .i64 (s.dsym (o - 867))
  else if o = 1139 then .int .i64 s.least
  else if o = 1140 then .int .i64 s.more
  else if o = 1141 then .int .i64 s.length
  else if 1142 ≤ o ∧ o < 1142 + 4 then .int .i64 (s.near (o - 1142))
  else if 1146 ≤ o ∧ o < 1146 + 4096 then .int .u8 (s.ring (o - 1146))
  else if o = 5242 then .int .i64 s.at_
  else if o = 5243 then .int .i64 s.window
  else if o = 5244 then .int .i64 s.reach
  else if o = 5245 then .bool s.trailing
  else if o = 5246 then v else .nilFunc

/-- the reader lies in block b -/
def Row (w : World) (b : Nat) (s : Rd) (v : Value) : Prop := w.rowIs b 94 5247 (cellsOf s v)

theorem Row.free {w : World} {b : Nat} {s : Rd} {v : Value} (h : Row w b s v) (o : Nat) : w.frozen? ⟨b, o, none⟩ = false := World.rowIs.frozen h o
theorem Row.at {w : World} {b : Nat} {s : Rd} {v : Value} (h : Row w b s v) (o : Nat) (ho : o < 5247) {x : Value} (e : cellsOf s v o = x) :
    w.cell? ⟨b, o, none⟩ = some x := by rw [← e]; exact World.rowIs.cell h ho

theorem Row.turn {w : World} {b : Nat} {s t : Rd} {v u : Value} (h : Row w b s v) (k : Nat) (x : Value)
    (e : ∀ o, o < 5247 → (if o = k then x else cellsOf s v o) = cellsOf t u o) : Row (w.setCell ⟨b, k, none⟩ x) b t u :=
  (World.rowIs.set h k x).congr e

theorem Row.drew {w : World} {b : Nat} {s : Rd} {v : Value} (h : Row w b s v) : Row w.drew b s v := h
theorem Row.drewN {w : World} {b : Nat} {s : Rd} {v : Value} (h : Row w b s v) (n : Nat) : Row (w.drewN n) b s v := h
theorem Row.alloc {w : World} {b : Nat} {s : Rd} {v : Value} (h : Row w b s v) (o : Obj) : Row (w.alloc o) b s v := World.rowIs.alloc h o
theorem Row.lt {w : World} {b : Nat} {s : Rd} {v : Value} (h : Row w b s v) : b < w.heap.size := World.rowIs.lt h
theorem Row.of_block {w w' : World} {b : Nat} {s : Rd} {v : Value} (h : Row w b s v) (e : w'.heap[b]? = w.heap[b]?) : Row w' b s v := World.rowIs.of_block h e

section sets
variable {w : World} {b : Nat} {s : Rd} {v : Value}
theorem Row.hold (h : Row w b s v) (x : Int) : Row (w.setCell ⟨b, 0, none⟩ (.int .i64 x)) b { s with hold := x } v := by
  refine h.turn _ _ fun o _ => ?_
  by_cases e : o = 0
  · subst e; rfl
  · simp only [cellsOf, if_neg e]
theorem Row.c_hold (h : Row w b s v) : w.cell? ⟨b, 0, none⟩ = some (.int .i64 s.hold) := h.at _ (by omega) rfl
theorem Row.have_ (h : Row w b s v) (x : Int) : Row (w.setCell ⟨b, 1, none⟩ (.int .i64 x)) b { s with have_ := x } v := by
  refine h.turn _ _ fun o _ => ?_
  by_cases e : o = 1
  · subst e; rfl
  · simp only [cellsOf, if_neg e]
theorem Row.c_have_ (h : Row w b s v) : w.cell? ⟨b, 1, none⟩ = some (.int .i64 s.have_) := h.at _ (by omega) rfl
theorem Row.part (h : Row w b s v) (x : Int) : Row (w.setCell ⟨b, 2, none⟩ (.int .i64 x)) b { s with part := x } v := by
  refine h.turn _ _ fun o _ => ?_
  by_cases e : o = 2
  · subst e; rfl
  · simp only [cellsOf, if_neg e]
theorem Row.c_part (h : Row w b s v) : w.cell? ⟨b, 2, none⟩ = some (.int .i64 s.part) := h.at _ (by omega) rfl
theorem Row.last (h : Row w b s v) (x : Bool) : Row (w.setCell ⟨b, 3, none⟩ (.bool x)) b { s with last := x } v := by
  refine h.turn _ _ fun o _ => ?_
  by_cases e : o = 3
  · subst e; rfl
  · simp only [cellsOf, if_neg e]
theorem Row.c_last (h : Row w b s v) : w.cell? ⟨b, 3, none⟩ = some (.bool s.last) := h.at _ (by omega) rfl
theorem Row.kind (h : Row w b s v) (x : Int) : Row (w.setCell ⟨b, 4, none⟩ (.int .i64 x)) b { s with kind := x } v := by
  refine h.turn _ _ fun o _ => ?_
  by_cases e : o = 4
  · subst e; rfl
  · simp only [cellsOf, if_neg e]
theorem Row.c_kind (h : Row w b s v) : w.cell? ⟨b, 4, none⟩ = some (.int .i64 s.kind) := h.at _ (by omega) rfl
theorem Row.left (h : Row w b s v) (x : Int) : Row (w.setCell ⟨b, 5, none⟩ (.int .i64 x)) b { s with left := x } v := by
  refine h.turn _ _ fun o _ => ?_
  by_cases e : o = 5
  · subst e; rfl
  · simp only [cellsOf, if_neg e]
theorem Row.c_left (h : Row w b s v) : w.cell? ⟨b, 5, none⟩ = some (.int .i64 s.left) := h.at _ (by omega) rfl
theorem Row.msize (h : Row w b s v) (x : Int) : Row (w.setCell ⟨b, 6, none⟩ (.int .i64 x)) b { s with msize := x } v := by
  refine h.turn _ _ fun o _ => ?_
  by_cases e : o = 6
  · subst e; rfl
  · simp only [cellsOf, if_neg e]
theorem Row.c_msize (h : Row w b s v) : w.cell? ⟨b, 6, none⟩ = some (.int .i64 s.msize) := h.at _ (by omega) rfl
theorem Row.mwidth (h : Row w b s v) (x : Int) : Row (w.setCell ⟨b, 7, none⟩ (.int .i64 x)) b { s with mwidth := x } v := by
  refine h.turn _ _ fun o _ => ?_
  by_cases e : o = 7
  · subst e; rfl
  · simp only [cellsOf, if_neg e]
theorem Row.c_mwidth (h : Row w b s v) : w.cell? ⟨b, 7, none⟩ = some (.int .i64 s.mwidth) := h.at _ (by omega) rfl
theorem Row.mstep (h : Row w b s v) (x : Int) : Row (w.setCell ⟨b, 8, none⟩ (.int .i64 x)) b { s with mstep := x } v := by
  refine h.turn _ _ fun o _ => ?_
  by_cases e : o = 8
  · subst e; rfl
  · simp only [cellsOf, if_neg e]
theorem Row.c_mstep (h : Row w b s v) : w.cell? ⟨b, 8, none⟩ = some (.int .i64 s.mstep) := h.at _ (by omega) rfl
theorem Row.mwanted (h : Row w b s v) (x : Int) : Row (w.setCell ⟨b, 9, none⟩ (.int .i64 x)) b { s with mwanted := x } v := by
  refine h.turn _ _ fun o _ => ?_
  by_cases e : o = 9
  · subst e; rfl
  · simp only [cellsOf, if_neg e]
theorem Row.c_mwanted (h : Row w b s v) : w.cell? ⟨b, 9, none⟩ = some (.int .i64 s.mwanted) := h.at _ (by omega) rfl
theorem Row.mat (h : Row w b s v) (x : Int) : Row (w.setCell ⟨b, 10, none⟩ (.int .i64 x)) b { s with mat := x } v := by
  refine h.turn _ _ fun o _ => ?_
  by_cases e : o = 10
  · subst e; rfl
  · simp only [cellsOf, if_neg e]
theorem Row.c_mat (h : Row w b s v) : w.cell? ⟨b, 10, none⟩ = some (.int .i64 s.mat) := h.at _ (by omega) rfl
theorem Row.mrepeat (h : Row w b s v) (x : Int) : Row (w.setCell ⟨b, 11, none⟩ (.int .i64 x)) b { s with mrepeat := x } v := by
  refine h.turn _ _ fun o _ => ?_
  by_cases e : o = 11
  · subst e; rfl
  · simp only [cellsOf, if_neg e]
theorem Row.c_mrepeat (h : Row w b s v) : w.cell? ⟨b, 11, none⟩ = some (.int .i64 s.mrepeat) := h.at _ (by omega) rfl
theorem Row.least (h : Row w b s v) (x : Int) : Row (w.setCell ⟨b, 1139, none⟩ (.int .i64 x)) b { s with least := x } v := by
  refine h.turn _ _ fun o _ => ?_
  by_cases e : o = 1139
  · subst e; rfl
  · simp only [cellsOf, if_neg e]
theorem Row.c_least (h : Row w b s v) : w.cell? ⟨b, 1139, none⟩ = some (.int .i64 s.least) := h.at _ (by omega) rfl
theorem Row.more (h : Row w b s v) (x : Int) : Row (w.setCell ⟨b, 1140, none⟩ (.int .i64 x)) b { s with more := x } v := by
  refine h.turn _ _ fun o _ => ?_
  by_cases e : o = 1140
  · subst e; rfl
  · simp only [cellsOf, if_neg e]
theorem Row.c_more (h : Row w b s v) : w.cell? ⟨b, 1140, none⟩ = some (.int .i64 s.more) := h.at _ (by omega) rfl
theorem Row.length (h : Row w b s v) (x : Int) : Row (w.setCell ⟨b, 1141, none⟩ (.int .i64 x)) b { s with length := x } v := by
  refine h.turn _ _ fun o _ => ?_
  by_cases e : o = 1141
  · subst e; rfl
  · simp only [cellsOf, if_neg e]
theorem Row.c_length (h : Row w b s v) : w.cell? ⟨b, 1141, none⟩ = some (.int .i64 s.length) := h.at _ (by omega) rfl
theorem Row.at_ (h : Row w b s v) (x : Int) : Row (w.setCell ⟨b, 5242, none⟩ (.int .i64 x)) b { s with at_ := x } v := by
  refine h.turn _ _ fun o _ => ?_
  by_cases e : o = 5242
  · subst e; rfl
  · simp only [cellsOf, if_neg e]
theorem Row.c_at_ (h : Row w b s v) : w.cell? ⟨b, 5242, none⟩ = some (.int .i64 s.at_) := h.at _ (by omega) rfl
theorem Row.window (h : Row w b s v) (x : Int) : Row (w.setCell ⟨b, 5243, none⟩ (.int .i64 x)) b { s with window := x } v := by
  refine h.turn _ _ fun o _ => ?_
  by_cases e : o = 5243
  · subst e; rfl
  · simp only [cellsOf, if_neg e]
theorem Row.c_window (h : Row w b s v) : w.cell? ⟨b, 5243, none⟩ = some (.int .i64 s.window) := h.at _ (by omega) rfl
theorem Row.reach (h : Row w b s v) (x : Int) : Row (w.setCell ⟨b, 5244, none⟩ (.int .i64 x)) b { s with reach := x } v := by
  refine h.turn _ _ fun o _ => ?_
  by_cases e : o = 5244
  · subst e; rfl
  · simp only [cellsOf, if_neg e]
theorem Row.c_reach (h : Row w b s v) : w.cell? ⟨b, 5244, none⟩ = some (.int .i64 s.reach) := h.at _ (by omega) rfl
theorem Row.trailing (h : Row w b s v) (x : Bool) : Row (w.setCell ⟨b, 5245, none⟩ (.bool x)) b { s with trailing := x } v := by
  refine h.turn _ _ fun o _ => ?_
  by_cases e : o = 5245
  · subst e; rfl
  · simp only [cellsOf, if_neg e]
theorem Row.c_trailing (h : Row w b s v) : w.cell? ⟨b, 5245, none⟩ = some (.bool s.trailing) := h.at _ (by omega) rfl
theorem Row.c_mlen (h : Row w b s v) (i : Nat) (hi : i < 272) : w.cell? ⟨b, 12 + i, none⟩ = some (.int .i64 (s.mlen i)) := by
  refine h.at _ (by omega) ?_
  have e : 12 + i - 12 = i := by omega
  unfold cellsOf
  repeat rw [if_neg (by omega)]
  rw [if_pos (by omega), e]
theorem Row.mlen (h : Row w b s v) (i : Nat) (hi : i < 272) (x : Int) : Row (w.setCell ⟨b, 12 + i, none⟩ (.int .i64 x)) b { s with mlen := upd s.mlen i x } v := by
  refine h.turn _ _ fun o _ => ?_
  by_cases e : o = 12 + i
  · subst e
    rw [if_pos rfl]
    have e : 12 + i - 12 = i := by omega
    unfold cellsOf
    repeat rw [if_neg (by omega)]
    rw [if_pos (by omega), e]
    simp [upd]
  · rw [if_neg e]
    by_cases d : 12 ≤ o ∧ o < 12 + 272
    · have e2 : o - 12 ≠ i := by omega
      have e3 : upd s.mlen i x (o - 12) = s.mlen (o - 12) := if_neg e2
      simp only [cellsOf, e3]
    · simp only [cellsOf, if_neg d]
theorem Row.c_mcnt (h : Row w b s v) (i : Nat) (hi : i < 13) : w.cell? ⟨b, 284 + i, none⟩ = some (.int .i64 (s.mcnt i)) := by
  refine h.at _ (by omega) ?_
  have e : 284 + i - 284 = i := by omega
  unfold cellsOf
  repeat rw [if_neg (by omega)]
  rw [if_pos (by omega), e]
theorem Row.mcnt (h : Row w b s v) (i : Nat) (hi : i < 13) (x : Int) : Row (w.setCell ⟨b, 284 + i, none⟩ (.int .i64 x)) b { s with mcnt := upd s.mcnt i x } v := by
  refine h.turn _ _ fun o _ => ?_
  by_cases e : o = 284 + i
  · subst e
    rw [if_pos rfl]
    have e : 284 + i - 284 = i := by omega
    unfold cellsOf
    repeat rw [if_neg (by omega)]
    rw [if_pos (by omega), e]
    simp [upd]
  · rw [if_neg e]
    by_cases d : 284 ≤ o ∧ o < 284 + 13
    · have e2 : o - 284 ≠ i := by omega
      have e3 : upd s.mcnt i x (o - 284) = s.mcnt (o - 284) := if_neg e2
      simp only [cellsOf, e3]
    · simp only [cellsOf, if_neg d]
theorem Row.c_msym (h : Row w b s v) (i : Nat) (hi : i < 272) : w.cell? ⟨b, 297 + i, none⟩ = some (.int .i64 (s.msym i)) := by
  refine h.at _ (by omega) ?_
  have e : 297 + i - 297 = i := by omega
  unfold cellsOf
  repeat rw [if_neg (by omega)]
  rw [if_pos (by omega), e]
theorem Row.msym (h : Row w b s v) (i : Nat) (hi : i < 272) (x : Int) : Row (w.setCell ⟨b, 297 + i, none⟩ (.int .i64 x)) b { s with msym := upd s.msym i x } v := by
  refine h.turn _ _ fun o _ => ?_
  by_cases e : o = 297 + i
  · subst e
    rw [if_pos rfl]
    have e : 297 + i - 297 = i := by omega
    unfold cellsOf
    repeat rw [if_neg (by omega)]
    rw [if_pos (by omega), e]
    simp [upd]
  · rw [if_neg e]
    by_cases d : 297 ≤ o ∧ o < 297 + 272
    · have e2 : o - 297 ≠ i := by omega
      have e3 : upd s.msym i x (o - 297) = s.msym (o - 297) := if_neg e2
      simp only [cellsOf, e3]
    · simp only [cellsOf, if_neg d]
theorem Row.c_lcnt (h : Row w b s v) (i : Nat) (hi : i < 13) : w.cell? ⟨b, 569 + i, none⟩ = some (.int .i64 (s.lcnt i)) := by
  refine h.at _ (by omega) ?_
  have e : 569 + i - 569 = i := by omega
  unfold cellsOf
  repeat rw [if_neg (by omega)]
  rw [if_pos (by omega), e]
theorem Row.lcnt (h : Row w b s v) (i : Nat) (hi : i < 13) (x : Int) : Row (w.setCell ⟨b, 569 + i, none⟩ (.int .i64 x)) b { s with lcnt := upd s.lcnt i x } v := by
  refine h.turn _ _ fun o _ => ?_
  by_cases e : o = 569 + i
  · subst e
    rw [if_pos rfl]
    have e : 569 + i - 569 = i := by omega
    unfold cellsOf
    repeat rw [if_neg (by omega)]
    rw [if_pos (by omega), e]
    simp [upd]
  · rw [if_neg e]
    by_cases d : 569 ≤ o ∧ o < 569 + 13
    · have e2 : o - 569 ≠ i := by omega
      have e3 : upd s.lcnt i x (o - 569) = s.lcnt (o - 569) := if_neg e2
      simp only [cellsOf, e3]
    · simp only [cellsOf, if_neg d]
theorem Row.c_lsym (h : Row w b s v) (i : Nat) (hi : i < 272) : w.cell? ⟨b, 582 + i, none⟩ = some (.int .i64 (s.lsym i)) := by
  refine h.at _ (by omega) ?_
  have e : 582 + i - 582 = i := by omega
  unfold cellsOf
  repeat rw [if_neg (by omega)]
  rw [if_pos (by omega), e]
theorem Row.lsym (h : Row w b s v) (i : Nat) (hi : i < 272) (x : Int) : Row (w.setCell ⟨b, 582 + i, none⟩ (.int .i64 x)) b { s with lsym := upd s.lsym i x } v := by
  refine h.turn _ _ fun o _ => ?_
  by_cases e : o = 582 + i
  · subst e
    rw [if_pos rfl]
    have e : 582 + i - 582 = i := by omega
    unfold cellsOf
    repeat rw [if_neg (by omega)]
    rw [if_pos (by omega), e]
    simp [upd]
  · rw [if_neg e]
    by_cases d : 582 ≤ o ∧ o < 582 + 272
    · have e2 : o - 582 ≠ i := by omega
      have e3 : upd s.lsym i x (o - 582) = s.lsym (o - 582) := if_neg e2
      simp only [cellsOf, e3]
    · simp only [cellsOf, if_neg d]
theorem Row.c_dcnt (h : Row w b s v) (i : Nat) (hi : i < 13) : w.cell? ⟨b, 854 + i, none⟩ = some (.int .i64 (s.dcnt i)) := by
  refine h.at _ (by omega) ?_
  have e : 854 + i - 854 = i := by omega
  unfold cellsOf
  repeat rw [if_neg (by omega)]
  rw [if_pos (by omega), e]
theorem Row.dcnt (h : Row w b s v) (i : Nat) (hi : i < 13) (x : Int) : Row (w.setCell ⟨b, 854 + i, none⟩ (.int .i64 x)) b { s with dcnt := upd s.dcnt i x } v := by
  refine h.turn _ _ fun o _ => ?_
  by_cases e : o = 854 + i
  · subst e
    rw [if_pos rfl]
    have e : 854 + i - 854 = i := by omega
    unfold cellsOf
    repeat rw [if_neg (by omega)]
    rw [if_pos (by omega), e]
    simp [upd]
  · rw [if_neg e]
    by_cases d : 854 ≤ o ∧ o < 854 + 13
    · have e2 : o - 854 ≠ i := by omega
      have e3 : upd s.dcnt i x (o - 854) = s.dcnt (o - 854) := if_neg e2
      simp only [cellsOf, e3]
    · simp only [cellsOf, if_neg d]
theorem Row.c_dsym (h : Row w b s v) (i : Nat) (hi : i < 272) : w.cell? ⟨b, 867 + i, none⟩ = some (.int .i64 (s.dsym i)) := by
  refine h.at _ (by omega) ?_
  have e : 867 + i - 867 = i := by omega
  unfold cellsOf
  repeat rw [if_neg (by omega)]
  rw [if_pos (by omega), e]
theorem Row.dsym (h : Row w b s v) (i : Nat) (hi : i < 272) (x : Int) : Row (w.setCell ⟨b, 867 + i, none⟩ (.int .i64 x)) b { s with dsym := upd s.dsym i x } v := by
  refine h.turn _ _ fun o _ => ?_
  by_cases e : o = 867 + i
  · subst e
    rw [if_pos rfl]
    have e : 867 + i - 867 = i := by omega
    unfold cellsOf
    repeat rw [if_neg (by omega)]
    rw [if_pos (by omega), e]
    simp [upd]
  · rw [if_neg e]
    by_cases d : 867 ≤ o ∧ o < 867 + 272
    · have e2 : o - 867 ≠ i := by omega
      have e3 : upd s.dsym i x (o - 867) = s.dsym (o - 867) := if_neg e2
      simp only [cellsOf, e3]
    · simp only [cellsOf, if_neg d]
theorem Row.c_near (h : Row w b s v) (i : Nat) (hi : i < 4) : w.cell? ⟨b, 1142 + i, none⟩ = some (.int .i64 (s.near i)) := by
  refine h.at _ (by omega) ?_
  have e : 1142 + i - 1142 = i := by omega
  unfold cellsOf
  repeat rw [if_neg (by omega)]
  rw [if_pos (by omega), e]
theorem Row.near (h : Row w b s v) (i : Nat) (hi : i < 4) (x : Int) : Row (w.setCell ⟨b, 1142 + i, none⟩ (.int .i64 x)) b { s with near := upd s.near i x } v := by
  refine h.turn _ _ fun o _ => ?_
  by_cases e : o = 1142 + i
  · subst e
    rw [if_pos rfl]
    have e : 1142 + i - 1142 = i := by omega
    unfold cellsOf
    repeat rw [if_neg (by omega)]
    rw [if_pos (by omega), e]
    simp [upd]
  · rw [if_neg e]
    by_cases d : 1142 ≤ o ∧ o < 1142 + 4
    · have e2 : o - 1142 ≠ i := by omega
      have e3 : upd s.near i x (o - 1142) = s.near (o - 1142) := if_neg e2
      simp only [cellsOf, e3]
    · simp only [cellsOf, if_neg d]
theorem Row.c_ring (h : Row w b s v) (i : Nat) (hi : i < 4096) : w.cell? ⟨b, 1146 + i, none⟩ = some (.int .u8 (s.ring i)) := by
  refine h.at _ (by omega) ?_
  have e : 1146 + i - 1146 = i := by omega
  unfold cellsOf
  repeat rw [if_neg (by omega)]
  rw [if_pos (by omega), e]
theorem Row.ring (h : Row w b s v) (i : Nat) (hi : i < 4096) (x : Int) : Row (w.setCell ⟨b, 1146 + i, none⟩ (.int .u8 x)) b { s with ring := upd s.ring i x } v := by
  refine h.turn _ _ fun o _ => ?_
  by_cases e : o = 1146 + i
  · subst e
    rw [if_pos rfl]
    have e : 1146 + i - 1146 = i := by omega
    unfold cellsOf
    repeat rw [if_neg (by omega)]
    rw [if_pos (by omega), e]
    simp [upd]
  · rw [if_neg e]
    by_cases d : 1146 ≤ o ∧ o < 1146 + 4096
    · have e2 : o - 1146 ≠ i := by omega
      have e3 : upd s.ring i x (o - 1146) = s.ring (o - 1146) := if_neg e2
      simp only [cellsOf, e3]
    · simp only [cellsOf, if_neg d]
theorem Row.c_out (h : Row w b s v) : w.cell? ⟨b, 5246, none⟩ = some v := h.at _ (by omega) rfl
theorem Row.out (h : Row w b s v) (u : Value) (l : List Int) : Row (w.setCell ⟨b, 5246, none⟩ u) b { s with out := l } u := by
  refine h.turn _ _ fun o ho => ?_
  by_cases e : o = 5246
  · subst e; rfl
  · simp only [cellsOf, if_neg e]
end sets

/-- below B all blocks but b are as they were -/
structure Fr (B b : Nat) (w w' : World) : Prop where
  os : w'.os = w.os
  tape : w'.tape = w.tape
  output : w'.output = w.output
  size : w.heap.size ≤ w'.heap.size
  block : ∀ k, k < B → k ≠ b → w'.heap[k]? = w.heap[k]?

theorem Fr.refl (B b : Nat) (w : World) : Fr B b w w := ⟨rfl, rfl, rfl, Nat.le_refl _, fun _ _ _ => rfl⟩
theorem Fr.trans {B b : Nat} {w w' w'' : World} (h : Fr B b w w') (k : Fr B b w' w'') : Fr B b w w'' :=
  ⟨k.os.trans h.os, k.tape.trans h.tape, k.output.trans h.output, Nat.le_trans h.size k.size, fun i hi hb => (k.block i hi hb).trans (h.block i hi hb)⟩
theorem Fr.drew {B b : Nat} {w w' : World} (h : Fr B b w w') : Fr B b w w'.drew := ⟨h.os, h.tape, h.output, h.size, h.block⟩
theorem Fr.set {B b : Nat} {w w' : World} (h : Fr B b w w') (o : Nat) (x : Value) : Fr B b w (w'.setCell ⟨b, o, none⟩ x) :=
  h.trans ⟨rfl, rfl, rfl, by simp [World.setCell], fun k _ hb => Below.heap_setCell _ _ _ _ hb⟩
theorem Fr.above {B b : Nat} {w w' : World} (h : Fr B b w w') {p : Addr} (hp : B ≤ p.block) (x : Value) : Fr B b w (w'.setCell p x) :=
  h.trans ⟨rfl, rfl, rfl, by simp [World.setCell], fun k hk _ => Below.heap_setCell _ _ _ _ (by omega)⟩
theorem Fr.alloc {B b : Nat} {w w' : World} (h : Fr B b w w') (hB : B ≤ w'.heap.size) (o : Obj) : Fr B b w (w'.alloc o) :=
  h.trans ⟨rfl, rfl, rfl, by simp, fun k hk _ => Below.heap_alloc _ _ _ (by omega)⟩
theorem Fr.below {B b : Nat} {w w' : World} (h : Fr B b w w') (hb : B ≤ b) : Below B w w' :=
  ⟨h.os, h.tape, h.output, h.size, fun k hk => h.block k hk (by omega)⟩
theorem Fr.of_below {B b : Nat} {w w' : World} (h : Below B w w') : Fr B b w w' := ⟨h.os, h.tape, h.output, h.size, fun k hk _ => h.block k hk⟩
theorem Fr.grown {B b : Nat} {w w' w'' : World} {row : Option Nat} (h : Fr B b w w') (hg : w'.grownBy w'' row) (hB : B ≤ w'.heap.size) (hr : ∀ k, row = some k → B ≤ k) : Fr B b w w'' :=
  h.trans (Fr.of_below ((Below.refl B w').grown hg hB hr))

/-- what has come out lies in a row of the call's own; the reader in block b -/
def Rep (w : World) (B b : Nat) (s : Rd) : Prop :=
  b < B ∧ B ≤ w.heap.size ∧ ∃ v, Row w b s v ∧ w.ownsRow B 5 1 v s.out.length (s.out.map (Value.int .u8))


/-- every block that was there, but b, is as it was -/
structure On (b : Nat) (w w' : World) : Prop where
  os : w'.os = w.os
  tape : w'.tape = w.tape
  output : w'.output = w.output
  size : w.heap.size ≤ w'.heap.size
  block : ∀ k, k < w.heap.size → k ≠ b → w'.heap[k]? = w.heap[k]?

theorem On.refl (b : Nat) (w : World) : On b w w := ⟨rfl, rfl, rfl, Nat.le_refl _, fun _ _ _ => rfl⟩
theorem On.trans {b : Nat} {w w' w'' : World} (h : On b w w') (k : On b w' w'') : On b w w'' :=
  ⟨k.os.trans h.os, k.tape.trans h.tape, k.output.trans h.output, Nat.le_trans h.size k.size, fun i hi hb => (k.block i (Nat.lt_of_lt_of_le hi h.size) hb).trans (h.block i hi hb)⟩
theorem On.drew {b : Nat} {w w' : World} (h : On b w w') : On b w w'.drew := ⟨h.os, h.tape, h.output, h.size, h.block⟩
theorem On.drewN {b : Nat} {w w' : World} (h : On b w w') (n : Nat) : On b w (w'.drewN n) := h.trans ⟨rfl, rfl, rfl, Nat.le_refl _, fun _ _ _ => rfl⟩
theorem On.set {b : Nat} {w w' : World} (h : On b w w') (o : Nat) (x : Value) : On b w (w'.setCell ⟨b, o, none⟩ x) :=
  h.trans ⟨rfl, rfl, rfl, by simp [World.setCell], fun k _ hb => Below.heap_setCell _ _ _ _ hb⟩
theorem On.alloc {b : Nat} {w w' : World} (h : On b w w') (o : Obj) : On b w (w'.alloc o) :=
  h.trans ⟨rfl, rfl, rfl, by simp, fun k hk _ => Below.heap_alloc _ _ _ hk⟩
theorem On.fr {B b : Nat} {w w' : World} (h : On b w w') (hB : B ≤ w.heap.size) : Fr B b w w' :=
  ⟨h.os, h.tape, h.output, h.size, fun k hk hb => h.block k (by omega) hb⟩
theorem On.owns {b B : Nat} {w w' : World} (h : On b w w') (hb : b < B) {e : TypeId} {size : Nat} {v : Value} {n : Nat} {xs : List Value} (ho : w.ownsRow B e size v n xs) :
    w'.ownsRow B e size v n xs := by
  obtain ⟨h1, h2⟩ := ho
  refine ⟨h1, ?_⟩
  rcases h2 with h2 | ⟨g, cap, cur, hv, hg, hh, r⟩
  · exact Or.inl h2
  · have hlt : g < w.heap.size := by
      rcases Nat.lt_or_ge g w.heap.size with hl | hl
      · exact hl
      · rw [Array.getElem?_eq_none hl] at hh; cases hh
    exact Or.inr ⟨g, cap, cur, hv, hg, by rw [h.block g hlt (by omega)]; exact hh, r⟩
theorem Rep.on {B b : Nat} {w w' : World} {s t : Rd} {v : Value} (hb : b < B) (hB : B ≤ w.heap.size) (hon : On b w w') (hr : Row w' b t v)
    (ho : w.ownsRow B 5 1 v s.out.length (s.out.map (Value.int .u8))) (he : t.out = s.out) : Rep w' B b t :=
  ⟨hb, Nat.le_trans hB hon.size, v, hr, by rw [he]; exact hon.owns hb ho⟩

end Go.Proofs.Ytmpfgdmdnghhgaa
