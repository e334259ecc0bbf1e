/- THE READER AS A PLAIN STATE: what each Go function of the reader does, said of numbers alone. No Go, no program. -/
namespace Wr

def upd (f : Nat → Int) (i : Nat) (v : Int) : Nat → Int := fun j => if j = i then v else f j

structure Rd where
  hold : Int
  have_ : Int
  part : Int
  last : Bool
  kind : Int
  left : Int
  msize : Int
  mwidth : Int
  mstep : Int
  mwanted : Int
  mat : Int
  mrepeat : Int
  mlen : Nat → Int
  mcnt : Nat → Int
  msym : Nat → Int
  lcnt : Nat → Int
  lsym : Nat → Int
  dcnt : Nat → Int
  dsym : Nat → Int
  least : Int
  more : Int
  length : Int
  near : Nat → Int
  ring : Nat → Int
  at_ : Int
  window : Int
  reach : Int
  trailing : Bool
  out : List Int

def fault (s : Rd) : Rd := { s with part := 11 }

def addRing (s : Rd) (c : Int) : Rd :=
  { s with ring := upd s.ring s.at_.toNat c, at_ := (s.at_ + 1) % 4096, reach := if s.reach < s.window then s.reach + 1 else s.reach }

def agoP (s : Rd) (d : Int) : Int := s.ring ((s.at_ + 4096 - d) % 4096).toNat

def put (s : Rd) (c : Int) : Rd :=
  let t := addRing { s with out := s.out ++ [c] } c
  { t with left := t.left - 1 }

def fillOk (s : Rd) : Bool := s.hold % 2 ^ (s.have_ % 8).toNat == 0
def fillTo (s : Rd) : Rd :=
  if fillOk s then { s with hold := s.hold / 2 ^ (s.have_ % 8).toNat, have_ := s.have_ - s.have_ % 8 } else fault s

def endBlock (s : Rd) : Rd :=
  if s.last then (if fillOk s then { fillTo s with part := 10 } else fillTo s) else { s with part := 1 }

def endCommand (s : Rd) : Rd :=
  if s.left = 0 then endBlock { s with part := 6 } else { s with part := 6 }

def useWindow (s : Rd) (w : Int) : Rd :=
  if 8 < w then fault s else { s with window := 16 * 2 ^ w.toNat, part := 1 }

def useBlock (s : Rd) (v : Int) : Rd :=
  let t : Rd := { s with last := v % 2 == 1, kind := v / 2 }
  if v / 2 = 0 then (if fillOk t then endBlock (fillTo t) else fillTo t) else { t with part := 2 }

def begin (s : Rd) (size width : Int) : Rd := { s with msize := size, mwidth := width, mstep := 0, mat := 0 }

def useSize (s : Rd) (v : Int) : Rd :=
  if s.kind = 2 then { begin { s with left := v + 1 } 272 9 with part := 4 }
  else
    let t : Rd := { s with left := if s.kind = 1 then v + 1 else v }
    if fillOk t then
      let u : Rd := { fillTo t with part := 3 }
      if u.left = 0 then endBlock u else u
    else fillTo t

def useByte (s : Rd) (v : Int) : Rd :=
  let t : Rd := if s.kind = 1 then put s v else { s with left := s.left - 1 }
  if t.left = 0 then endBlock t else t

/- copies -/
def lenLeast (k : Int) : Int := if k < 8 then 3 + k else 9 + 2 ^ (k - 7).toNat
def lenMore (k : Int) : Int := if k < 8 then 0 else k - 7
def distLeast (d : Int) : Int := if d < 4 then 0 else 2 ^ (d - 4).toNat
def distMore (d : Int) : Int := if d < 4 then 0 else d - 4

def nearAdd (f : Nat → Int) (d : Int) : Nat → Int := fun j => if j = 0 then d else if j < 4 then f (j - 1) else f j

def copyGo : Nat → Rd → Int → Rd
  | 0, s, _ => s
  | n + 1, s, d => copyGo n (put s (agoP s d)) d

def useCopy (s : Rd) (d : Int) : Rd :=
  if s.reach < d ∨ s.left < s.length then fault s else endCommand (copyGo s.length.toNat s d)

def useLetter (s : Rd) (v : Int) : Rd :=
  if v < 256 then endCommand (put s v)
  else { s with least := lenLeast (v - 256), more := lenMore (v - 256), part := 7 }

def useDistance (s : Rd) (v : Int) : Rd :=
  if v < 4 then
    useCopy (if 0 < v then { s with near := nearAdd s.near (s.near v.toNat) } else s) (s.near v.toNat)
  else { s with least := distLeast v, more := distMore v, part := 9 }

/- codes -/
def findGo (cnt sym : Nat → Int) (hold have_ : Int) : Nat → Nat → Int → Int → Int → Int × Int
  | 0, _, _, _, _ => (0, have_ + 1)
  | f + 1, len, bits, first, ahead =>
    if len ≤ 12 ∧ (len : Int) ≤ have_ then
      if bits - first < cnt len ∧ 0 ≤ ahead + bits - first ∧ ahead + bits - first < 272 then (sym (ahead + bits - first).toNat, len)
      else findGo cnt sym hold have_ f (len + 1) (2 * bits + hold / 2 ^ len % 2) (2 * (first + cnt len)) (ahead + cnt len)
    else (0, have_ + 1)
def find (cnt sym : Nat → Int) (hold have_ : Int) : Int × Int := findGo cnt sym hold have_ 14 0 0 0 0

def countGo (len : Nat → Int) : Nat → (Nat → Int) × Int
  | 0 => (fun _ => 0, 0)
  | n + 1 =>
    let r := countGo len n
    if 0 < len n ∧ len n ≤ 12 then (upd r.1 (len n).toNat (r.1 (len n).toNat + 1), r.2 + 2 ^ (12 - len n).toNat) else r

def nextGo (cnt : Nat → Int) : Nat → Int
  | 0 => 0
  | 1 => 0
  | n + 2 => nextGo cnt (n + 1) + cnt (n + 1)

/-- order: the symbols and the next places, behind the first n lengths -/
def orderGo (cnt sym len : Nat → Int) : Nat → (Nat → Int) × (Nat → Int)
  | 0 => (sym, nextGo cnt)
  | n + 1 =>
    let r := orderGo cnt sym len n
    if 0 < len n ∧ len n ≤ 12 ∧ r.2 (len n).toNat < 272 then
      (upd r.1 (r.2 (len n).toNat).toNat n, upd r.2 (len n).toNat (r.2 (len n).toNat + 1))
    else r

def simpleCnt (n : Int) : Nat → Int := fun j =>
  if n = 1 then (if j = 0 then 1 else 0) else if n = 2 then (if j = 1 then 2 else 0)
  else if n = 3 then (if j = 1 then 1 else if j = 2 then 2 else 0) else (if j = 2 then 4 else 0)

def fillLen (f : Nat → Int) (at_ : Nat) (v : Int) (n : Nat) : Nat → Int := fun j => if at_ ≤ j ∧ j < at_ + n then v else f j

def lay (s : Rd) (v times : Int) : Rd × Int :=
  if s.msize < s.mat + times ∨ 272 < s.mat + times then (s, 2)
  else
    let t : Rd := { s with mlen := fillLen s.mlen s.mat.toNat v times.toNat, mat := s.mat + times }
    if t.mat < t.msize then (t, 0)
    else
      let c := countGo t.mlen t.mat.toNat
      let u : Rd := { t with mcnt := c.1 }
      if c.2 = 4096 then ({ u with msym := (orderGo u.mcnt u.msym u.mlen u.mat.toNat).1 }, 1) else (u, 2)

def before (s : Rd) : Int := if s.mat < 1 ∨ 272 < s.mat then 0 else s.mlen (s.mat - 1).toNat

def times (s : Rd) (v : Int) : Rd × Int :=
  let t : Rd := { s with mstep := 3 }
  if s.mrepeat = 13 then lay t (before t) (3 + v) else if s.mrepeat = 14 then lay t 0 (3 + v) else lay t 0 (11 + v)

def lengthP (s : Rd) (v : Int) : Rd × Int :=
  if v ≤ 12 then lay s v 1
  else if v = 13 ∧ s.mat = 0 then (s, 2)
  else ({ s with mrepeat := v, mstep := 4 }, 0)

def nameP (s : Rd) (v : Int) : Rd × Int :=
  if s.msize ≤ v ∨ 272 ≤ s.mat then (s, 2)
  else if 0 < s.mat ∧ v ≤ s.msym (s.mat - 1).toNat then (s, 2)
  else
    let t : Rd := { s with msym := upd s.msym s.mat.toNat v, mat := s.mat + 1 }
    if t.mat < t.mwanted then (t, 0) else ({ t with mcnt := simpleCnt t.mwanted }, 1)

def give (s : Rd) (v : Int) : Rd × Int :=
  if s.mstep = 0 then ({ s with mstep := if v = 1 then 3 else 1 }, 0)
  else if s.mstep = 1 then ({ s with mwanted := v + 1, mstep := 2 }, 0)
  else if s.mstep = 2 then nameP s v
  else if s.mstep = 3 then lengthP s v
  else times s v

def mWidth (s : Rd) : Int :=
  if s.mstep = 0 then 1 else if s.mstep = 1 then 2 else if s.mstep = 2 then s.mwidth else if s.mstep = 3 then 4
  else if s.mrepeat = 13 then 2 else if s.mrepeat = 14 then 3 else 6

def useCode (s : Rd) (v : Int) : Rd :=
  let r := give s v
  if r.2 = 2 then fault r.1
  else if r.2 = 0 then r.1
  else if r.1.part = 4 then { begin { r.1 with lcnt := r.1.mcnt, lsym := r.1.msym } 16 4 with part := 5 }
  else { r.1 with dcnt := r.1.mcnt, dsym := r.1.msym, part := 6 }

def width (s : Rd) : Int :=
  if s.part = 0 then 4 else if s.part = 1 then 3 else if s.part = 2 then (if s.kind = 3 then 8 else 12)
  else if s.part = 4 ∨ s.part = 5 then mWidth s else if s.part = 7 ∨ s.part = 9 then s.more else 8

/-- the value and the number of bits of the next part -/
def peek (s : Rd) : Int × Int :=
  if s.part = 6 then find s.lcnt s.lsym s.hold s.have_
  else if s.part = 8 then find s.dcnt s.dsym s.hold s.have_
  else (s.hold % 2 ^ (width s).toNat, width s)

def drop (s : Rd) (n : Int) : Rd := { s with hold := s.hold / 2 ^ n.toNat, have_ := s.have_ - n }

def use (s : Rd) (v : Int) : Rd :=
  if s.part = 0 then useWindow s v else if s.part = 1 then useBlock s v else if s.part = 2 then useSize s v
  else if s.part = 3 then useByte s v else if s.part = 4 ∨ s.part = 5 then useCode s v else if s.part = 6 then useLetter s v
  else if s.part = 7 then { s with length := s.least + v, part := 8 }
  else if s.part = 8 then useDistance s v
  else if s.part = 9 then useCopy { s with near := nearAdd s.near (s.least + v) } (s.least + v) else s

/-- none: no step can be taken -/
def step (s : Rd) : Option Rd :=
  if s.part = 10 ∨ s.part = 11 then none
  else if s.have_ < (peek s).2 then none else some (use (drop s (peek s).2) (peek s).1)

def steps : Nat → Rd → Rd
  | 0, s => s
  | n + 1, s => match step s with
    | none => s
    | some t => steps n t

end Wr
