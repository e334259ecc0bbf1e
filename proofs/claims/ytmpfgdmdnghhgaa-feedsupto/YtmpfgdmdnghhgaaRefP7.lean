/- THE DOCUMENT READS A STREAM. No Go. -/
import Derived.Test.YtmpfgdmdnghhgaaRefP6
import Derived.Test.YtmpfgdmdnghhgaaRing
namespace Wr

structure Dr where
  x : Sr
  out : List Int
  notes : List ByteArray
  far : Nat → Int

/-- the distance of symbol dd, and what is left to read -/
def awayV (S : ByteArray) (far : Nat → Int) (dd : Int) (x : Sr) : Int := if dd < 4 then far dd.toNat else 2 ^ (dd - 4).toNat + numV S x (dd - 4).toNat
def awayS (S : ByteArray) (dd : Int) (x : Sr) : Sr := if dd < 4 then x else numS S x (dd - 4).toNat
def copyOk (w : Int) (out : Nat) (away n left : Int) : Bool := decide (away ≤ 16 * 2 ^ w.toNat ∧ away ≤ out ∧ n ≤ left)

def copyN (S : ByteArray) (k : Nat) (x : Sr) : Int := lenLeast k + numV S x (k - 7)
def copyX (S : ByteArray) (k : Nat) (x : Sr) : Sr := numS S x (k - 7)
def copyDd (S : ByteArray) (dw : List Wd) (k : Nat) (x : Sr) : Int := symV S dw (copyX S k x)
def copyAway (S : ByteArray) (dw : List Wd) (k : Nat) (d : Dr) : Int := awayV S d.far (copyDd S dw k d.x) (symS S dw (copyX S k d.x))
def copyS (S : ByteArray) (dw : List Wd) (k : Nat) (left : Int) (d : Dr) : Sr :=
  needS (awayS S (copyDd S dw k d.x) (symS S dw (copyX S k d.x))) (copyOk d.x.w d.out.length (copyAway S dw k d) (copyN S k d.x) left)
def copyD (S : ByteArray) (dw : List Wd) (k : Nat) (left : Int) (d : Dr) : Int × Dr :=
  if (copyS S dw k left d).state ≠ 0 then (0, { d with x := copyS S dw k left d })
  else (copyN S k d.x, { d with x := copyS S dw k left d, far := if copyDd S dw k d.x = 0 then d.far else nearAdd d.far (copyAway S dw k d), out := copyList (copyAway S dw k d).toNat (copyN S k d.x).toNat d.out })

def codedGo (S : ByteArray) (lw dw : List Wd) : Nat → Int → Dr → Dr
  | 0, _, d => d
  | g + 1, left, d =>
    if 0 < left ∧ d.x.state = 0 then
      if (symS S lw d.x).state ≠ 0 then { d with x := symS S lw d.x }
      else if symV S lw d.x < 256 then codedGo S lw dw g (left - 1) { d with x := symS S lw d.x, out := d.out ++ [symV S lw d.x] }
      else codedGo S lw dw g (left - (copyD S dw (symV S lw d.x - 256).toNat left { d with x := symS S lw d.x }).1) (copyD S dw (symV S lw d.x - 256).toNat left { d with x := symS S lw d.x }).2
    else d
def codedX (S : ByteArray) (x : Sr) : Sr := codeS S 16 4 (codeS S 272 9 (numS S x 12))
def codedD (S : ByteArray) (d : Dr) : Dr :=
  codedGo S (wsIf (codeS S 272 9 (numS S d.x 12)) (codeC S 272 9 (numS S d.x 12))) (wsIf (codedX S d.x) (codeC S 16 4 (codeS S 272 9 (numS S d.x 12)))) 4098 (numV S d.x 12 + 1) { d with x := codedX S d.x }

def bytesGo (S : ByteArray) : Nat → Sr → List Int × Sr
  | 0, x => ([], x)
  | n + 1, x => if x.state ≠ 0 then ([], x) else if (numS S x 8).state ≠ 0 then ([], numS S x 8) else (numV S x 8 :: (bytesGo S n (numS S x 8)).1, (bytesGo S n (numS S x 8)).2)

def blockX (S : ByteArray) (x : Sr) : Sr := numS S (bitS S x) 2
def storedR (S : ByteArray) (x : Sr) : List Int × Sr := bytesGo S (numV S (blockX S x) 12 + 1).toNat (fillS S (numS S (blockX S x) 12))
def noteR (S : ByteArray) (x : Sr) : List Int × Sr := bytesGo S (numV S (blockX S x) 8).toNat (fillS S (numS S (blockX S x) 8))
def blockD (S : ByteArray) (d : Dr) : Bool × Dr :=
  if (blockX S d.x).state ≠ 0 then (false, { d with x := blockX S d.x })
  else if numV S (bitS S d.x) 2 = 0 then (bitV S d.x == 1, { d with x := if bitV S d.x = 0 then fillS S (blockX S d.x) else blockX S d.x })
  else if numV S (bitS S d.x) 2 = 1 then
    (bitV S d.x == 1, { d with x := (storedR S d.x).2, out := d.out ++ (storedR S d.x).1 })
  else if numV S (bitS S d.x) 2 = 2 then (bitV S d.x == 1, codedD S { d with x := blockX S d.x })
  else (bitV S d.x == 1, { d with x := (noteR S d.x).2, notes := if (noteR S d.x).2.state = 0 then d.notes ++ [outStr (noteR S d.x).1] else d.notes })

/-- the blocks: is the end of the text where the last block that was begun begins; was it the last one -/
def readGo (S : ByteArray) : Nat → Bool → Bool → Dr → Bool × Dr
  | 0, edge, _, d => (edge, d)
  | g + 1, edge, last, d =>
    if d.x.state = 0 ∧ last = false then readGo S g (d.x.at_ == 8 * S.size) (blockD S d).1 (blockD S d).2 else (edge, d)
def x0 : Sr := { at_ := 0, state := 0, w := -1 }
def x1 (S : ByteArray) : Sr := needS (numS S x0 4) (decide (numV S x0 4 ≤ 8))
def startX (S : ByteArray) : Sr := if (x1 S).state = 0 then { x1 S with w := numV S x0 4 } else x1 S
def startD (S : ByteArray) : Dr := { x := startX S, out := [], notes := [], far := fun j => if j < 4 then (j : Int) + 1 else 0 }
def readR (S : ByteArray) : Bool × Dr := readGo S (8 * S.size + 2) false false (startD S)
def readD (S : ByteArray) : Dr := { (readR S).2 with x := fillS S (readR S).2.x }
def readV (S : ByteArray) : Int := if (readD S).x.state = 0 ∧ (readD S).x.at_ < 8 * S.size then 3 else (readD S).x.state
end Wr
