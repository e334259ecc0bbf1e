/-
  No cell of these rows narrows 'for every input' (looked for: loops, veiled, ifaces, maps, wideKeys, modest, calm, conditions, laid).
  DERIVED. THE GIVEN ROWS OF THIS SEAT. 6 by the template 'for every input the law returns true; each argument reads behind the call as it read before'; 0 by the template 'total and deterministic' (their statements: YtmpfgdmdnghhgaaGreatTotals.lean).
  GIVEN WITH THE SEED: the statements are not yours to turn. If you find one false, say at which input.
  Laid BY PROGRAM, IN A SANDBOX (cutbox-rows.mjs): the forced cells as the released guide's own fill.sh prints them over the translation e2399203a95e3bc8… (all of the seat's roots in one cut). By AI agents, Wed Nov 11 2026. No macro, syntax, notation, axiom, sorry.
-/
import Derived.Test.YtmpfgdmdnghhgaaGreatChecked
import GoSem.Claim
import GoSem.ClaimJoined
import GoSem.ClaimMapViews
import Derived.JoinedTies
import Derived.KernelRfl
namespace Go.Proofs.YtmpfgdmdnghhgaaGreat
/- THE CELL 'sum', in the pinned program and in every row, IS THE sha256 OF THE DUMP (.gsa) THAT YtmpfgdmdnghhgaaGreatProg.lean LOADS. Nothing in Lean hashes anything: it is a label: what it is worth is what the hold of that sum in a sandbox is worth. -/
noncomputable def Tryz.pinned : Pinned := { name := "ytmpfgdmdnghhgaagreat", sum := "e2399203a95e3bc848c92a23f4b3dd52fe0109147dcee7a5583e97137553f99a", checked := Tryz.checked }
namespace Rows
def none {H : Type} : Left H := { results := [], args := [] }

/-- 'wringkeep.Back': WHATEVER THE INPUT: true; the input reads as it did. -/
def backSpec : ChangeSpec := { name := "back", fn := fun _ => fun
  | [d1, d2, d3] => { results := [.lit (.bool true)], args := [d1, d2, d3] }
  | _ => none }
def backRow : OpenClaim := { program := "ytmpfgdmdnghhgaagreat", sum := "e2399203a95e3bc848c92a23f4b3dd52fe0109147dcee7a5583e97137553f99a", func := "wring/wringkeep.Back", spec := "back", apart := false }
def BackSaid : Prop := backRow.holds Tryz.pinned (OpenSpec.ofChange backSpec)

/-- ITS FALSE NEIGHBOUR: 'it returns false'. Refute it at one input. -/
def backWrong : ChangeSpec := { name := "back", fn := fun _ => fun
  | [d1, d2, d3] => { results := [.lit (.bool false)], args := [d1, d2, d3] }
  | _ => none }
def BackWrongFalsely : Prop := backRow.holds Tryz.pinned (OpenSpec.ofChange backWrong)

/-- 'wringkeep.Pieces': WHATEVER THE INPUT: true; the input reads as it did. -/
def piecesSpec : ChangeSpec := { name := "pieces", fn := fun _ => fun
  | [d1, d2, d3, d4, d5, d6, d7] => { results := [.lit (.bool true)], args := [d1, d2, d3, d4, d5, d6, d7] }
  | _ => none }
def piecesRow : OpenClaim := { program := "ytmpfgdmdnghhgaagreat", sum := "e2399203a95e3bc848c92a23f4b3dd52fe0109147dcee7a5583e97137553f99a", func := "wring/wringkeep.Pieces", spec := "pieces", apart := false }
def PiecesSaid : Prop := piecesRow.holds Tryz.pinned (OpenSpec.ofChange piecesSpec)

/-- ITS FALSE NEIGHBOUR: 'it returns false'. Refute it at one input. -/
def piecesWrong : ChangeSpec := { name := "pieces", fn := fun _ => fun
  | [d1, d2, d3, d4, d5, d6, d7] => { results := [.lit (.bool false)], args := [d1, d2, d3, d4, d5, d6, d7] }
  | _ => none }
def PiecesWrongFalsely : Prop := piecesRow.holds Tryz.pinned (OpenSpec.ofChange piecesWrong)

/-- 'wringkeep.Prefixes': WHATEVER THE INPUT: true; the input reads as it did. -/
def prefixesSpec : ChangeSpec := { name := "prefixes", fn := fun _ => fun
  | [d1, d2, d3, d4, d5] => { results := [.lit (.bool true)], args := [d1, d2, d3, d4, d5] }
  | _ => none }
def prefixesRow : OpenClaim := { program := "ytmpfgdmdnghhgaagreat", sum := "e2399203a95e3bc848c92a23f4b3dd52fe0109147dcee7a5583e97137553f99a", func := "wring/wringkeep.Prefixes", spec := "prefixes", apart := false }
def PrefixesSaid : Prop := prefixesRow.holds Tryz.pinned (OpenSpec.ofChange prefixesSpec)

/-- ITS FALSE NEIGHBOUR: 'it returns false'. Refute it at one input. -/
def prefixesWrong : ChangeSpec := { name := "prefixes", fn := fun _ => fun
  | [d1, d2, d3, d4, d5] => { results := [.lit (.bool false)], args := [d1, d2, d3, d4, d5] }
  | _ => none }
def PrefixesWrongFalsely : Prop := prefixesRow.holds Tryz.pinned (OpenSpec.ofChange prefixesWrong)

/-- 'wringkeep.Flushed': WHATEVER THE INPUT: true; the input reads as it did. -/
def flushedSpec : ChangeSpec := { name := "flushed", fn := fun _ => fun
  | [d1, d2, d3] => { results := [.lit (.bool true)], args := [d1, d2, d3] }
  | _ => none }
def flushedRow : OpenClaim := { program := "ytmpfgdmdnghhgaagreat", sum := "e2399203a95e3bc848c92a23f4b3dd52fe0109147dcee7a5583e97137553f99a", func := "wring/wringkeep.Flushed", spec := "flushed", apart := false }
def FlushedSaid : Prop := flushedRow.holds Tryz.pinned (OpenSpec.ofChange flushedSpec)

/-- ITS FALSE NEIGHBOUR: 'it returns false'. Refute it at one input. -/
def flushedWrong : ChangeSpec := { name := "flushed", fn := fun _ => fun
  | [d1, d2, d3] => { results := [.lit (.bool false)], args := [d1, d2, d3] }
  | _ => none }
def FlushedWrongFalsely : Prop := flushedRow.holds Tryz.pinned (OpenSpec.ofChange flushedWrong)

/-- 'wringkeep.Short': WHATEVER THE INPUT: true; the input reads as it did. -/
def shortSpec : ChangeSpec := { name := "short", fn := fun _ => fun
  | [d1, d2, d3] => { results := [.lit (.bool true)], args := [d1, d2, d3] }
  | _ => none }
def shortRow : OpenClaim := { program := "ytmpfgdmdnghhgaagreat", sum := "e2399203a95e3bc848c92a23f4b3dd52fe0109147dcee7a5583e97137553f99a", func := "wring/wringkeep.Short", spec := "short", apart := false }
def ShortSaid : Prop := shortRow.holds Tryz.pinned (OpenSpec.ofChange shortSpec)

/-- ITS FALSE NEIGHBOUR: 'it returns false'. Refute it at one input. -/
def shortWrong : ChangeSpec := { name := "short", fn := fun _ => fun
  | [d1, d2, d3] => { results := [.lit (.bool false)], args := [d1, d2, d3] }
  | _ => none }
def ShortWrongFalsely : Prop := shortRow.holds Tryz.pinned (OpenSpec.ofChange shortWrong)

/-- 'wringkeep.Shorter': WHATEVER THE INPUT: true; the input reads as it did. -/
def shorterSpec : ChangeSpec := { name := "shorter", fn := fun _ => fun
  | [d1, d2, d3, d4] => { results := [.lit (.bool true)], args := [d1, d2, d3, d4] }
  | _ => none }
def shorterRow : OpenClaim := { program := "ytmpfgdmdnghhgaagreat", sum := "e2399203a95e3bc848c92a23f4b3dd52fe0109147dcee7a5583e97137553f99a", func := "wring/wringkeep.Shorter", spec := "shorter", apart := false }
def ShorterSaid : Prop := shorterRow.holds Tryz.pinned (OpenSpec.ofChange shorterSpec)

/-- ITS FALSE NEIGHBOUR: 'it returns false'. Refute it at one input. -/
def shorterWrong : ChangeSpec := { name := "shorter", fn := fun _ => fun
  | [d1, d2, d3, d4] => { results := [.lit (.bool false)], args := [d1, d2, d3, d4] }
  | _ => none }
def ShorterWrongFalsely : Prop := shorterRow.holds Tryz.pinned (OpenSpec.ofChange shorterWrong)

/- THE SECOND FORM. 'bulk': how many values and letters a reading holds, each counted each time it is reached (what is shared counts as often as it is met; a slice's spare places count too). A statement '..UptoSaid' is the law's where the arguments, and the package variables that the reading takes, are together of bulk at most 1048576: NARROWER than '..Said'. Prove '..Said' where nothing that the law and all that it calls make is longer than what came in: it says more and counts as full. Else prove '..UptoSaid'. A law counts once. -/
mutual
def uptoBulk {H : Type} : DataW H → Nat
  | .lit (.string bytes) => bytes.length + 1
  | .lit _ => 1
  | .nil => 1
  | .ptr d => uptoBulk d + 1
  | .slice elems spare => uptoBulkAll elems + uptoBulkAll spare + 1
  | .agg parts => uptoBulkAll parts + 1
  | .iface _ d => uptoBulk d + 1
  | .map entries => uptoBulkEntries entries + 1
  | .held _ => 1
def uptoBulkAll {H : Type} : List (DataW H) → Nat
  | [] => 0
  | d :: r => uptoBulk d + uptoBulkAll r
def uptoBulkEntries {H : Type} : List (Lit × DataW H) → Nat
  | [] => 0
  | x :: r => uptoBulkEntry x + uptoBulkEntries r
def uptoBulkEntry {H : Type} : Lit × DataW H → Nat
  | (.string bytes, d) => bytes.length + uptoBulk d + 1
  | (_, d) => uptoBulk d + 1
 end
def uptoSmall : (H : Type) → List (DataW H) → Bool := fun _ ds => decide (uptoBulkAll ds ≤ 1048576)
def OpenSpec.upto (s : _root_.Go.ChangeSpec) : _root_.Go.OpenSpec := { _root_.Go.OpenSpec.ofChange s with cond := some uptoSmall }

/-- 'wringkeep.Back', WHERE WHAT IT READS IS OF BULK AT MOST 1048576: true; the input reads as it did. -/
def backUptoRow : OpenClaim := { program := "ytmpfgdmdnghhgaagreat", sum := "e2399203a95e3bc848c92a23f4b3dd52fe0109147dcee7a5583e97137553f99a", func := "wring/wringkeep.Back", spec := "back", apart := false, narrowed := true }
def BackUptoSaid : Prop := backUptoRow.holds Tryz.pinned (OpenSpec.upto backSpec)

/-- 'wringkeep.Pieces', WHERE WHAT IT READS IS OF BULK AT MOST 1048576: true; the input reads as it did. -/
def piecesUptoRow : OpenClaim := { program := "ytmpfgdmdnghhgaagreat", sum := "e2399203a95e3bc848c92a23f4b3dd52fe0109147dcee7a5583e97137553f99a", func := "wring/wringkeep.Pieces", spec := "pieces", apart := false, narrowed := true }
def PiecesUptoSaid : Prop := piecesUptoRow.holds Tryz.pinned (OpenSpec.upto piecesSpec)

/-- 'wringkeep.Prefixes', WHERE WHAT IT READS IS OF BULK AT MOST 1048576: true; the input reads as it did. -/
def prefixesUptoRow : OpenClaim := { program := "ytmpfgdmdnghhgaagreat", sum := "e2399203a95e3bc848c92a23f4b3dd52fe0109147dcee7a5583e97137553f99a", func := "wring/wringkeep.Prefixes", spec := "prefixes", apart := false, narrowed := true }
def PrefixesUptoSaid : Prop := prefixesUptoRow.holds Tryz.pinned (OpenSpec.upto prefixesSpec)

/-- 'wringkeep.Flushed', WHERE WHAT IT READS IS OF BULK AT MOST 1048576: true; the input reads as it did. -/
def flushedUptoRow : OpenClaim := { program := "ytmpfgdmdnghhgaagreat", sum := "e2399203a95e3bc848c92a23f4b3dd52fe0109147dcee7a5583e97137553f99a", func := "wring/wringkeep.Flushed", spec := "flushed", apart := false, narrowed := true }
def FlushedUptoSaid : Prop := flushedUptoRow.holds Tryz.pinned (OpenSpec.upto flushedSpec)

/-- 'wringkeep.Short', WHERE WHAT IT READS IS OF BULK AT MOST 1048576: true; the input reads as it did. -/
def shortUptoRow : OpenClaim := { program := "ytmpfgdmdnghhgaagreat", sum := "e2399203a95e3bc848c92a23f4b3dd52fe0109147dcee7a5583e97137553f99a", func := "wring/wringkeep.Short", spec := "short", apart := false, narrowed := true }
def ShortUptoSaid : Prop := shortUptoRow.holds Tryz.pinned (OpenSpec.upto shortSpec)

/-- 'wringkeep.Shorter', WHERE WHAT IT READS IS OF BULK AT MOST 1048576: true; the input reads as it did. -/
def shorterUptoRow : OpenClaim := { program := "ytmpfgdmdnghhgaagreat", sum := "e2399203a95e3bc848c92a23f4b3dd52fe0109147dcee7a5583e97137553f99a", func := "wring/wringkeep.Shorter", spec := "shorter", apart := false, narrowed := true }
def ShorterUptoSaid : Prop := shorterUptoRow.holds Tryz.pinned (OpenSpec.upto shorterSpec)

end Rows
end Go.Proofs.YtmpfgdmdnghhgaaGreat
