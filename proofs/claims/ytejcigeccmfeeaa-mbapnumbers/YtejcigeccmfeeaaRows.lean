/-
  No cell of these rows narrows 'for every input' (looked for: loops, veiled, ifaces, maps, wideKeys, modest, calm, conditions, laid).
  DERIVED. THE GIVEN ROWS OF THIS SEAT. 4 by the template 'for every input the law returns true; each argument reads behind the call as it read before'; 0 by the template 'total and deterministic' (their statements: YtejcigeccmfeeaaTotals.lean).
  GIVEN WITH THE SEED: the statements are not yours to turn. If you find one false, say at which input.
  Laid BY PROGRAM, IN A SANDBOX (cutbox-rows.mjs): the forced cells as the released guide's own fill.sh prints them over the translation e8a3714d0bc0c226… (all of the seat's roots in one cut). By AI agents, Wed Nov 11 2026. No macro, syntax, notation, axiom, sorry.
-/
import Derived.Test.YtejcigeccmfeeaaChecked
import GoSem.Claim
import GoSem.ClaimJoined
import GoSem.ClaimMapViews
import Derived.JoinedTies
import Derived.KernelRfl
namespace Go.Proofs.Ytejcigeccmfeeaa
/- THE CELL 'sum', in the pinned program and in every row, IS THE sha256 OF THE DUMP (.gsa) THAT YtejcigeccmfeeaaProg.lean LOADS. Nothing in Lean hashes anything: it is a label: what it is worth is what the hold of that sum in a sandbox is worth. -/
noncomputable def Try.pinned : Pinned := { name := "ytejcigeccmfeeaa", sum := "e8a3714d0bc0c226afa1bf26a9522ed00b8f19e3baaaa36fee445468564761ef", checked := Try.checked }
namespace Rows
def none {H : Type} : Left H := { results := [], args := [] }

/-- 'burgagelaw6.MbapNumbers': WHATEVER THE INPUT: true; the input reads as it did. -/
def mbapNumbersSpec : ChangeSpec := { name := "mbapNumbers", fn := fun _ => fun
  | [] => { results := [.lit (.bool true)], args := [] }
  | _ => none }
def mbapNumbersRow : OpenClaim := { program := "ytejcigeccmfeeaa", sum := "e8a3714d0bc0c226afa1bf26a9522ed00b8f19e3baaaa36fee445468564761ef", func := "burgage/burgagelaw6.MbapNumbers", spec := "mbapNumbers", apart := false }
def MbapNumbersSaid : Prop := mbapNumbersRow.holds Try.pinned (OpenSpec.ofChange mbapNumbersSpec)

/-- ITS FALSE NEIGHBOUR: 'it returns false'. Refute it at one input. -/
def mbapNumbersWrong : ChangeSpec := { name := "mbapNumbers", fn := fun _ => fun
  | [] => { results := [.lit (.bool false)], args := [] }
  | _ => none }
def MbapNumbersWrongFalsely : Prop := mbapNumbersRow.holds Try.pinned (OpenSpec.ofChange mbapNumbersWrong)

/-- 'burgagelaw6.MbapPlays': WHATEVER THE INPUT: true; the input reads as it did. -/
def mbapPlaysSpec : ChangeSpec := { name := "mbapPlays", fn := fun _ => fun
  | [d1, d2, d3, d4, d5, d6, d7] => { results := [.lit (.bool true)], args := [d1, d2, d3, d4, d5, d6, d7] }
  | _ => none }
def mbapPlaysRow : OpenClaim := { program := "ytejcigeccmfeeaa", sum := "e8a3714d0bc0c226afa1bf26a9522ed00b8f19e3baaaa36fee445468564761ef", func := "burgage/burgagelaw6.MbapPlays", spec := "mbapPlays", apart := false }
def MbapPlaysSaid : Prop := mbapPlaysRow.holds Try.pinned (OpenSpec.ofChange mbapPlaysSpec)

/-- ITS FALSE NEIGHBOUR: 'it returns false'. Refute it at one input. -/
def mbapPlaysWrong : ChangeSpec := { name := "mbapPlays", fn := fun _ => fun
  | [d1, d2, d3, d4, d5, d6, d7] => { results := [.lit (.bool false)], args := [d1, d2, d3, d4, d5, d6, d7] }
  | _ => none }
def MbapPlaysWrongFalsely : Prop := mbapPlaysRow.holds Try.pinned (OpenSpec.ofChange mbapPlaysWrong)

/-- 'burgagelaw6.MbapWhole': WHATEVER THE INPUT: true; the input reads as it did. -/
def mbapWholeSpec : ChangeSpec := { name := "mbapWhole", fn := fun _ => fun
  | [d1, d2] => { results := [.lit (.bool true)], args := [d1, d2] }
  | _ => none }
def mbapWholeRow : OpenClaim := { program := "ytejcigeccmfeeaa", sum := "e8a3714d0bc0c226afa1bf26a9522ed00b8f19e3baaaa36fee445468564761ef", func := "burgage/burgagelaw6.MbapWhole", spec := "mbapWhole", apart := false }
def MbapWholeSaid : Prop := mbapWholeRow.holds Try.pinned (OpenSpec.ofChange mbapWholeSpec)

/-- ITS FALSE NEIGHBOUR: 'it returns false'. Refute it at one input. -/
def mbapWholeWrong : ChangeSpec := { name := "mbapWhole", fn := fun _ => fun
  | [d1, d2] => { results := [.lit (.bool false)], args := [d1, d2] }
  | _ => none }
def MbapWholeWrongFalsely : Prop := mbapWholeRow.holds Try.pinned (OpenSpec.ofChange mbapWholeWrong)

/-- 'burgagelaw6.MbapShut': WHATEVER THE INPUT: true; the input reads as it did. -/
def mbapShutSpec : ChangeSpec := { name := "mbapShut", fn := fun _ => fun
  | [d1, d2] => { results := [.lit (.bool true)], args := [d1, d2] }
  | _ => none }
def mbapShutRow : OpenClaim := { program := "ytejcigeccmfeeaa", sum := "e8a3714d0bc0c226afa1bf26a9522ed00b8f19e3baaaa36fee445468564761ef", func := "burgage/burgagelaw6.MbapShut", spec := "mbapShut", apart := false }
def MbapShutSaid : Prop := mbapShutRow.holds Try.pinned (OpenSpec.ofChange mbapShutSpec)

/-- ITS FALSE NEIGHBOUR: 'it returns false'. Refute it at one input. -/
def mbapShutWrong : ChangeSpec := { name := "mbapShut", fn := fun _ => fun
  | [d1, d2] => { results := [.lit (.bool false)], args := [d1, d2] }
  | _ => none }
def MbapShutWrongFalsely : Prop := mbapShutRow.holds Try.pinned (OpenSpec.ofChange mbapShutWrong)

/- THE SECOND FORM. 'bulk': how many values and letters a reading holds, each counted each time it is reached (what is shared counts as often as it is met; a slice's spare places count too). A statement '..UptoSaid' is the law's where the arguments, and the package variables that the reading takes, are together of bulk at most 1048576: NARROWER than '..Said'. Prove '..Said' where nothing that the law and all that it calls make is longer than what came in: it says more and counts as full. Else prove '..UptoSaid'. A law counts once. -/
mutual
def uptoBulk {H : Type} : DataW H → Nat
  | .lit (.string bytes) => bytes.length + 1
  | .lit _ => 1
  | .nil => 1
  | .ptr d => uptoBulk d + 1
  | .slice elems spare => uptoBulkAll elems + uptoBulkAll spare + 1
  | .agg parts => uptoBulkAll parts + 1
  | .iface _ d => uptoBulk d + 1
  | .map entries => uptoBulkEntries entries + 1
  | .held _ => 1
def uptoBulkAll {H : Type} : List (DataW H) → Nat
  | [] => 0
  | d :: r => uptoBulk d + uptoBulkAll r
def uptoBulkEntries {H : Type} : List (Lit × DataW H) → Nat
  | [] => 0
  | x :: r => uptoBulkEntry x + uptoBulkEntries r
def uptoBulkEntry {H : Type} : Lit × DataW H → Nat
  | (.string bytes, d) => bytes.length + uptoBulk d + 1
  | (_, d) => uptoBulk d + 1
 end
def uptoSmall : (H : Type) → List (DataW H) → Bool := fun _ ds => decide (uptoBulkAll ds ≤ 1048576)
def OpenSpec.upto (s : _root_.Go.ChangeSpec) : _root_.Go.OpenSpec := { _root_.Go.OpenSpec.ofChange s with cond := some uptoSmall }

/-- 'burgagelaw6.MbapNumbers', WHERE WHAT IT READS IS OF BULK AT MOST 1048576: true; the input reads as it did. -/
def mbapNumbersUptoRow : OpenClaim := { program := "ytejcigeccmfeeaa", sum := "e8a3714d0bc0c226afa1bf26a9522ed00b8f19e3baaaa36fee445468564761ef", func := "burgage/burgagelaw6.MbapNumbers", spec := "mbapNumbers", apart := false, narrowed := true }
def MbapNumbersUptoSaid : Prop := mbapNumbersUptoRow.holds Try.pinned (OpenSpec.upto mbapNumbersSpec)

/-- 'burgagelaw6.MbapPlays', WHERE WHAT IT READS IS OF BULK AT MOST 1048576: true; the input reads as it did. -/
def mbapPlaysUptoRow : OpenClaim := { program := "ytejcigeccmfeeaa", sum := "e8a3714d0bc0c226afa1bf26a9522ed00b8f19e3baaaa36fee445468564761ef", func := "burgage/burgagelaw6.MbapPlays", spec := "mbapPlays", apart := false, narrowed := true }
def MbapPlaysUptoSaid : Prop := mbapPlaysUptoRow.holds Try.pinned (OpenSpec.upto mbapPlaysSpec)

/-- 'burgagelaw6.MbapWhole', WHERE WHAT IT READS IS OF BULK AT MOST 1048576: true; the input reads as it did. -/
def mbapWholeUptoRow : OpenClaim := { program := "ytejcigeccmfeeaa", sum := "e8a3714d0bc0c226afa1bf26a9522ed00b8f19e3baaaa36fee445468564761ef", func := "burgage/burgagelaw6.MbapWhole", spec := "mbapWhole", apart := false, narrowed := true }
def MbapWholeUptoSaid : Prop := mbapWholeUptoRow.holds Try.pinned (OpenSpec.upto mbapWholeSpec)

/-- 'burgagelaw6.MbapShut', WHERE WHAT IT READS IS OF BULK AT MOST 1048576: true; the input reads as it did. -/
def mbapShutUptoRow : OpenClaim := { program := "ytejcigeccmfeeaa", sum := "e8a3714d0bc0c226afa1bf26a9522ed00b8f19e3baaaa36fee445468564761ef", func := "burgage/burgagelaw6.MbapShut", spec := "mbapShut", apart := false, narrowed := true }
def MbapShutUptoSaid : Prop := mbapShutUptoRow.holds Try.pinned (OpenSpec.upto mbapShutSpec)

end Rows
end Go.Proofs.Ytejcigeccmfeeaa
