/-
  No cell of these rows narrows 'for every input' (looked for: loops, veiled, ifaces, maps, wideKeys, modest, calm, conditions, laid).
  DERIVED. THE GIVEN ROWS OF THIS SEAT. 4 by the template 'for every input the law returns true; each argument reads behind the call as it read before'; 0 by the template 'total and deterministic' (their statements: YtaoimlcgifihiaaTotals.lean).
  GIVEN WITH THE SEED: the statements are not yours to turn. If you find one false, say at which input.
  Laid BY PROGRAM, IN A SANDBOX (cutbox-rows.mjs): the forced cells as the released guide's own fill.sh prints them over the translation 31f1b5f44bc92872… (all of the seat's roots in one cut). By AI agents, Wed Nov 11 2026. No macro, syntax, notation, axiom, sorry.
-/
import Derived.Test.YtaoimlcgifihiaaChecked
import GoSem.Claim
import GoSem.ClaimJoined
import GoSem.ClaimMapViews
import Derived.JoinedTies
import Derived.KernelRfl
namespace Go.Proofs.Ytaoimlcgifihiaa
/- THE CELL 'sum', in the pinned program and in every row, IS THE sha256 OF THE DUMP (.gsa) THAT YtaoimlcgifihiaaProg.lean LOADS. Nothing in Lean hashes anything: it is a label: what it is worth is what the hold of that sum in a sandbox is worth. -/
noncomputable def Try.pinned : Pinned := { name := "ytaoimlcgifihiaa", sum := "31f1b5f44bc92872823ce272172434f03f466e920669187832e387c0708a0b2b", checked := Try.checked }
namespace Rows
def none {H : Type} : Left H := { results := [], args := [] }

/-- 'burgagelaw3.PduNumbers': WHATEVER THE INPUT: true; the input reads as it did. -/
def pduNumbersSpec : ChangeSpec := { name := "pduNumbers", fn := fun _ => fun
  | [] => { results := [.lit (.bool true)], args := [] }
  | _ => none }
def pduNumbersRow : OpenClaim := { program := "ytaoimlcgifihiaa", sum := "31f1b5f44bc92872823ce272172434f03f466e920669187832e387c0708a0b2b", func := "burgage/burgagelaw3.PduNumbers", spec := "pduNumbers", apart := false }
def PduNumbersSaid : Prop := pduNumbersRow.holds Try.pinned (OpenSpec.ofChange pduNumbersSpec)

/-- ITS FALSE NEIGHBOUR: 'it returns false'. Refute it at one input. -/
def pduNumbersWrong : ChangeSpec := { name := "pduNumbers", fn := fun _ => fun
  | [] => { results := [.lit (.bool false)], args := [] }
  | _ => none }
def PduNumbersWrongFalsely : Prop := pduNumbersRow.holds Try.pinned (OpenSpec.ofChange pduNumbersWrong)

/-- 'burgagelaw3.PduTells': WHATEVER THE INPUT: true; the input reads as it did. -/
def pduTellsSpec : ChangeSpec := { name := "pduTells", fn := fun _ => fun
  | [d1, d2, d3, d4, d5, d6, d7] => { results := [.lit (.bool true)], args := [d1, d2, d3, d4, d5, d6, d7] }
  | _ => none }
def pduTellsRow : OpenClaim := { program := "ytaoimlcgifihiaa", sum := "31f1b5f44bc92872823ce272172434f03f466e920669187832e387c0708a0b2b", func := "burgage/burgagelaw3.PduTells", spec := "pduTells", apart := false }
def PduTellsSaid : Prop := pduTellsRow.holds Try.pinned (OpenSpec.ofChange pduTellsSpec)

/-- ITS FALSE NEIGHBOUR: 'it returns false'. Refute it at one input. -/
def pduTellsWrong : ChangeSpec := { name := "pduTells", fn := fun _ => fun
  | [d1, d2, d3, d4, d5, d6, d7] => { results := [.lit (.bool false)], args := [d1, d2, d3, d4, d5, d6, d7] }
  | _ => none }
def PduTellsWrongFalsely : Prop := pduTellsRow.holds Try.pinned (OpenSpec.ofChange pduTellsWrong)

/-- 'burgagelaw4.ReplyNumbers': WHATEVER THE INPUT: true; the input reads as it did. -/
def replyNumbersSpec : ChangeSpec := { name := "replyNumbers", fn := fun _ => fun
  | [] => { results := [.lit (.bool true)], args := [] }
  | _ => none }
def replyNumbersRow : OpenClaim := { program := "ytaoimlcgifihiaa", sum := "31f1b5f44bc92872823ce272172434f03f466e920669187832e387c0708a0b2b", func := "burgage/burgagelaw4.ReplyNumbers", spec := "replyNumbers", apart := false }
def ReplyNumbersSaid : Prop := replyNumbersRow.holds Try.pinned (OpenSpec.ofChange replyNumbersSpec)

/-- ITS FALSE NEIGHBOUR: 'it returns false'. Refute it at one input. -/
def replyNumbersWrong : ChangeSpec := { name := "replyNumbers", fn := fun _ => fun
  | [] => { results := [.lit (.bool false)], args := [] }
  | _ => none }
def ReplyNumbersWrongFalsely : Prop := replyNumbersRow.holds Try.pinned (OpenSpec.ofChange replyNumbersWrong)

/-- 'burgagelaw4.ReplyTells': WHATEVER THE INPUT: true; the input reads as it did. -/
def replyTellsSpec : ChangeSpec := { name := "replyTells", fn := fun _ => fun
  | [d1, d2, d3, d4, d5, d6, d7, d8] => { results := [.lit (.bool true)], args := [d1, d2, d3, d4, d5, d6, d7, d8] }
  | _ => none }
def replyTellsRow : OpenClaim := { program := "ytaoimlcgifihiaa", sum := "31f1b5f44bc92872823ce272172434f03f466e920669187832e387c0708a0b2b", func := "burgage/burgagelaw4.ReplyTells", spec := "replyTells", apart := false }
def ReplyTellsSaid : Prop := replyTellsRow.holds Try.pinned (OpenSpec.ofChange replyTellsSpec)

/-- ITS FALSE NEIGHBOUR: 'it returns false'. Refute it at one input. -/
def replyTellsWrong : ChangeSpec := { name := "replyTells", fn := fun _ => fun
  | [d1, d2, d3, d4, d5, d6, d7, d8] => { results := [.lit (.bool false)], args := [d1, d2, d3, d4, d5, d6, d7, d8] }
  | _ => none }
def ReplyTellsWrongFalsely : Prop := replyTellsRow.holds Try.pinned (OpenSpec.ofChange replyTellsWrong)

/- THE SECOND FORM. 'bulk': how many values and letters a reading holds, each counted each time it is reached (what is shared counts as often as it is met; a slice's spare places count too). A statement '..UptoSaid' is the law's where the arguments, and the package variables that the reading takes, are together of bulk at most 1048576: NARROWER than '..Said'. Prove '..Said' where nothing that the law and all that it calls make is longer than what came in: it says more and counts as full. Else prove '..UptoSaid'. A law counts once. -/
mutual
def uptoBulk {H : Type} : DataW H → Nat
  | .lit (.string bytes) => bytes.length + 1
  | .lit _ => 1
  | .nil => 1
  | .ptr d => uptoBulk d + 1
  | .slice elems spare => uptoBulkAll elems + uptoBulkAll spare + 1
  | .agg parts => uptoBulkAll parts + 1
  | .iface _ d => uptoBulk d + 1
  | .map entries => uptoBulkEntries entries + 1
  | .held _ => 1
def uptoBulkAll {H : Type} : List (DataW H) → Nat
  | [] => 0
  | d :: r => uptoBulk d + uptoBulkAll r
def uptoBulkEntries {H : Type} : List (Lit × DataW H) → Nat
  | [] => 0
  | x :: r => uptoBulkEntry x + uptoBulkEntries r
def uptoBulkEntry {H : Type} : Lit × DataW H → Nat
  | (.string bytes, d) => bytes.length + uptoBulk d + 1
  | (_, d) => uptoBulk d + 1
 end
def uptoSmall : (H : Type) → List (DataW H) → Bool := fun _ ds => decide (uptoBulkAll ds ≤ 1048576)
def OpenSpec.upto (s : _root_.Go.ChangeSpec) : _root_.Go.OpenSpec := { _root_.Go.OpenSpec.ofChange s with cond := some uptoSmall }

/-- 'burgagelaw3.PduNumbers', WHERE WHAT IT READS IS OF BULK AT MOST 1048576: true; the input reads as it did. -/
def pduNumbersUptoRow : OpenClaim := { program := "ytaoimlcgifihiaa", sum := "31f1b5f44bc92872823ce272172434f03f466e920669187832e387c0708a0b2b", func := "burgage/burgagelaw3.PduNumbers", spec := "pduNumbers", apart := false, narrowed := true }
def PduNumbersUptoSaid : Prop := pduNumbersUptoRow.holds Try.pinned (OpenSpec.upto pduNumbersSpec)

/-- 'burgagelaw3.PduTells', WHERE WHAT IT READS IS OF BULK AT MOST 1048576: true; the input reads as it did. -/
def pduTellsUptoRow : OpenClaim := { program := "ytaoimlcgifihiaa", sum := "31f1b5f44bc92872823ce272172434f03f466e920669187832e387c0708a0b2b", func := "burgage/burgagelaw3.PduTells", spec := "pduTells", apart := false, narrowed := true }
def PduTellsUptoSaid : Prop := pduTellsUptoRow.holds Try.pinned (OpenSpec.upto pduTellsSpec)

/-- 'burgagelaw4.ReplyNumbers', WHERE WHAT IT READS IS OF BULK AT MOST 1048576: true; the input reads as it did. -/
def replyNumbersUptoRow : OpenClaim := { program := "ytaoimlcgifihiaa", sum := "31f1b5f44bc92872823ce272172434f03f466e920669187832e387c0708a0b2b", func := "burgage/burgagelaw4.ReplyNumbers", spec := "replyNumbers", apart := false, narrowed := true }
def ReplyNumbersUptoSaid : Prop := replyNumbersUptoRow.holds Try.pinned (OpenSpec.upto replyNumbersSpec)

/-- 'burgagelaw4.ReplyTells', WHERE WHAT IT READS IS OF BULK AT MOST 1048576: true; the input reads as it did. -/
def replyTellsUptoRow : OpenClaim := { program := "ytaoimlcgifihiaa", sum := "31f1b5f44bc92872823ce272172434f03f466e920669187832e387c0708a0b2b", func := "burgage/burgagelaw4.ReplyTells", spec := "replyTells", apart := false, narrowed := true }
def ReplyTellsUptoSaid : Prop := replyTellsUptoRow.holds Try.pinned (OpenSpec.upto replyTellsSpec)

end Rows
end Go.Proofs.Ytaoimlcgifihiaa
