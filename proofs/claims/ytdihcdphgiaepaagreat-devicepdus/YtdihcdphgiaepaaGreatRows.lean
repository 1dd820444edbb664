/-
  No cell of these rows narrows 'for every input' (looked for: loops, veiled, ifaces, maps, wideKeys, modest, calm, conditions, laid).
  DERIVED. THE GIVEN ROWS OF THIS SEAT. 3 by the template 'for every input the law returns true; each argument reads behind the call as it read before'; 0 by the template 'total and deterministic' (their statements: YtdihcdphgiaepaaGreatTotals.lean).
  GIVEN WITH THE SEED: the statements are not yours to turn. If you find one false, say at which input.
  Laid BY PROGRAM, IN A SANDBOX (cutbox-rows.mjs): the forced cells as the released guide's own fill.sh prints them over the translation ecf623690aae055e… (all of the seat's roots in one cut). By AI agents, Wed Nov 11 2026. No macro, syntax, notation, axiom, sorry.
-/
import Derived.Test.YtdihcdphgiaepaaGreatChecked
import GoSem.Claim
import GoSem.ClaimJoined
import GoSem.ClaimMapViews
import Derived.JoinedTies
import Derived.KernelRfl
namespace Go.Proofs.YtdihcdphgiaepaaGreat
/- THE CELL 'sum', in the pinned program and in every row, IS THE sha256 OF THE DUMP (.gsa) THAT YtdihcdphgiaepaaGreatProg.lean LOADS. Nothing in Lean hashes anything: it is a label: what it is worth is what the hold of that sum in a sandbox is worth. -/
noncomputable def Tryz.pinned : Pinned := { name := "ytdihcdphgiaepaagreat", sum := "ecf623690aae055ea33645698b11ab1663d58afd1de24d2ec98b2895a895de4b", checked := Tryz.checked }
namespace Rows
def none {H : Type} : Left H := { results := [], args := [] }

/-- 'burgagelaw9.DeviceNumbers': WHATEVER THE INPUT: true; the input reads as it did. -/
def deviceNumbersSpec : ChangeSpec := { name := "deviceNumbers", fn := fun _ => fun
  | [] => { results := [.lit (.bool true)], args := [] }
  | _ => none }
def deviceNumbersRow : OpenClaim := { program := "ytdihcdphgiaepaagreat", sum := "ecf623690aae055ea33645698b11ab1663d58afd1de24d2ec98b2895a895de4b", func := "burgage/burgagelaw9.DeviceNumbers", spec := "deviceNumbers", unfollowed := true, recurses := true, apart := false }
def DeviceNumbersSaid : Prop := deviceNumbersRow.holds Tryz.pinned (OpenSpec.ofChange deviceNumbersSpec)

/-- ITS FALSE NEIGHBOUR: 'it returns false'. Refute it at one input. -/
def deviceNumbersWrong : ChangeSpec := { name := "deviceNumbers", fn := fun _ => fun
  | [] => { results := [.lit (.bool false)], args := [] }
  | _ => none }
def DeviceNumbersWrongFalsely : Prop := deviceNumbersRow.holds Tryz.pinned (OpenSpec.ofChange deviceNumbersWrong)

/-- 'burgagelaw9.DevicePlays': WHATEVER THE INPUT: true; the input reads as it did. -/
def devicePlaysSpec : ChangeSpec := { name := "devicePlays", fn := fun _ => fun
  | [d1, d2, d3, d4] => { results := [.lit (.bool true)], args := [d1, d2, d3, d4] }
  | _ => none }
def devicePlaysRow : OpenClaim := { program := "ytdihcdphgiaepaagreat", sum := "ecf623690aae055ea33645698b11ab1663d58afd1de24d2ec98b2895a895de4b", func := "burgage/burgagelaw9.DevicePlays", spec := "devicePlays", unfollowed := true, recurses := true, apart := false }
def DevicePlaysSaid : Prop := devicePlaysRow.holds Tryz.pinned (OpenSpec.ofChange devicePlaysSpec)

/-- ITS FALSE NEIGHBOUR: 'it returns false'. Refute it at one input. -/
def devicePlaysWrong : ChangeSpec := { name := "devicePlays", fn := fun _ => fun
  | [d1, d2, d3, d4] => { results := [.lit (.bool false)], args := [d1, d2, d3, d4] }
  | _ => none }
def DevicePlaysWrongFalsely : Prop := devicePlaysRow.holds Tryz.pinned (OpenSpec.ofChange devicePlaysWrong)

/-- 'burgagelaw9.DevicePdus': WHATEVER THE INPUT: true; the input reads as it did. -/
def devicePdusSpec : ChangeSpec := { name := "devicePdus", fn := fun _ => fun
  | [d1, d2] => { results := [.lit (.bool true)], args := [d1, d2] }
  | _ => none }
def devicePdusRow : OpenClaim := { program := "ytdihcdphgiaepaagreat", sum := "ecf623690aae055ea33645698b11ab1663d58afd1de24d2ec98b2895a895de4b", func := "burgage/burgagelaw9.DevicePdus", spec := "devicePdus", unfollowed := true, recurses := true, apart := false }
def DevicePdusSaid : Prop := devicePdusRow.holds Tryz.pinned (OpenSpec.ofChange devicePdusSpec)

/-- ITS FALSE NEIGHBOUR: 'it returns false'. Refute it at one input. -/
def devicePdusWrong : ChangeSpec := { name := "devicePdus", fn := fun _ => fun
  | [d1, d2] => { results := [.lit (.bool false)], args := [d1, d2] }
  | _ => none }
def DevicePdusWrongFalsely : Prop := devicePdusRow.holds Tryz.pinned (OpenSpec.ofChange devicePdusWrong)

/- THE SECOND FORM. 'bulk': how many values and letters a reading holds, each counted each time it is reached (what is shared counts as often as it is met; a slice's spare places count too). A statement '..UptoSaid' is the law's where the arguments, and the package variables that the reading takes, are together of bulk at most 1048576: NARROWER than '..Said'. Prove '..Said' where nothing that the law and all that it calls make is longer than what came in: it says more and counts as full. Else prove '..UptoSaid'. A law counts once. -/
mutual
def uptoBulk {H : Type} : DataW H → Nat
  | .lit (.string bytes) => bytes.length + 1
  | .lit _ => 1
  | .nil => 1
  | .ptr d => uptoBulk d + 1
  | .slice elems spare => uptoBulkAll elems + uptoBulkAll spare + 1
  | .agg parts => uptoBulkAll parts + 1
  | .iface _ d => uptoBulk d + 1
  | .map entries => uptoBulkEntries entries + 1
  | .held _ => 1
def uptoBulkAll {H : Type} : List (DataW H) → Nat
  | [] => 0
  | d :: r => uptoBulk d + uptoBulkAll r
def uptoBulkEntries {H : Type} : List (Lit × DataW H) → Nat
  | [] => 0
  | x :: r => uptoBulkEntry x + uptoBulkEntries r
def uptoBulkEntry {H : Type} : Lit × DataW H → Nat
  | (.string bytes, d) => bytes.length + uptoBulk d + 1
  | (_, d) => uptoBulk d + 1
 end
def uptoSmall : (H : Type) → List (DataW H) → Bool := fun _ ds => decide (uptoBulkAll ds ≤ 1048576)
def OpenSpec.upto (s : _root_.Go.ChangeSpec) : _root_.Go.OpenSpec := { _root_.Go.OpenSpec.ofChange s with cond := some uptoSmall }

/-- 'burgagelaw9.DeviceNumbers', WHERE WHAT IT READS IS OF BULK AT MOST 1048576: true; the input reads as it did. -/
def deviceNumbersUptoRow : OpenClaim := { program := "ytdihcdphgiaepaagreat", sum := "ecf623690aae055ea33645698b11ab1663d58afd1de24d2ec98b2895a895de4b", func := "burgage/burgagelaw9.DeviceNumbers", spec := "deviceNumbers", unfollowed := true, recurses := true, apart := false, narrowed := true }
def DeviceNumbersUptoSaid : Prop := deviceNumbersUptoRow.holds Tryz.pinned (OpenSpec.upto deviceNumbersSpec)

/-- 'burgagelaw9.DevicePlays', WHERE WHAT IT READS IS OF BULK AT MOST 1048576: true; the input reads as it did. -/
def devicePlaysUptoRow : OpenClaim := { program := "ytdihcdphgiaepaagreat", sum := "ecf623690aae055ea33645698b11ab1663d58afd1de24d2ec98b2895a895de4b", func := "burgage/burgagelaw9.DevicePlays", spec := "devicePlays", unfollowed := true, recurses := true, apart := false, narrowed := true }
def DevicePlaysUptoSaid : Prop := devicePlaysUptoRow.holds Tryz.pinned (OpenSpec.upto devicePlaysSpec)

/-- 'burgagelaw9.DevicePdus', WHERE WHAT IT READS IS OF BULK AT MOST 1048576: true; the input reads as it did. -/
def devicePdusUptoRow : OpenClaim := { program := "ytdihcdphgiaepaagreat", sum := "ecf623690aae055ea33645698b11ab1663d58afd1de24d2ec98b2895a895de4b", func := "burgage/burgagelaw9.DevicePdus", spec := "devicePdus", unfollowed := true, recurses := true, apart := false, narrowed := true }
def DevicePdusUptoSaid : Prop := devicePdusUptoRow.holds Tryz.pinned (OpenSpec.upto devicePdusSpec)

end Rows
end Go.Proofs.YtdihcdphgiaepaaGreat
