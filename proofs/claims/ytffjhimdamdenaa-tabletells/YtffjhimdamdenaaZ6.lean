/- Contract of span.piece. -/
import Derived.Test.YtffjhimdamdenaaZ5
namespace Go.Proofs.Ytffjhimdamdenaa
open Go.RowKit

def pieceV (l : SL) (a n : Int) : Value := match fnd l a with
  | none => .tuple #[spV 0 0, .bool false]
  | some x => .tuple #[spV a (pcN x a n), .bool true]

theorem tk_i64 {a n : Int} (h : tk a n = true) : i64 a ∧ i64 n := by
  obtain ⟨h1, h2, h3⟩ := tk_iff.1 h
  unfold i64; omega

end Go.Proofs.Ytffjhimdamdenaa
