/- Contracts of span.In and burgageref7.In. -/
import Derived.Test.YtffjhimdamdenaaZ2
namespace Go.Proofs.Ytffjhimdamdenaa
open Go.RowKit

def inB (a n b m : Int) : Bool := meetE a n b m && (meetA a n b m == a && meetN a n b m == n)
theorem two (w : World) (t : TypeId) (a n b m : Int) : Bx ((w.alloc (.cells #[.int .i64 a, .int .i64 n] t)).alloc (.cells #[.int .i64 b, .int .i64 m] t)) w.heap.size t a n ∧
    Bx ((w.alloc (.cells #[.int .i64 a, .int .i64 n] t)).alloc (.cells #[.int .i64 b, .int .i64 m] t)) (w.heap.size + 1) t b m ∧
    Below w.heap.size w ((w.alloc (.cells #[.int .i64 a, .int .i64 n] t)).alloc (.cells #[.int .i64 b, .int .i64 m] t)) := by
  refine ⟨(Bx.new w t a n).alloc _, ?_, ((Below.refl w.heap.size w).alloc (Nat.le_refl _) _).alloc (by simp) _⟩
  have := Bx.new (w.alloc (.cells #[.int .i64 a, .int .i64 n] t)) t b m
  simpa using this

end Go.Proofs.Ytffjhimdamdenaa
