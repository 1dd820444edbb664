/- burgageref3.Take: which reply the document's own answer takes bytes for. -/
import Derived.Test.YtbajlhpmmmhkoaaJ38
import Derived.Test.YtbajlhpmmmhkoaaJ39
namespace Go.Proofs.Ytbajlhpmmmhkoaa
open Go.RowKit
theorem take_ref (v u : Value) (bs : List UInt8) (q : Rq) (w : World) (hv : Row w v (bs.map bV)) (hq : IsRq w u q) (hcn : -9223372036854775808 ≤ q.cnt ∧ q.cnt ≤ 9223372036854775807) (hfn : -9223372036854775808 ≤ q.fn ∧ q.fn ≤ 9223372036854775807) (hbl : bs.length ≤ 140737488351232) (hcl : q.cnt ≤ 140737488355327 ∨ 8 * (bs.length : Int) < q.cnt) :
  Calls Try.prog 26 #[v, u] w fun e w' => ∃ v', e = .returned (.tuple #[v', .int .i64 (takeE bs q.fn q.cnt)]) ∧ IsRp w' v' (takeR bs q.fn q.cnt) ∧ Below w.heap.size w w' := by
 by_cases h : fnOf bs = 1 ∨ fnOf bs = 2 ∨ fnOf bs = 3 ∨ fnOf bs = 4 ∨ fnOf bs = 23 ∨ fnOf bs = 15 ∨ fnOf bs = 16
 ·
  exact take_ref_1 v u bs q w hv hq hcn hfn hbl hcl h
 ·
  exact take_ref_2 v u bs q w hv hq hcn hfn hbl hcl h
end Go.Proofs.Ytbajlhpmmmhkoaa
