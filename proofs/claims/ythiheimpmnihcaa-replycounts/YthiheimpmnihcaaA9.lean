/- Contract of burgagelaw4.made. -/
import Derived.Test.YthiheimpmnihcaaA9a
import Derived.Test.YthiheimpmnihcaaA9b
import Derived.Test.YthiheimpmnihcaaA9c
import Derived.Test.YthiheimpmnihcaaA9d
namespace Go.Proofs.Ythiheimpmnihcaa
open Go.RowKit

theorem made_any (tv qv : Value) (x : List Int) (q : Rq) (w : World) (ht : Row w tv (x.map iV)) (bx : ∀ n ∈ x, -9223372036854775808 ≤ n ∧ n ≤ 9223372036854775807) (hq : IsRq w qv q) (hr : rightE q = 0) (hc : q.cnt ≤ 30) :
    Calls Try.prog 20 #[tv, qv] w fun e w' => ∃ v', e = .returned v' ∧ ∃ r, IsRp w' v' r ∧ r.fn = q.fn ∧ goodE r = 0 ∧ askB r q.cnt = true ∧ Below w.heap.size w w' ∧ FromQ w.heap.size qv v' := by
  rcases known_cases (right_parts hr).1 with e | e | e | e | e | e | e | e | e | e | e | e
  · exact made_1 tv qv x q w ht bx hq hr hc e
  · exact made_2 tv qv x q w ht bx hq hr hc e
  · exact made_3 tv qv x q w ht bx hq hr hc e
  · exact made_4 tv qv x q w ht bx hq hr hc e
  · exact made_5 tv qv x q w ht bx hq hr hc e
  · exact made_6 tv qv x q w ht bx hq hr hc e
  · exact made_8 tv qv x q w ht bx hq hr hc e
  · exact made_15 tv qv x q w ht bx hq hr hc e
  · exact made_16 tv qv x q w ht bx hq hr hc e
  · exact made_17 tv qv x q w ht bx hq hr hc e
  · exact made_22 tv qv x q w ht bx hq hr hc e
  · exact made_23 tv qv x q w ht bx hq hr hc e

end Go.Proofs.Ythiheimpmnihcaa
