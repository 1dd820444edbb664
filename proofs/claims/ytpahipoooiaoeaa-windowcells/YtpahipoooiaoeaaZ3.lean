/- Contracts of span.In and burgageref7.In. -/
import Derived.Test.YtpahipoooiaoeaaZ2
namespace Go.Proofs.Ytpahipoooiaoeaa
open Go.RowKit

def inB (a n b m : Int) : Bool := meetE a n b m && (meetA a n b m == a && meetN a n b m == n)
theorem two (w : World) (t : TypeId) (a n b m : Int) : Bx ((w.alloc (.cells #[.int .i64 a, .int .i64 n] t)).alloc (.cells #[.int .i64 b, .int .i64 m] t)) w.heap.size t a n ∧
    Bx ((w.alloc (.cells #[.int .i64 a, .int .i64 n] t)).alloc (.cells #[.int .i64 b, .int .i64 m] t)) (w.heap.size + 1) t b m ∧
    Below w.heap.size w ((w.alloc (.cells #[.int .i64 a, .int .i64 n] t)).alloc (.cells #[.int .i64 b, .int .i64 m] t)) := by
  refine ⟨(Bx.new w t a n).alloc _, ?_, ((Below.refl w.heap.size w).alloc (Nat.le_refl _) _).alloc (by simp) _⟩
  have := Bx.new (w.alloc (.cells #[.int .i64 a, .int .i64 n] t)) t b m
  simpa using this

set_option maxHeartbeats 1000000 in
theorem in_any (a n b m : Int) (w : World) (hn : i64 n) (hm : i64 m) :
    Calls Try.prog 43 #[spV a n, spV b m] w fun e w' => e = .returned (.bool (inB a n b m)) ∧ Below w.heap.size w w' := by
  have C1 := hidden (fun w => meet_any a n b m w hn hm)
  have T := hidden (two w 67 a n b m)
  unfold inB
  generalize meetA a n b m = ma at *
  generalize meetN a n b m = mn at *
  cases t1 : meetE a n b m
  · rw [t1] at C1
    simp only [Bool.false_and]
    go_enter Try.func43, Try.ntmps43
    go_wp2_with fail
    refine (C1.out _).mono ?_
    rintro e w1 ⟨rfl, B1⟩
    obtain ⟨-, -, B0⟩ := T.out
    replace B0 := below_then B0 B1
    go_wp2
    go_ret
    exact ⟨rfl, B0.alloc B0.size _⟩
  · rw [t1] at C1
    simp only [Bool.true_and]
    go_enter Try.func43, Try.ntmps43
    go_wp2_with fail
    refine (C1.out _).mono ?_
    rintro e w1 ⟨rfl, B1⟩
    obtain ⟨x1, -, B0⟩ := T.out
    replace x1 := x1.ext B1
    replace B0 := below_then B0 B1
    obtain ⟨c1, c2⟩ := x1.cells2
    have lt := x1.lt
    go_wp2
    all_goals go_ret
    all_goals refine ⟨ret_bool ?_, B0.alloc B0.size _⟩
    all_goals simp_all

set_option maxHeartbeats 1000000 in
theorem rin_any (a n b m : Int) (w : World) (hn : i64 n) (hm : i64 m) :
    Calls Try.prog 35 #[spV a n, spV b m] w fun e w' => e = .returned (.bool (inB a n b m)) ∧ Below w.heap.size w w' := by
  have C1 := hidden (fun w => rmeet_any a n b m w hn hm)
  have T := hidden (two w 78 a n b m)
  unfold inB
  generalize meetA a n b m = ma at *
  generalize meetN a n b m = mn at *
  cases t1 : meetE a n b m
  · rw [t1] at C1
    simp only [Bool.false_and]
    go_enter Try.func35, Try.ntmps35
    go_wp2_with fail
    refine (C1.out _).mono ?_
    rintro e w1 ⟨rfl, B1⟩
    obtain ⟨-, -, B0⟩ := T.out
    replace B0 := below_then B0 B1
    go_wp2
    go_ret
    exact ⟨rfl, B0.alloc B0.size _⟩
  · rw [t1] at C1
    simp only [Bool.true_and]
    go_enter Try.func35, Try.ntmps35
    go_wp2_with fail
    refine (C1.out _).mono ?_
    rintro e w1 ⟨rfl, B1⟩
    obtain ⟨x1, -, B0⟩ := T.out
    replace x1 := x1.ext B1
    replace B0 := below_then B0 B1
    obtain ⟨c1, c2⟩ := x1.cells2
    have lt := x1.lt
    go_wp2
    all_goals go_ret
    all_goals refine ⟨ret_bool ?_, B0.alloc B0.size _⟩
    all_goals simp_all

end Go.Proofs.Ytpahipoooiaoeaa
