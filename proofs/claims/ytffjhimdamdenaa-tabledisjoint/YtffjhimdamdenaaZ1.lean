/- Spans: mathematics; contracts of the small functions of span and burgageref7. -/
import Derived.Test.YtffjhimdamdenaaG1
import Derived.Test.YtffjhimdamdenaaK5
namespace Go.Proofs.Ytffjhimdamdenaa
open Go.RowKit

abbrev spV (a n : Int) : Value := .agg #[.int .i64 a, .int .i64 n]
def i64 (n : Int) : Prop := -9223372036854775808 ≤ n ∧ n ≤ 9223372036854775807
def okR (a n m : Int) : Bool := decide (0 ≤ a ∧ 1 ≤ n ∧ a ≤ m ∧ n ≤ m - a)
def tk (a n : Int) : Bool := okR a n 2147483648
theorem tk_iff {a n : Int} : tk a n = true ↔ 0 ≤ a ∧ 1 ≤ n ∧ a + n ≤ 2147483648 := by simp [tk, okR]; omega
theorem okR_f {a n m : Int} (h : ¬ (0 ≤ a ∧ 1 ≤ n ∧ a ≤ m ∧ n ≤ m - a)) : okR a n m = false := by simp only [okR, decide_eq_false_iff_not]; exact h
theorem okR_t {a n m : Int} (h : 0 ≤ a ∧ 1 ≤ n ∧ a ≤ m ∧ n ≤ m - a) : okR a n m = true := by simp only [okR, decide_eq_true_eq]; exact h

theorem right_any (a n m : Int) (w : World) (hn : i64 n) (hm : i64 m) :
    Calls Try.prog 44 #[spV a n, .int .i64 m] w fun e w' => e = .returned (.bool (okR a n m)) ∧ Below w.heap.size w w' := by
  unfold i64 at hn hm
  have W0 := hidden (fun o => (Below.refl w.heap.size w).alloc (Nat.le_refl _) o)
  by_cases h1 : 0 ≤ a
  · by_cases h2 : 1 ≤ n
    · by_cases h3 : a ≤ m
      · by_cases h4 : n ≤ m - a
        · rw [okR_t ⟨h1, h2, h3, h4⟩]
          go_enter Try.func44, Try.ntmps44
          go_wp2
          go_ret
          exact ⟨rfl, W0.out _⟩
        · rw [okR_f (by omega)]
          go_enter Try.func44, Try.ntmps44
          go_wp2
          go_ret
          exact ⟨rfl, W0.out _⟩
      · rw [okR_f (by omega)]
        go_enter Try.func44, Try.ntmps44
        go_wp2
        go_ret
        exact ⟨rfl, W0.out _⟩
    · rw [okR_f (by omega)]
      go_enter Try.func44, Try.ntmps44
      go_wp2
      go_ret
      exact ⟨rfl, W0.out _⟩
  · rw [okR_f (by omega)]
    go_enter Try.func44, Try.ntmps44
    go_wp2
    go_ret
    exact ⟨rfl, W0.out _⟩

theorem rright_any (a n m : Int) (w : World) (hn : i64 n) (hm : i64 m) :
    Calls Try.prog 56 #[spV a n, .int .i64 m] w fun e w' => e = .returned (.bool (okR a n m)) ∧ Below w.heap.size w w' := by
  unfold i64 at hn hm
  have W0 := hidden (fun o => (Below.refl w.heap.size w).alloc (Nat.le_refl _) o)
  by_cases h1 : 0 ≤ a
  · by_cases h2 : 1 ≤ n
    · by_cases h3 : a ≤ m
      · by_cases h4 : n ≤ m - a
        · rw [okR_t ⟨h1, h2, h3, h4⟩]
          go_enter Try.func56, Try.ntmps56
          go_wp2
          go_ret
          exact ⟨rfl, W0.out _⟩
        · rw [okR_f (by omega)]
          go_enter Try.func56, Try.ntmps56
          go_wp2
          go_ret
          exact ⟨rfl, W0.out _⟩
      · rw [okR_f (by omega)]
        go_enter Try.func56, Try.ntmps56
        go_wp2
        go_ret
        exact ⟨rfl, W0.out _⟩
    · rw [okR_f (by omega)]
      go_enter Try.func56, Try.ntmps56
      go_wp2
      go_ret
      exact ⟨rfl, W0.out _⟩
  · rw [okR_f (by omega)]
    go_enter Try.func56, Try.ntmps56
    go_wp2
    go_ret
    exact ⟨rfl, W0.out _⟩

theorem taken_any (a n : Int) (w : World) (hn : i64 n) :
    Calls Try.prog 54 #[spV a n] w fun e w' => e = .returned (.bool (tk a n)) ∧ Below w.heap.size w w' := by
  have W0 := hidden (fun o => (Below.refl w.heap.size w).alloc (Nat.le_refl _) o)
  have C := hidden (fun w => right_any a n 2147483648 w hn (by unfold i64; omega))
  go_enter Try.func54, Try.ntmps54
  go_wp2_with fail
  refine (C.out _).mono ?_
  rintro e w1 ⟨rfl, B1⟩
  replace B1 := below_then (W0.out _) B1
  go_wp2
  go_ret
  exact ⟨rfl, B1⟩

theorem end_any (a n : Int) (w : World) (h : i64 (a + n)) :
    Calls Try.prog 55 #[spV a n] w fun e w' => e = .returned (.int .i64 (a + n)) ∧ Below w.heap.size w w' := by
  unfold i64 at h
  have W0 := hidden (fun o => (Below.refl w.heap.size w).alloc (Nat.le_refl _) o)
  go_enter Try.func55, Try.ntmps55
  go_wp2
  go_ret
  exact ⟨rfl, W0.out _⟩

end Go.Proofs.Ytffjhimdamdenaa
