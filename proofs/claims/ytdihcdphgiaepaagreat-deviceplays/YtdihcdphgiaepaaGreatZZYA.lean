/- Joined texts. -/
import Derived.Test.YtdihcdphgiaepaaGreatZZ25
namespace Go.Proofs.YtdihcdphgiaepaaGreat
open Go.RowKit
theorem cut_min {α : Type} {f : α → Value} {w : World} {v : Value} {l : List α} (h : Row w v (l.map f)) (k : Nat) (kI : Int) (hk : kI = (k : Int)) : ∃ a len cap nb, ∃ lb : List α, v = .slice a len cap ∧ len = l.length ∧ len ≤ cap ∧ cap ≤ maxLen ∧ nb ≤ k ∧ nb ≤ len ∧ lb.length = nb ∧ (if kI < (len : Int) then kI else (len : Int)) = (nb : Int) ∧ Row w (.slice a nb cap) (lb.map f) := by
 obtain ⟨a, cap, rfl, h1, h2, -⟩ := id h;simp only [List.length_map] at h h1;refine ⟨a, l.length, cap, min k l.length, l.take (min k l.length), by simp, rfl, h1, h2, by omega, by omega, by simp, by split <;> omega, ?_⟩;have := h.take (min k l.length) (by omega);rw [List.map_take];exact this
end Go.Proofs.YtdihcdphgiaepaaGreat
