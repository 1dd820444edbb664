/- Contracts of pdu's small functions. -/
import Derived.Test.YtdihcdphgiaepaaS0
import Derived.Test.YtdihcdphgiaepaaEQ
namespace Go.Proofs.Ytdihcdphgiaepaa
open Go.RowKit

abbrev rqV (f a c p s : Int) (vb vv : Value) (m o : UInt16) : Value := .agg #[.int .i64 f, .int .i64 a, .int .i64 c, .int .i64 p, .int .i64 s, vb, vv, wV m, wV o]
/-- v is the request q -/
def IsRq (w : World) (v : Value) (q : Rq) : Prop := ∃ vb vv, v = rqV q.fn q.loc q.cnt q.wat q.sub vb vv q.land q.lor ∧ Row w vb (q.bits.map Value.bool) ∧ Row w vv (q.vals.map wV)
theorem IsRq.below {w w' : World} {v : Value} {q : Rq} (h : IsRq w v q) (hb : Below w.heap.size w w') : IsRq w' v q := by
  obtain ⟨vb, vv, rfl, h1, h2⟩ := h
  exact ⟨vb, vv, rfl, h1.below hb, h2.below hb⟩

theorem number_pdu (n : Int) (w : World) : Calls Try.prog 26 #[.int .i64 n] w fun e w' => e = .returned (.bool (numB n)) ∧ w = w' := by
  by_cases h1 : 0 ≤ n
  · by_cases h2 : n ≤ 65535
    · have hb : numB n = true := by simp [numB]; omega
      rw [hb]
      go_enter Try.func26, Try.ntmps26
      go_wp2
      go_ret
      exact ⟨rfl, rfl⟩
    · have hb : numB n = false := by simp [numB]; omega
      rw [hb]
      go_enter Try.func26, Try.ntmps26
      go_wp2
      go_ret
      exact ⟨rfl, rfl⟩
  · have hb : numB n = false := by simp [numB]; omega
    rw [hb]
    go_enter Try.func26, Try.ntmps26
    go_wp2
    go_ret
    exact ⟨rfl, rfl⟩

theorem within_pdu (n k : Int) (w : World) : Calls Try.prog 29 #[.int .i64 n, .int .i64 k] w fun e w' => e = .returned (.bool (decide (1 ≤ n ∧ n ≤ k))) ∧ w = w' := by
  by_cases h1 : 1 ≤ n
  · by_cases h2 : n ≤ k
    · have hb : decide (1 ≤ n ∧ n ≤ k) = true := by simp; omega
      rw [hb]
      go_enter Try.func29, Try.ntmps29
      go_wp2
      go_ret
      exact ⟨rfl, rfl⟩
    · have hb : decide (1 ≤ n ∧ n ≤ k) = false := by simp; omega
      rw [hb]
      go_enter Try.func29, Try.ntmps29
      go_wp2
      go_ret
      exact ⟨rfl, rfl⟩
  · have hb : decide (1 ≤ n ∧ n ≤ k) = false := by simp; omega
    rw [hb]
    go_enter Try.func29, Try.ntmps29
    go_wp2
    go_ret
    exact ⟨rfl, rfl⟩

theorem coil_pdu (b : Bool) (w : World) : Calls Try.prog 75 #[.bool b] w fun e w' => e = .returned (.int .i64 (if b then 65280 else 0)) ∧ w = w' := by
  cases b
  all_goals
    go_enter Try.func75, Try.ntmps75
    go_wp2
    go_ret
    exact ⟨rfl, rfl⟩

theorem known_no {f : Int} (h : knownB f = false) : (f == 1) = false ∧ (f == 2) = false ∧ (f == 3) = false ∧ (f == 4) = false ∧ (f == 5) = false ∧ (f == 6) = false ∧ (f == 8) = false ∧ (f == 15) = false ∧ (f == 16) = false ∧ (f == 17) = false ∧ (f == 22) = false ∧ (f == 23) = false := by
  have := of_decide_eq_false h
  simp only [not_or] at this
  simp only [beq_eq_false_iff_ne]
  exact this

set_option maxHeartbeats 400000 in
theorem known_pdu (f : Int) (w : World) : Calls Try.prog 23 #[.int .i64 f] w fun e w' => e = .returned (.bool (knownB f)) ∧ w = w' := by
  cases hb : knownB f
  · obtain ⟨h1, h2, h3, h4, h5, h6, h8, h15, h16, h17, h22, h23⟩ := known_no hb
    clear hb
    go_enter Try.func23, Try.ntmps23
    go_wp2
    go_ret
    exact ⟨rfl, rfl⟩
  · rcases known_cases hb with rfl | rfl | rfl | rfl | rfl | rfl | rfl | rfl | rfl | rfl | rfl | rfl
    all_goals
      clear hb
      go_enter Try.func23, Try.ntmps23
      go_wp2
      go_ret
      exact ⟨rfl, rfl⟩

end Go.Proofs.Ytdihcdphgiaepaa
