/- The developers' Do, whatever it is asked. -/
import Derived.Test.YtdihcdphgiaepaaH6ao
import Derived.Test.YtdihcdphgiaepaaH6bo
import Derived.Test.YtdihcdphgiaepaaH6co
import Derived.Test.YtdihcdphgiaepaaH6do
import Derived.Test.YtdihcdphgiaepaaH6eo
namespace Go.Proofs.Ytdihcdphgiaepaa
open Go.RowKit

theorem vdo_any (g gs lo hi n : Nat) (dv : Dv) (q : Rq) (v : Value) (w : World) (D : DD w g gs lo hi n dv) (h : IsRqF (Gd g lo hi) w v q) (hm : 0 ≤ dv.msgs ∧ dv.msgs ≤ 100000000000000000 ∧ 0 ≤ dv.flts ∧ dv.flts ≤ 100000000000000000) (hu : 0 ≤ dv.unit ∧ dv.unit ≤ 255) :
    Calls Try.prog 8 #[ptrG g, v] w fun e w' => ∃ v', e = .returned v' ∧ NRp w.heap.size w' v' (doD n dv q).1 ∧ DD w' g gs lo hi n (doD n dv q).2 ∧ Kp (Gd g lo hi) w w' := by
  obtain ⟨f, a, c, p, s, bs, vs, m, o⟩ := q
  cases hk : knownB f
  · rw [show doD n dv ⟨f, a, c, p, s, bs, vs, m, o⟩ = refD ⟨dv.s, dv.msgs + 1, dv.flts, dv.unit⟩ f 1 by simp [doD, hk]]
    exact vdo_fn g gs lo hi n dv f a c p s bs vs m o v w D h hm hk
  · cases hc : countsB ⟨f, a, c, p, s, bs, vs, m, o⟩
    · rw [show doD n dv ⟨f, a, c, p, s, bs, vs, m, o⟩ = refD ⟨dv.s, dv.msgs + 1, dv.flts, dv.unit⟩ f 3 by simp [doD, hk, hc]]
      exact vdo_cnt g gs lo hi n dv f a c p s bs vs m o v w D h hm hk hc
    · rw [doD_act (q := ⟨f, a, c, p, s, bs, vs, m, o⟩) hk hc]
      rcases known_cases hk with rfl | rfl | rfl | rfl | rfl | rfl | rfl | rfl | rfl | rfl | rfl | rfl
      · exact vdo_1 g gs lo hi n dv a c p s bs vs m o v w D h hm hc _ rfl
      · exact vdo_2 g gs lo hi n dv a c p s bs vs m o v w D h hm hc _ rfl
      · exact vdo_3 g gs lo hi n dv a c p s bs vs m o v w D h hm hc _ rfl
      · exact vdo_4 g gs lo hi n dv a c p s bs vs m o v w D h hm hc _ rfl
      · exact vdo_5 g gs lo hi n dv a c p s bs vs m o v w D h hm hc _ rfl
      · exact vdo_6 g gs lo hi n dv a c p s bs vs m o v w D h hm hc _ rfl
      · exact vdo_8 g gs lo hi n dv a c p s bs vs m o v w D h hm hc _ rfl
      · exact vdo_15 g gs lo hi n dv a c p s bs vs m o v w D h hm hc _ rfl
      · exact vdo_16 g gs lo hi n dv a c p s bs vs m o v w D h hm hc _ rfl
      · exact vdo_17 g gs lo hi n dv a c p s bs vs m o v w D h hm hc hu _ rfl
      · exact vdo_22 g gs lo hi n dv a c p s bs vs m o v w D h hm hc _ rfl
      · exact vdo_23 g gs lo hi n dv a c p s bs vs m o v w D h hm hc _ rfl

/-- what a device keeps, whatever it is asked -/
theorem ref_keeps (d : Dv) (f k : Int) : (refD d f k).2.unit = d.unit ∧ (refD d f k).2.msgs = d.msgs ∧ (refD d f k).2.flts = d.flts + 1 := ⟨rfl, rfl, rfl⟩
theorem diag_keeps (d : Dv) (q : Rq) : (diagD d q).2.unit = d.unit ∧ ((diagD d q).2.msgs = d.msgs ∨ (diagD d q).2.msgs = 0) ∧ ((diagD d q).2.flts = d.flts ∨ (diagD d q).2.flts = 0 ∨ (diagD d q).2.flts = d.flts + 1) := by
  rw [diagD]
  by_cases a1 : q.sub = 0
  · rw [if_pos a1]; simp
  rw [if_neg a1]
  by_cases a2 : q.sub = 10
  · rw [if_pos a2]; simp
  rw [if_neg a2]
  by_cases a3 : q.sub = 11 ∨ q.sub = 13 ∨ q.sub = 14
  · rw [if_pos a3]
    by_cases a4 : q.vals.getD 0 0 ≠ 0
    · rw [if_pos a4]; simp [refD]
    · rw [if_neg a4]; simp
  · rw [if_neg a3]; simp [refD]
theorem go_keeps (n : Nat) (d : Dv) (q : Rq) : (goD n d q).2.unit = d.unit ∧ ((goD n d q).2.msgs = d.msgs ∨ (goD n d q).2.msgs = 0) ∧ ((goD n d q).2.flts = d.flts ∨ (goD n d q).2.flts = 0 ∨ (goD n d q).2.flts = d.flts + 1) := by
  rw [goD]
  by_cases a0 : q.fn = 1 ∨ q.fn = 2
  · rw [if_pos a0]; simp
  rw [if_neg a0]
  by_cases a1 : q.fn = 3
  · rw [if_pos a1]; simp
  rw [if_neg a1]
  by_cases a2 : q.fn = 4
  · rw [if_pos a2]; simp
  rw [if_neg a2]
  by_cases a3 : q.fn = 5
  · rw [if_pos a3]; simp
  rw [if_neg a3]
  by_cases a4 : q.fn = 15
  · rw [if_pos a4]; simp
  rw [if_neg a4]
  by_cases a5 : q.fn = 6
  · rw [if_pos a5]; simp
  rw [if_neg a5]
  by_cases a6 : q.fn = 16
  · rw [if_pos a6]; simp
  rw [if_neg a6]
  by_cases a7 : q.fn = 22
  · rw [if_pos a7]; simp
  rw [if_neg a7]
  by_cases a8 : q.fn = 23
  · rw [if_pos a8]; simp
  rw [if_neg a8]
  by_cases b8 : q.fn = 8
  · rw [if_pos b8]; exact diag_keeps d q
  rw [if_neg b8]
  by_cases b17 : q.fn = 17
  · rw [if_pos b17]; simp
  · rw [if_neg b17]; simp
theorem do_keeps (n : Nat) (d : Dv) (q : Rq) (hm : 0 ≤ d.msgs ∧ 0 ≤ d.flts) : (doD n d q).2.unit = d.unit ∧ 0 ≤ (doD n d q).2.msgs ∧ (doD n d q).2.msgs ≤ d.msgs + 1 ∧ 0 ≤ (doD n d q).2.flts ∧ (doD n d q).2.flts ≤ d.flts + 1 := by
  obtain ⟨h1, h2⟩ := hm
  unfold doD
  dsimp only
  split
  · simp only [refD, true_and]; omega
  · split
    · simp only [refD, true_and]; omega
    · split
      · simp only [refD, true_and]; omega
      · obtain ⟨a1, a2, a3⟩ := go_keeps n { d with msgs := d.msgs + 1 } q
        simp only at a1 a2 a3
        refine ⟨a1, ?_⟩
        omega
theorem pdu_keeps (n : Nat) (d : Dv) (b : List UInt8) (hm : 0 ≤ d.msgs ∧ 0 ≤ d.flts) : (pduD n d b).2.unit = d.unit ∧ 0 ≤ (pduD n d b).2.msgs ∧ (pduD n d b).2.msgs ≤ d.msgs + 1 ∧ 0 ≤ (pduD n d b).2.flts ∧ (pduD n d b).2.flts ≤ d.flts + 1 := by
  have hk := do_keeps n d (readQ b) hm
  obtain ⟨h1, h2⟩ := hm
  unfold pduD
  split
  · simp only [true_and]; omega
  · split
    · simp only [refD, true_and]; omega
    · exact hk

end Go.Proofs.Ytdihcdphgiaepaa
