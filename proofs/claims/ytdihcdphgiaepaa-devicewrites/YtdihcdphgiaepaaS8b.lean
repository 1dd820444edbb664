/- Contract of pdu.Counts. -/
import Derived.Test.YtdihcdphgiaepaaS8
namespace Go.Proofs.Ytdihcdphgiaepaa
open Go.RowKit

def cntB (q : Rq) : Bool :=
  if q.fn = 1 ∨ q.fn = 2 then decide (1 ≤ q.cnt ∧ q.cnt ≤ 2000)
  else if q.fn = 3 ∨ q.fn = 4 then decide (1 ≤ q.cnt ∧ q.cnt ≤ 125)
  else if q.fn = 15 then decide (1 ≤ q.cnt ∧ q.cnt ≤ 1968)
  else if q.fn = 16 then decide (1 ≤ q.cnt ∧ q.cnt ≤ 123)
  else if q.fn = 23 then decide (1 ≤ q.cnt ∧ q.cnt ≤ 125) && decide (1 ≤ (q.vals.length : Int) ∧ (q.vals.length : Int) ≤ 121)
  else true
def countsB (q : Rq) : Bool := decide (rightE q = 0) && cntB q

set_option maxHeartbeats 2000000 in
theorem counts_pdu (v : Value) (q : Rq) (w : World) (h : IsRq w v q) :
    Calls Try.prog 16 #[v] w fun e w' => e = .returned (.bool (countsB q)) ∧ Below w.heap.size w w' := by
  obtain ⟨ab, capb, av, capv, rfl, -, hvl⟩ := h.slices
  have W0 := hidden (fun o => (Below.refl w.heap.size w).alloc (Nat.le_refl _) o)
  have C := hidden (fun w' (hb : Below w.heap.size w w') => right_pdu _ _ _ (h.below hb))
  by_cases hr : rightE q = 0
  · have hk := (right_parts hr).1
    have e : countsB q = cntB q := by simp [countsB, hr]
    rw [e]
    rw [hr] at C
    clear hr e h
    obtain ⟨f, a, c, p, s, bs, vs, m, o⟩ := q
    simp only at hk C hvl ⊢
    rcases known_cases hk with rfl | rfl | rfl | rfl | rfl | rfl | rfl | rfl | rfl | rfl | rfl | rfl
    all_goals
      clear hk
      go_enter Try.func16, Try.ntmps16
      go_wp2_with fail
      refine (C.out _ (W0.out _)).mono ?_
      rintro e w1 ⟨rfl, B1⟩
      have X := (Box.new w _ _ _ _ _ _ _ _ _ _).ext B1
      replace B1 := below_then (W0.out _) B1
      obtain ⟨lt, c0, c1, c2, c3, c4, c5, c6, c7, c8⟩ := X

    · go_wp2_with fail
      refine (within_pdu _ _ _).mono ?_
      rintro e w2 ⟨rfl, rfl⟩
      go_wp2
      go_ret
      exact ⟨ret_bool (by simp [cntB]), B1⟩
    · go_wp2_with fail
      refine (within_pdu _ _ _).mono ?_
      rintro e w2 ⟨rfl, rfl⟩
      go_wp2
      go_ret
      exact ⟨ret_bool (by simp [cntB]), B1⟩
    · go_wp2_with fail
      refine (within_pdu _ _ _).mono ?_
      rintro e w2 ⟨rfl, rfl⟩
      go_wp2
      go_ret
      exact ⟨ret_bool (by simp [cntB]), B1⟩
    · go_wp2_with fail
      refine (within_pdu _ _ _).mono ?_
      rintro e w2 ⟨rfl, rfl⟩
      go_wp2
      go_ret
      exact ⟨ret_bool (by simp [cntB]), B1⟩
    · go_wp2
      go_ret
      exact ⟨ret_bool (by simp [cntB]), B1⟩
    · go_wp2
      go_ret
      exact ⟨ret_bool (by simp [cntB]), B1⟩
    · go_wp2
      go_ret
      exact ⟨ret_bool (by simp [cntB]), B1⟩
    · go_wp2_with fail
      refine (within_pdu _ _ _).mono ?_
      rintro e w2 ⟨rfl, rfl⟩
      go_wp2
      go_ret
      exact ⟨ret_bool (by simp [cntB]), B1⟩
    · go_wp2_with fail
      refine (within_pdu _ _ _).mono ?_
      rintro e w2 ⟨rfl, rfl⟩
      go_wp2
      go_ret
      exact ⟨ret_bool (by simp [cntB]), B1⟩
    · go_wp2
      go_ret
      exact ⟨ret_bool (by simp [cntB]), B1⟩
    · go_wp2
      go_ret
      exact ⟨ret_bool (by simp [cntB]), B1⟩
    · cases h1 : decide (1 ≤ c ∧ c ≤ 125)
      · have E : Hid (cntB ⟨23, a, c, p, s, bs, vs, m, o⟩ = false) := by show _ = _; simp only [cntB]; simp; intro h2 h3; simp at h1; omega
        have H1 := hidden h1
        clear h1
        go_wp2_with (go_at_call 29; refine (within_pdu _ _ _).mono ?_; rintro e w2 ⟨rfl, rfl⟩; first | rw [H1.out])
        go_ret
        exact ⟨ret_bool E.out.symm, B1⟩
      · cases h2 : decide (1 ≤ (vs.length : Int) ∧ (vs.length : Int) ≤ 121)
        · have E : Hid (cntB ⟨23, a, c, p, s, bs, vs, m, o⟩ = false) := by show _ = _; simp only [cntB]; simp; intro h3 h4 h5; simp at h2; omega
          have H1 := hidden h1
          have H2 := hidden h2
          clear h1 h2
          go_wp2_with (go_at_call 29; refine (within_pdu _ _ _).mono ?_; rintro e w2 ⟨rfl, rfl⟩; first | rw [H1.out] | rw [H2.out])
          go_ret
          exact ⟨ret_bool E.out.symm, B1⟩
        · have E : Hid (cntB ⟨23, a, c, p, s, bs, vs, m, o⟩ = true) := by show _ = _; simp only [cntB]; simp at h1 h2 ⊢; omega
          have H1 := hidden h1
          have H2 := hidden h2
          clear h1 h2
          go_wp2_with (go_at_call 29; refine (within_pdu _ _ _).mono ?_; rintro e w2 ⟨rfl, rfl⟩; first | rw [H1.out] | rw [H2.out])
          go_ret
          exact ⟨ret_bool E.out.symm, B1⟩
  · have e : countsB q = false := by simp [countsB, hr]
    rw [e]
    have t : (rightE q != 0) = true := by simpa using hr
    generalize rightE q = E at *
    clear hr h e
    go_enter Try.func16, Try.ntmps16
    go_wp2_with fail
    refine (C.out _ (W0.out _)).mono ?_
    rintro e w1 ⟨rfl, B1⟩
    replace B1 := below_then (W0.out _) B1
    go_wp2
    go_ret
    exact ⟨rfl, B1⟩

end Go.Proofs.Ytdihcdphgiaepaa
