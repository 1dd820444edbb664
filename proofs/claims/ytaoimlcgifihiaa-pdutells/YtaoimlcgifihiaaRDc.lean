/- Contract of burgageref3.Counts. -/
import Derived.Test.YtaoimlcgifihiaaRD
namespace Go.Proofs.Ytaoimlcgifihiaa
open Go.RowKit

set_option maxHeartbeats 2000000 in
theorem counts_ref (v : Value) (q : Rq) (w : World) (h : IsRq w v q) :
    Calls Try.prog 32 #[v] w fun e w' => e = .returned (.bool (countsB q)) ∧ Below w.heap.size w w' := by
  obtain ⟨ab, capb, av, capv, rfl, -, hvl⟩ := h.slices
  have W0 := hidden (fun o => (Below.refl w.heap.size w).alloc (Nat.le_refl _) o)
  have C := hidden (fun w' (hb : Below w.heap.size w w') => right_ref _ _ _ (h.below hb))
  by_cases hr : rightE q = 0
  · have hk := (right_parts hr).1
    have e : countsB q = cntB q := by simp [countsB, hr]
    rw [e]
    rw [hr] at C
    clear hr e h
    obtain ⟨f, a, c, p, s, bs, vs, m, o⟩ := q
    simp only at hk C hvl ⊢
    rcases known_cases hk with rfl | rfl | rfl | rfl | rfl | rfl | rfl | rfl | rfl | rfl | rfl | rfl
    · clear hk
      by_cases k1 : 1 ≤ c
      · by_cases k2 : c ≤ 2000
        · go_enter Try.func32, Try.ntmps32
          go_wp2_with fail
          refine (C.out _ (W0.out _)).mono ?_
          rintro e w1 ⟨rfl, B1⟩
          have X := (Box.new w _ _ _ _ _ _ _ _ _ _).ext B1
          replace B1 := below_then (W0.out _) B1
          obtain ⟨lt, c0, c1, c2, c3, c4, c5, c6, c7, c8⟩ := X
          go_wp2
          go_ret
          exact ⟨ret_bool (by first | (simp [cntB]; done) | (simp [cntB]; omega) | (simp [cntB] <;> intros <;> omega) | (rw [Bool.eq_iff_iff]; simp [cntB]; omega)), B1⟩
        · go_enter Try.func32, Try.ntmps32
          go_wp2_with fail
          refine (C.out _ (W0.out _)).mono ?_
          rintro e w1 ⟨rfl, B1⟩
          have X := (Box.new w _ _ _ _ _ _ _ _ _ _).ext B1
          replace B1 := below_then (W0.out _) B1
          obtain ⟨lt, c0, c1, c2, c3, c4, c5, c6, c7, c8⟩ := X
          go_wp2
          go_ret
          exact ⟨ret_bool (by first | (simp [cntB]; done) | (simp [cntB]; omega) | (simp [cntB] <;> intros <;> omega) | (rw [Bool.eq_iff_iff]; simp [cntB]; omega)), B1⟩
      · go_enter Try.func32, Try.ntmps32
        go_wp2_with fail
        refine (C.out _ (W0.out _)).mono ?_
        rintro e w1 ⟨rfl, B1⟩
        have X := (Box.new w _ _ _ _ _ _ _ _ _ _).ext B1
        replace B1 := below_then (W0.out _) B1
        obtain ⟨lt, c0, c1, c2, c3, c4, c5, c6, c7, c8⟩ := X
        go_wp2
        go_ret
        exact ⟨ret_bool (by first | (simp [cntB]; done) | (simp [cntB]; omega) | (simp [cntB] <;> intros <;> omega) | (rw [Bool.eq_iff_iff]; simp [cntB]; omega)), B1⟩
    · clear hk
      by_cases k1 : 1 ≤ c
      · by_cases k2 : c ≤ 2000
        · go_enter Try.func32, Try.ntmps32
          go_wp2_with fail
          refine (C.out _ (W0.out _)).mono ?_
          rintro e w1 ⟨rfl, B1⟩
          have X := (Box.new w _ _ _ _ _ _ _ _ _ _).ext B1
          replace B1 := below_then (W0.out _) B1
          obtain ⟨lt, c0, c1, c2, c3, c4, c5, c6, c7, c8⟩ := X
          go_wp2
          go_ret
          exact ⟨ret_bool (by first | (simp [cntB]; done) | (simp [cntB]; omega) | (simp [cntB] <;> intros <;> omega) | (rw [Bool.eq_iff_iff]; simp [cntB]; omega)), B1⟩
        · go_enter Try.func32, Try.ntmps32
          go_wp2_with fail
          refine (C.out _ (W0.out _)).mono ?_
          rintro e w1 ⟨rfl, B1⟩
          have X := (Box.new w _ _ _ _ _ _ _ _ _ _).ext B1
          replace B1 := below_then (W0.out _) B1
          obtain ⟨lt, c0, c1, c2, c3, c4, c5, c6, c7, c8⟩ := X
          go_wp2
          go_ret
          exact ⟨ret_bool (by first | (simp [cntB]; done) | (simp [cntB]; omega) | (simp [cntB] <;> intros <;> omega) | (rw [Bool.eq_iff_iff]; simp [cntB]; omega)), B1⟩
      · go_enter Try.func32, Try.ntmps32
        go_wp2_with fail
        refine (C.out _ (W0.out _)).mono ?_
        rintro e w1 ⟨rfl, B1⟩
        have X := (Box.new w _ _ _ _ _ _ _ _ _ _).ext B1
        replace B1 := below_then (W0.out _) B1
        obtain ⟨lt, c0, c1, c2, c3, c4, c5, c6, c7, c8⟩ := X
        go_wp2
        go_ret
        exact ⟨ret_bool (by first | (simp [cntB]; done) | (simp [cntB]; omega) | (simp [cntB] <;> intros <;> omega) | (rw [Bool.eq_iff_iff]; simp [cntB]; omega)), B1⟩
    · clear hk
      by_cases k1 : 1 ≤ c
      · by_cases k2 : c ≤ 125
        · go_enter Try.func32, Try.ntmps32
          go_wp2_with fail
          refine (C.out _ (W0.out _)).mono ?_
          rintro e w1 ⟨rfl, B1⟩
          have X := (Box.new w _ _ _ _ _ _ _ _ _ _).ext B1
          replace B1 := below_then (W0.out _) B1
          obtain ⟨lt, c0, c1, c2, c3, c4, c5, c6, c7, c8⟩ := X
          go_wp2
          go_ret
          exact ⟨ret_bool (by first | (simp [cntB]; done) | (simp [cntB]; omega) | (simp [cntB] <;> intros <;> omega) | (rw [Bool.eq_iff_iff]; simp [cntB]; omega)), B1⟩
        · go_enter Try.func32, Try.ntmps32
          go_wp2_with fail
          refine (C.out _ (W0.out _)).mono ?_
          rintro e w1 ⟨rfl, B1⟩
          have X := (Box.new w _ _ _ _ _ _ _ _ _ _).ext B1
          replace B1 := below_then (W0.out _) B1
          obtain ⟨lt, c0, c1, c2, c3, c4, c5, c6, c7, c8⟩ := X
          go_wp2
          go_ret
          exact ⟨ret_bool (by first | (simp [cntB]; done) | (simp [cntB]; omega) | (simp [cntB] <;> intros <;> omega) | (rw [Bool.eq_iff_iff]; simp [cntB]; omega)), B1⟩
      · go_enter Try.func32, Try.ntmps32
        go_wp2_with fail
        refine (C.out _ (W0.out _)).mono ?_
        rintro e w1 ⟨rfl, B1⟩
        have X := (Box.new w _ _ _ _ _ _ _ _ _ _).ext B1
        replace B1 := below_then (W0.out _) B1
        obtain ⟨lt, c0, c1, c2, c3, c4, c5, c6, c7, c8⟩ := X
        go_wp2
        go_ret
        exact ⟨ret_bool (by first | (simp [cntB]; done) | (simp [cntB]; omega) | (simp [cntB] <;> intros <;> omega) | (rw [Bool.eq_iff_iff]; simp [cntB]; omega)), B1⟩
    · clear hk
      by_cases k1 : 1 ≤ c
      · by_cases k2 : c ≤ 125
        · go_enter Try.func32, Try.ntmps32
          go_wp2_with fail
          refine (C.out _ (W0.out _)).mono ?_
          rintro e w1 ⟨rfl, B1⟩
          have X := (Box.new w _ _ _ _ _ _ _ _ _ _).ext B1
          replace B1 := below_then (W0.out _) B1
          obtain ⟨lt, c0, c1, c2, c3, c4, c5, c6, c7, c8⟩ := X
          go_wp2
          go_ret
          exact ⟨ret_bool (by first | (simp [cntB]; done) | (simp [cntB]; omega) | (simp [cntB] <;> intros <;> omega) | (rw [Bool.eq_iff_iff]; simp [cntB]; omega)), B1⟩
        · go_enter Try.func32, Try.ntmps32
          go_wp2_with fail
          refine (C.out _ (W0.out _)).mono ?_
          rintro e w1 ⟨rfl, B1⟩
          have X := (Box.new w _ _ _ _ _ _ _ _ _ _).ext B1
          replace B1 := below_then (W0.out _) B1
          obtain ⟨lt, c0, c1, c2, c3, c4, c5, c6, c7, c8⟩ := X
          go_wp2
          go_ret
          exact ⟨ret_bool (by first | (simp [cntB]; done) | (simp [cntB]; omega) | (simp [cntB] <;> intros <;> omega) | (rw [Bool.eq_iff_iff]; simp [cntB]; omega)), B1⟩
      · go_enter Try.func32, Try.ntmps32
        go_wp2_with fail
        refine (C.out _ (W0.out _)).mono ?_
        rintro e w1 ⟨rfl, B1⟩
        have X := (Box.new w _ _ _ _ _ _ _ _ _ _).ext B1
        replace B1 := below_then (W0.out _) B1
        obtain ⟨lt, c0, c1, c2, c3, c4, c5, c6, c7, c8⟩ := X
        go_wp2
        go_ret
        exact ⟨ret_bool (by first | (simp [cntB]; done) | (simp [cntB]; omega) | (simp [cntB] <;> intros <;> omega) | (rw [Bool.eq_iff_iff]; simp [cntB]; omega)), B1⟩
    · clear hk
      go_enter Try.func32, Try.ntmps32
      go_wp2_with fail
      refine (C.out _ (W0.out _)).mono ?_
      rintro e w1 ⟨rfl, B1⟩
      have X := (Box.new w _ _ _ _ _ _ _ _ _ _).ext B1
      replace B1 := below_then (W0.out _) B1
      obtain ⟨lt, c0, c1, c2, c3, c4, c5, c6, c7, c8⟩ := X
      go_wp2
      go_ret
      exact ⟨ret_bool (by first | (simp [cntB]; done) | (simp [cntB]; omega) | (simp [cntB] <;> intros <;> omega) | (rw [Bool.eq_iff_iff]; simp [cntB]; omega)), B1⟩
    · clear hk
      go_enter Try.func32, Try.ntmps32
      go_wp2_with fail
      refine (C.out _ (W0.out _)).mono ?_
      rintro e w1 ⟨rfl, B1⟩
      have X := (Box.new w _ _ _ _ _ _ _ _ _ _).ext B1
      replace B1 := below_then (W0.out _) B1
      obtain ⟨lt, c0, c1, c2, c3, c4, c5, c6, c7, c8⟩ := X
      go_wp2
      go_ret
      exact ⟨ret_bool (by first | (simp [cntB]; done) | (simp [cntB]; omega) | (simp [cntB] <;> intros <;> omega) | (rw [Bool.eq_iff_iff]; simp [cntB]; omega)), B1⟩
    · clear hk
      go_enter Try.func32, Try.ntmps32
      go_wp2_with fail
      refine (C.out _ (W0.out _)).mono ?_
      rintro e w1 ⟨rfl, B1⟩
      have X := (Box.new w _ _ _ _ _ _ _ _ _ _).ext B1
      replace B1 := below_then (W0.out _) B1
      obtain ⟨lt, c0, c1, c2, c3, c4, c5, c6, c7, c8⟩ := X
      go_wp2
      go_ret
      exact ⟨ret_bool (by first | (simp [cntB]; done) | (simp [cntB]; omega) | (simp [cntB] <;> intros <;> omega) | (rw [Bool.eq_iff_iff]; simp [cntB]; omega)), B1⟩
    · clear hk
      by_cases k1 : 1 ≤ c
      · by_cases k2 : c ≤ 1968
        · go_enter Try.func32, Try.ntmps32
          go_wp2_with fail
          refine (C.out _ (W0.out _)).mono ?_
          rintro e w1 ⟨rfl, B1⟩
          have X := (Box.new w _ _ _ _ _ _ _ _ _ _).ext B1
          replace B1 := below_then (W0.out _) B1
          obtain ⟨lt, c0, c1, c2, c3, c4, c5, c6, c7, c8⟩ := X
          go_wp2
          go_ret
          exact ⟨ret_bool (by first | (simp [cntB]; done) | (simp [cntB]; omega) | (simp [cntB] <;> intros <;> omega) | (rw [Bool.eq_iff_iff]; simp [cntB]; omega)), B1⟩
        · go_enter Try.func32, Try.ntmps32
          go_wp2_with fail
          refine (C.out _ (W0.out _)).mono ?_
          rintro e w1 ⟨rfl, B1⟩
          have X := (Box.new w _ _ _ _ _ _ _ _ _ _).ext B1
          replace B1 := below_then (W0.out _) B1
          obtain ⟨lt, c0, c1, c2, c3, c4, c5, c6, c7, c8⟩ := X
          go_wp2
          go_ret
          exact ⟨ret_bool (by first | (simp [cntB]; done) | (simp [cntB]; omega) | (simp [cntB] <;> intros <;> omega) | (rw [Bool.eq_iff_iff]; simp [cntB]; omega)), B1⟩
      · go_enter Try.func32, Try.ntmps32
        go_wp2_with fail
        refine (C.out _ (W0.out _)).mono ?_
        rintro e w1 ⟨rfl, B1⟩
        have X := (Box.new w _ _ _ _ _ _ _ _ _ _).ext B1
        replace B1 := below_then (W0.out _) B1
        obtain ⟨lt, c0, c1, c2, c3, c4, c5, c6, c7, c8⟩ := X
        go_wp2
        go_ret
        exact ⟨ret_bool (by first | (simp [cntB]; done) | (simp [cntB]; omega) | (simp [cntB] <;> intros <;> omega) | (rw [Bool.eq_iff_iff]; simp [cntB]; omega)), B1⟩
    · clear hk
      by_cases k1 : 1 ≤ c
      · by_cases k2 : c ≤ 123
        · go_enter Try.func32, Try.ntmps32
          go_wp2_with fail
          refine (C.out _ (W0.out _)).mono ?_
          rintro e w1 ⟨rfl, B1⟩
          have X := (Box.new w _ _ _ _ _ _ _ _ _ _).ext B1
          replace B1 := below_then (W0.out _) B1
          obtain ⟨lt, c0, c1, c2, c3, c4, c5, c6, c7, c8⟩ := X
          go_wp2
          go_ret
          exact ⟨ret_bool (by first | (simp [cntB]; done) | (simp [cntB]; omega) | (simp [cntB] <;> intros <;> omega) | (rw [Bool.eq_iff_iff]; simp [cntB]; omega)), B1⟩
        · go_enter Try.func32, Try.ntmps32
          go_wp2_with fail
          refine (C.out _ (W0.out _)).mono ?_
          rintro e w1 ⟨rfl, B1⟩
          have X := (Box.new w _ _ _ _ _ _ _ _ _ _).ext B1
          replace B1 := below_then (W0.out _) B1
          obtain ⟨lt, c0, c1, c2, c3, c4, c5, c6, c7, c8⟩ := X
          go_wp2
          go_ret
          exact ⟨ret_bool (by first | (simp [cntB]; done) | (simp [cntB]; omega) | (simp [cntB] <;> intros <;> omega) | (rw [Bool.eq_iff_iff]; simp [cntB]; omega)), B1⟩
      · go_enter Try.func32, Try.ntmps32
        go_wp2_with fail
        refine (C.out _ (W0.out _)).mono ?_
        rintro e w1 ⟨rfl, B1⟩
        have X := (Box.new w _ _ _ _ _ _ _ _ _ _).ext B1
        replace B1 := below_then (W0.out _) B1
        obtain ⟨lt, c0, c1, c2, c3, c4, c5, c6, c7, c8⟩ := X
        go_wp2
        go_ret
        exact ⟨ret_bool (by first | (simp [cntB]; done) | (simp [cntB]; omega) | (simp [cntB] <;> intros <;> omega) | (rw [Bool.eq_iff_iff]; simp [cntB]; omega)), B1⟩
    · clear hk
      go_enter Try.func32, Try.ntmps32
      go_wp2_with fail
      refine (C.out _ (W0.out _)).mono ?_
      rintro e w1 ⟨rfl, B1⟩
      have X := (Box.new w _ _ _ _ _ _ _ _ _ _).ext B1
      replace B1 := below_then (W0.out _) B1
      obtain ⟨lt, c0, c1, c2, c3, c4, c5, c6, c7, c8⟩ := X
      go_wp2
      go_ret
      exact ⟨ret_bool (by first | (simp [cntB]; done) | (simp [cntB]; omega) | (simp [cntB] <;> intros <;> omega) | (rw [Bool.eq_iff_iff]; simp [cntB]; omega)), B1⟩
    · clear hk
      go_enter Try.func32, Try.ntmps32
      go_wp2_with fail
      refine (C.out _ (W0.out _)).mono ?_
      rintro e w1 ⟨rfl, B1⟩
      have X := (Box.new w _ _ _ _ _ _ _ _ _ _).ext B1
      replace B1 := below_then (W0.out _) B1
      obtain ⟨lt, c0, c1, c2, c3, c4, c5, c6, c7, c8⟩ := X
      go_wp2
      go_ret
      exact ⟨ret_bool (by first | (simp [cntB]; done) | (simp [cntB]; omega) | (simp [cntB] <;> intros <;> omega) | (rw [Bool.eq_iff_iff]; simp [cntB]; omega)), B1⟩
    · clear hk
      by_cases k1 : 1 ≤ c
      · by_cases k2 : c ≤ 125
        · by_cases k3 : 1 ≤ vs.length
          · have k3' : (1 : Int) ≤ (vs.length : Int) := by omega
            by_cases k4 : vs.length ≤ 121
            · have k4' : (vs.length : Int) ≤ 121 := by omega
              go_enter Try.func32, Try.ntmps32
              go_wp2_with fail
              refine (C.out _ (W0.out _)).mono ?_
              rintro e w1 ⟨rfl, B1⟩
              have X := (Box.new w _ _ _ _ _ _ _ _ _ _).ext B1
              replace B1 := below_then (W0.out _) B1
              obtain ⟨lt, c0, c1, c2, c3, c4, c5, c6, c7, c8⟩ := X
              go_wp2
              go_ret
              exact ⟨ret_bool (by first | (simp [cntB]; done) | (simp [cntB]; omega) | (simp [cntB] <;> intros <;> omega) | (rw [Bool.eq_iff_iff]; simp [cntB]; omega)), B1⟩
            · have k4' : ¬ (vs.length : Int) ≤ 121 := by omega
              go_enter Try.func32, Try.ntmps32
              go_wp2_with fail
              refine (C.out _ (W0.out _)).mono ?_
              rintro e w1 ⟨rfl, B1⟩
              have X := (Box.new w _ _ _ _ _ _ _ _ _ _).ext B1
              replace B1 := below_then (W0.out _) B1
              obtain ⟨lt, c0, c1, c2, c3, c4, c5, c6, c7, c8⟩ := X
              go_wp2
              go_ret
              exact ⟨ret_bool (by first | (simp [cntB]; done) | (simp [cntB]; omega) | (simp [cntB] <;> intros <;> omega) | (rw [Bool.eq_iff_iff]; simp [cntB]; omega)), B1⟩
          · have k3' : ¬ (1 : Int) ≤ (vs.length : Int) := by omega
            go_enter Try.func32, Try.ntmps32
            go_wp2_with fail
            refine (C.out _ (W0.out _)).mono ?_
            rintro e w1 ⟨rfl, B1⟩
            have X := (Box.new w _ _ _ _ _ _ _ _ _ _).ext B1
            replace B1 := below_then (W0.out _) B1
            obtain ⟨lt, c0, c1, c2, c3, c4, c5, c6, c7, c8⟩ := X
            go_wp2
            go_ret
            exact ⟨ret_bool (by first | (simp [cntB]; done) | (simp [cntB]; omega) | (simp [cntB] <;> intros <;> omega) | (rw [Bool.eq_iff_iff]; simp [cntB]; omega)), B1⟩
        · go_enter Try.func32, Try.ntmps32
          go_wp2_with fail
          refine (C.out _ (W0.out _)).mono ?_
          rintro e w1 ⟨rfl, B1⟩
          have X := (Box.new w _ _ _ _ _ _ _ _ _ _).ext B1
          replace B1 := below_then (W0.out _) B1
          obtain ⟨lt, c0, c1, c2, c3, c4, c5, c6, c7, c8⟩ := X
          go_wp2
          go_ret
          exact ⟨ret_bool (by first | (simp [cntB]; done) | (simp [cntB]; omega) | (simp [cntB] <;> intros <;> omega) | (rw [Bool.eq_iff_iff]; simp [cntB]; omega)), B1⟩
      · go_enter Try.func32, Try.ntmps32
        go_wp2_with fail
        refine (C.out _ (W0.out _)).mono ?_
        rintro e w1 ⟨rfl, B1⟩
        have X := (Box.new w _ _ _ _ _ _ _ _ _ _).ext B1
        replace B1 := below_then (W0.out _) B1
        obtain ⟨lt, c0, c1, c2, c3, c4, c5, c6, c7, c8⟩ := X
        go_wp2
        go_ret
        exact ⟨ret_bool (by first | (simp [cntB]; done) | (simp [cntB]; omega) | (simp [cntB] <;> intros <;> omega) | (rw [Bool.eq_iff_iff]; simp [cntB]; omega)), B1⟩
  · have e : countsB q = false := by simp [countsB, hr]
    rw [e]
    have t : (rightE q != 0) = true := by simpa using hr
    generalize rightE q = E at *
    clear hr h e
    go_enter Try.func32, Try.ntmps32
    go_wp2_with fail
    refine (C.out _ (W0.out _)).mono ?_
    rintro e w1 ⟨rfl, B1⟩
    replace B1 := below_then (W0.out _) B1
    go_wp2
    go_ret
    exact ⟨rfl, B1⟩

end Go.Proofs.Ytaoimlcgifihiaa
