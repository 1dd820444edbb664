/- The walk of burgagelaw8.StoreSpaces. -/
import Derived.Test.YtaabjgdomookkaaY8
import Derived.Test.YtaabjgdomookkaaW1
namespace Go.Proofs.Ytaabjgdomookkaa
open Go.RowKit

/-- a row cut to k places at most -/
theorem cut_min {α : Type} {f : α → Value} {w : World} {v : Value} {l : List α} (h : Row w v (l.map f)) (k : Nat) (kI : Int) (hk : kI = (k : Int)) : ∃ a len cap nb, ∃ lb : List α, v = .slice a len cap ∧ len = l.length ∧ len ≤ cap ∧ cap ≤ maxLen ∧ nb ≤ k ∧ nb ≤ len ∧ lb.length = nb ∧ (if kI < (len : Int) then kI else (len : Int)) = (nb : Int) ∧ Row w (.slice a nb cap) (lb.map f) := by
  obtain ⟨a, cap, rfl, h1, h2, -⟩ := id h
  simp only [List.length_map] at h h1
  refine ⟨a, l.length, cap, min k l.length, l.take (min k l.length), by simp, rfl, h1, h2, by omega, by omega, by simp, by split <;> omega, ?_⟩
  have := h.take (min k l.length) (by omega)
  rw [List.map_take]
  exact this

set_option maxHeartbeats 8000000 in
theorem spaces_law (vl vv : Value) (l : List Bool) (v : List UInt16) (sp a : Int) (w : World) (hl : Row w vl (l.map Value.bool)) (hv : Row w vv (v.map wV)) (hs : i64 sp) (ha : i64 a) :
    Calls Try.prog 6 #[.int .i64 sp, .int .i64 a, vl, vv] w fun e w' => e = .returned (.bool true) ∧ Below w.heap.size w w' := by
  have BL := Below.refl w.heap.size w
  obtain ⟨al, len1, cl, nb, lb, rfl, -, hc1, hm1, hk1, hn1, hb1, hmin1, hr1⟩ := cut_min hl 40 40 rfl
  obtain ⟨av, len2, cv, nv, lv, rfl, -, hc2, hm2, hk2, hn2, hb2, hmin2, hr2⟩ := cut_min hv 40 40 rfl
  unfold maxLen at hm1 hm2
  have R1 := hidden hr1
  have R2 := hidden hr2
  have HB1 := hidden hb1
  have HB2 := hidden hb2
  clear hl hv hr1 hr2 hb1 hb2
  go_enter Try.func6, Try.ntmps6
  go_wp2_with fail
  refine (new_i 30 30 _ rfl (by decide)).mono ?_
  rintro e w1 ⟨g, loS, hiS, rfl, S, lS, E⟩
  have bS := Nat.le_trans BL.size lS
  clear lS
  replace BL := below_then BL E
  clear E
  go_wp2_with fail
  refine (within_any a (-2) 40 _ ha (by decide) (by decide) (by decide)).mono ?_
  rintro e w2 ⟨⟨m, rfl, m0, m1⟩, rfl⟩
  go_wp2_with fail
  go_quiet (fail)
  have E := below_drewn0 w1.heap.size w1 nq
  replace S := S.ext E
  replace BL := below_then BL E
  clear E
  generalize w1.drewN nq = w4 at *
  clear w1
  have hcase : (sp = 0 ∨ sp = 1 ∨ sp = 2 ∨ sp = 3) ∨ ((sp == 0) = false ∧ (sp == 1) = false ∧ (sp == 2) = false ∧ (sp == 3) = false) := by
    simp only [beq_eq_false_iff_ne]; omega
  rcases hcase with (rfl | rfl | rfl | rfl) | ⟨s0, s1, s2, s3⟩
  · have hI : okB 30 0 0 1 = true := by decide
    have hJ : okV 30 0 0 1 = false := by decide
    rcases (show m < 0 ∨ (0 ≤ m ∧ m + (nb : Int) ≤ 30) ∨ (0 ≤ m ∧ 30 < m + (nb : Int)) by omega) with h1 | ⟨h1, h2⟩ | ⟨h1, h2⟩
    · have hP : okB 30 0 m nb = false := by rw [okB, fits_f (by omega)]; decide
      have hQ : okV 30 0 m nv = false := by rw [okV, show isV 0 = false by decide, Bool.false_and]
      go_wp2_with fail
      have CS := hidden (setB_i (sp := 0) (a := m) lb false (Cs.zero 30) S (R1.out.below BL) (by rw [HB1.out]; exact hP) (by rw [setB, HB1.out, hP]; rfl) (by unfold i64; omega))
      refine CS.out.mono ?_
      clear CS S
      rintro e w5 ⟨rfl, S, K⟩
      replace BL := bel_in BL K bS
      clear K
      go_wp2_with fail
      have CS := hidden (setV_i (sp := 0) (a := m) lv false (Cs.zero 30) S (R2.out.below BL) (by rw [HB2.out]; exact hQ) (by rw [setV, HB2.out, hQ]; rfl) (by unfold i64; omega))
      refine CS.out.mono ?_
      clear CS S
      rintro e w6 ⟨rfl, S, K⟩
      replace BL := bel_in BL K bS
      clear K
      go_wp2_with fail
      refine (getB_i (sp := 0) true _ S hI rfl (by decide)).mono ?_
      rintro e w7 ⟨vI, loI, hiI, rfl, -, -, E⟩
      replace S := S.ext E
      replace BL := below_then BL E
      clear E
      go_wp2_with fail
      refine (getV_i (sp := 0) false _ S hJ rfl (by decide)).mono ?_
      rintro e w8 ⟨vJ, loJ, hiJ, rfl, -, -, E⟩
      replace S := S.ext E
      replace BL := below_then BL E
      clear E
      clear hI hJ hP hQ
      go_wp2_with fail
      refine (new_i 30 30 _ rfl (by decide)).mono ?_
      rintro e w9 ⟨g9, loN, hiN, rfl, NS, lN, E⟩
      clear lN
      replace S := S.ext E
      replace BL := below_then BL E
      clear E
      go_wp2_with fail
      refine (same_any _ _ _ _ _ _ _ _ _ _ _ S NS).mono ?_
      rintro e w10 ⟨rfl, n10, rfl⟩
      rw [sameC_self]
      have E := below_drewn0 w9.heap.size w9 n10
      replace BL := below_then BL E
      clear E S NS
      generalize w9.drewN n10 = w10 at *
      go_wp2_with fail
      refine (known_any _).mono ?_
      rintro e w11 ⟨rfl, E⟩
      replace BL := below_then BL E
      clear E
      go_wp2
      go_ret
      exact ⟨rfl, BL⟩
    · have hP : okB 30 0 m nb = true := by rw [okB, fits_t (by omega)]; decide
      have hQ : okV 30 0 m nv = false := by rw [okV, show isV 0 = false by decide, Bool.false_and]
      go_wp2_with fail
      have CS := hidden (setB_i (sp := 0) (a := m) lb true (setB 30 (Cs.zero 30) 0 m lb) S (R1.out.below BL) (by rw [HB1.out]; exact hP) (rfl) (by unfold i64; omega))
      refine CS.out.mono ?_
      clear CS S
      rintro e w5 ⟨rfl, S, K⟩
      replace BL := bel_in BL K bS
      clear K
      go_wp2_with fail
      have CS := hidden (setV_i (sp := 0) (a := m) lv false (setB 30 (Cs.zero 30) 0 m lb) S (R2.out.below BL) (by rw [HB2.out]; exact hQ) (by rw [setV, HB2.out, hQ]; rfl) (by unfold i64; omega))
      refine CS.out.mono ?_
      clear CS S
      rintro e w6 ⟨rfl, S, K⟩
      replace BL := bel_in BL K bS
      clear K
      go_wp2_with fail
      refine (getB_i (sp := 0) true _ S hI rfl (by decide)).mono ?_
      rintro e w7 ⟨vI, loI, hiI, rfl, -, -, E⟩
      replace S := S.ext E
      replace BL := below_then BL E
      clear E
      go_wp2_with fail
      refine (getV_i (sp := 0) false _ S hJ rfl (by decide)).mono ?_
      rintro e w8 ⟨vJ, loJ, hiJ, rfl, -, -, E⟩
      replace S := S.ext E
      replace BL := below_then BL E
      clear E
      clear hI hJ hP hQ
      go_wp2_with fail
      refine (known_any _).mono ?_
      rintro e w11 ⟨rfl, E⟩
      replace BL := below_then BL E
      clear E
      go_wp2
      go_ret
      exact ⟨rfl, BL⟩
    · have hP : okB 30 0 m nb = false := by rw [okB, fits_f (by omega)]; decide
      have hQ : okV 30 0 m nv = false := by rw [okV, show isV 0 = false by decide, Bool.false_and]
      go_wp2_with fail
      have CS := hidden (setB_i (sp := 0) (a := m) lb false (Cs.zero 30) S (R1.out.below BL) (by rw [HB1.out]; exact hP) (by rw [setB, HB1.out, hP]; rfl) (by unfold i64; omega))
      refine CS.out.mono ?_
      clear CS S
      rintro e w5 ⟨rfl, S, K⟩
      replace BL := bel_in BL K bS
      clear K
      go_wp2_with fail
      have CS := hidden (setV_i (sp := 0) (a := m) lv false (Cs.zero 30) S (R2.out.below BL) (by rw [HB2.out]; exact hQ) (by rw [setV, HB2.out, hQ]; rfl) (by unfold i64; omega))
      refine CS.out.mono ?_
      clear CS S
      rintro e w6 ⟨rfl, S, K⟩
      replace BL := bel_in BL K bS
      clear K
      go_wp2_with fail
      refine (getB_i (sp := 0) true _ S hI rfl (by decide)).mono ?_
      rintro e w7 ⟨vI, loI, hiI, rfl, -, -, E⟩
      replace S := S.ext E
      replace BL := below_then BL E
      clear E
      go_wp2_with fail
      refine (getV_i (sp := 0) false _ S hJ rfl (by decide)).mono ?_
      rintro e w8 ⟨vJ, loJ, hiJ, rfl, -, -, E⟩
      replace S := S.ext E
      replace BL := below_then BL E
      clear E
      clear hI hJ hP hQ
      go_wp2_with fail
      refine (new_i 30 30 _ rfl (by decide)).mono ?_
      rintro e w9 ⟨g9, loN, hiN, rfl, NS, lN, E⟩
      clear lN
      replace S := S.ext E
      replace BL := below_then BL E
      clear E
      go_wp2_with fail
      refine (same_any _ _ _ _ _ _ _ _ _ _ _ S NS).mono ?_
      rintro e w10 ⟨rfl, n10, rfl⟩
      rw [sameC_self]
      have E := below_drewn0 w9.heap.size w9 n10
      replace BL := below_then BL E
      clear E S NS
      generalize w9.drewN n10 = w10 at *
      go_wp2_with fail
      refine (known_any _).mono ?_
      rintro e w11 ⟨rfl, E⟩
      replace BL := below_then BL E
      clear E
      go_wp2
      go_ret
      exact ⟨rfl, BL⟩
  · have hI : okB 30 1 0 1 = true := by decide
    have hJ : okV 30 1 0 1 = false := by decide
    rcases (show m < 0 ∨ (0 ≤ m ∧ m + (nb : Int) ≤ 30) ∨ (0 ≤ m ∧ 30 < m + (nb : Int)) by omega) with h1 | ⟨h1, h2⟩ | ⟨h1, h2⟩
    · have hP : okB 30 1 m nb = false := by rw [okB, fits_f (by omega)]; decide
      have hQ : okV 30 1 m nv = false := by rw [okV, show isV 1 = false by decide, Bool.false_and]
      go_wp2_with fail
      have CS := hidden (setB_i (sp := 1) (a := m) lb false (Cs.zero 30) S (R1.out.below BL) (by rw [HB1.out]; exact hP) (by rw [setB, HB1.out, hP]; rfl) (by unfold i64; omega))
      refine CS.out.mono ?_
      clear CS S
      rintro e w5 ⟨rfl, S, K⟩
      replace BL := bel_in BL K bS
      clear K
      go_wp2_with fail
      have CS := hidden (setV_i (sp := 1) (a := m) lv false (Cs.zero 30) S (R2.out.below BL) (by rw [HB2.out]; exact hQ) (by rw [setV, HB2.out, hQ]; rfl) (by unfold i64; omega))
      refine CS.out.mono ?_
      clear CS S
      rintro e w6 ⟨rfl, S, K⟩
      replace BL := bel_in BL K bS
      clear K
      go_wp2_with fail
      refine (getB_i (sp := 1) true _ S hI rfl (by decide)).mono ?_
      rintro e w7 ⟨vI, loI, hiI, rfl, -, -, E⟩
      replace S := S.ext E
      replace BL := below_then BL E
      clear E
      go_wp2_with fail
      refine (getV_i (sp := 1) false _ S hJ rfl (by decide)).mono ?_
      rintro e w8 ⟨vJ, loJ, hiJ, rfl, -, -, E⟩
      replace S := S.ext E
      replace BL := below_then BL E
      clear E
      clear hI hJ hP hQ
      go_wp2_with fail
      refine (new_i 30 30 _ rfl (by decide)).mono ?_
      rintro e w9 ⟨g9, loN, hiN, rfl, NS, lN, E⟩
      clear lN
      replace S := S.ext E
      replace BL := below_then BL E
      clear E
      go_wp2_with fail
      refine (same_any _ _ _ _ _ _ _ _ _ _ _ S NS).mono ?_
      rintro e w10 ⟨rfl, n10, rfl⟩
      rw [sameC_self]
      have E := below_drewn0 w9.heap.size w9 n10
      replace BL := below_then BL E
      clear E S NS
      generalize w9.drewN n10 = w10 at *
      go_wp2_with fail
      refine (known_any _).mono ?_
      rintro e w11 ⟨rfl, E⟩
      replace BL := below_then BL E
      clear E
      go_wp2
      go_ret
      exact ⟨rfl, BL⟩
    · have hP : okB 30 1 m nb = true := by rw [okB, fits_t (by omega)]; decide
      have hQ : okV 30 1 m nv = false := by rw [okV, show isV 1 = false by decide, Bool.false_and]
      go_wp2_with fail
      have CS := hidden (setB_i (sp := 1) (a := m) lb true (setB 30 (Cs.zero 30) 1 m lb) S (R1.out.below BL) (by rw [HB1.out]; exact hP) (rfl) (by unfold i64; omega))
      refine CS.out.mono ?_
      clear CS S
      rintro e w5 ⟨rfl, S, K⟩
      replace BL := bel_in BL K bS
      clear K
      go_wp2_with fail
      have CS := hidden (setV_i (sp := 1) (a := m) lv false (setB 30 (Cs.zero 30) 1 m lb) S (R2.out.below BL) (by rw [HB2.out]; exact hQ) (by rw [setV, HB2.out, hQ]; rfl) (by unfold i64; omega))
      refine CS.out.mono ?_
      clear CS S
      rintro e w6 ⟨rfl, S, K⟩
      replace BL := bel_in BL K bS
      clear K
      go_wp2_with fail
      refine (getB_i (sp := 1) true _ S hI rfl (by decide)).mono ?_
      rintro e w7 ⟨vI, loI, hiI, rfl, -, -, E⟩
      replace S := S.ext E
      replace BL := below_then BL E
      clear E
      go_wp2_with fail
      refine (getV_i (sp := 1) false _ S hJ rfl (by decide)).mono ?_
      rintro e w8 ⟨vJ, loJ, hiJ, rfl, -, -, E⟩
      replace S := S.ext E
      replace BL := below_then BL E
      clear E
      clear hI hJ hP hQ
      go_wp2_with fail
      refine (known_any _).mono ?_
      rintro e w11 ⟨rfl, E⟩
      replace BL := below_then BL E
      clear E
      go_wp2
      go_ret
      exact ⟨rfl, BL⟩
    · have hP : okB 30 1 m nb = false := by rw [okB, fits_f (by omega)]; decide
      have hQ : okV 30 1 m nv = false := by rw [okV, show isV 1 = false by decide, Bool.false_and]
      go_wp2_with fail
      have CS := hidden (setB_i (sp := 1) (a := m) lb false (Cs.zero 30) S (R1.out.below BL) (by rw [HB1.out]; exact hP) (by rw [setB, HB1.out, hP]; rfl) (by unfold i64; omega))
      refine CS.out.mono ?_
      clear CS S
      rintro e w5 ⟨rfl, S, K⟩
      replace BL := bel_in BL K bS
      clear K
      go_wp2_with fail
      have CS := hidden (setV_i (sp := 1) (a := m) lv false (Cs.zero 30) S (R2.out.below BL) (by rw [HB2.out]; exact hQ) (by rw [setV, HB2.out, hQ]; rfl) (by unfold i64; omega))
      refine CS.out.mono ?_
      clear CS S
      rintro e w6 ⟨rfl, S, K⟩
      replace BL := bel_in BL K bS
      clear K
      go_wp2_with fail
      refine (getB_i (sp := 1) true _ S hI rfl (by decide)).mono ?_
      rintro e w7 ⟨vI, loI, hiI, rfl, -, -, E⟩
      replace S := S.ext E
      replace BL := below_then BL E
      clear E
      go_wp2_with fail
      refine (getV_i (sp := 1) false _ S hJ rfl (by decide)).mono ?_
      rintro e w8 ⟨vJ, loJ, hiJ, rfl, -, -, E⟩
      replace S := S.ext E
      replace BL := below_then BL E
      clear E
      clear hI hJ hP hQ
      go_wp2_with fail
      refine (new_i 30 30 _ rfl (by decide)).mono ?_
      rintro e w9 ⟨g9, loN, hiN, rfl, NS, lN, E⟩
      clear lN
      replace S := S.ext E
      replace BL := below_then BL E
      clear E
      go_wp2_with fail
      refine (same_any _ _ _ _ _ _ _ _ _ _ _ S NS).mono ?_
      rintro e w10 ⟨rfl, n10, rfl⟩
      rw [sameC_self]
      have E := below_drewn0 w9.heap.size w9 n10
      replace BL := below_then BL E
      clear E S NS
      generalize w9.drewN n10 = w10 at *
      go_wp2_with fail
      refine (known_any _).mono ?_
      rintro e w11 ⟨rfl, E⟩
      replace BL := below_then BL E
      clear E
      go_wp2
      go_ret
      exact ⟨rfl, BL⟩
  · have hI : okB 30 2 0 1 = false := by decide
    have hJ : okV 30 2 0 1 = true := by decide
    rcases (show m < 0 ∨ (0 ≤ m ∧ m + (nv : Int) ≤ 30) ∨ (0 ≤ m ∧ 30 < m + (nv : Int)) by omega) with h1 | ⟨h1, h2⟩ | ⟨h1, h2⟩
    · have hP : okB 30 2 m nb = false := by rw [okB, show isB 2 = false by decide, Bool.false_and]
      have hQ : okV 30 2 m nv = false := by rw [okV, fits_f (by omega)]; decide
      go_wp2_with fail
      have CS := hidden (setB_i (sp := 2) (a := m) lb false (Cs.zero 30) S (R1.out.below BL) (by rw [HB1.out]; exact hP) (by rw [setB, HB1.out, hP]; rfl) (by unfold i64; omega))
      refine CS.out.mono ?_
      clear CS S
      rintro e w5 ⟨rfl, S, K⟩
      replace BL := bel_in BL K bS
      clear K
      go_wp2_with fail
      have CS := hidden (setV_i (sp := 2) (a := m) lv false (Cs.zero 30) S (R2.out.below BL) (by rw [HB2.out]; exact hQ) (by rw [setV, HB2.out, hQ]; rfl) (by unfold i64; omega))
      refine CS.out.mono ?_
      clear CS S
      rintro e w6 ⟨rfl, S, K⟩
      replace BL := bel_in BL K bS
      clear K
      go_wp2_with fail
      refine (getB_i (sp := 2) false _ S hI rfl (by decide)).mono ?_
      rintro e w7 ⟨vI, loI, hiI, rfl, -, -, E⟩
      replace S := S.ext E
      replace BL := below_then BL E
      clear E
      go_wp2_with fail
      refine (getV_i (sp := 2) true _ S hJ rfl (by decide)).mono ?_
      rintro e w8 ⟨vJ, loJ, hiJ, rfl, -, -, E⟩
      replace S := S.ext E
      replace BL := below_then BL E
      clear E
      clear hI hJ hP hQ
      go_wp2_with fail
      refine (new_i 30 30 _ rfl (by decide)).mono ?_
      rintro e w9 ⟨g9, loN, hiN, rfl, NS, lN, E⟩
      clear lN
      replace S := S.ext E
      replace BL := below_then BL E
      clear E
      go_wp2_with fail
      refine (same_any _ _ _ _ _ _ _ _ _ _ _ S NS).mono ?_
      rintro e w10 ⟨rfl, n10, rfl⟩
      rw [sameC_self]
      have E := below_drewn0 w9.heap.size w9 n10
      replace BL := below_then BL E
      clear E S NS
      generalize w9.drewN n10 = w10 at *
      go_wp2_with fail
      refine (known_any _).mono ?_
      rintro e w11 ⟨rfl, E⟩
      replace BL := below_then BL E
      clear E
      go_wp2
      go_ret
      exact ⟨rfl, BL⟩
    · have hP : okB 30 2 m nb = false := by rw [okB, show isB 2 = false by decide, Bool.false_and]
      have hQ : okV 30 2 m nv = true := by rw [okV, fits_t (by omega)]; decide
      go_wp2_with fail
      have CS := hidden (setB_i (sp := 2) (a := m) lb false (Cs.zero 30) S (R1.out.below BL) (by rw [HB1.out]; exact hP) (by rw [setB, HB1.out, hP]; rfl) (by unfold i64; omega))
      refine CS.out.mono ?_
      clear CS S
      rintro e w5 ⟨rfl, S, K⟩
      replace BL := bel_in BL K bS
      clear K
      go_wp2_with fail
      have CS := hidden (setV_i (sp := 2) (a := m) lv true (setV 30 (Cs.zero 30) 2 m lv) S (R2.out.below BL) (by rw [HB2.out]; exact hQ) (rfl) (by unfold i64; omega))
      refine CS.out.mono ?_
      clear CS S
      rintro e w6 ⟨rfl, S, K⟩
      replace BL := bel_in BL K bS
      clear K
      go_wp2_with fail
      refine (getB_i (sp := 2) false _ S hI rfl (by decide)).mono ?_
      rintro e w7 ⟨vI, loI, hiI, rfl, -, -, E⟩
      replace S := S.ext E
      replace BL := below_then BL E
      clear E
      go_wp2_with fail
      refine (getV_i (sp := 2) true _ S hJ rfl (by decide)).mono ?_
      rintro e w8 ⟨vJ, loJ, hiJ, rfl, -, -, E⟩
      replace S := S.ext E
      replace BL := below_then BL E
      clear E
      clear hI hJ hP hQ
      go_wp2_with fail
      refine (known_any _).mono ?_
      rintro e w11 ⟨rfl, E⟩
      replace BL := below_then BL E
      clear E
      go_wp2
      go_ret
      exact ⟨rfl, BL⟩
    · have hP : okB 30 2 m nb = false := by rw [okB, show isB 2 = false by decide, Bool.false_and]
      have hQ : okV 30 2 m nv = false := by rw [okV, fits_f (by omega)]; decide
      go_wp2_with fail
      have CS := hidden (setB_i (sp := 2) (a := m) lb false (Cs.zero 30) S (R1.out.below BL) (by rw [HB1.out]; exact hP) (by rw [setB, HB1.out, hP]; rfl) (by unfold i64; omega))
      refine CS.out.mono ?_
      clear CS S
      rintro e w5 ⟨rfl, S, K⟩
      replace BL := bel_in BL K bS
      clear K
      go_wp2_with fail
      have CS := hidden (setV_i (sp := 2) (a := m) lv false (Cs.zero 30) S (R2.out.below BL) (by rw [HB2.out]; exact hQ) (by rw [setV, HB2.out, hQ]; rfl) (by unfold i64; omega))
      refine CS.out.mono ?_
      clear CS S
      rintro e w6 ⟨rfl, S, K⟩
      replace BL := bel_in BL K bS
      clear K
      go_wp2_with fail
      refine (getB_i (sp := 2) false _ S hI rfl (by decide)).mono ?_
      rintro e w7 ⟨vI, loI, hiI, rfl, -, -, E⟩
      replace S := S.ext E
      replace BL := below_then BL E
      clear E
      go_wp2_with fail
      refine (getV_i (sp := 2) true _ S hJ rfl (by decide)).mono ?_
      rintro e w8 ⟨vJ, loJ, hiJ, rfl, -, -, E⟩
      replace S := S.ext E
      replace BL := below_then BL E
      clear E
      clear hI hJ hP hQ
      go_wp2_with fail
      refine (new_i 30 30 _ rfl (by decide)).mono ?_
      rintro e w9 ⟨g9, loN, hiN, rfl, NS, lN, E⟩
      clear lN
      replace S := S.ext E
      replace BL := below_then BL E
      clear E
      go_wp2_with fail
      refine (same_any _ _ _ _ _ _ _ _ _ _ _ S NS).mono ?_
      rintro e w10 ⟨rfl, n10, rfl⟩
      rw [sameC_self]
      have E := below_drewn0 w9.heap.size w9 n10
      replace BL := below_then BL E
      clear E S NS
      generalize w9.drewN n10 = w10 at *
      go_wp2_with fail
      refine (known_any _).mono ?_
      rintro e w11 ⟨rfl, E⟩
      replace BL := below_then BL E
      clear E
      go_wp2
      go_ret
      exact ⟨rfl, BL⟩
  · have hI : okB 30 3 0 1 = false := by decide
    have hJ : okV 30 3 0 1 = true := by decide
    rcases (show m < 0 ∨ (0 ≤ m ∧ m + (nv : Int) ≤ 30) ∨ (0 ≤ m ∧ 30 < m + (nv : Int)) by omega) with h1 | ⟨h1, h2⟩ | ⟨h1, h2⟩
    · have hP : okB 30 3 m nb = false := by rw [okB, show isB 3 = false by decide, Bool.false_and]
      have hQ : okV 30 3 m nv = false := by rw [okV, fits_f (by omega)]; decide
      go_wp2_with fail
      have CS := hidden (setB_i (sp := 3) (a := m) lb false (Cs.zero 30) S (R1.out.below BL) (by rw [HB1.out]; exact hP) (by rw [setB, HB1.out, hP]; rfl) (by unfold i64; omega))
      refine CS.out.mono ?_
      clear CS S
      rintro e w5 ⟨rfl, S, K⟩
      replace BL := bel_in BL K bS
      clear K
      go_wp2_with fail
      have CS := hidden (setV_i (sp := 3) (a := m) lv false (Cs.zero 30) S (R2.out.below BL) (by rw [HB2.out]; exact hQ) (by rw [setV, HB2.out, hQ]; rfl) (by unfold i64; omega))
      refine CS.out.mono ?_
      clear CS S
      rintro e w6 ⟨rfl, S, K⟩
      replace BL := bel_in BL K bS
      clear K
      go_wp2_with fail
      refine (getB_i (sp := 3) false _ S hI rfl (by decide)).mono ?_
      rintro e w7 ⟨vI, loI, hiI, rfl, -, -, E⟩
      replace S := S.ext E
      replace BL := below_then BL E
      clear E
      go_wp2_with fail
      refine (getV_i (sp := 3) true _ S hJ rfl (by decide)).mono ?_
      rintro e w8 ⟨vJ, loJ, hiJ, rfl, -, -, E⟩
      replace S := S.ext E
      replace BL := below_then BL E
      clear E
      clear hI hJ hP hQ
      go_wp2_with fail
      refine (new_i 30 30 _ rfl (by decide)).mono ?_
      rintro e w9 ⟨g9, loN, hiN, rfl, NS, lN, E⟩
      clear lN
      replace S := S.ext E
      replace BL := below_then BL E
      clear E
      go_wp2_with fail
      refine (same_any _ _ _ _ _ _ _ _ _ _ _ S NS).mono ?_
      rintro e w10 ⟨rfl, n10, rfl⟩
      rw [sameC_self]
      have E := below_drewn0 w9.heap.size w9 n10
      replace BL := below_then BL E
      clear E S NS
      generalize w9.drewN n10 = w10 at *
      go_wp2_with fail
      refine (known_any _).mono ?_
      rintro e w11 ⟨rfl, E⟩
      replace BL := below_then BL E
      clear E
      go_wp2
      go_ret
      exact ⟨rfl, BL⟩
    · have hP : okB 30 3 m nb = false := by rw [okB, show isB 3 = false by decide, Bool.false_and]
      have hQ : okV 30 3 m nv = true := by rw [okV, fits_t (by omega)]; decide
      go_wp2_with fail
      have CS := hidden (setB_i (sp := 3) (a := m) lb false (Cs.zero 30) S (R1.out.below BL) (by rw [HB1.out]; exact hP) (by rw [setB, HB1.out, hP]; rfl) (by unfold i64; omega))
      refine CS.out.mono ?_
      clear CS S
      rintro e w5 ⟨rfl, S, K⟩
      replace BL := bel_in BL K bS
      clear K
      go_wp2_with fail
      have CS := hidden (setV_i (sp := 3) (a := m) lv true (setV 30 (Cs.zero 30) 3 m lv) S (R2.out.below BL) (by rw [HB2.out]; exact hQ) (rfl) (by unfold i64; omega))
      refine CS.out.mono ?_
      clear CS S
      rintro e w6 ⟨rfl, S, K⟩
      replace BL := bel_in BL K bS
      clear K
      go_wp2_with fail
      refine (getB_i (sp := 3) false _ S hI rfl (by decide)).mono ?_
      rintro e w7 ⟨vI, loI, hiI, rfl, -, -, E⟩
      replace S := S.ext E
      replace BL := below_then BL E
      clear E
      go_wp2_with fail
      refine (getV_i (sp := 3) true _ S hJ rfl (by decide)).mono ?_
      rintro e w8 ⟨vJ, loJ, hiJ, rfl, -, -, E⟩
      replace S := S.ext E
      replace BL := below_then BL E
      clear E
      clear hI hJ hP hQ
      go_wp2_with fail
      refine (known_any _).mono ?_
      rintro e w11 ⟨rfl, E⟩
      replace BL := below_then BL E
      clear E
      go_wp2
      go_ret
      exact ⟨rfl, BL⟩
    · have hP : okB 30 3 m nb = false := by rw [okB, show isB 3 = false by decide, Bool.false_and]
      have hQ : okV 30 3 m nv = false := by rw [okV, fits_f (by omega)]; decide
      go_wp2_with fail
      have CS := hidden (setB_i (sp := 3) (a := m) lb false (Cs.zero 30) S (R1.out.below BL) (by rw [HB1.out]; exact hP) (by rw [setB, HB1.out, hP]; rfl) (by unfold i64; omega))
      refine CS.out.mono ?_
      clear CS S
      rintro e w5 ⟨rfl, S, K⟩
      replace BL := bel_in BL K bS
      clear K
      go_wp2_with fail
      have CS := hidden (setV_i (sp := 3) (a := m) lv false (Cs.zero 30) S (R2.out.below BL) (by rw [HB2.out]; exact hQ) (by rw [setV, HB2.out, hQ]; rfl) (by unfold i64; omega))
      refine CS.out.mono ?_
      clear CS S
      rintro e w6 ⟨rfl, S, K⟩
      replace BL := bel_in BL K bS
      clear K
      go_wp2_with fail
      refine (getB_i (sp := 3) false _ S hI rfl (by decide)).mono ?_
      rintro e w7 ⟨vI, loI, hiI, rfl, -, -, E⟩
      replace S := S.ext E
      replace BL := below_then BL E
      clear E
      go_wp2_with fail
      refine (getV_i (sp := 3) true _ S hJ rfl (by decide)).mono ?_
      rintro e w8 ⟨vJ, loJ, hiJ, rfl, -, -, E⟩
      replace S := S.ext E
      replace BL := below_then BL E
      clear E
      clear hI hJ hP hQ
      go_wp2_with fail
      refine (new_i 30 30 _ rfl (by decide)).mono ?_
      rintro e w9 ⟨g9, loN, hiN, rfl, NS, lN, E⟩
      clear lN
      replace S := S.ext E
      replace BL := below_then BL E
      clear E
      go_wp2_with fail
      refine (same_any _ _ _ _ _ _ _ _ _ _ _ S NS).mono ?_
      rintro e w10 ⟨rfl, n10, rfl⟩
      rw [sameC_self]
      have E := below_drewn0 w9.heap.size w9 n10
      replace BL := below_then BL E
      clear E S NS
      generalize w9.drewN n10 = w10 at *
      go_wp2_with fail
      refine (known_any _).mono ?_
      rintro e w11 ⟨rfl, E⟩
      replace BL := below_then BL E
      clear E
      go_wp2
      go_ret
      exact ⟨rfl, BL⟩
  · have hB : isB sp = false := by simp [isB]; simp at s0 s1; exact ⟨s0, s1⟩
    have hV : isV sp = false := by simp [isV]; simp at s2 s3; exact ⟨s2, s3⟩
    have hI : okB 30 sp 0 1 = false := by rw [okB, hB, Bool.false_and]
    have hJ : okV 30 sp 0 1 = false := by rw [okV, hV, Bool.false_and]
    have hP : okB 30 sp m nb = false := by rw [okB, hB, Bool.false_and]
    have hQ : okV 30 sp m nv = false := by rw [okV, hV, Bool.false_and]
    clear hB hV
    go_wp2_with fail
    have CS := hidden (setB_i (sp := sp) (a := m) lb false (Cs.zero 30) S (R1.out.below BL) (by rw [HB1.out]; exact hP) (by rw [setB, HB1.out, hP]; rfl) (by unfold i64; omega))
    refine CS.out.mono ?_
    clear CS S
    rintro e w5 ⟨rfl, S, K⟩
    replace BL := bel_in BL K bS
    clear K
    go_wp2_with fail
    have CS := hidden (setV_i (sp := sp) (a := m) lv false (Cs.zero 30) S (R2.out.below BL) (by rw [HB2.out]; exact hQ) (by rw [setV, HB2.out, hQ]; rfl) (by unfold i64; omega))
    refine CS.out.mono ?_
    clear CS S
    rintro e w6 ⟨rfl, S, K⟩
    replace BL := bel_in BL K bS
    clear K
    go_wp2_with fail
    refine (getB_i (sp := sp) false _ S hI rfl (by decide)).mono ?_
    rintro e w7 ⟨vI, loI, hiI, rfl, -, -, E⟩
    replace S := S.ext E
    replace BL := below_then BL E
    clear E
    go_wp2_with fail
    refine (getV_i (sp := sp) false _ S hJ rfl (by decide)).mono ?_
    rintro e w8 ⟨vJ, loJ, hiJ, rfl, -, -, E⟩
    replace S := S.ext E
    replace BL := below_then BL E
    clear E
    clear hI hJ hP hQ
    go_wp2_with fail
    refine (new_i 30 30 _ rfl (by decide)).mono ?_
    rintro e w9 ⟨g9, loN, hiN, rfl, NS, lN, E⟩
    clear lN
    replace S := S.ext E
    replace BL := below_then BL E
    clear E
    go_wp2_with fail
    refine (same_any _ _ _ _ _ _ _ _ _ _ _ S NS).mono ?_
    rintro e w10 ⟨rfl, n10, rfl⟩
    rw [sameC_self]
    have E := below_drewn0 w9.heap.size w9 n10
    replace BL := below_then BL E
    clear E S NS
    generalize w9.drewN n10 = w10 at *
    go_wp2_with fail
    refine (known_any _).mono ?_
    rintro e w11 ⟨rfl, E⟩
    replace BL := below_then BL E
    clear E
    go_wp2
    go_ret
    exact ⟨rfl, BL⟩

end Go.Proofs.Ytaabjgdomookkaa
