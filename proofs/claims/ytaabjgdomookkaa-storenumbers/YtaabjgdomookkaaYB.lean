/- The walk of burgagelaw8.StoreApart. -/
import Derived.Test.YtaabjgdomookkaaYA
namespace Go.Proofs.Ytaabjgdomookkaa
open Go.RowKit

theorem RowI.shape {lo hi : Nat} {w : World} {v : Value} {α : Type} {f : α → Value} {l : List α} (h : RowI lo hi w v (l.map f)) (n : Nat) (hn : l.length = n) : ∃ a c, v = .slice a n c ∧ n ≤ c ∧ c ≤ maxLen := by
  obtain ⟨a, cap, e, h1, h2, -⟩ := h.row
  simp only [List.length_map, hn] at e h1
  exact ⟨a, cap, e, h1, h2⟩
theorem sub_same {α : Type} (L ys : List α) (k : Nat) (h : k + ys.length ≤ L.length) : sub (splice L k ys) (k : Int) (ys.length : Int) = ys := by
  unfold sub splice
  have e : (L.take k).length = k := by simp; omega
  rw [Int.toNat_natCast, Int.toNat_natCast, List.drop_left' e, List.take_left]
theorem sub_before {α : Type} (L ys : List α) (k : Nat) (h : k ≤ L.length) : sub (splice L k ys) 0 (k : Int) = L.take k := by
  unfold sub splice
  have e : (L.take k).length = k := by simp; omega
  rw [Int.toNat_natCast, Int.toNat_zero, List.drop_zero, List.take_left' e]
theorem sub_behind {α : Type} (L ys : List α) (k n : Nat) (h : k + ys.length ≤ L.length) (hn : n = L.length) : sub (splice L k ys) ((k : Int) + (ys.length : Int)) ((n : Int) - (k : Int) - (ys.length : Int)) = L.drop (k + ys.length) := by
  subst hn
  unfold sub splice
  have e1 : ((k : Int) + (ys.length : Int)).toNat = k + ys.length := by omega
  have e2 : ((L.length : Int) - (k : Int) - (ys.length : Int)).toNat = L.length - k - ys.length := by omega
  rw [e1, e2, ← List.append_assoc, List.drop_left' (by simp; omega), List.take_of_length_le (by simp; omega)]
def apS (k : Nat) (lv : List UInt16) (lb : List Bool) : Cs := ⟨splice (List.replicate 60 false) k lb, List.replicate 60 false, splice (List.replicate 60 0) k lv, List.replicate 60 0⟩
section
variable {k : Nat} {lv : List UInt16} {lb : List Bool}
theorem ap1 (hk : k ≤ 40) (h1 : lv.length ≤ 20) : okV 60 2 (k : Int) (lv.length : Int) = true ∧ setV 60 (Cs.zero 60) 2 (k : Int) lv = ⟨List.replicate 60 false, List.replicate 60 false, splice (List.replicate 60 0) k lv, List.replicate 60 0⟩ := by
  have e : okV 60 2 (k : Int) (lv.length : Int) = true := by rw [okV, fits_t (by omega)]; decide
  exact ⟨e, by rw [setV, if_pos e]; simp [putRV, rowV, Cs.zero]⟩
theorem ap2 (hk : k ≤ 40) (h2 : lb.length ≤ 20) : okB 60 0 (k : Int) (lb.length : Int) = true ∧ setB 60 ⟨List.replicate 60 false, List.replicate 60 false, splice (List.replicate 60 0) k lv, List.replicate 60 0⟩ 0 (k : Int) lb = apS k lv lb := by
  have e : okB 60 0 (k : Int) (lb.length : Int) = true := by rw [okB, fits_t (by omega)]; decide
  exact ⟨e, by rw [setB, if_pos e]; simp [putRB, rowB, apS]⟩
theorem ap3 (hk : k ≤ 40) (h1 : lv.length ≤ 20) : okV 60 2 (k : Int) (lv.length : Int) = true ∧ getV 60 (apS k lv lb) 2 (k : Int) (lv.length : Int) = lv := by
  have e : okV 60 2 (k : Int) (lv.length : Int) = true := by rw [okV, fits_t (by omega)]; decide
  exact ⟨e, by rw [getV, if_pos e]; simp only [rowV, apS, if_true]; exact sub_same _ _ _ (by simp; omega)⟩
theorem ap4 (hk : k ≤ 40) (h2 : lb.length ≤ 20) : okB 60 0 (k : Int) (lb.length : Int) = true ∧ getB 60 (apS k lv lb) 0 (k : Int) (lb.length : Int) = lb := by
  have e : okB 60 0 (k : Int) (lb.length : Int) = true := by rw [okB, fits_t (by omega)]; decide
  exact ⟨e, by rw [getB, if_pos e]; simp only [rowB, apS, if_true]; exact sub_same _ _ _ (by simp; omega)⟩
theorem ap5 : okV 60 3 0 60 = true ∧ getV 60 (apS k lv lb) 3 0 60 = List.replicate 60 0 := by
  have e : okV 60 3 0 60 = true := by decide
  exact ⟨e, by rw [getV, if_pos e]; rfl⟩
theorem ap6 : okB 60 1 0 60 = true ∧ getB 60 (apS k lv lb) 1 0 60 = List.replicate 60 false := by
  have e : okB 60 1 0 60 = true := by decide
  exact ⟨e, by rw [getB, if_pos e]; rfl⟩
theorem ap7 (hk : k ≤ 40) : okV 60 2 0 (k : Int) = true ∧ getV 60 (apS k lv lb) 2 0 (k : Int) = List.replicate k 0 := by
  have e : okV 60 2 0 (k : Int) = true := by rw [okV, fits_t (by omega)]; decide
  refine ⟨e, ?_⟩
  rw [getV, if_pos e]
  simp only [rowV, apS, if_true]
  rw [sub_before _ _ _ (by simp; omega), List.take_replicate, Nat.min_eq_left (by omega)]
theorem ap8 (hk : k ≤ 40) (h1 : lv.length ≤ 20) : okV 60 2 ((k : Int) + (lv.length : Int)) (60 - (k : Int) - (lv.length : Int)) = true ∧ getV 60 (apS k lv lb) 2 ((k : Int) + (lv.length : Int)) (60 - (k : Int) - (lv.length : Int)) = List.replicate (60 - k - lv.length) 0 := by
  have e : okV 60 2 ((k : Int) + (lv.length : Int)) (60 - (k : Int) - (lv.length : Int)) = true := by rw [okV, fits_t (by omega)]; decide
  refine ⟨e, ?_⟩
  rw [getV, if_pos e]
  simp only [rowV, apS, if_true]
  have := sub_behind (List.replicate 60 (0 : UInt16)) lv k 60 (by simp; omega) (by simp)
  rw [show ((60 : Nat) : Int) = 60 from rfl] at this
  rw [this, List.drop_replicate, Nat.sub_sub]
theorem ap9 : okV 60 3 0 1 = true ∧ getV 60 (apS k lv lb) 3 0 1 = [0] := by
  have e : okV 60 3 0 1 = true := by decide
  exact ⟨e, by rw [getV, if_pos e]; rfl⟩
end
theorem rep_cell {w : World} {a : Option Addr} {n c N : Nat} (h : Row w (.slice a n c) ((List.replicate N (0 : UInt16)).map wV)) (hn : n = N) {j : Nat} (hj : j < n) : ∃ b off, a = some ⟨b, off, none⟩ ∧ w.cell? ⟨b, off + j, none⟩ = some (.int .u16 0) := by
  subst hn
  obtain ⟨-, -, -, hcell⟩ := h.at
  obtain ⟨b, off, rfl, hcl⟩ := hcell j 0 hj
  refine ⟨b, off, rfl, ?_⟩
  rw [hcl j hj, List.getD_eq_getElem?_getD, List.getElem?_replicate]
  rw [if_pos hj]; rfl
theorem rep_cellB {w : World} {a : Option Addr} {n c N : Nat} (h : Row w (.slice a n c) ((List.replicate N false).map Value.bool)) (hn : n = N) {j : Nat} (hj : j < n) : ∃ b off, a = some ⟨b, off, none⟩ ∧ w.cell? ⟨b, off + j, none⟩ = some (.bool false) := by
  subst hn
  obtain ⟨-, -, -, hcell⟩ := h.at
  obtain ⟨b, off, rfl, hcl⟩ := hcell j false hj
  refine ⟨b, off, rfl, ?_⟩
  rw [hcl j hj, List.getD_eq_getElem?_getD, List.getElem?_replicate]
  rw [if_pos hj]; rfl

set_option maxRecDepth 100000 in
set_option maxHeartbeats 8000000 in
theorem apart_law (vv vl : Value) (v : List UInt16) (l : List Bool) (a : Int) (w : World) (hv : Row w vv (v.map wV)) (hl : Row w vl (l.map Value.bool)) (ha : i64 a) :
    Calls Try.prog 5 #[.int .i64 a, vv, vl] w fun e w' => e = .returned (.bool true) ∧ Below w.heap.size w w' := by
  have BL := Below.refl w.heap.size w
  obtain ⟨al, len1, cl, nb, lb, rfl, -, hc1, hm1, hk1, hn1, hb1, hmin1, hr1⟩ := cut_min hl 20 20 rfl
  obtain ⟨av, len2, cv, nv, lv, rfl, -, hc2, hm2, hk2, hn2, hb2, hmin2, hr2⟩ := cut_min hv 20 20 rfl
  unfold maxLen at hm1 hm2
  have R1 := hidden hr1
  have R2 := hidden hr2
  have HB1 := hidden hb1
  have HB2 := hidden hb2
  clear hl hv hr1 hr2 hb1 hb2
  go_enter Try.func5, Try.ntmps5
  go_wp2_with fail
  refine (new_i 60 60 _ rfl (by decide)).mono ?_
  rintro e w1 ⟨g, loS, hiS, rfl, S, lS, E⟩
  have bS := Nat.le_trans BL.size lS
  clear lS
  replace BL := below_then BL E
  clear E
  go_wp2_with fail
  refine (within_any a 0 40 _ ha (by decide) (by decide) (by decide)).mono ?_
  rintro e w2 ⟨⟨m, rfl, m0, m1⟩, rfl⟩
  obtain ⟨k, rfl⟩ : ∃ k : Nat, m = (k : Int) := ⟨m.toNat, by omega⟩
  have hk : k ≤ 40 := by omega
  clear m0 m1
  have P1 := hidden (ap1 (lv := lv) hk (by rw [HB2.out]; exact hk2))
  have P2 := hidden (ap2 (lv := lv) (lb := lb) hk (by rw [HB1.out]; exact hk1))
  have P3 := hidden (ap3 (lv := lv) (lb := lb) hk (by rw [HB2.out]; exact hk2))
  have P4 := hidden (ap4 (lv := lv) (lb := lb) hk (by rw [HB1.out]; exact hk1))
  have P5 := hidden (ap5 (k := k) (lv := lv) (lb := lb))
  have P6 := hidden (ap6 (k := k) (lv := lv) (lb := lb))
  have P7 := hidden (ap7 (lv := lv) (lb := lb) hk)
  have P8 := hidden (ap8 (lv := lv) (lb := lb) hk (by rw [HB2.out]; exact hk2))
  have P9 := hidden (ap9 (k := k) (lv := lv) (lb := lb))
  have HK : Hid (k ≤ 40 ∧ nv ≤ 20) := ⟨hk, hk2⟩
  rw [HB2.out] at P3 P8
  rw [HB1.out] at P4
  go_wp2_with fail
  refine (setV_i lv true _ S (R2.out.below BL) P1.out.1 P1.out.2 (by unfold i64; omega)).mono ?_
  clear S P1
  rintro e w3 ⟨rfl, S, K⟩
  replace BL := bel_in BL K bS
  clear K
  go_wp2_with fail
  refine (setB_i lb true _ S (R1.out.below BL) P2.out.1 P2.out.2 (by unfold i64; omega)).mono ?_
  clear S P2
  rintro e w4 ⟨rfl, S, K⟩
  replace BL := bel_in BL K bS
  clear K
  go_wp2_with fail
  refine (copy_i S).mono ?_
  rintro e w5 ⟨gc, loC, hiC, rfl, C, lC, E⟩
  have oSC := Nat.le_trans S.top lC
  have bC := Nat.le_trans BL.size lC
  clear lC
  replace S := S.ext E
  replace BL := below_then BL E
  clear E
  go_wp2_with fail
  refine (getV_i true _ C P3.out.1 P3.out.2 (by unfold i64; omega)).mono ?_
  rintro e w6 ⟨vX, loX, hiX, rfl, X, lX, E⟩
  have oSX := Nat.le_trans S.top lX
  have oCX := Nat.le_trans C.top lX
  have bX := Nat.le_trans BL.size lX
  clear lX
  replace S := S.ext E
  replace C := C.ext E
  replace BL := below_then BL E
  clear E
  obtain ⟨aX, cX, rfl, uX, tX⟩ := X.shape nv (HB2.out)
  unfold maxLen at tX
  clear P3
  go_wp2_with fail
  refine (getB_i true _ C P4.out.1 P4.out.2 (by unfold i64; omega)).mono ?_
  rintro e w7 ⟨vY, loY, hiY, rfl, Y, lY, E⟩
  have oSY := Nat.le_trans S.top lY
  have oCY := Nat.le_trans C.top lY
  have oXY := Nat.le_trans X.top lY
  have bY := Nat.le_trans BL.size lY
  clear lY
  replace S := S.ext E
  replace C := C.ext E
  replace X := X.ext E
  replace BL := below_then BL E
  clear E
  obtain ⟨aY, cY, rfl, uY, tY⟩ := Y.shape nb (HB1.out)
  unfold maxLen at tY
  clear P4
  go_wp2_with fail
  refine (getV_i true _ C P5.out.1 P5.out.2 (by unfold i64; omega)).mono ?_
  rintro e w8 ⟨vH, loH, hiH, rfl, H, lH, E⟩
  have oSH := Nat.le_trans S.top lH
  have oCH := Nat.le_trans C.top lH
  have oXH := Nat.le_trans X.top lH
  have oYH := Nat.le_trans Y.top lH
  have bH := Nat.le_trans BL.size lH
  clear lH
  replace S := S.ext E
  replace C := C.ext E
  replace X := X.ext E
  replace Y := Y.ext E
  replace BL := below_then BL E
  clear E
  obtain ⟨aH, cH, rfl, uH, tH⟩ := H.shape 60 (by simp)
  unfold maxLen at tH
  clear P5
  go_wp2_with fail
  refine (getB_i true _ C P6.out.1 P6.out.2 (by unfold i64; omega)).mono ?_
  rintro e w9 ⟨vD, loD, hiD, rfl, D, lD, E⟩
  have oSD := Nat.le_trans S.top lD
  have oCD := Nat.le_trans C.top lD
  have oXD := Nat.le_trans X.top lD
  have oYD := Nat.le_trans Y.top lD
  have oHD := Nat.le_trans H.top lD
  have bD := Nat.le_trans BL.size lD
  clear lD
  replace S := S.ext E
  replace C := C.ext E
  replace X := X.ext E
  replace Y := Y.ext E
  replace H := H.ext E
  replace BL := below_then BL E
  clear E
  obtain ⟨aD, cD, rfl, uD, tD⟩ := D.shape 60 (by simp)
  unfold maxLen at tD
  clear P6
  go_wp2_with fail
  refine (getV_i true _ C P7.out.1 P7.out.2 (by unfold i64; omega)).mono ?_
  rintro e wa ⟨vF, loF, hiF, rfl, F, lF, E⟩
  have oSF := Nat.le_trans S.top lF
  have oCF := Nat.le_trans C.top lF
  have oXF := Nat.le_trans X.top lF
  have oYF := Nat.le_trans Y.top lF
  have oHF := Nat.le_trans H.top lF
  have oDF := Nat.le_trans D.top lF
  have bF := Nat.le_trans BL.size lF
  clear lF
  replace S := S.ext E
  replace C := C.ext E
  replace X := X.ext E
  replace Y := Y.ext E
  replace H := H.ext E
  replace D := D.ext E
  replace BL := below_then BL E
  clear E
  obtain ⟨aF, cF, rfl, uF, tF⟩ := F.shape k (by simp)
  unfold maxLen at tF
  clear P7
  go_wp2_with fail
  refine (getV_i true _ C P8.out.1 P8.out.2 (by unfold i64; omega)).mono ?_
  rintro e wb ⟨vG, loG, hiG, rfl, G, lG, E⟩
  have oSG := Nat.le_trans S.top lG
  have oCG := Nat.le_trans C.top lG
  have oXG := Nat.le_trans X.top lG
  have oYG := Nat.le_trans Y.top lG
  have oHG := Nat.le_trans H.top lG
  have oDG := Nat.le_trans D.top lG
  have oFG := Nat.le_trans F.top lG
  have bG := Nat.le_trans BL.size lG
  clear lG
  replace S := S.ext E
  replace C := C.ext E
  replace X := X.ext E
  replace Y := Y.ext E
  replace H := H.ext E
  replace D := D.ext E
  replace F := F.ext E
  replace BL := below_then BL E
  clear E
  obtain ⟨aG, cG, rfl, uG, tG⟩ := G.shape (60 - k - nv) (by simp)
  unfold maxLen at tG
  clear P8
  have A0 := (Below.refl wb.heap.size wb).alloc (Nat.le_refl _) (.cells #[] 24)
  have O0 : (wb.alloc (.cells #[] 24)).ownsRow wb.heap.size 24 1 (.slice (some ⟨wb.heap.size, 0, none⟩) 0 0) 0 [] :=
    ⟨rfl, .inr ⟨wb.heap.size, 0, #[], rfl, Nat.le_refl _, heap_alloc_new wb _, Nat.zero_le _, by unfold maxLen; omega, by simp, by simp⟩⟩
  go_wp2_with (at_builtin; refine wpList_app rfl (.tmp 107) (.tmp 108) 25 rfl wb.heap.size 24 (.int .u16 0) 2 Try.underlying25 info_u16 rfl rfl O0 rfl (H.ext A0).row (one_words _) (by have := HK.out; first | (simp [maxLen]; done) | (simp [maxLen]; omega)) (by have := HK.out; first | (simp; done) | (simp; omega)) (by first | (simp; done) | exact A0.size) ?_)
  intro v1 wc o1 hg
  have A1 := A0.grown hg (by first | (simp; done) | exact A0.size) (fun k hk => (O0.lt k hk).1)
  clear hg O0 A0
  go_wp2_with (at_builtin; refine wpList_app rfl (.tmp 109) (.tmp 110) 25 rfl wb.heap.size 24 (.int .u16 0) 2 Try.underlying25 info_u16 rfl rfl o1 rfl (F.ext A1).row (one_words _) (by have := HK.out; first | (simp [maxLen]; done) | (simp [maxLen]; omega)) (by have := HK.out; first | (simp; done) | (simp; omega)) (by first | (simp; done) | exact A1.size) ?_)
  intro v2 wd o2 hg
  have A2 := A1.grown hg A1.size (fun k hk => (o1.lt k hk).1)
  clear hg o1 A1
  go_wp2_with (at_builtin; refine wpList_app rfl (.tmp 111) (.tmp 112) 25 rfl wb.heap.size 24 (.int .u16 0) 2 Try.underlying25 info_u16 rfl rfl o2 rfl (G.ext A2).row (one_words _) (by have := HK.out; first | (simp [maxLen]; done) | (simp [maxLen]; omega)) (by have := HK.out; first | (simp; done) | (simp; omega)) (by first | (simp; done) | exact A2.size) ?_)
  intro v3 we o3 hg
  have A3 := A2.grown hg A2.size (fun k hk => (o2.lt k hk).1)
  clear hg o2 A2
  replace o3 := Row.of_owns o3
  replace S := S.ext A3
  replace C := C.ext A3
  replace X := X.ext A3
  replace Y := Y.ext A3
  replace H := H.ext A3
  replace D := D.ext A3
  replace F := F.ext A3
  replace G := G.ext A3
  replace BL := below_then BL A3
  clear A3
  obtain ⟨N, hN⟩ : ∃ N, N = 60 + k + (60 - k - nv) := ⟨_, rfl⟩
  replace o3 : Row we v3 ((List.replicate N (0 : UInt16)).map wV) := by
    rw [hN]
    simpa [← List.replicate_append_replicate, HB2.out] using o3
  obtain ⟨a3, c3, e3, q1, q2, -⟩ := id o3
  simp only [List.length_map, List.length_replicate] at e3 q1
  subst e3
  unfold maxLen at q2
  clear hN
  go_wp2
  go_loopw [115] (fun i wr => ∃ j : Nat, j ≤ N ∧ i = .int .i64 j ∧ we = wr) (fun i _ => N - (intOf i).toNat)
  case atStart => exact ⟨0, Nat.zero_le _, rfl, rfl⟩
  case round =>
    obtain ⟨j, hj, rfl, rfl⟩ := hrel
    by_cases hlt : j < N
    · obtain ⟨b, off, rfl, cc⟩ := rep_cell o3 rfl hlt
      have hlt' : (j : Int) < (N : Int) := by omega
      go_wp2
      go_roundw
      case rel => exact ⟨j + 1, by omega, by go_num, trivial⟩
      case measure => simp [intOf]; omega
    · have hlt' : ¬ (j : Int) < (N : Int) := by omega
      clear hj hlt o3 q1 q2
      go_wp2
      go_loopw [124] (fun i wr => ∃ j : Nat, j ≤ 60 ∧ i = .int .i64 j ∧ we = wr) (fun i _ => 60 - (intOf i).toNat)
      case atStart => exact ⟨0, Nat.zero_le _, rfl, rfl⟩
      case round =>
        obtain ⟨j, hj, rfl, rfl⟩ := hrel
        by_cases hlt : j < 60
        · obtain ⟨b, off, rfl, cc⟩ := rep_cellB D.row rfl hlt
          have hlt' : (j : Int) < 60 := by omega
          go_wp2
          go_roundw
          case rel => exact ⟨j + 1, by omega, by go_num, trivial⟩
          case measure => simp [intOf]; omega
        · have hlt' : ¬ (j : Int) < 60 := by omega
          clear hj hlt
          go_wp2_with fail
          have EA := (Below.refl we.heap.size we).alloc (Nat.le_refl _) (.cells #[.int .u16 1] 24)
          have R := row_new we [.int .u16 1] 24 1 rfl (by decide)
          replace S := S.ext EA
          replace C := C.ext EA
          replace X := X.ext EA
          replace Y := Y.ext EA
          replace H := H.ext EA
          replace D := D.ext EA
          replace F := F.ext EA
          replace G := G.ext EA
          replace BL := below_then BL EA
          clear EA
          refine (setV_i [1] true _ C R (by decide) rfl (by decide)).mono ?_
          clear C R
          rintro e wf ⟨rfl, C, K⟩
          replace S := S.kp K (In.apart oSC)
          replace X := X.kp K (In.apart' oCX)
          replace Y := Y.kp K (In.apart' oCY)
          replace H := H.kp K (In.apart' oCH)
          replace D := D.kp K (In.apart' oCD)
          replace F := F.kp K (In.apart' oCF)
          replace G := G.kp K (In.apart' oCG)
          replace BL := bel_in BL K bC
          clear K
          go_wp2_with fail
          refine (getV_i true _ S P9.out.1 P9.out.2 (by decide)).mono ?_
          rintro e wg ⟨vZ, loZ, hiZ, rfl, Z, lZ, E⟩
          have oSZ := Nat.le_trans S.top lZ
          have oCZ := Nat.le_trans C.top lZ
          have oXZ := Nat.le_trans X.top lZ
          have oYZ := Nat.le_trans Y.top lZ
          have oHZ := Nat.le_trans H.top lZ
          have oDZ := Nat.le_trans D.top lZ
          have oFZ := Nat.le_trans F.top lZ
          have oGZ := Nat.le_trans G.top lZ
          have bZ := Nat.le_trans BL.size lZ
          clear lZ
          replace S := S.ext E
          replace C := C.ext E
          replace X := X.ext E
          replace Y := Y.ext E
          replace H := H.ext E
          replace D := D.ext E
          replace F := F.ext E
          replace G := G.ext E
          replace BL := below_then BL E
          clear E
          clear P9
          obtain ⟨bz, oz, cz, rfl, zc⟩ := row_one Z.row
          go_wp2_with fail
          refine (booksameV _ _ lv _ X.row (R2.out.below BL)).mono ?_
          rintro e wh ⟨rfl, nh, rfl⟩
          have E := below_drewn0 wg.heap.size wg nh
          replace S := S.ext E
          replace C := C.ext E
          replace X := X.ext E
          replace Y := Y.ext E
          replace H := H.ext E
          replace D := D.ext E
          replace F := F.ext E
          replace G := G.ext E
          replace Z := Z.ext E
          replace BL := below_then BL E
          clear E
          replace zc : (wg.drewN nh).cell? ⟨bz, oz, none⟩ = some (.int .u16 0) := zc
          generalize wg.drewN nh = wh at *
          go_wp2_with fail
          refine (booksameB _ _ lb _ Y.row (R1.out.below BL)).mono ?_
          rintro e wi ⟨rfl, ni, rfl⟩
          have E := below_drewn0 wh.heap.size wh ni
          replace S := S.ext E
          replace C := C.ext E
          replace X := X.ext E
          replace Y := Y.ext E
          replace H := H.ext E
          replace D := D.ext E
          replace F := F.ext E
          replace G := G.ext E
          replace Z := Z.ext E
          replace BL := below_then BL E
          clear E
          replace zc : (wh.drewN ni).cell? ⟨bz, oz, none⟩ = some (.int .u16 0) := zc
          generalize wh.drewN ni = wi at *
          go_wp2_with fail
          refine (known_any _).mono ?_
          rintro e wj ⟨rfl, E⟩
          replace BL := below_then BL E
          clear E
          go_wp2
          go_ret
          exact ⟨rfl, BL⟩

end Go.Proofs.Ytaabjgdomookkaa
