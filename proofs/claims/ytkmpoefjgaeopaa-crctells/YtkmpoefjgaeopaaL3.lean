/- Contracts of the second statements' own helpers: known, same. -/
import Derived.Test.YtkmpoefjgaeopaaP4
namespace Go.Proofs.Ytkmpoefjgaeopaa
open Go.RowKit

theorem seal_b (v : Value) (bs p : List UInt8) (w : World) (hv : Row w v (bs.map bV)) (hr : bs.length ≤ 140737488355000) (h1 : sealL bs = p) :
    Calls Try.prog 11 #[v] w fun e w' => ∃ v', e = .returned v' ∧ Row w' v' (p.map bV) ∧ Below w.heap.size w w' := by
  subst h1; exact seal_any v bs w hv hr
theorem copen_b (v : Value) (bs p : List UInt8) (ok : Bool) (w : World) (hv : Row w v (bs.map bV)) (hr : bs.length ≤ 140737488355328) (h1 : unsealR bs = p) (h2 : unsealOk bs = ok) :
    Calls Try.prog 12 #[v] w fun e w' => ∃ v', e = .returned (.tuple #[v', .bool ok]) ∧ Row w' v' (p.map bV) ∧ Below w.heap.size w w' := by
  subst h1 h2; exact copen_any v bs w hv hr
theorem of_b (v : Value) (bs : List UInt8) (n : Int) (w : World) (hv : Row w v (bs.map bV)) (h : ((crcN bs : Nat) : Int) = n) :
    Calls Try.prog 13 #[v] w fun e w' => e = .returned (.int .u16 n) ∧ Below w.heap.size w w' := by
  subst h
  refine (of_any v bs w hv).mono ?_
  rintro e w' ⟨rfl, rfl⟩
  exact ⟨rfl, Below.refl _ _⟩

set_option maxHeartbeats 2000000 in
theorem known2_any (w : World) : Calls Try.prog 9 #[] w fun e w' => e = .returned (.bool true) ∧ Below w.heap.size w w' := by
  have kc := kc
  go_enter Try.func9, Try.ntmps9
  go_wp2_with fail
  refine (seal_b _ [97, 98] (sealL [97, 98]) _ (row_mark w [.int .u8 97, .int .u8 98] 5 _ 2 rfl (by decide)) (by decide) rfl).mono ?_
  rintro e w1 ⟨v1, rfl, hr1, hb1⟩
  replace hb1 := below_step (Below.refl _ _) hb1
  go_wp2_with fail
  refine (copen_b _ _ [97, 98] true _ hr1 (by decide) (by decide +kernel) (by decide +kernel)).mono ?_
  rintro e w2 ⟨v2, rfl, hr2, hb2⟩
  replace hb2 := below_then hb1 hb2
  clear hb1 hr1
  go_wp2_with fail
  refine (copen_b _ [] [] false _ (Row.nil _) (by decide) rfl rfl).mono ?_
  rintro e w3 ⟨v3, rfl, hr3, hb3⟩
  replace hr2 := hr2.below hb3
  replace hb3 := below_then hb2 hb3
  clear hb2 hr3
  go_wp2_with fail
  refine (of_b _ [] 65535 _ (Row.nil _) rfl).mono ?_
  rintro e w4 ⟨rfl, hb4⟩
  replace hr2 := hr2.below hb4
  replace hb4 := below_then hb3 hb4
  clear hb3
  go_wp2_with fail
  refine (of_b _ [49, 50, 51, 52, 53, 54, 55, 56, 57] 19255 _ (row_mark w4 _ 5 _ 9 rfl (by decide)) (by decide +kernel)).mono ?_
  rintro e w5 ⟨rfl, hb5⟩
  replace hr2 := hr2.below (below_step (Below.refl _ _) hb5)
  replace hb5 := below_step hb4 hb5
  clear hb4
  have hc2 := conv_row (P := Try.prog) hr2 22 9 5 Try.underlying22 Try.underlying5 Try.underlying9
  go_wp2_with fail
  refine (seal_b _ [49, 50, 51, 52, 53, 54, 55, 56, 57] [49, 50, 51, 52, 53, 54, 55, 56, 57, 55, 75] _ (row_mark w5 _ 5 _ 9 rfl (by decide)) (by decide) (by decide +kernel)).mono ?_
  rintro e w6 ⟨v6, rfl, hr6, hb6⟩
  replace hb6 := below_step hb5 hb6
  have hc6 := conv_row (P := Try.prog) hr6 22 9 5 Try.underlying22 Try.underlying5 Try.underlying9
  clear hb5 hr2 hc2
  go_wp2
  go_ret
  exact ⟨rfl, hb6⟩

set_option maxRecDepth 100000 in
set_option maxHeartbeats 2000000 in
theorem same2_any (v : Value) (bs : List UInt8) (w : World) (hv : Row w v (bs.map bV)) (hr : bs.length ≤ 140737488355000) :
    Calls Try.prog 7 #[v] w fun e w' => e = .returned (.bool true) ∧ Below w.heap.size w w' := by
  obtain ⟨P, hP⟩ : ∃ b, unsealR bs = b := ⟨_, rfl⟩
  obtain ⟨ok, hok⟩ : ∃ b, unsealOk bs = b := ⟨_, rfl⟩
  obtain ⟨s, hs⟩ : ∃ b, crcN bs = b := ⟨_, rfl⟩
  have C1 := hidden (copen_any v bs w hv (by omega))
  rw [hP, hok] at C1
  have C2 := hidden (fun w' (h : Row w' v (bs.map bV)) => unseal_any v bs w' h hr)
  rw [hP, hok] at C2
  have C3 := hidden (fun w' (h : Row w' v (bs.map bV)) => of_any v bs w' h)
  rw [hs] at C3
  have C4 := hidden (fun w' (h : Row w' v (bs.map bV)) => rsum_any v bs w' h)
  rw [hs] at C4
  clear hP hok hs
  have E3 : ((s : Int) == (s : Int)) = true := by simp
  have E4 : (ok == ok) = true := by simp
  go_enter Try.func7, Try.ntmps7
  go_wp2_with fail
  refine C1.out.mono ?_
  rintro e w1 ⟨v1, rfl, hr1, hb1⟩
  go_wp2_with fail
  refine (C2.out _ (hv.below hb1)).mono ?_
  rintro e w2 ⟨v2, rfl, hr2, hb2⟩
  replace hr1 := hr1.below hb2
  replace hb2 := below_then hb1 hb2
  clear hb1 C1 C2
  replace hb2 := hb2.drew
  replace hr1 := hr1.drew
  replace hr2 := hr2.drew
  go_wp2
  refine wp_region_pi [(0, true), (2, true), (1, false), (3, false), (4, true), (5, true), (6, true), (9, true), (7, false), (8, true), (10, false), (11, true), (12, true), (13, true), (14, true), (15, true), (16, true), (17, true), (18, true), (19, true), (20, true), (21, true), (22, true), (23, true), (24, true), (25, true), (26, true)] (by kernel_rfl) (by kernel_rfl) (by kernel_rfl) (fun _ _ _ d _ h => by cases d <;> exact h) ?_
  have x2 := Ext.refl w2.drew
  generalize w2.drew = w2 at *
  iterate 2 (refine pi_pure x2 rfl (by kernel_rfl) (fun w' => by go_simp; with_reducible rfl) ?_; simp only [Act.put, List.setIfInBounds_toArray, List.set_cons_zero, List.set_cons_succ])
  refine pi_move rfl (by kernel_rfl) (fun K hK => ?_)
  go_wp2_with fail
  refine (C3.out _ (hv.below hb2)).mono ?_
  rintro e w3 ⟨rfl, rfl⟩
  go_simp
  refine hK.out _ _ x2 ?_
  clear K hK C3
  try simp only [Act.put, List.setIfInBounds_toArray, List.set_cons_zero, List.set_cons_succ]
  refine pi_move rfl (by kernel_rfl) (fun K hK => ?_)
  go_wp2_with fail
  refine (C4.out _ (hv.below hb2)).mono ?_
  rintro e w3 ⟨rfl, rfl⟩
  go_simp
  refine hK.out _ _ x2 ?_
  clear K hK C4
  try simp only [Act.put, List.setIfInBounds_toArray, List.set_cons_zero, List.set_cons_succ]
  iterate 4 (refine pi_pure x2 rfl (by kernel_rfl) (fun w' => by go_simp; with_reducible rfl) ?_; simp only [Act.put, List.setIfInBounds_toArray, List.set_cons_zero, List.set_cons_succ])
  refine pi_move rfl (by kernel_rfl) (fun K hK => ?_)
  go_wp2_with fail
  refine (seal_any _ bs _ (hv.below hb2) hr).mono ?_
  rintro e w5 ⟨v5, rfl, hr5, hb5⟩
  have x5 := x2.trans hb5
  replace hr1 := hr1.below hb5
  replace hr2 := hr2.below hb5
  replace hb2 := below_then hb2 hb5
  go_simp
  refine hK.out _ _ x5 ?_
  clear K hK hb5 x2
  try simp only [Act.put, List.setIfInBounds_toArray, List.set_cons_zero, List.set_cons_succ]
  have hc5 := fun w' (hx : Ext w5 w') => conv_row (P := Try.prog) (hr5.below hx) 22 9 5 Try.underlying22 Try.underlying5 Try.underlying9
  refine pi_read x5 rfl (by kernel_rfl) (fun w' hx => by have h := hc5 w' hx; go_simp; with_reducible rfl) ?_
  try simp only [Act.put, List.setIfInBounds_toArray, List.set_cons_zero, List.set_cons_succ]
  clear hc5 x5
  refine pi_move rfl (by kernel_rfl) (fun K hK => ?_)
  go_wp2_with fail
  refine (rseal_any _ bs _ (hv.below hb2) hr).mono ?_
  rintro e w6 ⟨v6, rfl, hr6, hb6⟩
  replace hr1 := hr1.below hb6
  replace hr2 := hr2.below hb6
  replace hb2 := below_then hb2 hb6
  go_simp
  refine hK.out _ _ hb6 ?_
  clear K hK hr5
  try simp only [Act.put, List.setIfInBounds_toArray, List.set_cons_zero, List.set_cons_succ]
  have hc6 := fun w' (hx : Ext w6 w') => conv_row (P := Try.prog) (hr6.below hx) 22 9 5 Try.underlying22 Try.underlying5 Try.underlying9
  refine pi_read hb6 rfl (by kernel_rfl) (fun w' hx => by have h := hc6 w' hx; go_simp; with_reducible rfl) ?_
  try simp only [Act.put, List.setIfInBounds_toArray, List.set_cons_zero, List.set_cons_succ]
  have x6 := Ext.refl w6
  clear hc6 hb6 hr6
  iterate 4 (refine pi_pure x6 rfl (by kernel_rfl) (fun w' => by go_simp; with_reducible rfl) ?_; simp only [Act.put, List.setIfInBounds_toArray, List.set_cons_zero, List.set_cons_succ])
  have hc1 := fun w' (hx : Ext w6 w') => conv_row (P := Try.prog) (hr1.below hx) 22 9 5 Try.underlying22 Try.underlying5 Try.underlying9
  refine pi_read x6 rfl (by kernel_rfl) (fun w' hx => by have h := hc1 w' hx; go_simp; with_reducible rfl) ?_
  try simp only [Act.put, List.setIfInBounds_toArray, List.set_cons_zero, List.set_cons_succ]
  iterate 1 (refine pi_pure x6 rfl (by kernel_rfl) (fun w' => by go_simp; with_reducible rfl) ?_; simp only [Act.put, List.setIfInBounds_toArray, List.set_cons_zero, List.set_cons_succ])
  have hc2 := fun w' (hx : Ext w6 w') => conv_row (P := Try.prog) (hr2.below hx) 22 9 5 Try.underlying22 Try.underlying5 Try.underlying9
  refine pi_read x6 rfl (by kernel_rfl) (fun w' hx => by have h := hc2 w' hx; go_simp; with_reducible rfl) ?_
  try simp only [Act.put, List.setIfInBounds_toArray, List.set_cons_zero, List.set_cons_succ]
  clear hc1 hc2
  iterate 8 (refine pi_pure x6 rfl (by kernel_rfl) (fun w' => by go_simp; with_reducible rfl) ?_; simp only [Act.put, List.setIfInBounds_toArray, List.set_cons_zero, List.set_cons_succ])
  refine pi_nil ?_
  go_wp2
  go_ret
  exact ⟨rfl, hb2⟩

end Go.Proofs.Ytkmpoefjgaeopaa
