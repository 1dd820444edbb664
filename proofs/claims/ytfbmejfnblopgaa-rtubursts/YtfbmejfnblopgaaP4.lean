/- The contract of the reference's Unseal. -/
import Derived.Test.YtfbmejfnblopgaaP3
namespace Go.Proofs.Ytfbmejfnblopgaa
open Go.RowKit

set_option maxRecDepth 100000 in
set_option maxHeartbeats 1000000 in
theorem unseal_any (v : Value) (bs : List UInt8) (w : World) (hv : Row w v (bs.map bV)) (hr : bs.length ≤ 140737488355000) :
    Calls Try.prog 26 #[v] w fun e w' => ∃ v', e = .returned (.tuple #[v', .bool (unsealOk bs)]) ∧ Row w' v' ((unsealR bs).map bV) ∧ Below w.heap.size w w' := by
  obtain ⟨a, cap, rfl, -⟩ := id hv
  obtain ⟨hl, hc, hm, -⟩ := hv.at
  simp only [List.length_map] at hl hc hv ⊢
  by_cases h2 : bs.length < 2
  · have ok : unsealOk bs = false := by simp [unsealOk]; omega
    have ur : unsealR bs = [] := by simp [unsealR, ok]
    rw [ok, ur]
    have h2' : (bs.length : Int) - 2 < 0 := by omega
    clear hv ok ur
    go_enter Try.func26, Try.ntmps26
    go_wp2
    go_quiet (fail)
    go_wp2
    go_ret2
    exact ⟨_, rfl, Row.nil _, below_drewn0 _ _ _⟩
  · have h2' : ¬ (bs.length : Int) - 2 < 0 := by omega
    have hb2 : 2 ≤ bs.length := by omega
    have hcp : bs.length ≤ cap := hc
    unfold maxLen at hm
    have hp := hv.take (bs.length - 2) (by omega)
    rw [← List.map_take] at hp
    have hx := hidden (unsealOk_iff bs hb2)
    have hx2 : Hid (unsealR bs = if unsealOk bs = true then bs.take (bs.length - 2) else []) := rfl
    obtain ⟨P, hP⟩ : ∃ P, bs.take (bs.length - 2) = P := ⟨_, rfl⟩
    have hPl : P.length = bs.length - 2 := by rw [← hP]; simp
    rw [hP] at hx hx2 hp
    clear hP
    obtain ⟨ok, hok⟩ : ∃ b, (sealL P == bs) = b := ⟨_, rfl⟩
    have HOK := hidden hok
    rw [hok] at hx
    rw [hx.out] at hx2 ⊢
    rw [hx2.out]
    clear hok hx hx2
    have hcv := fun w' (h : Ext w w') => conv_row (P := Try.prog) (hv.below h) 23 9 5 Try.underlying23 Try.underlying5 Try.underlying9
    have x0 := below_drewn0 w.heap.size w 1
    go_enter Try.func26, Try.ntmps26
    go_wp2
    refine wp_region_pi [(0, true), (1, true), (2, true), (3, true), (4, true), (5, true), (8, true), (9, true), (6, false), (7, true), (10, true), (11, true)] (by kernel_rfl) (by kernel_rfl) (by kernel_rfl) (fun _ _ _ d _ h => by cases d <;> exact h) ?_
    have x6 := Ext.refl w.drew
    have hd : decide ((bs.length : Int) - 2 < 0) = false := by rw [decide_eq_false_iff_not]; omega
    have hn : ((bs.length : Int) - 2).toNat = bs.length - 2 := by omega
    have hlim : 2 ≤ (bs.length : Int) ∧ (bs.length : Int) - 2 ≤ (cap : Int) := by omega
    iterate 3 (refine pi_pure x6 rfl (by kernel_rfl) (fun w' => by go_simp; with_reducible rfl) ?_; simp only [Act.put, List.setIfInBounds_toArray, List.set_cons_zero, List.set_cons_succ])
    try simp only [hd]
    iterate 2 (refine pi_pure x6 rfl (by kernel_rfl) (fun w' => by go_simp; with_reducible rfl) ?_; simp only [Act.put, List.setIfInBounds_toArray, List.set_cons_zero, List.set_cons_succ])
    refine pi_pure (v := .slice a (bs.length - 2) cap) x6 rfl (by kernel_rfl) (fun w' => by go_simp) ?_
    simp only [Act.put, List.setIfInBounds_toArray, List.set_cons_zero, List.set_cons_succ]
    iterate 1 (refine pi_pure x6 rfl (by kernel_rfl) (fun w' => by go_simp; with_reducible rfl) ?_; simp only [Act.put, List.setIfInBounds_toArray, List.set_cons_zero, List.set_cons_succ])
    refine pi_read x6 rfl (by kernel_rfl) (fun w' hx => by have h := hcv w' (Ext.trans x0 hx); go_simp; with_reducible rfl) ?_
    simp only [Act.put, List.setIfInBounds_toArray, List.set_cons_zero, List.set_cons_succ]
    refine pi_move rfl (by kernel_rfl) (fun K hK => ?_)
    go_wp2_with fail
    refine (rseal_any _ P _ (hp.below x0) (by omega)).mono ?_
    rintro e w7 ⟨v7, rfl, hr7, hb7⟩
    have x7 := x6.trans hb7
    have hb := below_then x0 hb7
    go_simp
    refine hK.out _ _ x7 ?_
    clear K hK hb7 x6
    try simp only [Act.put, List.setIfInBounds_toArray, List.set_cons_zero, List.set_cons_succ]
    have hc7 := fun w' (hx : Ext w7 w') => conv_row (P := Try.prog) (hr7.below hx) 23 9 5 Try.underlying23 Try.underlying5 Try.underlying9
    refine pi_read x7 rfl (by kernel_rfl) (fun w' hx => by have h := hc7 w' hx; go_simp; with_reducible rfl) ?_
    try simp only [Act.put, List.setIfInBounds_toArray, List.set_cons_zero, List.set_cons_succ]
    clear hc7 x7
    have x10 := Ext.refl w7
    iterate 2 (refine pi_pure x10 rfl (by kernel_rfl) (fun w' => by go_simp; with_reducible rfl) ?_; simp only [Act.put, List.setIfInBounds_toArray, List.set_cons_zero, List.set_cons_succ])
    refine pi_nil ?_
    rw [HOK.out]
    clear HOK hcv hr7 x10
    have hz : w.heap.size ≤ w7.heap.size := hb.size
    cases ok
    · go_wp2
      go_ret2
      exact ⟨_, rfl, Row.nil _, hb⟩
    · have hb0 : Below w.heap.size w (w7.alloc (.cells #[] 5)) := hb.alloc hz _
      have ho0 := World.ownsRow_made (base := w7.heap.size) (e := 5) (size := 1) w7 #[] 0 (Nat.le_refl _) (Nat.zero_le _) (by simp)
      have hp0 := hp.below hb0
      go_wp2_with (at_builtin; refine wpList_app rfl (.tmp 20) (.tmp 23) 23 rfl w7.heap.size 5 (.int .u8 0) 1 Try.underlying23 info_u8 rfl rfl ho0 rfl hp0 (one_bytes P) ?h1 ?h2 ?h3 ?_)
      case h1 => simp [maxLen]; omega
      case h2 => simp; omega
      case h3 => simp
      intro v1 w1 ho1 hg1
      go_wp2
      go_ret2
      refine ⟨_, rfl, Row.of_owns ho1, ?_⟩
      exact hb0.grown hg1 (by simp; omega) (fun k hk => by simp [Value.ownBlock] at hk; omega)

end Go.Proofs.Ytfbmejfnblopgaa
