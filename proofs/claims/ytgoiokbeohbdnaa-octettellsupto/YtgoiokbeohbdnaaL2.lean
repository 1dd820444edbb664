import Derived.Test.YtgoiokbeohbdnaaL0
import Derived.Test.YtgoiokbeohbdnaaK2
/- Contracts of the statements' own helpers: known, same. -/
import Derived.Laws.BytesArg
namespace Go.Proofs.Ytgoiokbeohbdnaa
open Go.RowKit
set_option maxRecDepth 100000 in
set_option maxHeartbeats 4000000 in
theorem same_any (v vl vw : Value) (bs : List UInt8) (n at' : Int) (l : List Bool) (ws : List UInt16) (w : World) (hn : -9223372036854775808 ≤ n ∧ n ≤ 9223372036854775807) (ha : -9223372036854775808 ≤ at' ∧ at' ≤ 9223372036854775807)
    (hv : Row w v (bs.map bV)) (hl : Row w vl (l.map Value.bool)) (hw : Row w vw (ws.map wV)) (r1 : 8 * bs.length ≤ 140737488351232) (r2 : l.length ≤ 140737488351232) (r3 : ws.length * 2 ≤ 140737488351232) :
    Calls Try.prog 8 #[v, .int .i64 n, .int .i64 at', vl, vw] w fun e w' => e = .returned (.bool true) ∧ Below w.heap.size w w' := by
  obtain ⟨N1, hN1⟩ : ∃ N, getN bs at' = N := ⟨_, rfl⟩
  obtain ⟨b1, hb1⟩ : ∃ b, getOk bs at' = b := ⟨_, rfl⟩
  obtain ⟨b2, hb2⟩ : ∃ b, openOk bs n = b := ⟨_, rfl⟩
  obtain ⟨b3, hb3⟩ : ∃ b, (bs.length % 2 == 0) = b := ⟨_, rfl⟩
  obtain ⟨P, hP⟩ : ∃ b, openR bs n = b := ⟨_, rfl⟩
  obtain ⟨U, hU⟩ : ∃ b, wordsR bs = b := ⟨_, rfl⟩
  have C1 := hidden (get_any v bs at' w ha hv)
  rw [hN1, hb1] at C1
  have C2 := hidden (fun w' (h : Row w' v (bs.map bV)) => rget_any v bs at' w' ha h)
  rw [hN1, hb1] at C2
  have C3 := hidden (fun w' (h : Row w' v (bs.map bV)) => open_any v bs n w' hn h (by omega))
  rw [hP, hb2] at C3
  have C4 := hidden (fun w' (h : Row w' v (bs.map bV)) => ropen_any v bs n w' hn h (by omega))
  rw [hP, hb2] at C4
  have C5 := hidden (fun w' (h : Row w' v (bs.map bV)) => words_any v bs w' h (by omega))
  rw [hU, hb3] at C5
  have C6 := hidden (fun w' (h : Row w' v (bs.map bV)) => rwords_any v bs w' h (by omega))
  rw [hU, hb3] at C6
  clear hN1 hb1 hb2 hb3 hP hU
  have E1 : Hid ((P == P) = true) := by show _ = _; simp
  have E2 : Hid ((U == U) = true) := by show _ = _; simp
  go_enter Try.func8, Try.ntmps8
  go_wp2_with fail
  refine C1.out.mono ?_
  rintro e w1 ⟨rfl, nq, rfl⟩
  have hb1 := below_drewn0 w.heap.size w nq
  generalize w.drewN nq = w1 at *
  go_wp2_with fail
  refine (C2.out _ (hv.below hb1)).mono ?_
  rintro e w2 ⟨rfl, nq, rfl⟩
  replace hb1 := below_drewn hb1 nq
  generalize w1.drewN nq = w2 at *
  go_wp2_with fail
  refine (C3.out _ (hv.below hb1)).mono ?_
  rintro e w3 ⟨vp, rfl, hp3, hb3⟩
  replace hb3 := below_then hb1 hb3
  clear hb1
  go_wp2_with fail
  refine (C4.out _ (hv.below hb3)).mono ?_
  rintro e w4 ⟨vq, rfl, hq4, hb4⟩
  have hp4 := hp3.below hb4
  replace hb4 := below_then hb3 hb4
  clear hb3 hp3
  go_wp2_with fail
  refine (C5.out _ (hv.below hb4)).mono ?_
  rintro e w5 ⟨vu, rfl, hu5, hb5⟩
  have hp5 := hp4.below hb5
  have hq5 := hq4.below hb5
  replace hb5 := below_then hb4 hb5
  clear hb4 hp4 hq4
  go_wp2_with fail
  refine (C6.out _ (hv.below hb5)).mono ?_
  rintro e w6 ⟨vx, rfl, hx6, hb6⟩
  have hp6 := hp5.below hb6
  have hq6 := hq5.below hb6
  have hu6 := hu5.below hb6
  replace hb6 := below_then hb5 hb6
  clear hb5 hp5 hq5 hu5 C1 C2 C3 C4 C5 C6
  replace hb6 := hb6.drew
  replace hp6 := hp6.drew
  replace hq6 := hq6.drew
  replace hu6 := hu6.drew
  replace hx6 := hx6.drew
  go_wp2
  refine wp_region_pi [(0, true), (1, true), (2, true), (3, true), (4, true), (5, true), (6, true), (7, true), (8, true), (9, true), (10, true), (11, false), (12, true), (13, true), (14, true), (15, true), (16, true), (17, true), (18, true), (19, true), (20, true), (21, false), (22, true), (23, true), (24, true), (25, true), (26, true), (27, true), (28, true), (29, true), (30, true), (33, true), (34, true), (31, false), (32, true), (35, false), (36, true), (37, true), (38, true), (39, true), (40, true), (43, true), (41, false), (42, true), (44, false), (45, true), (46, true), (47, true), (48, true), (49, true), (52, true), (50, false), (51, true), (53, false), (54, true), (55, true), (56, true), (57, true)] (by kernel_rfl) (by kernel_rfl) (by kernel_rfl) (fun _ _ _ d _ h => by cases d <;> exact h) ?_
  have x6 := Ext.refl w6.drew
  generalize w6.drew = w6 at *
  iterate 11 (refine pi_pure x6 rfl (by kernel_rfl) (fun w' => by go_simp; with_reducible rfl) ?_; simp only [Act.put, List.setIfInBounds_toArray, List.set_cons_zero, List.set_cons_succ])
  refine pi_move rfl (by kernel_rfl) (fun K hK => ?_)
  go_wp2_with fail
  refine (same_bool _ _ P P _ hp6 hq6).mono ?_
  rintro e w7 ⟨rfl, hb7⟩
  rw [E1.out]
  replace hu6 := hu6.below hb7
  replace hx6 := hx6.below hb7
  replace hb6 := below_then hb6 hb7
  have x7 := x6.trans hb7
  go_simp
  refine hK.out _ _ x7 ?_
  clear hb7 K hK hp6 hq6
  try simp only [Act.put, List.setIfInBounds_toArray, List.set_cons_zero, List.set_cons_succ]
  iterate 9 (refine pi_pure x7 rfl (by kernel_rfl) (fun w' => by go_simp; with_reducible rfl) ?_; simp only [Act.put, List.setIfInBounds_toArray, List.set_cons_zero, List.set_cons_succ])
  refine pi_move rfl (by kernel_rfl) (fun K hK => ?_)
  go_wp2_with fail
  refine (same_u16 _ _ U U _ hu6 hx6).mono ?_
  rintro e w8 ⟨rfl, hb8⟩
  rw [E2.out]
  replace hb6 := below_then hb6 hb8
  have x8 := x7.trans hb8
  go_simp
  refine hK.out _ _ x8 ?_
  clear hb8 K hK hu6 hx6 x7
  try simp only [Act.put, List.setIfInBounds_toArray, List.set_cons_zero, List.set_cons_succ]
  iterate 11 (refine pi_pure x8 rfl (by kernel_rfl) (fun w' => by go_simp; with_reducible rfl) ?_; simp only [Act.put, List.setIfInBounds_toArray, List.set_cons_zero, List.set_cons_succ])
  refine pi_move rfl (by kernel_rfl) (fun K hK => ?_)
  go_wp2_with fail
  refine (put_any _ bs n _ hn (hv.below hb6) (by omega)).mono ?_
  rintro e w9 ⟨v9, rfl, hr9, hb9⟩
  replace hb6 := below_then hb6 hb9
  have x9 := x8.trans hb9
  go_simp
  refine hK.out _ _ x9 ?_
  clear K hK hb9 x8
  try simp only [Act.put, List.setIfInBounds_toArray, List.set_cons_zero, List.set_cons_succ]
  have hc9 := fun w' (hx : Ext w9 w') => conv_row (P := Try.prog) (hr9.below hx) 24 9 5 Try.underlying24 Try.underlying5 Try.underlying9
  refine pi_read x9 rfl (by kernel_rfl) (fun w' hx => by have h := hc9 w' hx; go_simp; with_reducible rfl) ?_
  try simp only [Act.put, List.setIfInBounds_toArray, List.set_cons_zero, List.set_cons_succ]
  clear hc9 x9
  refine pi_move rfl (by kernel_rfl) (fun K hK => ?_)
  go_wp2_with fail
  refine (rput_any _ bs n _ hn (hv.below hb6) (by omega)).mono ?_
  rintro e w10 ⟨v10, rfl, hr10, hb10⟩
  replace hb6 := below_then hb6 hb10
  go_simp
  refine hK.out _ _ hb10 ?_
  clear K hK hr9
  try simp only [Act.put, List.setIfInBounds_toArray, List.set_cons_zero, List.set_cons_succ]
  have hc10 := fun w' (hx : Ext w10 w') => conv_row (P := Try.prog) (hr10.below hx) 24 9 5 Try.underlying24 Try.underlying5 Try.underlying9
  refine pi_read hb10 rfl (by kernel_rfl) (fun w' hx => by have h := hc10 w' hx; go_simp; with_reducible rfl) ?_
  try simp only [Act.put, List.setIfInBounds_toArray, List.set_cons_zero, List.set_cons_succ]
  have x10 := Ext.refl w10
  clear hc10 hb10 hr10
  iterate 5 (refine pi_pure x10 rfl (by kernel_rfl) (fun w' => by go_simp; with_reducible rfl) ?_; simp only [Act.put, List.setIfInBounds_toArray, List.set_cons_zero, List.set_cons_succ])
  refine pi_move rfl (by kernel_rfl) (fun K hK => ?_)
  go_wp2_with fail
  refine (pack_any _ l _ (hl.below hb6) r2).mono ?_
  rintro e w11 ⟨v11, rfl, hr11, hb11⟩
  replace hb6 := below_then hb6 hb11
  have x11 := x10.trans hb11
  go_simp
  refine hK.out _ _ x11 ?_
  clear K hK hb11 x10
  try simp only [Act.put, List.setIfInBounds_toArray, List.set_cons_zero, List.set_cons_succ]
  have hc11 := fun w' (hx : Ext w11 w') => conv_row (P := Try.prog) (hr11.below hx) 24 9 5 Try.underlying24 Try.underlying5 Try.underlying9
  refine pi_read x11 rfl (by kernel_rfl) (fun w' hx => by have h := hc11 w' hx; go_simp; with_reducible rfl) ?_
  try simp only [Act.put, List.setIfInBounds_toArray, List.set_cons_zero, List.set_cons_succ]
  clear hc11 x11
  refine pi_move rfl (by kernel_rfl) (fun K hK => ?_)
  go_wp2_with fail
  refine (rpack_any _ l _ (hl.below hb6) r2).mono ?_
  rintro e w12 ⟨v12, rfl, hr12, hb12⟩
  replace hb6 := below_then hb6 hb12
  go_simp
  refine hK.out _ _ hb12 ?_
  clear K hK hr11
  try simp only [Act.put, List.setIfInBounds_toArray, List.set_cons_zero, List.set_cons_succ]
  have hc12 := fun w' (hx : Ext w12 w') => conv_row (P := Try.prog) (hr12.below hx) 24 9 5 Try.underlying24 Try.underlying5 Try.underlying9
  refine pi_read hb12 rfl (by kernel_rfl) (fun w' hx => by have h := hc12 w' hx; go_simp; with_reducible rfl) ?_
  try simp only [Act.put, List.setIfInBounds_toArray, List.set_cons_zero, List.set_cons_succ]
  have x12 := Ext.refl w12
  clear hc12 hb12 hr12
  iterate 5 (refine pi_pure x12 rfl (by kernel_rfl) (fun w' => by go_simp; with_reducible rfl) ?_; simp only [Act.put, List.setIfInBounds_toArray, List.set_cons_zero, List.set_cons_succ])
  refine pi_move rfl (by kernel_rfl) (fun K hK => ?_)
  go_wp2_with fail
  refine (bytes_any _ ws _ (hw.below hb6) r3).mono ?_
  rintro e w13 ⟨v13, rfl, hr13, hb13⟩
  replace hb6 := below_then hb6 hb13
  have x13 := x12.trans hb13
  go_simp
  refine hK.out _ _ x13 ?_
  clear K hK hb13 x12
  try simp only [Act.put, List.setIfInBounds_toArray, List.set_cons_zero, List.set_cons_succ]
  have hc13 := fun w' (hx : Ext w13 w') => conv_row (P := Try.prog) (hr13.below hx) 24 9 5 Try.underlying24 Try.underlying5 Try.underlying9
  refine pi_read x13 rfl (by kernel_rfl) (fun w' hx => by have h := hc13 w' hx; go_simp; with_reducible rfl) ?_
  try simp only [Act.put, List.setIfInBounds_toArray, List.set_cons_zero, List.set_cons_succ]
  clear hc13 x13
  refine pi_move rfl (by kernel_rfl) (fun K hK => ?_)
  go_wp2_with fail
  refine (rbytes_any _ ws _ (hw.below hb6) r3).mono ?_
  rintro e w14 ⟨v14, rfl, hr14, hb14⟩
  replace hb6 := below_then hb6 hb14
  go_simp
  refine hK.out _ _ hb14 ?_
  clear K hK hr13
  try simp only [Act.put, List.setIfInBounds_toArray, List.set_cons_zero, List.set_cons_succ]
  have hc14 := fun w' (hx : Ext w14 w') => conv_row (P := Try.prog) (hr14.below hx) 24 9 5 Try.underlying24 Try.underlying5 Try.underlying9
  refine pi_read hb14 rfl (by kernel_rfl) (fun w' hx => by have h := hc14 w' hx; go_simp; with_reducible rfl) ?_
  try simp only [Act.put, List.setIfInBounds_toArray, List.set_cons_zero, List.set_cons_succ]
  have x14 := Ext.refl w14
  clear hc14 hb14 hr14
  iterate 3 (refine pi_pure x14 rfl (by kernel_rfl) (fun w' => by go_simp; with_reducible rfl) ?_; simp only [Act.put, List.setIfInBounds_toArray, List.set_cons_zero, List.set_cons_succ])
  refine pi_nil ?_
  go_wp2
  go_ret
  exact ⟨rfl, hb6⟩

end Go.Proofs.Ytgoiokbeohbdnaa
