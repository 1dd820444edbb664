/- burgagelaw9.known. -/
import Derived.Test.YtdihcdphgiaepaaZZ48
namespace Go.Proofs.Ytdihcdphgiaepaa
open Go.RowKit
set_option maxRecDepth 100000 in
set_option maxHeartbeats 4000000 in
theorem known9 (w : World) : Calls Try.prog 11 #[] w fun e w' => e = .returned (.bool true) ∧ Below w.heap.size w w' := by
 have BW := Below.refl w.heap.size w
 go_enter Try.func11, Try.ntmps11
 go_wp2_with fail
 refine (vnew_any 4 4 w rfl (by omega)).mono ?_
 rintro e u1 ⟨g, gs, lo, hi, rfl, D, hg1, hg2, E⟩
 have HG : Hid (w.heap.size ≤ lo ∧ hi ≤ g ∧ w.heap.size ≤ g) := ⟨by have := BW.size; omega, hg2, by have := BW.size; have := D.sto.me; have h1 := this.1; have h2 := this.2; omega⟩
 clear hg1 hg2
 replace BW := below_then BW E
 clear E
 have D0 : DD u1 g gs lo hi 4 ⟨⟨List.replicate 4 false, List.replicate 4 false, List.replicate 4 0, [0, 0, 0, 0]⟩, 0, 0, 0⟩ := D
 clear D
 have D := D0
 clear D0
 go_wp2_with fail
 refine (vnew_bad 0 u1 (by omega)).mono ?_
 rintro e u1' ⟨rfl, rfl⟩
 go_wp2_with fail
 refine (vstore_any g gs 0 0 0 u1 D.blk).mono ?_
 rintro e u1' ⟨rfl, rfl⟩
 go_wp2_with fail
 obtain ⟨X0, hX0⟩ : ∃ X, doD 4 ⟨⟨List.replicate 4 false, List.replicate 4 false, List.replicate 4 0, [0, 0, 0, 0]⟩, 0, 0, 0⟩ ⟨1, 4, 1, 0, 0, [], [], 0, 0⟩ = X := ⟨_, rfl⟩
 refine (vdo_any g gs lo hi 4 ⟨⟨List.replicate 4 false, List.replicate 4 false, List.replicate 4 0, [0, 0, 0, 0]⟩, 0, 0, 0⟩ ⟨1, 4, 1, 0, 0, [], [], 0, 0⟩ _ u1 D ⟨_, _, rfl, RowF.nil _ _, RowF.nil _ _⟩ ⟨by simp, by simp, by simp, by simp⟩ ⟨by simp, by simp⟩).mono ?_
 rintro e u2 ⟨v', rfl, NR, D2, KK⟩
 rw [hX0] at NR D2
 have HX0 := hidden hX0
 clear hX0
 obtain ⟨vb, vv, vd, rfl, ⟨NB0, NV0, ND0⟩, nb, nv, nd⟩ := NR
 have hg := D.blk.lt
 have hh := D.sto.top
 clear D
 have D := D2
 clear D2
 replace BW := bw_gd BW KK HG.out
 clear KK
 have NB0 : RowF (Gd g lo hi) u2 _ _ := ⟨NB0, fun _ => nw_off nb hg hh⟩
 have NV0 : RowF (Gd g lo hi) u2 _ _ := ⟨NV0, fun _ => nw_off nv hg hh⟩
 have ND0 : RowF (Gd g lo hi) u2 _ _ := ⟨ND0, fun _ => nw_off nd hg hh⟩
 clear nb nv nd hg hh
 obtain ⟨ab0, cb0, rfl, -⟩ := id NB0.1
 obtain ⟨av0, cv0, rfl, -⟩ := id NV0.1
 obtain ⟨ad0, cd0, rfl, -⟩ := id ND0.1
 obtain rfl : ((⟨1, 2, 0, 0, 0, [], [], 0, 0, []⟩ : Rp), (⟨⟨List.replicate 4 false, List.replicate 4 false, List.replicate 4 0, [0, 0, 0, 0]⟩, 1, 1, 0⟩ : Dv)) = X0 := by rw [← HX0.out]; kernel_rfl
 clear HX0
 simp only at D
 simp only [List.map_nil, List.length_nil] at NB0 NV0 ND0 ⊢
 clear NB0
 clear NV0
 clear ND0
 go_wp2_with fail
 have E := (Below.refl u2.heap.size u2).alloc (Nat.le_refl _) (.cells #[.int .i64 1, .int .i64 2, .int .i64 0, .int .i64 0, .int .i64 0, .slice ab0 0 cb0, .slice av0 0 cv0, .int .u16 0, .int .u16 0, .slice ad0 0 cd0] tP)
 have BA := Blk.new u2 tP [.int .i64 1, .int .i64 2, .int .i64 0, .int .i64 0, .int .i64 0, .slice ab0 0 cb0, .slice av0 0 cv0, .int .u16 0, .int .u16 0, .slice ad0 0 cd0]
 have BAn : Hid (¬ Gd g lo hi u2.heap.size) := gd_no D.blk.lt D.sto.top
 have s1 := hidden (World.size_alloc u2 (.cells #[.int .i64 1, .int .i64 2, .int .i64 0, .int .i64 0, .int .i64 0, .slice ab0 0 cb0, .slice av0 0 cv0, .int .u16 0, .int .u16 0, .slice ad0 0 cd0] tP))
 replace D := D.ext E
 replace BW := below_then BW E
 clear E
 generalize u2.heap.size = q1 at *
 generalize u2.alloc (.cells #[.int .i64 1, .int .i64 2, .int .i64 0, .int .i64 0, .int .i64 0, .slice ab0 0 cb0, .slice av0 0 cv0, .int .u16 0, .int .u16 0, .slice ad0 0 cd0] tP) = u3 at *
 rw [← s1.out]
 clear s1
 have E := (Below.refl u3.heap.size u3).alloc (Nat.le_refl _) (.cells #[.int .u16 5, .int .u16 6] 24)
 have RI1 : RowF (Gd g lo hi) (u3.alloc (.cells #[.int .u16 5, .int .u16 6] 24)) (.slice (some ⟨u3.heap.size, 0, none⟩) 2 2) [.int .u16 5, .int .u16 6] := ⟨row_new u3 [.int .u16 5, .int .u16 6] 24 2 rfl (by unfold maxLen; omega), fun _ => nw_off (NwV.mk _ _ _ _ _ (Nat.le_refl _)) D.blk.lt D.sto.top⟩
 have s1 := hidden (World.size_alloc u3 (.cells #[.int .u16 5, .int .u16 6] 24))
 replace D := D.ext E
 replace BW := below_then BW E
 replace BA := BA.below E BA.lt
 clear E
 generalize u3.heap.size = q2 at *
 generalize u3.alloc (.cells #[.int .u16 5, .int .u16 6] 24) = u4 at *
 clear s1
 obtain ⟨X1, hX1⟩ : ∃ X, doD 4 ⟨⟨List.replicate 4 false, List.replicate 4 false, List.replicate 4 0, [0, 0, 0, 0]⟩, 1, 1, 0⟩ ⟨16, 1, 2, 0, 0, [], [5, 6], 0, 0⟩ = X := ⟨_, rfl⟩
 refine (vdo_any g gs lo hi 4 ⟨⟨List.replicate 4 false, List.replicate 4 false, List.replicate 4 0, [0, 0, 0, 0]⟩, 1, 1, 0⟩ ⟨16, 1, 2, 0, 0, [], [5, 6], 0, 0⟩ _ u4 D ⟨_, _, rfl, RowF.nil _ _, RI1⟩ ⟨by simp, by simp, by simp, by simp⟩ ⟨by simp, by simp⟩).mono ?_
 rintro e u5 ⟨v', rfl, NR, D2, KK⟩
 rw [hX1] at NR D2
 have HX1 := hidden hX1
 clear hX1
 obtain ⟨vb, vv, vd, rfl, ⟨NB1, NV1, ND1⟩, nb, nv, nd⟩ := NR
 have hg := D.blk.lt
 have hh := D.sto.top
 clear D
 have D := D2
 clear D2
 replace BW := bw_gd BW KK HG.out
 replace BA := BA.kp KK BAn.out
 replace RI1 := RI1.kp KK (fun _ _ h => h)
 clear KK
 have NB1 : RowF (Gd g lo hi) u5 _ _ := ⟨NB1, fun _ => nw_off nb hg hh⟩
 have NV1 : RowF (Gd g lo hi) u5 _ _ := ⟨NV1, fun _ => nw_off nv hg hh⟩
 have ND1 : RowF (Gd g lo hi) u5 _ _ := ⟨ND1, fun _ => nw_off nd hg hh⟩
 clear nb nv nd hg hh
 obtain ⟨ab1, cb1, rfl, -⟩ := id NB1.1
 obtain ⟨av1, cv1, rfl, -⟩ := id NV1.1
 obtain ⟨ad1, cd1, rfl, -⟩ := id ND1.1
 obtain rfl : ((⟨16, 0, 1, 2, 0, [], [], 0, 0, []⟩ : Rp), (⟨⟨List.replicate 4 false, List.replicate 4 false, List.replicate 4 0, [0, 5, 6, 0]⟩, 2, 1, 0⟩ : Dv)) = X1 := by rw [← HX1.out]; kernel_rfl
 clear HX1
 simp only at D
 simp only [List.map_nil, List.length_nil] at NB1 NV1 ND1 ⊢
 clear RI1
 go_wp2_with fail
 have E := (Below.refl u5.heap.size u5).alloc (Nat.le_refl _) (.cells #[.int .i64 16, .int .i64 0, .int .i64 1, .int .i64 2, .int .i64 0, .slice ab1 0 cb1, .slice av1 0 cv1, .int .u16 0, .int .u16 0, .slice ad1 0 cd1] tP)
 have BB := Blk.new u5 tP [.int .i64 16, .int .i64 0, .int .i64 1, .int .i64 2, .int .i64 0, .slice ab1 0 cb1, .slice av1 0 cv1, .int .u16 0, .int .u16 0, .slice ad1 0 cd1]
 have BBn : Hid (¬ Gd g lo hi u5.heap.size) := gd_no D.blk.lt D.sto.top
 have s1 := hidden (World.size_alloc u5 (.cells #[.int .i64 16, .int .i64 0, .int .i64 1, .int .i64 2, .int .i64 0, .slice ab1 0 cb1, .slice av1 0 cv1, .int .u16 0, .int .u16 0, .slice ad1 0 cd1] tP))
 replace D := D.ext E
 replace BW := below_then BW E
 replace BA := BA.below E BA.lt
 replace NB1 := NB1.ext E
 replace NV1 := NV1.ext E
 replace ND1 := ND1.ext E
 clear E
 generalize u5.heap.size = q3 at *
 generalize u5.alloc (.cells #[.int .i64 16, .int .i64 0, .int .i64 1, .int .i64 2, .int .i64 0, .slice ab1 0 cb1, .slice av1 0 cv1, .int .u16 0, .int .u16 0, .slice ad1 0 cd1] tP) = u6 at *
 rw [← s1.out]
 clear s1
 have E := (Below.refl u6.heap.size u6).alloc (Nat.le_refl _) (.cells #[.int .u16 9] 24)
 have RI2 : RowF (Gd g lo hi) (u6.alloc (.cells #[.int .u16 9] 24)) (.slice (some ⟨u6.heap.size, 0, none⟩) 1 1) [.int .u16 9] := ⟨row_new u6 [.int .u16 9] 24 1 rfl (by unfold maxLen; omega), fun _ => nw_off (NwV.mk _ _ _ _ _ (Nat.le_refl _)) D.blk.lt D.sto.top⟩
 have s1 := hidden (World.size_alloc u6 (.cells #[.int .u16 9] 24))
 replace D := D.ext E
 replace BW := below_then BW E
 replace BA := BA.below E BA.lt
 replace BB := BB.below E BB.lt
 replace NB1 := NB1.ext E
 replace NV1 := NV1.ext E
 replace ND1 := ND1.ext E
 clear E
 generalize u6.heap.size = q4 at *
 generalize u6.alloc (.cells #[.int .u16 9] 24) = u7 at *
 clear s1
 obtain ⟨X2, hX2⟩ : ∃ X, doD 4 ⟨⟨List.replicate 4 false, List.replicate 4 false, List.replicate 4 0, [0, 5, 6, 0]⟩, 2, 1, 0⟩ ⟨23, 0, 3, 0, 0, [], [9], 0, 0⟩ = X := ⟨_, rfl⟩
 refine (vdo_any g gs lo hi 4 ⟨⟨List.replicate 4 false, List.replicate 4 false, List.replicate 4 0, [0, 5, 6, 0]⟩, 2, 1, 0⟩ ⟨23, 0, 3, 0, 0, [], [9], 0, 0⟩ _ u7 D ⟨_, _, rfl, RowF.nil _ _, RI2⟩ ⟨by simp, by simp, by simp, by simp⟩ ⟨by simp, by simp⟩).mono ?_
 rintro e u8 ⟨v', rfl, NR, D2, KK⟩
 rw [hX2] at NR D2
 have HX2 := hidden hX2
 clear hX2
 obtain ⟨vb, vv, vd, rfl, ⟨NB2, NV2, ND2⟩, nb, nv, nd⟩ := NR
 have hg := D.blk.lt
 have hh := D.sto.top
 clear D
 have D := D2
 clear D2
 replace BW := bw_gd BW KK HG.out
 replace BA := BA.kp KK BAn.out
 replace BB := BB.kp KK BBn.out
 replace NB1 := NB1.kp KK (fun _ _ h => h)
 replace NV1 := NV1.kp KK (fun _ _ h => h)
 replace ND1 := ND1.kp KK (fun _ _ h => h)
 replace RI2 := RI2.kp KK (fun _ _ h => h)
 clear KK
 have NB2 : RowF (Gd g lo hi) u8 _ _ := ⟨NB2, fun _ => nw_off nb hg hh⟩
 have NV2 : RowF (Gd g lo hi) u8 _ _ := ⟨NV2, fun _ => nw_off nv hg hh⟩
 have ND2 : RowF (Gd g lo hi) u8 _ _ := ⟨ND2, fun _ => nw_off nd hg hh⟩
 clear nb nv nd hg hh
 obtain ⟨ab2, cb2, rfl, -⟩ := id NB2.1
 obtain ⟨av2, cv2, rfl, -⟩ := id NV2.1
 obtain ⟨ad2, cd2, rfl, -⟩ := id ND2.1
 obtain rfl : ((⟨23, 0, 0, 0, 0, [], [9, 5, 6], 0, 0, []⟩ : Rp), (⟨⟨List.replicate 4 false, List.replicate 4 false, List.replicate 4 0, [9, 5, 6, 0]⟩, 3, 1, 0⟩ : Dv)) = X2 := by rw [← HX2.out]; kernel_rfl
 clear HX2
 simp only at D
 simp only [List.map_nil, List.map_cons, List.length_nil, List.length_cons] at NB2 NV2 ND2 ⊢
 clear RI2
 clear NB2
 clear ND2
 go_wp2_with fail
 have E := (Below.refl u8.heap.size u8).alloc (Nat.le_refl _) (.cells #[.int .i64 23, .int .i64 0, .int .i64 0, .int .i64 0, .int .i64 0, .slice ab2 0 cb2, .slice av2 3 cv2, .int .u16 0, .int .u16 0, .slice ad2 0 cd2] tP)
 have BC := Blk.new u8 tP [.int .i64 23, .int .i64 0, .int .i64 0, .int .i64 0, .int .i64 0, .slice ab2 0 cb2, .slice av2 3 cv2, .int .u16 0, .int .u16 0, .slice ad2 0 cd2]
 have BCn : Hid (¬ Gd g lo hi u8.heap.size) := gd_no D.blk.lt D.sto.top
 have s1 := hidden (World.size_alloc u8 (.cells #[.int .i64 23, .int .i64 0, .int .i64 0, .int .i64 0, .int .i64 0, .slice ab2 0 cb2, .slice av2 3 cv2, .int .u16 0, .int .u16 0, .slice ad2 0 cd2] tP))
 replace D := D.ext E
 replace BW := below_then BW E
 replace BA := BA.below E BA.lt
 replace BB := BB.below E BB.lt
 replace NB1 := NB1.ext E
 replace NV1 := NV1.ext E
 replace ND1 := ND1.ext E
 replace NV2 := NV2.ext E
 clear E
 generalize u8.heap.size = q5 at *
 generalize u8.alloc (.cells #[.int .i64 23, .int .i64 0, .int .i64 0, .int .i64 0, .int .i64 0, .slice ab2 0 cb2, .slice av2 3 cv2, .int .u16 0, .int .u16 0, .slice ad2 0 cd2] tP) = u9 at *
 clear s1
 obtain ⟨X3, hX3⟩ : ∃ X, doD 4 ⟨⟨List.replicate 4 false, List.replicate 4 false, List.replicate 4 0, [9, 5, 6, 0]⟩, 3, 1, 0⟩ ⟨22, 1, 0, 0, 0, [], [], 65534, 2⟩ = X := ⟨_, rfl⟩
 refine (vdo_any g gs lo hi 4 ⟨⟨List.replicate 4 false, List.replicate 4 false, List.replicate 4 0, [9, 5, 6, 0]⟩, 3, 1, 0⟩ ⟨22, 1, 0, 0, 0, [], [], 65534, 2⟩ _ u9 D ⟨_, _, rfl, RowF.nil _ _, RowF.nil _ _⟩ ⟨by simp, by simp, by simp, by simp⟩ ⟨by simp, by simp⟩).mono ?_
 rintro e u10 ⟨v', rfl, NR, D2, KK⟩
 rw [hX3] at NR D2
 have HX3 := hidden hX3
 clear hX3
 obtain ⟨vb, vv, vd, rfl, ⟨NB3, NV3, ND3⟩, nb, nv, nd⟩ := NR
 have hg := D.blk.lt
 have hh := D.sto.top
 clear D
 have D := D2
 clear D2
 replace BW := bw_gd BW KK HG.out
 replace BA := BA.kp KK BAn.out
 replace BB := BB.kp KK BBn.out
 replace BC := BC.kp KK BCn.out
 replace NB1 := NB1.kp KK (fun _ _ h => h)
 replace NV1 := NV1.kp KK (fun _ _ h => h)
 replace ND1 := ND1.kp KK (fun _ _ h => h)
 replace NV2 := NV2.kp KK (fun _ _ h => h)
 clear KK
 have NB3 : RowF (Gd g lo hi) u10 _ _ := ⟨NB3, fun _ => nw_off nb hg hh⟩
 have NV3 : RowF (Gd g lo hi) u10 _ _ := ⟨NV3, fun _ => nw_off nv hg hh⟩
 have ND3 : RowF (Gd g lo hi) u10 _ _ := ⟨ND3, fun _ => nw_off nd hg hh⟩
 clear nb nv nd hg hh
 obtain ⟨ab3, cb3, rfl, -⟩ := id NB3.1
 obtain ⟨av3, cv3, rfl, -⟩ := id NV3.1
 obtain ⟨ad3, cd3, rfl, -⟩ := id ND3.1
 obtain rfl : ((⟨22, 0, 1, 0, 0, [], [], 65534, 2, []⟩ : Rp), (⟨⟨List.replicate 4 false, List.replicate 4 false, List.replicate 4 0, [9, 4, 6, 0]⟩, 4, 1, 0⟩ : Dv)) = X3 := by rw [← HX3.out]; kernel_rfl
 clear HX3
 simp only at D
 simp only [List.map_nil, List.length_nil] at NB3 NV3 ND3 ⊢
 clear NB3
 clear NV3
 clear ND3
 go_wp2_with fail
 have E := (Below.refl u10.heap.size u10).alloc (Nat.le_refl _) (.cells #[.int .i64 22, .int .i64 0, .int .i64 1, .int .i64 0, .int .i64 0, .slice ab3 0 cb3, .slice av3 0 cv3, .int .u16 65534, .int .u16 2, .slice ad3 0 cd3] tP)
 have BE := Blk.new u10 tP [.int .i64 22, .int .i64 0, .int .i64 1, .int .i64 0, .int .i64 0, .slice ab3 0 cb3, .slice av3 0 cv3, .int .u16 65534, .int .u16 2, .slice ad3 0 cd3]
 have BEn : Hid (¬ Gd g lo hi u10.heap.size) := gd_no D.blk.lt D.sto.top
 have s1 := hidden (World.size_alloc u10 (.cells #[.int .i64 22, .int .i64 0, .int .i64 1, .int .i64 0, .int .i64 0, .slice ab3 0 cb3, .slice av3 0 cv3, .int .u16 65534, .int .u16 2, .slice ad3 0 cd3] tP))
 replace D := D.ext E
 replace BW := below_then BW E
 replace BA := BA.below E BA.lt
 replace BB := BB.below E BB.lt
 replace BC := BC.below E BC.lt
 replace NB1 := NB1.ext E
 replace NV1 := NV1.ext E
 replace ND1 := ND1.ext E
 replace NV2 := NV2.ext E
 clear E
 generalize u10.heap.size = q6 at *
 generalize u10.alloc (.cells #[.int .i64 22, .int .i64 0, .int .i64 1, .int .i64 0, .int .i64 0, .slice ab3 0 cb3, .slice av3 0 cv3, .int .u16 65534, .int .u16 2, .slice ad3 0 cd3] tP) = u11 at *
 clear s1
 refine (vstore_any g gs 4 1 0 u11 D.blk).mono ?_
 rintro e w' ⟨rfl, rfl⟩
 go_wp2_with fail
 refine (getV_any lo hi gs 4 _ 3 1 1 u11 D.sto (by unfold i64; omega)).mono ?_
 rintro e u12 ⟨vf, rfl, NF, nf, E⟩
 have NF : RowF (Gd g lo hi) u12 vf [.int .u16 4] := ⟨NF, fun _ => nw_off nf D.blk.lt D.sto.top⟩
 clear nf
 replace D := D.ext E
 replace BW := below_then BW E
 replace BA := BA.below E BA.lt
 replace BB := BB.below E BB.lt
 replace BC := BC.below E BC.lt
 replace BE := BE.below E BE.lt
 replace NB1 := NB1.ext E
 replace NV1 := NV1.ext E
 replace ND1 := ND1.ext E
 replace NV2 := NV2.ext E
 clear E
 obtain ⟨af, cf, rfl, -⟩ := id NF.1
 go_wp2_with fail
 have E := (Below.refl u12.heap.size u12).alloc (Nat.le_refl _) (.cells #[.int .u16 0] 24)
 have RI5 : RowF (Gd g lo hi) (u12.alloc (.cells #[.int .u16 0] 24)) (.slice (some ⟨u12.heap.size, 0, none⟩) 1 1) [.int .u16 0] := ⟨row_new u12 [.int .u16 0] 24 1 rfl (by unfold maxLen; omega), fun _ => nw_off (NwV.mk _ _ _ _ _ (Nat.le_refl _)) D.blk.lt D.sto.top⟩
 have s1 := hidden (World.size_alloc u12 (.cells #[.int .u16 0] 24))
 replace D := D.ext E
 replace BW := below_then BW E
 replace BA := BA.below E BA.lt
 replace BB := BB.below E BB.lt
 replace BC := BC.below E BC.lt
 replace BE := BE.below E BE.lt
 replace NB1 := NB1.ext E
 replace NV1 := NV1.ext E
 replace ND1 := ND1.ext E
 replace NV2 := NV2.ext E
 replace NF := NF.ext E
 clear E
 generalize u12.heap.size = q7 at *
 generalize u12.alloc (.cells #[.int .u16 0] 24) = u13 at *
 clear s1
 obtain ⟨X5, hX5⟩ : ∃ X, doD 4 ⟨⟨List.replicate 4 false, List.replicate 4 false, List.replicate 4 0, [9, 4, 6, 0]⟩, 4, 1, 0⟩ ⟨8, 0, 0, 0, 11, [], [0], 0, 0⟩ = X := ⟨_, rfl⟩
 refine (vdo_any g gs lo hi 4 ⟨⟨List.replicate 4 false, List.replicate 4 false, List.replicate 4 0, [9, 4, 6, 0]⟩, 4, 1, 0⟩ ⟨8, 0, 0, 0, 11, [], [0], 0, 0⟩ _ u13 D ⟨_, _, rfl, RowF.nil _ _, RI5⟩ ⟨by simp, by simp, by simp, by simp⟩ ⟨by simp, by simp⟩).mono ?_
 rintro e u14 ⟨v', rfl, NR, D2, KK⟩
 rw [hX5] at NR D2
 have HX5 := hidden hX5
 clear hX5
 obtain ⟨vb, vv, vd, rfl, ⟨NB5, NV5, ND5⟩, nb, nv, nd⟩ := NR
 have hg := D.blk.lt
 have hh := D.sto.top
 clear D
 have D := D2
 clear D2
 replace BW := bw_gd BW KK HG.out
 replace BA := BA.kp KK BAn.out
 replace BB := BB.kp KK BBn.out
 replace BC := BC.kp KK BCn.out
 replace BE := BE.kp KK BEn.out
 replace NB1 := NB1.kp KK (fun _ _ h => h)
 replace NV1 := NV1.kp KK (fun _ _ h => h)
 replace ND1 := ND1.kp KK (fun _ _ h => h)
 replace NV2 := NV2.kp KK (fun _ _ h => h)
 replace NF := NF.kp KK (fun _ _ h => h)
 replace RI5 := RI5.kp KK (fun _ _ h => h)
 clear KK
 have NB5 : RowF (Gd g lo hi) u14 _ _ := ⟨NB5, fun _ => nw_off nb hg hh⟩
 have NV5 : RowF (Gd g lo hi) u14 _ _ := ⟨NV5, fun _ => nw_off nv hg hh⟩
 have ND5 : RowF (Gd g lo hi) u14 _ _ := ⟨ND5, fun _ => nw_off nd hg hh⟩
 clear nb nv nd hg hh
 obtain ⟨ab5, cb5, rfl, -⟩ := id NB5.1
 obtain ⟨av5, cv5, rfl, -⟩ := id NV5.1
 obtain ⟨ad5, cd5, rfl, -⟩ := id ND5.1
 obtain rfl : ((⟨8, 0, 0, 0, 11, [], [5], 0, 0, []⟩ : Rp), (⟨⟨List.replicate 4 false, List.replicate 4 false, List.replicate 4 0, [9, 4, 6, 0]⟩, 5, 1, 0⟩ : Dv)) = X5 := by rw [← HX5.out]; kernel_rfl
 clear HX5
 simp only at D
 simp only [List.map_nil, List.map_cons, List.length_nil, List.length_cons] at NB5 NV5 ND5 ⊢
 clear RI5
 clear NB5
 clear ND5
 go_wp2_with fail
 have E := (Below.refl u14.heap.size u14).alloc (Nat.le_refl _) (.cells #[.int .i64 8, .int .i64 0, .int .i64 0, .int .i64 0, .int .i64 11, .slice ab5 0 cb5, .slice av5 1 cv5, .int .u16 0, .int .u16 0, .slice ad5 0 cd5] tP)
 have BG := Blk.new u14 tP [.int .i64 8, .int .i64 0, .int .i64 0, .int .i64 0, .int .i64 11, .slice ab5 0 cb5, .slice av5 1 cv5, .int .u16 0, .int .u16 0, .slice ad5 0 cd5]
 have BGn : Hid (¬ Gd g lo hi u14.heap.size) := gd_no D.blk.lt D.sto.top
 have s1 := hidden (World.size_alloc u14 (.cells #[.int .i64 8, .int .i64 0, .int .i64 0, .int .i64 0, .int .i64 11, .slice ab5 0 cb5, .slice av5 1 cv5, .int .u16 0, .int .u16 0, .slice ad5 0 cd5] tP))
 replace D := D.ext E
 replace BW := below_then BW E
 replace BA := BA.below E BA.lt
 replace BB := BB.below E BB.lt
 replace BC := BC.below E BC.lt
 replace BE := BE.below E BE.lt
 replace NB1 := NB1.ext E
 replace NV1 := NV1.ext E
 replace ND1 := ND1.ext E
 replace NV2 := NV2.ext E
 replace NF := NF.ext E
 replace NV5 := NV5.ext E
 clear E
 generalize u14.heap.size = q8 at *
 generalize u14.alloc (.cells #[.int .i64 8, .int .i64 0, .int .i64 0, .int .i64 0, .int .i64 11, .slice ab5 0 cb5, .slice av5 1 cv5, .int .u16 0, .int .u16 0, .slice ad5 0 cd5] tP) = u15 at *
 rw [← s1.out]
 clear s1
 have E := (Below.refl u15.heap.size u15).alloc (Nat.le_refl _) (.cells #[.int .u16 0] 24)
 have RI6 : RowF (Gd g lo hi) (u15.alloc (.cells #[.int .u16 0] 24)) (.slice (some ⟨u15.heap.size, 0, none⟩) 1 1) [.int .u16 0] := ⟨row_new u15 [.int .u16 0] 24 1 rfl (by unfold maxLen; omega), fun _ => nw_off (NwV.mk _ _ _ _ _ (Nat.le_refl _)) D.blk.lt D.sto.top⟩
 have s1 := hidden (World.size_alloc u15 (.cells #[.int .u16 0] 24))
 replace D := D.ext E
 replace BW := below_then BW E
 replace BA := BA.below E BA.lt
 replace BB := BB.below E BB.lt
 replace BC := BC.below E BC.lt
 replace BE := BE.below E BE.lt
 replace BG := BG.below E BG.lt
 replace NB1 := NB1.ext E
 replace NV1 := NV1.ext E
 replace ND1 := ND1.ext E
 replace NV2 := NV2.ext E
 replace NF := NF.ext E
 replace NV5 := NV5.ext E
 clear E
 generalize u15.heap.size = q9 at *
 generalize u15.alloc (.cells #[.int .u16 0] 24) = u16 at *
 clear s1
 obtain ⟨X6, hX6⟩ : ∃ X, doD 4 ⟨⟨List.replicate 4 false, List.replicate 4 false, List.replicate 4 0, [9, 4, 6, 0]⟩, 5, 1, 0⟩ ⟨8, 0, 0, 0, 13, [], [0], 0, 0⟩ = X := ⟨_, rfl⟩
 refine (vdo_any g gs lo hi 4 ⟨⟨List.replicate 4 false, List.replicate 4 false, List.replicate 4 0, [9, 4, 6, 0]⟩, 5, 1, 0⟩ ⟨8, 0, 0, 0, 13, [], [0], 0, 0⟩ _ u16 D ⟨_, _, rfl, RowF.nil _ _, RI6⟩ ⟨by simp, by simp, by simp, by simp⟩ ⟨by simp, by simp⟩).mono ?_
 rintro e u17 ⟨v', rfl, NR, D2, KK⟩
 rw [hX6] at NR D2
 have HX6 := hidden hX6
 clear hX6
 obtain ⟨vb, vv, vd, rfl, ⟨NB6, NV6, ND6⟩, nb, nv, nd⟩ := NR
 have hg := D.blk.lt
 have hh := D.sto.top
 clear D
 have D := D2
 clear D2
 replace BW := bw_gd BW KK HG.out
 replace BA := BA.kp KK BAn.out
 replace BB := BB.kp KK BBn.out
 replace BC := BC.kp KK BCn.out
 replace BE := BE.kp KK BEn.out
 replace BG := BG.kp KK BGn.out
 replace NB1 := NB1.kp KK (fun _ _ h => h)
 replace NV1 := NV1.kp KK (fun _ _ h => h)
 replace ND1 := ND1.kp KK (fun _ _ h => h)
 replace NV2 := NV2.kp KK (fun _ _ h => h)
 replace NF := NF.kp KK (fun _ _ h => h)
 replace NV5 := NV5.kp KK (fun _ _ h => h)
 replace RI6 := RI6.kp KK (fun _ _ h => h)
 clear KK
 have NB6 : RowF (Gd g lo hi) u17 _ _ := ⟨NB6, fun _ => nw_off nb hg hh⟩
 have NV6 : RowF (Gd g lo hi) u17 _ _ := ⟨NV6, fun _ => nw_off nv hg hh⟩
 have ND6 : RowF (Gd g lo hi) u17 _ _ := ⟨ND6, fun _ => nw_off nd hg hh⟩
 clear nb nv nd hg hh
 obtain ⟨ab6, cb6, rfl, -⟩ := id NB6.1
 obtain ⟨av6, cv6, rfl, -⟩ := id NV6.1
 obtain ⟨ad6, cd6, rfl, -⟩ := id ND6.1
 obtain rfl : ((⟨8, 0, 0, 0, 13, [], [1], 0, 0, []⟩ : Rp), (⟨⟨List.replicate 4 false, List.replicate 4 false, List.replicate 4 0, [9, 4, 6, 0]⟩, 6, 1, 0⟩ : Dv)) = X6 := by rw [← HX6.out]; kernel_rfl
 clear HX6
 simp only at D
 simp only [List.map_nil, List.map_cons, List.length_nil, List.length_cons] at NB6 NV6 ND6 ⊢
 clear RI6
 clear NB6
 clear ND6
 go_wp2_with fail
 have E := (Below.refl u17.heap.size u17).alloc (Nat.le_refl _) (.cells #[.int .i64 8, .int .i64 0, .int .i64 0, .int .i64 0, .int .i64 13, .slice ab6 0 cb6, .slice av6 1 cv6, .int .u16 0, .int .u16 0, .slice ad6 0 cd6] tP)
 have BH := Blk.new u17 tP [.int .i64 8, .int .i64 0, .int .i64 0, .int .i64 0, .int .i64 13, .slice ab6 0 cb6, .slice av6 1 cv6, .int .u16 0, .int .u16 0, .slice ad6 0 cd6]
 have BHn : Hid (¬ Gd g lo hi u17.heap.size) := gd_no D.blk.lt D.sto.top
 have s1 := hidden (World.size_alloc u17 (.cells #[.int .i64 8, .int .i64 0, .int .i64 0, .int .i64 0, .int .i64 13, .slice ab6 0 cb6, .slice av6 1 cv6, .int .u16 0, .int .u16 0, .slice ad6 0 cd6] tP))
 replace D := D.ext E
 replace BW := below_then BW E
 replace BA := BA.below E BA.lt
 replace BB := BB.below E BB.lt
 replace BC := BC.below E BC.lt
 replace BE := BE.below E BE.lt
 replace BG := BG.below E BG.lt
 replace NB1 := NB1.ext E
 replace NV1 := NV1.ext E
 replace ND1 := ND1.ext E
 replace NV2 := NV2.ext E
 replace NF := NF.ext E
 replace NV5 := NV5.ext E
 replace NV6 := NV6.ext E
 clear E
 generalize u17.heap.size = q10 at *
 generalize u17.alloc (.cells #[.int .i64 8, .int .i64 0, .int .i64 0, .int .i64 0, .int .i64 13, .slice ab6 0 cb6, .slice av6 1 cv6, .int .u16 0, .int .u16 0, .slice ad6 0 cd6] tP) = u18 at *
 rw [← s1.out]
 clear s1
 have E := (Below.refl u18.heap.size u18).alloc (Nat.le_refl _) (.cells #[.int .u16 3] 24)
 have RI7 : RowF (Gd g lo hi) (u18.alloc (.cells #[.int .u16 3] 24)) (.slice (some ⟨u18.heap.size, 0, none⟩) 1 1) [.int .u16 3] := ⟨row_new u18 [.int .u16 3] 24 1 rfl (by unfold maxLen; omega), fun _ => nw_off (NwV.mk _ _ _ _ _ (Nat.le_refl _)) D.blk.lt D.sto.top⟩
 have s1 := hidden (World.size_alloc u18 (.cells #[.int .u16 3] 24))
 replace D := D.ext E
 replace BW := below_then BW E
 replace BA := BA.below E BA.lt
 replace BB := BB.below E BB.lt
 replace BC := BC.below E BC.lt
 replace BE := BE.below E BE.lt
 replace BG := BG.below E BG.lt
 replace BH := BH.below E BH.lt
 replace NB1 := NB1.ext E
 replace NV1 := NV1.ext E
 replace ND1 := ND1.ext E
 replace NV2 := NV2.ext E
 replace NF := NF.ext E
 replace NV5 := NV5.ext E
 replace NV6 := NV6.ext E
 clear E
 generalize u18.heap.size = q11 at *
 generalize u18.alloc (.cells #[.int .u16 3] 24) = u19 at *
 clear s1
 obtain ⟨X7, hX7⟩ : ∃ X, doD 4 ⟨⟨List.replicate 4 false, List.replicate 4 false, List.replicate 4 0, [9, 4, 6, 0]⟩, 6, 1, 0⟩ ⟨8, 0, 0, 0, 10, [], [3], 0, 0⟩ = X := ⟨_, rfl⟩
 refine (vdo_any g gs lo hi 4 ⟨⟨List.replicate 4 false, List.replicate 4 false, List.replicate 4 0, [9, 4, 6, 0]⟩, 6, 1, 0⟩ ⟨8, 0, 0, 0, 10, [], [3], 0, 0⟩ _ u19 D ⟨_, _, rfl, RowF.nil _ _, RI7⟩ ⟨by simp, by simp, by simp, by simp⟩ ⟨by simp, by simp⟩).mono ?_
 rintro e u20 ⟨v', rfl, NR, D2, KK⟩
 rw [hX7] at NR D2
 have HX7 := hidden hX7
 clear hX7
 obtain ⟨vb, vv, vd, rfl, ⟨NB7, NV7, ND7⟩, nb, nv, nd⟩ := NR
 have hg := D.blk.lt
 have hh := D.sto.top
 clear D
 have D := D2
 clear D2
 replace BW := bw_gd BW KK HG.out
 replace BA := BA.kp KK BAn.out
 replace BB := BB.kp KK BBn.out
 replace BC := BC.kp KK BCn.out
 replace BE := BE.kp KK BEn.out
 replace BG := BG.kp KK BGn.out
 replace BH := BH.kp KK BHn.out
 replace NB1 := NB1.kp KK (fun _ _ h => h)
 replace NV1 := NV1.kp KK (fun _ _ h => h)
 replace ND1 := ND1.kp KK (fun _ _ h => h)
 replace NV2 := NV2.kp KK (fun _ _ h => h)
 replace NF := NF.kp KK (fun _ _ h => h)
 replace NV5 := NV5.kp KK (fun _ _ h => h)
 replace NV6 := NV6.kp KK (fun _ _ h => h)
 replace RI7 := RI7.kp KK (fun _ _ h => h)
 clear KK
 have NB7 : RowF (Gd g lo hi) u20 _ _ := ⟨NB7, fun _ => nw_off nb hg hh⟩
 have NV7 : RowF (Gd g lo hi) u20 _ _ := ⟨NV7, fun _ => nw_off nv hg hh⟩
 have ND7 : RowF (Gd g lo hi) u20 _ _ := ⟨ND7, fun _ => nw_off nd hg hh⟩
 clear nb nv nd hg hh
 obtain ⟨ab7, cb7, rfl, -⟩ := id NB7.1
 obtain ⟨av7, cv7, rfl, -⟩ := id NV7.1
 obtain ⟨ad7, cd7, rfl, -⟩ := id ND7.1
 obtain rfl : ((⟨8, 0, 0, 0, 10, [], [3], 0, 0, []⟩ : Rp), (⟨⟨List.replicate 4 false, List.replicate 4 false, List.replicate 4 0, [9, 4, 6, 0]⟩, 0, 0, 0⟩ : Dv)) = X7 := by rw [← HX7.out]; kernel_rfl
 clear HX7
 simp only at D
 simp only [List.map_nil, List.map_cons, List.length_nil, List.length_cons] at NB7 NV7 ND7 ⊢
 clear RI7
 clear NB7
 clear ND7
 go_wp2_with fail
 have E := (Below.refl u20.heap.size u20).alloc (Nat.le_refl _) (.cells #[.int .i64 8, .int .i64 0, .int .i64 0, .int .i64 0, .int .i64 10, .slice ab7 0 cb7, .slice av7 1 cv7, .int .u16 0, .int .u16 0, .slice ad7 0 cd7] tP)
 have BI := Blk.new u20 tP [.int .i64 8, .int .i64 0, .int .i64 0, .int .i64 0, .int .i64 10, .slice ab7 0 cb7, .slice av7 1 cv7, .int .u16 0, .int .u16 0, .slice ad7 0 cd7]
 have BIn : Hid (¬ Gd g lo hi u20.heap.size) := gd_no D.blk.lt D.sto.top
 have s1 := hidden (World.size_alloc u20 (.cells #[.int .i64 8, .int .i64 0, .int .i64 0, .int .i64 0, .int .i64 10, .slice ab7 0 cb7, .slice av7 1 cv7, .int .u16 0, .int .u16 0, .slice ad7 0 cd7] tP))
 replace D := D.ext E
 replace BW := below_then BW E
 replace BA := BA.below E BA.lt
 replace BB := BB.below E BB.lt
 replace BC := BC.below E BC.lt
 replace BE := BE.below E BE.lt
 replace BG := BG.below E BG.lt
 replace BH := BH.below E BH.lt
 replace NB1 := NB1.ext E
 replace NV1 := NV1.ext E
 replace ND1 := ND1.ext E
 replace NV2 := NV2.ext E
 replace NF := NF.ext E
 replace NV5 := NV5.ext E
 replace NV6 := NV6.ext E
 replace NV7 := NV7.ext E
 clear E
 generalize u20.heap.size = q12 at *
 generalize u20.alloc (.cells #[.int .i64 8, .int .i64 0, .int .i64 0, .int .i64 0, .int .i64 10, .slice ab7 0 cb7, .slice av7 1 cv7, .int .u16 0, .int .u16 0, .slice ad7 0 cd7] tP) = u21 at *
 clear s1
 refine (vcounts_any g gs 0 0 0 u21 D.blk).mono ?_
 rintro e u22 ⟨rfl, E⟩
 replace D := D.ext E
 replace BW := below_then BW E
 replace BA := BA.below E BA.lt
 replace BB := BB.below E BB.lt
 replace BC := BC.below E BC.lt
 replace BE := BE.below E BE.lt
 replace BG := BG.below E BG.lt
 replace BH := BH.below E BH.lt
 replace BI := BI.below E BI.lt
 replace NB1 := NB1.ext E
 replace NV1 := NV1.ext E
 replace ND1 := ND1.ext E
 replace NV2 := NV2.ext E
 replace NF := NF.ext E
 replace NV5 := NV5.ext E
 replace NV6 := NV6.ext E
 replace NV7 := NV7.ext E
 clear E
 go_wp2_with fail
 refine (vunit_any g gs 0 0 0 300 u22 D.blk).mono ?_
 rintro e u23 ⟨rfl, BD2, KU⟩
 have D2 : DD u23 g gs lo hi 4 ⟨⟨List.replicate 4 false, List.replicate 4 false, List.replicate 4 0, [9, 4, 6, 0]⟩, 0, 0, 44⟩ := ⟨BD2, D.sto.kp KU (fun i h e => by subst e; exact D.off h), D.off⟩
 have KK := Kp.mono KU (fun i e => (Or.inl e : Gd g lo hi i))
 clear D BD2 KU
 have D := D2
 clear D2
 replace BW := bw_gd BW KK HG.out
 replace BA := BA.kp KK BAn.out
 replace BB := BB.kp KK BBn.out
 replace BC := BC.kp KK BCn.out
 replace BE := BE.kp KK BEn.out
 replace BG := BG.kp KK BGn.out
 replace BH := BH.kp KK BHn.out
 replace BI := BI.kp KK BIn.out
 replace NB1 := NB1.kp KK (fun _ _ h => h)
 replace NV1 := NV1.kp KK (fun _ _ h => h)
 replace ND1 := ND1.kp KK (fun _ _ h => h)
 replace NV2 := NV2.kp KK (fun _ _ h => h)
 replace NF := NF.kp KK (fun _ _ h => h)
 replace NV5 := NV5.kp KK (fun _ _ h => h)
 replace NV6 := NV6.kp KK (fun _ _ h => h)
 replace NV7 := NV7.kp KK (fun _ _ h => h)
 clear KK
 go_wp2_with fail
 obtain ⟨X9, hX9⟩ : ∃ X, doD 4 ⟨⟨List.replicate 4 false, List.replicate 4 false, List.replicate 4 0, [9, 4, 6, 0]⟩, 0, 0, 44⟩ ⟨17, 0, 0, 0, 0, [], [], 0, 0⟩ = X := ⟨_, rfl⟩
 refine (vdo_any g gs lo hi 4 ⟨⟨List.replicate 4 false, List.replicate 4 false, List.replicate 4 0, [9, 4, 6, 0]⟩, 0, 0, 44⟩ ⟨17, 0, 0, 0, 0, [], [], 0, 0⟩ _ u23 D ⟨_, _, rfl, RowF.nil _ _, RowF.nil _ _⟩ ⟨by simp, by simp, by simp, by simp⟩ ⟨by simp, by simp⟩).mono ?_
 rintro e u24 ⟨v', rfl, NR, D2, KK⟩
 rw [hX9] at NR D2
 have HX9 := hidden hX9
 clear hX9
 obtain ⟨vb, vv, vd, rfl, ⟨NB9, NV9, ND9⟩, nb, nv, nd⟩ := NR
 have hg := D.blk.lt
 have hh := D.sto.top
 clear D
 have D := D2
 clear D2
 replace BW := bw_gd BW KK HG.out
 replace BA := BA.kp KK BAn.out
 replace BB := BB.kp KK BBn.out
 replace BC := BC.kp KK BCn.out
 replace BE := BE.kp KK BEn.out
 replace BG := BG.kp KK BGn.out
 replace BH := BH.kp KK BHn.out
 replace BI := BI.kp KK BIn.out
 replace NB1 := NB1.kp KK (fun _ _ h => h)
 replace NV1 := NV1.kp KK (fun _ _ h => h)
 replace ND1 := ND1.kp KK (fun _ _ h => h)
 replace NV2 := NV2.kp KK (fun _ _ h => h)
 replace NF := NF.kp KK (fun _ _ h => h)
 replace NV5 := NV5.kp KK (fun _ _ h => h)
 replace NV6 := NV6.kp KK (fun _ _ h => h)
 replace NV7 := NV7.kp KK (fun _ _ h => h)
 clear KK
 have NB9 : RowF (Gd g lo hi) u24 _ _ := ⟨NB9, fun _ => nw_off nb hg hh⟩
 have NV9 : RowF (Gd g lo hi) u24 _ _ := ⟨NV9, fun _ => nw_off nv hg hh⟩
 have ND9 : RowF (Gd g lo hi) u24 _ _ := ⟨ND9, fun _ => nw_off nd hg hh⟩
 clear nb nv nd hg hh
 obtain ⟨ab9, cb9, rfl, -⟩ := id NB9.1
 obtain ⟨av9, cv9, rfl, -⟩ := id NV9.1
 obtain ⟨ad9, cd9, rfl, -⟩ := id ND9.1
 obtain rfl : ((⟨17, 0, 0, 0, 0, [], [], 0, 0, [44, 255]⟩ : Rp), (⟨⟨List.replicate 4 false, List.replicate 4 false, List.replicate 4 0, [9, 4, 6, 0]⟩, 1, 0, 44⟩ : Dv)) = X9 := by rw [← HX9.out]; kernel_rfl
 clear HX9
 simp only at D
 simp only [List.map_nil, List.map_cons, List.length_nil, List.length_cons] at NB9 NV9 ND9 ⊢
 clear NB9
 clear NV9
 have E := (Below.refl u24.heap.size u24).alloc (Nat.le_refl _) (.cells #[.int .i64 17, .int .i64 0, .int .i64 0, .int .i64 0, .int .i64 0, .slice ab9 0 cb9, .slice av9 0 cv9, .int .u16 0, .int .u16 0, .slice ad9 2 cd9] tP)
 have BJ := Blk.new u24 tP [.int .i64 17, .int .i64 0, .int .i64 0, .int .i64 0, .int .i64 0, .slice ab9 0 cb9, .slice av9 0 cv9, .int .u16 0, .int .u16 0, .slice ad9 2 cd9]
 have BJn : Hid (¬ Gd g lo hi u24.heap.size) := gd_no D.blk.lt D.sto.top
 replace D := D.ext E
 replace BW := below_then BW E
 replace BA := BA.below E BA.lt
 replace BB := BB.below E BB.lt
 replace BC := BC.below E BC.lt
 replace BE := BE.below E BE.lt
 replace BG := BG.below E BG.lt
 replace BH := BH.below E BH.lt
 replace BI := BI.below E BI.lt
 replace NB1 := NB1.ext E
 replace NV1 := NV1.ext E
 replace ND1 := ND1.ext E
 replace NV2 := NV2.ext E
 replace NF := NF.ext E
 replace NV5 := NV5.ext E
 replace NV6 := NV6.ext E
 replace NV7 := NV7.ext E
 replace ND9 := ND9.ext E
 clear E
 have xa : (u24.alloc (.cells #[.int .i64 17, .int .i64 0, .int .i64 0, .int .i64 0, .int .i64 0, .slice ab9 0 cb9, .slice av9 0 cv9, .int .u16 0, .int .u16 0, .slice ad9 2 cd9] tP)).cell? ⟨q1, 1, none⟩ = some (.int .i64 2) := BA.cell 1
 obtain ⟨z0, z1, z2, z3, z4, z5, z6, z7, z8, z9⟩ := cells10 BB
 go_wp2_with fail
 clear xa z0 z1 z2 z3 z4 z5 z6 z7 z8 z9
 generalize u24.heap.size = qj at *
 generalize u24.alloc (.cells #[.int .i64 17, .int .i64 0, .int .i64 0, .int .i64 0, .int .i64 0, .slice ab9 0 cb9, .slice av9 0 cv9, .int .u16 0, .int .u16 0, .slice ad9 2 cd9] tP) = wj at *
 refine (alike_ref _ _ ⟨16, 0, 1, 2, 0, [], [], 0, 0, []⟩ ⟨16, 0, 1, 2, 0, [], [], 0, 0, []⟩ wj ⟨_, _, _, rfl, NB1.1, NV1.1, ND1.1⟩ ⟨_, _, _, rfl, Row.nil _, Row.nil _, Row.nil _⟩).mono ?_
 rintro e wk ⟨rfl, E⟩
 rw [decide_eq_true rfl]
 replace D := D.ext E
 replace BW := below_then BW E
 replace BA := BA.below E BA.lt
 replace BB := BB.below E BB.lt
 replace BC := BC.below E BC.lt
 replace BE := BE.below E BE.lt
 replace BG := BG.below E BG.lt
 replace BH := BH.below E BH.lt
 replace BI := BI.below E BI.lt
 replace BJ := BJ.below E BJ.lt
 replace NB1 := NB1.ext E
 replace NV1 := NV1.ext E
 replace ND1 := ND1.ext E
 replace NV2 := NV2.ext E
 replace NF := NF.ext E
 replace NV5 := NV5.ext E
 replace NV6 := NV6.ext E
 replace NV7 := NV7.ext E
 replace ND9 := ND9.ext E
 clear E
 clear BA BAn
 clear BB BBn
 clear NB1
 clear NV1
 clear ND1
 have xc : wk.cell? ⟨q5, 6, none⟩ = some (.slice av2 3 cv2) := BC.cell 6
 go_wp2_with fail
 clear xc
 have E := (Below.refl wk.heap.size wk).alloc (Nat.le_refl _) (.cells #[.int .u16 9, .int .u16 5, .int .u16 6] 24)
 have RS : RowF (Gd g lo hi) (wk.alloc (.cells #[.int .u16 9, .int .u16 5, .int .u16 6] 24)) (.slice (some ⟨wk.heap.size, 0, none⟩) 3 3) [.int .u16 9, .int .u16 5, .int .u16 6] := ⟨row_new wk [.int .u16 9, .int .u16 5, .int .u16 6] 24 3 rfl (by unfold maxLen; omega), fun _ => nw_off (NwV.mk _ _ _ _ _ (Nat.le_refl _)) D.blk.lt D.sto.top⟩
 have s1 := hidden (World.size_alloc wk (.cells #[.int .u16 9, .int .u16 5, .int .u16 6] 24))
 replace D := D.ext E
 replace BW := below_then BW E
 replace BC := BC.below E BC.lt
 replace BE := BE.below E BE.lt
 replace BG := BG.below E BG.lt
 replace BH := BH.below E BH.lt
 replace BI := BI.below E BI.lt
 replace BJ := BJ.below E BJ.lt
 replace NV2 := NV2.ext E
 replace NF := NF.ext E
 replace NV5 := NV5.ext E
 replace NV6 := NV6.ext E
 replace NV7 := NV7.ext E
 replace ND9 := ND9.ext E
 clear E
 generalize wk.heap.size = qs at *
 generalize wk.alloc (.cells #[.int .u16 9, .int .u16 5, .int .u16 6] 24) = u25 at *
 clear s1
 refine (booksameV _ _ [9, 5, 6] u25 NV2.1 RS.1).mono ?_
 rintro e wl ⟨rfl, nq, rfl⟩
 have E : Below u25.heap.size u25 (u25.drewN nq) := below_drewn0 _ _ _
 replace D := D.ext E
 replace BW := below_then BW E
 replace BC := BC.below E BC.lt
 replace BE := BE.below E BE.lt
 replace BG := BG.below E BG.lt
 replace BH := BH.below E BH.lt
 replace BI := BI.below E BI.lt
 replace BJ := BJ.below E BJ.lt
 replace NV2 := NV2.ext E
 replace NF := NF.ext E
 replace NV5 := NV5.ext E
 replace NV6 := NV6.ext E
 replace NV7 := NV7.ext E
 replace ND9 := ND9.ext E
 replace RS := RS.ext E
 clear E
 generalize u25.drewN nq = wm at *
 clear BC BCn
 clear NV2
 clear RS
 have x5 : wm.cell? ⟨q8, 6, none⟩ = some (.slice av5 1 cv5) := BG.cell 6
 obtain ⟨r5, o5, cc5, e5, y5⟩ := row_one NV5.1
 simp only [Value.slice.injEq] at e5
 obtain ⟨rfl, -, rfl⟩ := e5
 replace y5 : wm.cell? ⟨r5, o5, none⟩ = some (.int .u16 5) := y5
 have x6 : wm.cell? ⟨q10, 6, none⟩ = some (.slice av6 1 cv6) := BH.cell 6
 obtain ⟨r6, o6, cc6, e6, y6⟩ := row_one NV6.1
 simp only [Value.slice.injEq] at e6
 obtain ⟨rfl, -, rfl⟩ := e6
 replace y6 : wm.cell? ⟨r6, o6, none⟩ = some (.int .u16 1) := y6
 have x7 : wm.cell? ⟨q12, 6, none⟩ = some (.slice av7 1 cv7) := BI.cell 6
 obtain ⟨r7, o7, cc7, e7, y7⟩ := row_one NV7.1
 simp only [Value.slice.injEq] at e7
 obtain ⟨rfl, -, rfl⟩ := e7
 replace y7 : wm.cell? ⟨r7, o7, none⟩ = some (.int .u16 3) := y7
 have xe : wm.cell? ⟨q6, 7, none⟩ = some (.int .u16 65534) := BE.cell 7
 obtain ⟨rf, of, ccf, ef, yf⟩ := row_one NF.1
 simp only [Value.slice.injEq] at ef
 obtain ⟨rfl, -, rfl⟩ := ef
 have xj : wm.cell? ⟨qj, 9, none⟩ = some (.slice ad9 2 cd9) := BJ.cell 9
 have SJ : Row wm (.slice ad9 2 cd9) (([44, 255] : List UInt8).map bV) := ND9.1
 have SC := conv_row (P := Try.prog) SJ 28 9 5 Try.underlying28 Try.underlying5 Try.underlying9
 clear SJ
 go_wp2_with fail
 clear x5 x6 x7 y5 y6 y7 xe yf xj SC
 clear BE BEn
 clear BG BGn
 clear BH BHn
 clear BI BIn
 clear BJ BJn
 clear NV5
 clear NV6
 clear NV7
 clear NF
 clear ND9
 have E := (Below.refl wm.heap.size wm).alloc (Nat.le_refl _) (.cells #[.int .u8 7] 5)
 have RP : RowF (Gd g lo hi) (wm.alloc (.cells #[.int .u8 7] 5)) (.slice (some ⟨wm.heap.size, 0, none⟩) 1 1) [.int .u8 7] := ⟨row_new wm [.int .u8 7] 5 1 rfl (by unfold maxLen; omega), fun _ => nw_off (NwV.mk _ _ _ _ _ (Nat.le_refl _)) D.blk.lt D.sto.top⟩
 have s1 := hidden (World.size_alloc wm (.cells #[.int .u8 7] 5))
 replace D := D.ext E
 replace BW := below_then BW E
 clear E
 generalize wm.heap.size = qp at *
 generalize wm.alloc (.cells #[.int .u8 7] 5) = u26 at *
 clear s1
 refine (vpdu_any g gs lo hi 4 ⟨⟨List.replicate 4 false, List.replicate 4 false, List.replicate 4 0, [9, 4, 6, 0]⟩, 1, 0, 44⟩ _ [7] u26 D RP (by decide) ⟨by decide, by decide, by decide, by decide⟩ ⟨by decide, by decide⟩).mono ?_
 rintro e wn ⟨v', rfl, R, D2, KK⟩
 have hp : pduD 4 ⟨⟨List.replicate 4 false, List.replicate 4 false, List.replicate 4 0, [9, 4, 6, 0]⟩, 1, 0, 44⟩ [7] = ([135, 1], ⟨⟨List.replicate 4 false, List.replicate 4 false, List.replicate 4 0, [9, 4, 6, 0]⟩, 2, 1, 44⟩) := by
  rw [pduD, if_neg (by decide), if_pos (by rw [readE_fn (by decide) (by decide)]; decide), if_pos (readE_fn (by decide) (by decide))]
  kernel_rfl
 rw [hp] at R D2
 clear hp D
 have D := D2
 clear D2
 replace BW := bw_gd BW KK HG.out
 replace RP := RP.kp KK (fun _ _ h => h)
 clear KK
 clear RP
 simp only at R D
 obtain ⟨ap, cp, rfl, -⟩ := id R
 simp only [List.map_cons, List.map_nil, List.length_cons, List.length_nil] at R ⊢
 replace R : Row wn _ (([135, 1] : List UInt8).map bV) := R
 have SC := conv_row (P := Try.prog) R 28 9 5 Try.underlying28 Try.underlying5 Try.underlying9
 clear R
 go_wp2_with fail
 clear SC
 refine (vpdu_any g gs lo hi 4 ⟨⟨List.replicate 4 false, List.replicate 4 false, List.replicate 4 0, [9, 4, 6, 0]⟩, 2, 1, 44⟩ _ [] wn D (RowF.nil _ _) (by decide) ⟨by decide, by decide, by decide, by decide⟩ ⟨by decide, by decide⟩).mono ?_
 rintro e wo ⟨v', rfl, R, D2, KK⟩
 rw [show pduD 4 ⟨⟨List.replicate 4 false, List.replicate 4 false, List.replicate 4 0, [9, 4, 6, 0]⟩, 2, 1, 44⟩ [] = ([], ⟨⟨List.replicate 4 false, List.replicate 4 false, List.replicate 4 0, [9, 4, 6, 0]⟩, 2, 1, 44⟩) by simp [pduD]] at R
 replace BW := bw_gd BW KK HG.out
 clear KK D D2
 obtain ⟨ap, cp, rfl, -⟩ := id R
 simp only [List.map_nil, List.length_nil]
 clear R
 go_wp2
 go_ret
 exact ⟨rfl, BW⟩
end Go.Proofs.Ytdihcdphgiaepaa
