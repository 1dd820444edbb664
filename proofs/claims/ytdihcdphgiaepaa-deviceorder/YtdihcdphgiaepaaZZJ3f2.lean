/- burgagelaw9.DeviceOrder, in part. -/
import Derived.Test.YtdihcdphgiaepaaZZJ3
namespace Go.Proofs.Ytdihcdphgiaepaa
open Go.RowKit
set_option maxRecDepth 100000 in
set_option maxHeartbeats 4000000 in
theorem order_2_1 (fn at_ n a c : Int) (w : World) (e1 : bits BinOp.and IntKind.i64 fn 3 = 1) (e2 : bits BinOp.and IntKind.i64 n 4095 = c) (e3 : bits BinOp.and IntKind.i64 at_ 65535 = a) (ha1 : 0 ≤ a) (ha2 : a ≤ 65535) (hc1 : 0 ≤ c) (hc2 : c ≤ 4095) (h : c < 1) : Calls Try.prog 5 #[.int .i64 fn, .int .i64 at_, .int .i64 n] w fun e w' => e = .returned (.bool true) ∧ Below w.heap.size w w' := by
 have hd := ord_bad (f := 2) (by decide) ⟨ha1, ha2⟩ ⟨hc1, hc2⟩ (by simp; omega)
 have HD := hidden hd
 clear hd
 have HE1 := hidden e1
 have HE2 := hidden e2
 have HE3 := hidden e3
 have BW := Below.refl w.heap.size w
 go_enter Try.func5, Try.ntmps5
 go_wp2_with fail
 refine (vnew_any 50 50 w rfl (by omega)).mono ?_
 rintro e u1 ⟨g, gs, lo, hi, rfl, D, hg1, hg2, E⟩
 have HG : Hid (w.heap.size ≤ lo ∧ hi ≤ g ∧ w.heap.size ≤ g) := ⟨by have := BW.size; omega, hg2, by have := BW.size; have := D.sto.me; have h1 := this.1; have h2 := this.2; omega⟩
 clear hg1 hg2
 replace BW := below_then BW E
 clear E
 have D0 : DD u1 g gs lo hi 50 (d50 0 0) := D
 clear D
 have D := D0
 clear D0
 go_wp2_with fail
 have E := (Below.refl u1.heap.size u1).alloc (Nat.le_refl _) (.cells #[.int .i64 1, .int .i64 2, .int .i64 3, .int .i64 4] 3)
 replace D := D.ext E
 replace BW := below_then BW E
 clear E
 generalize u1.heap.size = bu2 at *
 generalize u1.alloc (.cells #[.int .i64 1, .int .i64 2, .int .i64 3, .int .i64 4] 3) = u2 at *
 obtain ⟨X0, hX0⟩ : ∃ X, doD 50 (d50 0 0) ⟨2, a, c, 0, 0, [], [], 0, 0⟩ = X := ⟨_, rfl⟩
 refine (vdo_any g gs lo hi 50 (d50 0 0) ⟨2, a, c, 0, 0, [], [], 0, 0⟩ _ u2 D ⟨_, _, rfl, RowF.nil _ _, RowF.nil _ _⟩ ⟨by decide, by decide, by decide, by decide⟩ ⟨by decide, by decide⟩).mono ?_
 rintro e u3 ⟨v', rfl, NR, D2, KK⟩
 rw [hX0] at NR D2
 have HX0 := hidden hX0
 clear hX0
 obtain ⟨vb, vv, vd, rfl, ⟨NB0, NV0, ND0⟩, nb, nv, nd⟩ := NR
 have hg := D.blk.lt
 have hh := D.sto.top
 clear D
 have D := D2
 clear D2
 replace BW := bw_gd BW KK HG.out
 clear KK
 have NB0 : RowF (Gd g lo hi) u3 _ _ := ⟨NB0, fun _ => nw_off nb hg hh⟩
 have NV0 : RowF (Gd g lo hi) u3 _ _ := ⟨NV0, fun _ => nw_off nv hg hh⟩
 have ND0 : RowF (Gd g lo hi) u3 _ _ := ⟨ND0, fun _ => nw_off nd hg hh⟩
 clear nb nv nd hg hh
 obtain ⟨ab0, cb0, rfl, -⟩ := id NB0.1
 obtain ⟨av0, cv0, rfl, -⟩ := id NV0.1
 obtain ⟨ad0, cd0, rfl, -⟩ := id ND0.1
 obtain rfl : ((⟨2, 3, 0, 0, 0, [], [], 0, 0, []⟩ : Rp), d50 1 1) = X0 := by rw [← HX0.out, HD.out] <;> rfl
 clear HX0 HD
 simp only at D
 simp only [List.map_nil, List.length_nil] at NB0 NV0 ND0 ⊢
 clear NB0
 clear NV0
 clear ND0
 have E := (Below.refl u3.heap.size u3).alloc (Nat.le_refl _) (.cells #[.int .i64 2, .int .i64 3, .int .i64 0, .int .i64 0, .int .i64 0, .slice ab0 0 cb0, .slice av0 0 cv0, .int .u16 0, .int .u16 0, .slice ad0 0 cd0] tP)
 have BX := Blk.new u3 tP [.int .i64 2, .int .i64 3, .int .i64 0, .int .i64 0, .int .i64 0, .slice ab0 0 cb0, .slice av0 0 cv0, .int .u16 0, .int .u16 0, .slice ad0 0 cd0]
 have BXn : Hid (¬ Gd g lo hi u3.heap.size) := gd_no D.blk.lt D.sto.top
 replace D := D.ext E
 replace BW := below_then BW E
 clear E
 go_wp2_with fail
 generalize u3.heap.size = qx at *
 generalize (u3.alloc (.cells #[.int .i64 2, .int .i64 3, .int .i64 0, .int .i64 0, .int .i64 0, .slice ab0 0 cb0, .slice av0 0 cv0, .int .u16 0, .int .u16 0, .slice ad0 0 cd0] tP)) = wl at *
 refine (vcounts_any g gs 1 1 0 wl D.blk).mono ?_
 rintro e wm ⟨rfl, E⟩
 replace D := D.ext E
 replace BW := below_then BW E
 replace BX := BX.below E BX.lt
 clear E
 have x1 : wm.cell? ⟨qx, 1, none⟩ = some (.int .i64 3) := BX.cell 1
 have HBW := hidden BW
 clear BW D BX BXn
 go_wp2_with fail
 refine (known9 wm).mono ?_
 rintro e wz ⟨rfl, E⟩
 have E2 := hidden (below_then HBW.out E)
 clear E HBW
 go_wp2
 go_ret
 exact ⟨rfl, E2.out⟩
set_option maxRecDepth 100000 in
set_option maxHeartbeats 4000000 in
theorem order_2_2 (fn at_ n a c : Int) (w : World) (e1 : bits BinOp.and IntKind.i64 fn 3 = 1) (e2 : bits BinOp.and IntKind.i64 n 4095 = c) (e3 : bits BinOp.and IntKind.i64 at_ 65535 = a) (ha1 : 0 ≤ a) (ha2 : a ≤ 65535) (hc1 : 0 ≤ c) (hc2 : c ≤ 4095) (h : 2000 < c) : Calls Try.prog 5 #[.int .i64 fn, .int .i64 at_, .int .i64 n] w fun e w' => e = .returned (.bool true) ∧ Below w.heap.size w w' := by
 have hd := ord_bad (f := 2) (by decide) ⟨ha1, ha2⟩ ⟨hc1, hc2⟩ (by simp; omega)
 have HD := hidden hd
 clear hd
 have HE1 := hidden e1
 have HE2 := hidden e2
 have HE3 := hidden e3
 have BW := Below.refl w.heap.size w
 go_enter Try.func5, Try.ntmps5
 go_wp2_with fail
 refine (vnew_any 50 50 w rfl (by omega)).mono ?_
 rintro e u1 ⟨g, gs, lo, hi, rfl, D, hg1, hg2, E⟩
 have HG : Hid (w.heap.size ≤ lo ∧ hi ≤ g ∧ w.heap.size ≤ g) := ⟨by have := BW.size; omega, hg2, by have := BW.size; have := D.sto.me; have h1 := this.1; have h2 := this.2; omega⟩
 clear hg1 hg2
 replace BW := below_then BW E
 clear E
 have D0 : DD u1 g gs lo hi 50 (d50 0 0) := D
 clear D
 have D := D0
 clear D0
 go_wp2_with fail
 have E := (Below.refl u1.heap.size u1).alloc (Nat.le_refl _) (.cells #[.int .i64 1, .int .i64 2, .int .i64 3, .int .i64 4] 3)
 replace D := D.ext E
 replace BW := below_then BW E
 clear E
 generalize u1.heap.size = bu2 at *
 generalize u1.alloc (.cells #[.int .i64 1, .int .i64 2, .int .i64 3, .int .i64 4] 3) = u2 at *
 obtain ⟨X0, hX0⟩ : ∃ X, doD 50 (d50 0 0) ⟨2, a, c, 0, 0, [], [], 0, 0⟩ = X := ⟨_, rfl⟩
 refine (vdo_any g gs lo hi 50 (d50 0 0) ⟨2, a, c, 0, 0, [], [], 0, 0⟩ _ u2 D ⟨_, _, rfl, RowF.nil _ _, RowF.nil _ _⟩ ⟨by decide, by decide, by decide, by decide⟩ ⟨by decide, by decide⟩).mono ?_
 rintro e u3 ⟨v', rfl, NR, D2, KK⟩
 rw [hX0] at NR D2
 have HX0 := hidden hX0
 clear hX0
 obtain ⟨vb, vv, vd, rfl, ⟨NB0, NV0, ND0⟩, nb, nv, nd⟩ := NR
 have hg := D.blk.lt
 have hh := D.sto.top
 clear D
 have D := D2
 clear D2
 replace BW := bw_gd BW KK HG.out
 clear KK
 have NB0 : RowF (Gd g lo hi) u3 _ _ := ⟨NB0, fun _ => nw_off nb hg hh⟩
 have NV0 : RowF (Gd g lo hi) u3 _ _ := ⟨NV0, fun _ => nw_off nv hg hh⟩
 have ND0 : RowF (Gd g lo hi) u3 _ _ := ⟨ND0, fun _ => nw_off nd hg hh⟩
 clear nb nv nd hg hh
 obtain ⟨ab0, cb0, rfl, -⟩ := id NB0.1
 obtain ⟨av0, cv0, rfl, -⟩ := id NV0.1
 obtain ⟨ad0, cd0, rfl, -⟩ := id ND0.1
 obtain rfl : ((⟨2, 3, 0, 0, 0, [], [], 0, 0, []⟩ : Rp), d50 1 1) = X0 := by rw [← HX0.out, HD.out] <;> rfl
 clear HX0 HD
 simp only at D
 simp only [List.map_nil, List.length_nil] at NB0 NV0 ND0 ⊢
 clear NB0
 clear NV0
 clear ND0
 have E := (Below.refl u3.heap.size u3).alloc (Nat.le_refl _) (.cells #[.int .i64 2, .int .i64 3, .int .i64 0, .int .i64 0, .int .i64 0, .slice ab0 0 cb0, .slice av0 0 cv0, .int .u16 0, .int .u16 0, .slice ad0 0 cd0] tP)
 have BX := Blk.new u3 tP [.int .i64 2, .int .i64 3, .int .i64 0, .int .i64 0, .int .i64 0, .slice ab0 0 cb0, .slice av0 0 cv0, .int .u16 0, .int .u16 0, .slice ad0 0 cd0]
 have BXn : Hid (¬ Gd g lo hi u3.heap.size) := gd_no D.blk.lt D.sto.top
 replace D := D.ext E
 replace BW := below_then BW E
 clear E
 go_wp2_with fail
 generalize u3.heap.size = qx at *
 generalize (u3.alloc (.cells #[.int .i64 2, .int .i64 3, .int .i64 0, .int .i64 0, .int .i64 0, .slice ab0 0 cb0, .slice av0 0 cv0, .int .u16 0, .int .u16 0, .slice ad0 0 cd0] tP)) = wl at *
 refine (vcounts_any g gs 1 1 0 wl D.blk).mono ?_
 rintro e wm ⟨rfl, E⟩
 replace D := D.ext E
 replace BW := below_then BW E
 replace BX := BX.below E BX.lt
 clear E
 have x1 : wm.cell? ⟨qx, 1, none⟩ = some (.int .i64 3) := BX.cell 1
 have HBW := hidden BW
 clear BW D BX BXn
 go_wp2_with fail
 refine (known9 wm).mono ?_
 rintro e wz ⟨rfl, E⟩
 have E2 := hidden (below_then HBW.out E)
 clear E HBW
 go_wp2
 go_ret
 exact ⟨rfl, E2.out⟩
set_option maxRecDepth 100000 in
set_option maxHeartbeats 4000000 in
theorem order_2_3 (fn at_ n a c : Int) (w : World) (e1 : bits BinOp.and IntKind.i64 fn 3 = 1) (e2 : bits BinOp.and IntKind.i64 n 4095 = c) (e3 : bits BinOp.and IntKind.i64 at_ 65535 = a) (ha1 : 0 ≤ a) (ha2 : a ≤ 65535) (hc1 : 0 ≤ c) (hc2 : c ≤ 4095) (h1 : 1 ≤ c) (h2 : c ≤ 2000) (h3 : 50 < a + c) : Calls Try.prog 5 #[.int .i64 fn, .int .i64 at_, .int .i64 n] w fun e w' => e = .returned (.bool true) ∧ Below w.heap.size w w' := by
 have hd := ord_far (f := 2) (by decide) ⟨ha1, ha2⟩ ⟨hc1, hc2⟩ (by simp; omega) h3
 have HD := hidden hd
 clear hd
 have HE1 := hidden e1
 have HE2 := hidden e2
 have HE3 := hidden e3
 have BW := Below.refl w.heap.size w
 go_enter Try.func5, Try.ntmps5
 go_wp2_with fail
 refine (vnew_any 50 50 w rfl (by omega)).mono ?_
 rintro e u1 ⟨g, gs, lo, hi, rfl, D, hg1, hg2, E⟩
 have HG : Hid (w.heap.size ≤ lo ∧ hi ≤ g ∧ w.heap.size ≤ g) := ⟨by have := BW.size; omega, hg2, by have := BW.size; have := D.sto.me; have h1 := this.1; have h2 := this.2; omega⟩
 clear hg1 hg2
 replace BW := below_then BW E
 clear E
 have D0 : DD u1 g gs lo hi 50 (d50 0 0) := D
 clear D
 have D := D0
 clear D0
 go_wp2_with fail
 have E := (Below.refl u1.heap.size u1).alloc (Nat.le_refl _) (.cells #[.int .i64 1, .int .i64 2, .int .i64 3, .int .i64 4] 3)
 replace D := D.ext E
 replace BW := below_then BW E
 clear E
 generalize u1.heap.size = bu2 at *
 generalize u1.alloc (.cells #[.int .i64 1, .int .i64 2, .int .i64 3, .int .i64 4] 3) = u2 at *
 obtain ⟨X0, hX0⟩ : ∃ X, doD 50 (d50 0 0) ⟨2, a, c, 0, 0, [], [], 0, 0⟩ = X := ⟨_, rfl⟩
 refine (vdo_any g gs lo hi 50 (d50 0 0) ⟨2, a, c, 0, 0, [], [], 0, 0⟩ _ u2 D ⟨_, _, rfl, RowF.nil _ _, RowF.nil _ _⟩ ⟨by decide, by decide, by decide, by decide⟩ ⟨by decide, by decide⟩).mono ?_
 rintro e u3 ⟨v', rfl, NR, D2, KK⟩
 rw [hX0] at NR D2
 have HX0 := hidden hX0
 clear hX0
 obtain ⟨vb, vv, vd, rfl, ⟨NB0, NV0, ND0⟩, nb, nv, nd⟩ := NR
 have hg := D.blk.lt
 have hh := D.sto.top
 clear D
 have D := D2
 clear D2
 replace BW := bw_gd BW KK HG.out
 clear KK
 have NB0 : RowF (Gd g lo hi) u3 _ _ := ⟨NB0, fun _ => nw_off nb hg hh⟩
 have NV0 : RowF (Gd g lo hi) u3 _ _ := ⟨NV0, fun _ => nw_off nv hg hh⟩
 have ND0 : RowF (Gd g lo hi) u3 _ _ := ⟨ND0, fun _ => nw_off nd hg hh⟩
 clear nb nv nd hg hh
 obtain ⟨ab0, cb0, rfl, -⟩ := id NB0.1
 obtain ⟨av0, cv0, rfl, -⟩ := id NV0.1
 obtain ⟨ad0, cd0, rfl, -⟩ := id ND0.1
 obtain rfl : ((⟨2, 2, 0, 0, 0, [], [], 0, 0, []⟩ : Rp), d50 1 1) = X0 := by rw [← HX0.out, HD.out] <;> rfl
 clear HX0 HD
 simp only at D
 simp only [List.map_nil, List.length_nil] at NB0 NV0 ND0 ⊢
 clear NB0
 clear NV0
 clear ND0
 have E := (Below.refl u3.heap.size u3).alloc (Nat.le_refl _) (.cells #[.int .i64 2, .int .i64 2, .int .i64 0, .int .i64 0, .int .i64 0, .slice ab0 0 cb0, .slice av0 0 cv0, .int .u16 0, .int .u16 0, .slice ad0 0 cd0] tP)
 have BX := Blk.new u3 tP [.int .i64 2, .int .i64 2, .int .i64 0, .int .i64 0, .int .i64 0, .slice ab0 0 cb0, .slice av0 0 cv0, .int .u16 0, .int .u16 0, .slice ad0 0 cd0]
 have BXn : Hid (¬ Gd g lo hi u3.heap.size) := gd_no D.blk.lt D.sto.top
 replace D := D.ext E
 replace BW := below_then BW E
 clear E
 go_wp2_with fail
 generalize u3.heap.size = qx at *
 generalize (u3.alloc (.cells #[.int .i64 2, .int .i64 2, .int .i64 0, .int .i64 0, .int .i64 0, .slice ab0 0 cb0, .slice av0 0 cv0, .int .u16 0, .int .u16 0, .slice ad0 0 cd0] tP)) = wl at *
 refine (vcounts_any g gs 1 1 0 wl D.blk).mono ?_
 rintro e wm ⟨rfl, E⟩
 replace D := D.ext E
 replace BW := below_then BW E
 replace BX := BX.below E BX.lt
 clear E
 have x1 : wm.cell? ⟨qx, 1, none⟩ = some (.int .i64 2) := BX.cell 1
 have HBW := hidden BW
 clear BW D BX BXn
 go_wp2_with fail
 refine (known9 wm).mono ?_
 rintro e wz ⟨rfl, E⟩
 have E2 := hidden (below_then HBW.out E)
 clear E HBW
 go_wp2
 go_ret
 exact ⟨rfl, E2.out⟩
set_option maxRecDepth 100000 in
set_option maxHeartbeats 4000000 in
theorem order_2_4 (fn at_ n a c : Int) (w : World) (e1 : bits BinOp.and IntKind.i64 fn 3 = 1) (e2 : bits BinOp.and IntKind.i64 n 4095 = c) (e3 : bits BinOp.and IntKind.i64 at_ 65535 = a) (ha1 : 0 ≤ a) (ha2 : a ≤ 65535) (hc1 : 0 ≤ c) (hc2 : c ≤ 4095) (h1 : 1 ≤ c) (h2 : c ≤ 2000) (h3 : a + c ≤ 50) : Calls Try.prog 5 #[.int .i64 fn, .int .i64 at_, .int .i64 n] w fun e w' => e = .returned (.bool true) ∧ Below w.heap.size w w' := by
 obtain ⟨lb, lv, hd, hlb, hlv⟩ := ord_near (f := 2) (by decide) ⟨ha1, ha2⟩ ⟨hc1, hc2⟩ (by simp; omega) h3
 simp only [Int.reduceLE, if_true] at hlb hlv
 have HD := hidden hd
 clear hd
 have HE1 := hidden e1
 have HE2 := hidden e2
 have HE3 := hidden e3
 obtain ⟨nb, hnb⟩ : ∃ k : Nat, lb.length = k := ⟨_, rfl⟩
 obtain ⟨nv, hnv⟩ : ∃ k : Nat, lv.length = k := ⟨_, rfl⟩
 rw [hnb] at hlb
 rw [hnv] at hlv
 have HNB := hidden hnb
 have HNV := hidden hnv
 clear hnb hnv
 obtain rfl : c = (nb : Int) := by omega
 obtain rfl : nv = 0 := by omega
 clear hlb hlv
 have BW := Below.refl w.heap.size w
 go_enter Try.func5, Try.ntmps5
 go_wp2_with fail
 refine (vnew_any 50 50 w rfl (by omega)).mono ?_
 rintro e u1 ⟨g, gs, lo, hi, rfl, D, hg1, hg2, E⟩
 have HG : Hid (w.heap.size ≤ lo ∧ hi ≤ g ∧ w.heap.size ≤ g) := ⟨by have := BW.size; omega, hg2, by have := BW.size; have := D.sto.me; have h1 := this.1; have h2 := this.2; omega⟩
 clear hg1 hg2
 replace BW := below_then BW E
 clear E
 have D0 : DD u1 g gs lo hi 50 (d50 0 0) := D
 clear D
 have D := D0
 clear D0
 go_wp2_with fail
 have E := (Below.refl u1.heap.size u1).alloc (Nat.le_refl _) (.cells #[.int .i64 1, .int .i64 2, .int .i64 3, .int .i64 4] 3)
 replace D := D.ext E
 replace BW := below_then BW E
 clear E
 generalize u1.heap.size = bu2 at *
 generalize u1.alloc (.cells #[.int .i64 1, .int .i64 2, .int .i64 3, .int .i64 4] 3) = u2 at *
 obtain ⟨X0, hX0⟩ : ∃ X, doD 50 (d50 0 0) ⟨2, a, (nb : Int), 0, 0, [], [], 0, 0⟩ = X := ⟨_, rfl⟩
 refine (vdo_any g gs lo hi 50 (d50 0 0) ⟨2, a, (nb : Int), 0, 0, [], [], 0, 0⟩ _ u2 D ⟨_, _, rfl, RowF.nil _ _, RowF.nil _ _⟩ ⟨by decide, by decide, by decide, by decide⟩ ⟨by decide, by decide⟩).mono ?_
 rintro e u3 ⟨v', rfl, NR, D2, KK⟩
 rw [hX0] at NR D2
 have HX0 := hidden hX0
 clear hX0
 obtain ⟨vb, vv, vd, rfl, ⟨NB0, NV0, ND0⟩, nb, nv, nd⟩ := NR
 have hg := D.blk.lt
 have hh := D.sto.top
 clear D
 have D := D2
 clear D2
 replace BW := bw_gd BW KK HG.out
 clear KK
 have NB0 : RowF (Gd g lo hi) u3 _ _ := ⟨NB0, fun _ => nw_off nb hg hh⟩
 have NV0 : RowF (Gd g lo hi) u3 _ _ := ⟨NV0, fun _ => nw_off nv hg hh⟩
 have ND0 : RowF (Gd g lo hi) u3 _ _ := ⟨ND0, fun _ => nw_off nd hg hh⟩
 clear nb nv nd hg hh
 obtain ⟨ab0, cb0, rfl, -⟩ := id NB0.1
 obtain ⟨av0, cv0, rfl, -⟩ := id NV0.1
 obtain ⟨ad0, cd0, rfl, -⟩ := id ND0.1
 obtain rfl : ((⟨2, 0, 0, 0, 0, lb, lv, 0, 0, []⟩ : Rp), d50 1 0) = X0 := by rw [← HX0.out, HD.out] <;> rfl
 clear HX0 HD
 simp only at D
 simp only [List.length_map, HNB.out, HNV.out, List.map_nil, List.length_nil] at NB0 NV0 ND0 ⊢
 clear NB0
 clear NV0
 clear ND0
 have E := (Below.refl u3.heap.size u3).alloc (Nat.le_refl _) (.cells #[.int .i64 2, .int .i64 0, .int .i64 0, .int .i64 0, .int .i64 0, .slice ab0 nb cb0, .slice av0 0 cv0, .int .u16 0, .int .u16 0, .slice ad0 0 cd0] tP)
 have BX := Blk.new u3 tP [.int .i64 2, .int .i64 0, .int .i64 0, .int .i64 0, .int .i64 0, .slice ab0 nb cb0, .slice av0 0 cv0, .int .u16 0, .int .u16 0, .slice ad0 0 cd0]
 have BXn : Hid (¬ Gd g lo hi u3.heap.size) := gd_no D.blk.lt D.sto.top
 replace D := D.ext E
 replace BW := below_then BW E
 clear E
 go_wp2_with fail
 generalize u3.heap.size = qx at *
 generalize (u3.alloc (.cells #[.int .i64 2, .int .i64 0, .int .i64 0, .int .i64 0, .int .i64 0, .slice ab0 nb cb0, .slice av0 0 cv0, .int .u16 0, .int .u16 0, .slice ad0 0 cd0] tP)) = wl at *
 refine (vcounts_any g gs 1 0 0 wl D.blk).mono ?_
 rintro e wm ⟨rfl, E⟩
 replace D := D.ext E
 replace BW := below_then BW E
 replace BX := BX.below E BX.lt
 clear E
 have x1 : wm.cell? ⟨qx, 1, none⟩ = some (.int .i64 0) := BX.cell 1
 have x5 : wm.cell? ⟨qx, 5, none⟩ = some (.slice ab0 nb cb0) := BX.cell 5
 have x6 : wm.cell? ⟨qx, 6, none⟩ = some (.slice av0 0 cv0) := BX.cell 6
 have HBW := hidden BW
 clear BW D BX BXn
 go_wp2_with fail
 refine (known9 wm).mono ?_
 rintro e wz ⟨rfl, E⟩
 have E2 := hidden (below_then HBW.out E)
 clear E HBW
 go_wp2
 go_ret
 exact ⟨rfl, E2.out⟩
end Go.Proofs.Ytdihcdphgiaepaa
