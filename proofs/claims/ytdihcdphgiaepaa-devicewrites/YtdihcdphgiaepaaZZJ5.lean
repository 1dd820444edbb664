/- burgagelaw9.DeviceWrites. -/
import Derived.Test.YtdihcdphgiaepaaZZJ4
namespace Go.Proofs.Ytdihcdphgiaepaa
open Go.RowKit
set_option maxRecDepth 100000 in
set_option maxHeartbeats 16000000 in
theorem writes_law (v1 v2 : Value) (xs : List UInt16) (ls : List Bool) (at_ : Int) (m o : UInt16) (w : World) (hv : Row w v1 (xs.map wV)) (hl : Row w v2 (ls.map Value.bool)) (ha : -9223372036854775808 ≤ at_ ∧ at_ ≤ 9223372036854775807) : Calls Try.prog 3 #[.int .i64 at_, v1, v2, wV m, wV o] w fun e w' => e = .returned (.bool true) ∧ Below w.heap.size w w' := by
 obtain ⟨av, len1, cv, n1, l1, rfl, -, hq1, hm1, hk1, hn1, hb1, hmin1, hr1⟩ := cut_min hv 20 20 rfl
 obtain ⟨al, len2, cl, n2, l2, rfl, -, hq2, hm2, hk2, hn2, hb2, hmin2, hr2⟩ := cut_min hl 20 20 rfl
 unfold maxLen at hm1 hm2
 have R1 := hidden hr1
 have R2 := hidden hr2
 have HB1 := hidden hb1
 have HB2 := hidden hb2
 clear hv hl hr1 hr2 hb1 hb2
 have BW := Below.refl w.heap.size w
 go_enter Try.func3, Try.ntmps3
 go_wp2_with fail
 refine (vnew_any 100 100 w rfl (by omega)).mono ?_
 rintro e u1 ⟨g, gs, lo, hi, rfl, D, hg1, hg2, E⟩
 have HG : Hid (w.heap.size ≤ lo ∧ hi ≤ g ∧ w.heap.size ≤ g) := ⟨by have := BW.size; omega, hg2, by have := BW.size; have := D.sto.me; have h1 := this.1; have h2 := this.2; omega⟩
 clear hg1 hg2
 replace BW := below_then BW E
 clear E
 have D0 : DD u1 g gs lo hi 100 (d2 (Cs.zero 100) 0 0) := D
 clear D
 have D := D0
 clear D0
 go_wp2_with fail
 refine (within_any at_ 0 110 _ ha (by decide) (by decide) (by decide)).mono ?_
 rintro e u1' ⟨⟨k, rfl, k0, k1⟩, rfl⟩
 have EA := (Below.refl u1.heap.size u1).alloc (Nat.le_refl _) (.cells #[.int .u16 3] 24)
 have O1 : (u1.alloc (.cells #[.int .u16 3] 24)).ownsRow u1.heap.size 24 1 (.slice (some ⟨u1.heap.size, 0, none⟩) 1 1) 1 [.int .u16 3] :=
  ⟨rfl, .inr ⟨u1.heap.size, 1, #[.int .u16 3], rfl, Nat.le_refl _, heap_alloc_new u1 _, Nat.le_refl _, by unfold maxLen; omega, by simp, by simp⟩⟩
 have RR := (R1.out.below BW).below EA
 go_wp2_with (at_builtin; refine wpList_app rfl (.tmp 25) (.tmp 30) 22 rfl u1.heap.size 24 (.int .u16 0) 2 Try.underlying22 info_w16 rfl rfl O1 rfl RR (one_words _) (by simp [maxLen]; have := HB1.out; omega) (by simp; have := HB1.out; omega) (by simp) ?_)
 intro vV u2 o2 hg
 have E := EA.grown hg (by simp) (fun k hk => (O1.lt k hk).1)
 obtain ⟨ws, hws⟩ : ∃ l, (3 : UInt16) :: l1 = l := ⟨_, rfl⟩
 have RW : RowF (Gd g lo hi) u2 vV (ws.map wV) := ⟨by rw [← hws]; exact Row.of_owns o2, fun _ => nw_off (fun k hk => (o2.lt k hk).1) D.blk.lt D.sto.top⟩
 have hlws : ws.length = n1 + 1 := by rw [← hws, List.length_cons, HB1.out]
 have Hws := hidden hws
 have HLws := hidden hlws
 clear hws hlws o2 hg O1 EA RR hmin1
 replace D := D.ext E
 replace BW := below_then BW E
 clear E
 obtain ⟨aRW, cRW, rfl, -⟩ := id RW.1
 simp only [List.length_map, HLws.out] at RW ⊢
 have EA := (Below.refl u2.heap.size u2).alloc (Nat.le_refl _) (.cells #[.bool true] 4)
 have O1 : (u2.alloc (.cells #[.bool true] 4)).ownsRow u2.heap.size 4 1 (.slice (some ⟨u2.heap.size, 0, none⟩) 1 1) 1 [.bool true] :=
  ⟨rfl, .inr ⟨u2.heap.size, 1, #[.bool true], rfl, Nat.le_refl _, heap_alloc_new u2 _, Nat.le_refl _, by unfold maxLen; omega, by simp, by simp⟩⟩
 have RR := (R2.out.below BW).below EA
 go_wp2_with (at_builtin; refine wpList_app rfl (.tmp 32) (.tmp 37) 23 rfl u2.heap.size 4 (.bool false) 1 Try.underlying23 info_bool rfl rfl O1 rfl RR (one_bools _) (by simp [maxLen]; have := HB2.out; omega) (by simp; have := HB2.out; omega) (by simp) ?_)
 intro vB u3 o2 hg
 have E := EA.grown hg (by simp) (fun k hk => (O1.lt k hk).1)
 obtain ⟨bs, hbs⟩ : ∃ l, true :: l2 = l := ⟨_, rfl⟩
 have RB : RowF (Gd g lo hi) u3 vB (bs.map Value.bool) := ⟨by rw [← hbs]; exact Row.of_owns o2, fun _ => nw_off (fun k hk => (o2.lt k hk).1) D.blk.lt D.sto.top⟩
 have hlbs : bs.length = n2 + 1 := by rw [← hbs, List.length_cons, HB2.out]
 have Hbs := hidden hbs
 have HLbs := hidden hlbs
 clear hbs hlbs o2 hg O1 EA RR hmin2
 replace D := D.ext E
 replace BW := below_then BW E
 replace RW := RW.ext E
 clear E
 obtain ⟨aRB, cRB, rfl, -⟩ := id RB.1
 simp only [List.length_map, HLbs.out] at RB ⊢
 obtain ⟨nw, hnw⟩ : ∃ k, n1 + 1 = k := ⟨_, rfl⟩
 obtain ⟨nb, hnb⟩ : ∃ k, n2 + 1 = k := ⟨_, rfl⟩
 have nw1 : 1 ≤ nw := by omega
 have nw2 : nw ≤ 21 := by omega
 have nb1 : 1 ≤ nb := by omega
 have nb2 : nb ≤ 21 := by omega
 rw [hnw] at RW HLws ⊢
 rw [hnb] at RB HLbs ⊢
 clear hnw hnb hk1 hn1 hq1 hm1 hk2 hn2 hq2 hm2
 rcases (show (k + (nw : Int) ≤ 100 ∨ 100 < k + (nw : Int)) by omega) with hx | hx
 all_goals rcases (show (k + (nb : Int) ≤ 100 ∨ 100 < k + (nb : Int)) by omega) with hp | hp
 ·
  go_wp2_with fail
  obtain ⟨X0, hX0⟩ : ∃ X, doD 100 (d2 (Cs.zero 100) 0 0) ⟨16, k, nw, 0, 0, [], ws, 0, 0⟩ = X := ⟨_, rfl⟩
  refine (vdo_any g gs lo hi 100 (d2 (Cs.zero 100) 0 0) ⟨16, k, nw, 0, 0, [], ws, 0, 0⟩ _ u3 D ⟨_, _, rfl, RowF.nil _ _, RW⟩ ⟨by decide, by decide, by decide, by decide⟩ ⟨by decide, by decide⟩).mono ?_
  rintro e u4 ⟨v', rfl, NR, D2, KK⟩
  rw [hX0] at NR D2
  have HX0 := hidden hX0
  clear hX0
  obtain ⟨vb, vv, vd, rfl, ⟨NB0, NV0, ND0⟩, nb, nv, nd⟩ := NR
  have hg := D.blk.lt
  have hh := D.sto.top
  clear D
  have D := D2
  clear D2
  replace BW := bw_gd BW KK HG.out
  replace RW := RW.kp KK (fun _ _ h => h)
  replace RB := RB.kp KK (fun _ _ h => h)
  clear KK
  have NB0 : RowF (Gd g lo hi) u4 _ _ := ⟨NB0, fun _ => nw_off nb hg hh⟩
  have NV0 : RowF (Gd g lo hi) u4 _ _ := ⟨NV0, fun _ => nw_off nv hg hh⟩
  have ND0 : RowF (Gd g lo hi) u4 _ _ := ⟨ND0, fun _ => nw_off nd hg hh⟩
  clear nb nv nd hg hh
  obtain ⟨ab0, cb0, rfl, -⟩ := id NB0.1
  obtain ⟨av0, cv0, rfl, -⟩ := id NV0.1
  obtain ⟨ad0, cd0, rfl, -⟩ := id ND0.1
  obtain rfl : ((⟨16, 0, k, (nw : Int), 0, [], [], 0, 0, []⟩ : Rp), d2 (setV 100 (Cs.zero 100) 3 k ws) 1 0) = X0 := by rw [← HX0.out, do16_ok ⟨by omega, by omega⟩ (by rw [HLws.out]) ⟨by omega, by omega⟩ (fits_t (by omega))] <;> rfl
  clear HX0
  simp only at D
  simp only [List.map_nil, List.length_nil] at NB0 NV0 ND0 ⊢
  clear NB0
  clear NV0
  clear ND0
  obtain ⟨s1, hs1⟩ : ∃ s, setV 100 (Cs.zero 100) 3 k ws = s := ⟨_, rfl⟩
  rw [hs1] at D
  have HS1 := hidden hs1
  clear hs1
  have GW : getV 100 s1 3 k nw = ws := by rw [← HS1.out]; exact getV_set (zero_lens 100).2 (by rw [HLws.out]) (fits_t (by omega))
  have G1 : Hid (getV 100 s1 3 k 1 = [3]) := by
   show _ = _
   rw [← HS1.out, ← Hws.out]
   exact getV_set1 (c := nw) (zero_lens 100).2 (by rw [Hws.out, HLws.out]) (fits_t (by omega))
  have SB : Hid (s1.b0.length = 100) := by show _ = _; rw [← HS1.out, setV_b0]; exact (zero_lens 100).1
  clear HS1
  have HGW := hidden GW
  clear GW
  go_wp2_with fail
  have E := (Below.refl u4.heap.size u4).alloc (Nat.le_refl _) (.cells #[.int .i64 16, .int .i64 0, .int .i64 k, .int .i64 (nw : Int), .int .i64 0, .slice ab0 0 cb0, .slice av0 0 cv0, .int .u16 0, .int .u16 0, .slice ad0 0 cd0] tP)
  have BX := Blk.new u4 tP [.int .i64 16, .int .i64 0, .int .i64 k, .int .i64 (nw : Int), .int .i64 0, .slice ab0 0 cb0, .slice av0 0 cv0, .int .u16 0, .int .u16 0, .slice ad0 0 cd0]
  have BXn : Hid (¬ Gd g lo hi u4.heap.size) := gd_no D.blk.lt D.sto.top
  have s1 := hidden (World.size_alloc u4 (.cells #[.int .i64 16, .int .i64 0, .int .i64 k, .int .i64 (nw : Int), .int .i64 0, .slice ab0 0 cb0, .slice av0 0 cv0, .int .u16 0, .int .u16 0, .slice ad0 0 cd0] tP))
  replace D := D.ext E
  replace BW := below_then BW E
  replace RW := RW.ext E
  replace RB := RB.ext E
  clear E
  generalize u4.heap.size = qx at *
  generalize u4.alloc (.cells #[.int .i64 16, .int .i64 0, .int .i64 k, .int .i64 (nw : Int), .int .i64 0, .slice ab0 0 cb0, .slice av0 0 cv0, .int .u16 0, .int .u16 0, .slice ad0 0 cd0] tP) = u5 at *
  clear s1
  obtain ⟨X1, hX1⟩ : ∃ X, doD 100 (d2 s1 1 0) ⟨3, k, nw, 0, 0, [], [], 0, 0⟩ = X := ⟨_, rfl⟩
  refine (vdo_any g gs lo hi 100 (d2 s1 1 0) ⟨3, k, nw, 0, 0, [], [], 0, 0⟩ _ u5 D ⟨_, _, rfl, RowF.nil _ _, RowF.nil _ _⟩ ⟨by simp [d2], by simp [d2], by simp [d2], by simp [d2]⟩ ⟨by simp [d2], by simp [d2]⟩).mono ?_
  rintro e u6 ⟨v', rfl, NR, D2, KK⟩
  rw [hX1] at NR D2
  have HX1 := hidden hX1
  clear hX1
  obtain ⟨vb, vv, vd, rfl, ⟨NB1, NV1, ND1⟩, nb, nv, nd⟩ := NR
  have hg := D.blk.lt
  have hh := D.sto.top
  clear D
  have D := D2
  clear D2
  replace BW := bw_gd BW KK HG.out
  replace BX := BX.kp KK BXn.out
  replace RW := RW.kp KK (fun _ _ h => h)
  replace RB := RB.kp KK (fun _ _ h => h)
  clear KK
  have NB1 : RowF (Gd g lo hi) u6 _ _ := ⟨NB1, fun _ => nw_off nb hg hh⟩
  have NV1 : RowF (Gd g lo hi) u6 _ _ := ⟨NV1, fun _ => nw_off nv hg hh⟩
  have ND1 : RowF (Gd g lo hi) u6 _ _ := ⟨ND1, fun _ => nw_off nd hg hh⟩
  clear nb nv nd hg hh
  obtain ⟨ab1, cb1, rfl, -⟩ := id NB1.1
  obtain ⟨av1, cv1, rfl, -⟩ := id NV1.1
  obtain ⟨ad1, cd1, rfl, -⟩ := id ND1.1
  obtain rfl : ((⟨3, 0, 0, 0, 0, [], (getV 100 s1 3 k nw), 0, 0, []⟩ : Rp), d2 s1 2 0) = X1 := by rw [← HX1.out, do3_ok ⟨by omega, by omega⟩ ⟨by omega, by omega⟩ (fits_t (by omega))] <;> rfl
  clear HX1
  simp only at D
  simp only [List.map_nil, List.length_nil, List.length_map] at NB1 NV1 ND1 ⊢
  clear NB1
  clear ND1
  simp only [HGW.out, HLws.out] at NV1 ⊢
  have E := (Below.refl u6.heap.size u6).alloc (Nat.le_refl _) (.cells #[.int .i64 3, .int .i64 0, .int .i64 0, .int .i64 0, .int .i64 0, .slice ab1 0 cb1, .slice av1 nw cv1, .int .u16 0, .int .u16 0, .slice ad1 0 cd1] tP)
  have BY := Blk.new u6 tP [.int .i64 3, .int .i64 0, .int .i64 0, .int .i64 0, .int .i64 0, .slice ab1 0 cb1, .slice av1 nw cv1, .int .u16 0, .int .u16 0, .slice ad1 0 cd1]
  have BYn : Hid (¬ Gd g lo hi u6.heap.size) := gd_no D.blk.lt D.sto.top
  replace D := D.ext E
  replace BW := below_then BW E
  replace BX := BX.below E BX.lt
  replace RW := RW.ext E
  replace RB := RB.ext E
  replace NV1 := NV1.ext E
  clear E
  have f1 : (u6.alloc (.cells #[.int .i64 3, .int .i64 0, .int .i64 0, .int .i64 0, .int .i64 0, .slice ab1 0 cb1, .slice av1 nw cv1, .int .u16 0, .int .u16 0, .slice ad1 0 cd1] tP)).cell? ⟨qx, 1, none⟩ = some (.int .i64 0) := BX.cell 1
  have f2 : (u6.alloc (.cells #[.int .i64 3, .int .i64 0, .int .i64 0, .int .i64 0, .int .i64 0, .slice ab1 0 cb1, .slice av1 nw cv1, .int .u16 0, .int .u16 0, .slice ad1 0 cd1] tP)).cell? ⟨u6.heap.size, 1, none⟩ = some (.int .i64 0) := BY.cell 1
  have f3 : (u6.alloc (.cells #[.int .i64 3, .int .i64 0, .int .i64 0, .int .i64 0, .int .i64 0, .slice ab1 0 cb1, .slice av1 nw cv1, .int .u16 0, .int .u16 0, .slice ad1 0 cd1] tP)).cell? ⟨u6.heap.size, 6, none⟩ = some (.slice av1 nw cv1) := BY.cell 6
  go_wp2_with fail
  clear f1 f2 f3
  generalize u6.heap.size = qy at *
  generalize (u6.alloc (.cells #[.int .i64 3, .int .i64 0, .int .i64 0, .int .i64 0, .int .i64 0, .slice ab1 0 cb1, .slice av1 nw cv1, .int .u16 0, .int .u16 0, .slice ad1 0 cd1] tP)) = qyw at *
  refine (booksameV _ _ ws qyw NV1.1 RW.1).mono ?_
  rintro e w' ⟨rfl, nq, rfl⟩
  have E : Below qyw.heap.size qyw (qyw.drewN nq) := below_drewn0 _ _ _
  replace D := D.ext E
  replace BW := below_then BW E
  replace BX := BX.below E BX.lt
  replace BY := BY.below E BY.lt
  replace RW := RW.ext E
  replace RB := RB.ext E
  replace NV1 := NV1.ext E
  clear E
  generalize qyw.drewN nq = u7 at *
  clear NV1
  go_wp2_with fail
  clear BY BYn
  obtain ⟨X2, hX2⟩ : ∃ X, doD 100 (d2 s1 2 0) ⟨15, k, nb, 0, 0, bs, [], 0, 0⟩ = X := ⟨_, rfl⟩
  refine (vdo_any g gs lo hi 100 (d2 s1 2 0) ⟨15, k, nb, 0, 0, bs, [], 0, 0⟩ _ u7 D ⟨_, _, rfl, RB, RowF.nil _ _⟩ ⟨by simp [d2], by simp [d2], by simp [d2], by simp [d2]⟩ ⟨by simp [d2], by simp [d2]⟩).mono ?_
  rintro e u8 ⟨v', rfl, NR, D2, KK⟩
  rw [hX2] at NR D2
  have HX2 := hidden hX2
  clear hX2
  obtain ⟨vb, vv, vd, rfl, ⟨NB2, NV2, ND2⟩, nb, nv, nd⟩ := NR
  have hg := D.blk.lt
  have hh := D.sto.top
  clear D
  have D := D2
  clear D2
  replace BW := bw_gd BW KK HG.out
  replace BX := BX.kp KK BXn.out
  replace RW := RW.kp KK (fun _ _ h => h)
  replace RB := RB.kp KK (fun _ _ h => h)
  clear KK
  have NB2 : RowF (Gd g lo hi) u8 _ _ := ⟨NB2, fun _ => nw_off nb hg hh⟩
  have NV2 : RowF (Gd g lo hi) u8 _ _ := ⟨NV2, fun _ => nw_off nv hg hh⟩
  have ND2 : RowF (Gd g lo hi) u8 _ _ := ⟨ND2, fun _ => nw_off nd hg hh⟩
  clear nb nv nd hg hh
  obtain ⟨ab2, cb2, rfl, -⟩ := id NB2.1
  obtain ⟨av2, cv2, rfl, -⟩ := id NV2.1
  obtain ⟨ad2, cd2, rfl, -⟩ := id ND2.1
  obtain rfl : ((⟨15, 0, k, (nb : Int), 0, [], [], 0, 0, []⟩ : Rp), d2 (setB 100 s1 0 k bs) 3 0) = X2 := by rw [← HX2.out, do15_ok ⟨by omega, by omega⟩ (by rw [HLbs.out]) ⟨by omega, by omega⟩ (fits_t (by omega))] <;> rfl
  clear HX2
  simp only at D
  simp only [List.map_nil, List.length_nil] at NB2 NV2 ND2 ⊢
  clear NB2
  clear NV2
  clear ND2
  obtain ⟨s2, hs2⟩ : ∃ s, setB 100 s1 0 k bs = s := ⟨_, rfl⟩
  rw [hs2] at D
  have HS2 := hidden hs2
  clear hs2
  have HGB : Hid (getB 100 s2 0 k nb = bs) := by
   show _ = _
   rw [← HS2.out]; exact getB_set SB.out (by rw [HLbs.out]) (fits_t (by omega))
  replace G1 : Hid (getV 100 s2 3 k 1 = [3]) := by
   show _ = _
   rw [← HS2.out, getV_setB]; exact G1.out
  clear HS2 SB
  go_wp2_with fail
  have E := (Below.refl u8.heap.size u8).alloc (Nat.le_refl _) (.cells #[.int .i64 15, .int .i64 0, .int .i64 k, .int .i64 (nb : Int), .int .i64 0, .slice ab2 0 cb2, .slice av2 0 cv2, .int .u16 0, .int .u16 0, .slice ad2 0 cd2] tP)
  have BP := Blk.new u8 tP [.int .i64 15, .int .i64 0, .int .i64 k, .int .i64 (nb : Int), .int .i64 0, .slice ab2 0 cb2, .slice av2 0 cv2, .int .u16 0, .int .u16 0, .slice ad2 0 cd2]
  have BPn : Hid (¬ Gd g lo hi u8.heap.size) := gd_no D.blk.lt D.sto.top
  have s1 := hidden (World.size_alloc u8 (.cells #[.int .i64 15, .int .i64 0, .int .i64 k, .int .i64 (nb : Int), .int .i64 0, .slice ab2 0 cb2, .slice av2 0 cv2, .int .u16 0, .int .u16 0, .slice ad2 0 cd2] tP))
  replace D := D.ext E
  replace BW := below_then BW E
  replace BX := BX.below E BX.lt
  replace RW := RW.ext E
  replace RB := RB.ext E
  clear E
  generalize u8.heap.size = qp at *
  generalize u8.alloc (.cells #[.int .i64 15, .int .i64 0, .int .i64 k, .int .i64 (nb : Int), .int .i64 0, .slice ab2 0 cb2, .slice av2 0 cv2, .int .u16 0, .int .u16 0, .slice ad2 0 cd2] tP) = u9 at *
  clear s1
  obtain ⟨X3, hX3⟩ : ∃ X, doD 100 (d2 s2 3 0) ⟨1, k, nb, 0, 0, [], [], 0, 0⟩ = X := ⟨_, rfl⟩
  refine (vdo_any g gs lo hi 100 (d2 s2 3 0) ⟨1, k, nb, 0, 0, [], [], 0, 0⟩ _ u9 D ⟨_, _, rfl, RowF.nil _ _, RowF.nil _ _⟩ ⟨by simp [d2], by simp [d2], by simp [d2], by simp [d2]⟩ ⟨by simp [d2], by simp [d2]⟩).mono ?_
  rintro e u10 ⟨v', rfl, NR, D2, KK⟩
  rw [hX3] at NR D2
  have HX3 := hidden hX3
  clear hX3
  obtain ⟨vb, vv, vd, rfl, ⟨NB3, NV3, ND3⟩, nb, nv, nd⟩ := NR
  have hg := D.blk.lt
  have hh := D.sto.top
  clear D
  have D := D2
  clear D2
  replace BW := bw_gd BW KK HG.out
  replace BX := BX.kp KK BXn.out
  replace BP := BP.kp KK BPn.out
  replace RW := RW.kp KK (fun _ _ h => h)
  replace RB := RB.kp KK (fun _ _ h => h)
  clear KK
  have NB3 : RowF (Gd g lo hi) u10 _ _ := ⟨NB3, fun _ => nw_off nb hg hh⟩
  have NV3 : RowF (Gd g lo hi) u10 _ _ := ⟨NV3, fun _ => nw_off nv hg hh⟩
  have ND3 : RowF (Gd g lo hi) u10 _ _ := ⟨ND3, fun _ => nw_off nd hg hh⟩
  clear nb nv nd hg hh
  obtain ⟨ab3, cb3, rfl, -⟩ := id NB3.1
  obtain ⟨av3, cv3, rfl, -⟩ := id NV3.1
  obtain ⟨ad3, cd3, rfl, -⟩ := id ND3.1
  obtain rfl : ((⟨1, 0, 0, 0, 0, (getB 100 s2 0 k nb), [], 0, 0, []⟩ : Rp), d2 s2 4 0) = X3 := by rw [← HX3.out, do1_ok ⟨by omega, by omega⟩ ⟨by omega, by omega⟩ (fits_t (by omega))] <;> rfl
  clear HX3
  simp only at D
  simp only [List.map_nil, List.length_nil, List.length_map] at NB3 NV3 ND3 ⊢
  clear NV3
  clear ND3
  simp only [HGB.out, HLbs.out] at NB3 ⊢
  have E := (Below.refl u10.heap.size u10).alloc (Nat.le_refl _) (.cells #[.int .i64 1, .int .i64 0, .int .i64 0, .int .i64 0, .int .i64 0, .slice ab3 nb cb3, .slice av3 0 cv3, .int .u16 0, .int .u16 0, .slice ad3 0 cd3] tP)
  have BQ := Blk.new u10 tP [.int .i64 1, .int .i64 0, .int .i64 0, .int .i64 0, .int .i64 0, .slice ab3 nb cb3, .slice av3 0 cv3, .int .u16 0, .int .u16 0, .slice ad3 0 cd3]
  have BQn : Hid (¬ Gd g lo hi u10.heap.size) := gd_no D.blk.lt D.sto.top
  replace D := D.ext E
  replace BW := below_then BW E
  replace BX := BX.below E BX.lt
  replace BP := BP.below E BP.lt
  replace RW := RW.ext E
  replace RB := RB.ext E
  replace NB3 := NB3.ext E
  clear E
  have f1 : (u10.alloc (.cells #[.int .i64 1, .int .i64 0, .int .i64 0, .int .i64 0, .int .i64 0, .slice ab3 nb cb3, .slice av3 0 cv3, .int .u16 0, .int .u16 0, .slice ad3 0 cd3] tP)).cell? ⟨qp, 1, none⟩ = some (.int .i64 0) := BP.cell 1
  have f2 : (u10.alloc (.cells #[.int .i64 1, .int .i64 0, .int .i64 0, .int .i64 0, .int .i64 0, .slice ab3 nb cb3, .slice av3 0 cv3, .int .u16 0, .int .u16 0, .slice ad3 0 cd3] tP)).cell? ⟨qx, 1, none⟩ = some (.int .i64 0) := BX.cell 1
  have f3 : (u10.alloc (.cells #[.int .i64 1, .int .i64 0, .int .i64 0, .int .i64 0, .int .i64 0, .slice ab3 nb cb3, .slice av3 0 cv3, .int .u16 0, .int .u16 0, .slice ad3 0 cd3] tP)).cell? ⟨u10.heap.size, 5, none⟩ = some (.slice ab3 nb cb3) := BQ.cell 5
  go_wp2_with fail
  clear f1 f2 f3
  generalize u10.heap.size = qq at *
  generalize (u10.alloc (.cells #[.int .i64 1, .int .i64 0, .int .i64 0, .int .i64 0, .int .i64 0, .slice ab3 nb cb3, .slice av3 0 cv3, .int .u16 0, .int .u16 0, .slice ad3 0 cd3] tP)) = qqw at *
  refine (booksameB _ _ bs qqw NB3.1 RB.1).mono ?_
  rintro e w' ⟨rfl, nq, rfl⟩
  have E : Below qqw.heap.size qqw (qqw.drewN nq) := below_drewn0 _ _ _
  replace D := D.ext E
  replace BW := below_then BW E
  replace BX := BX.below E BX.lt
  replace BP := BP.below E BP.lt
  replace BQ := BQ.below E BQ.lt
  replace RW := RW.ext E
  replace RB := RB.ext E
  replace NB3 := NB3.ext E
  clear E
  generalize qqw.drewN nq = u11 at *
  clear NB3
  have f2 : u11.cell? ⟨qx, 1, none⟩ = some (.int .i64 0) := BX.cell 1
  go_wp2_with fail
  clear f2
  clear BQ BQn
  clear BP BPn
  clear RB
  clear BX BXn
  have LV : Hid (s2.v1.length = 100) := D.sto.lens.2.2.2
  obtain ⟨X4, hX4⟩ : ∃ X, doD 100 (d2 s2 4 0) ⟨22, k, 0, 0, 0, [], [], m, o⟩ = X := ⟨_, rfl⟩
  refine (vdo_any g gs lo hi 100 (d2 s2 4 0) ⟨22, k, 0, 0, 0, [], [], m, o⟩ _ u11 D ⟨_, _, rfl, RowF.nil _ _, RowF.nil _ _⟩ ⟨by simp [d2], by simp [d2], by simp [d2], by simp [d2]⟩ ⟨by simp [d2], by simp [d2]⟩).mono ?_
  rintro e u12 ⟨v', rfl, NR, D2, KK⟩
  rw [hX4] at NR D2
  have HX4 := hidden hX4
  clear hX4
  obtain ⟨vb, vv, vd, rfl, ⟨NB4, NV4, ND4⟩, nb, nv, nd⟩ := NR
  have hg := D.blk.lt
  have hh := D.sto.top
  clear D
  have D := D2
  clear D2
  replace BW := bw_gd BW KK HG.out
  replace RW := RW.kp KK (fun _ _ h => h)
  clear KK
  have NB4 : RowF (Gd g lo hi) u12 _ _ := ⟨NB4, fun _ => nw_off nb hg hh⟩
  have NV4 : RowF (Gd g lo hi) u12 _ _ := ⟨NV4, fun _ => nw_off nv hg hh⟩
  have ND4 : RowF (Gd g lo hi) u12 _ _ := ⟨ND4, fun _ => nw_off nd hg hh⟩
  clear nb nv nd hg hh
  obtain ⟨ab4, cb4, rfl, -⟩ := id NB4.1
  obtain ⟨av4, cv4, rfl, -⟩ := id NV4.1
  obtain ⟨ad4, cd4, rfl, -⟩ := id ND4.1
  obtain rfl : ((⟨22, 0, k, 0, 0, [], [], m, o, []⟩ : Rp), d2 (setV 100 s2 3 k [maskW ((getV 100 s2 3 k 1).getD 0 0) m o]) 5 0) = X4 := by rw [← HX4.out, do22_ok ⟨by omega, by omega⟩ (fits_t (by omega))] <;> rfl
  clear HX4
  simp only at D
  simp only [List.map_nil, List.length_nil] at NB4 NV4 ND4 ⊢
  clear NB4
  clear NV4
  clear ND4
  skip
  rw [G1.out] at D
  obtain ⟨y, hy⟩ : ∃ y, maskW (([3] : List UInt16).getD 0 0) m o = y := ⟨_, rfl⟩
  rw [hy] at D
  obtain ⟨s3, hs3⟩ : ∃ s, setV 100 s2 3 k [y] = s := ⟨_, rfl⟩
  rw [hs3] at D
  have GZ : Hid (getV 100 s3 3 k 1 = [y]) := by
   show _ = _
   rw [← hs3]; exact getV_set LV.out rfl (fits_t (by omega))
  have HY := hidden hy
  clear hs3 hy G1
  go_wp2_with fail
  obtain ⟨X5, hX5⟩ : ∃ X, doD 100 (d2 s3 5 0) ⟨3, k, 1, 0, 0, [], [], 0, 0⟩ = X := ⟨_, rfl⟩
  refine (vdo_any g gs lo hi 100 (d2 s3 5 0) ⟨3, k, 1, 0, 0, [], [], 0, 0⟩ _ u12 D ⟨_, _, rfl, RowF.nil _ _, RowF.nil _ _⟩ ⟨by simp [d2], by simp [d2], by simp [d2], by simp [d2]⟩ ⟨by simp [d2], by simp [d2]⟩).mono ?_
  rintro e u13 ⟨v', rfl, NR, D2, KK⟩
  rw [hX5] at NR D2
  have HX5 := hidden hX5
  clear hX5
  obtain ⟨vb, vv, vd, rfl, ⟨NB5, NV5, ND5⟩, nb, nv, nd⟩ := NR
  have hg := D.blk.lt
  have hh := D.sto.top
  clear D
  have D := D2
  clear D2
  replace BW := bw_gd BW KK HG.out
  replace RW := RW.kp KK (fun _ _ h => h)
  clear KK
  have NB5 : RowF (Gd g lo hi) u13 _ _ := ⟨NB5, fun _ => nw_off nb hg hh⟩
  have NV5 : RowF (Gd g lo hi) u13 _ _ := ⟨NV5, fun _ => nw_off nv hg hh⟩
  have ND5 : RowF (Gd g lo hi) u13 _ _ := ⟨ND5, fun _ => nw_off nd hg hh⟩
  clear nb nv nd hg hh
  obtain ⟨ab5, cb5, rfl, -⟩ := id NB5.1
  obtain ⟨av5, cv5, rfl, -⟩ := id NV5.1
  obtain ⟨ad5, cd5, rfl, -⟩ := id ND5.1
  obtain rfl : ((⟨3, 0, 0, 0, 0, [], (getV 100 s3 3 k 1), 0, 0, []⟩ : Rp), d2 s3 6 0) = X5 := by rw [← HX5.out, do3_ok ⟨by omega, by omega⟩ ⟨by decide, by decide⟩ (fits_t (by omega))] <;> rfl
  clear HX5
  simp only at D
  simp only [List.map_nil, List.length_nil, List.length_map] at NB5 NV5 ND5 ⊢
  clear NB5
  clear ND5
  simp only [GZ.out, List.length_cons, List.length_nil, List.map_cons, List.map_nil] at NV5 ⊢
  have E := (Below.refl u13.heap.size u13).alloc (Nat.le_refl _) (.cells #[.int .i64 3, .int .i64 0, .int .i64 0, .int .i64 0, .int .i64 0, .slice ab5 0 cb5, .slice av5 1 cv5, .int .u16 0, .int .u16 0, .slice ad5 0 cd5] tP)
  have BZ := Blk.new u13 tP [.int .i64 3, .int .i64 0, .int .i64 0, .int .i64 0, .int .i64 0, .slice ab5 0 cb5, .slice av5 1 cv5, .int .u16 0, .int .u16 0, .slice ad5 0 cd5]
  have BZn : Hid (¬ Gd g lo hi u13.heap.size) := gd_no D.blk.lt D.sto.top
  replace D := D.ext E
  replace BW := below_then BW E
  replace RW := RW.ext E
  replace NV5 := NV5.ext E
  clear E
  go_wp2_with fail
  generalize u13.heap.size = qz at *
  generalize (u13.alloc (.cells #[.int .i64 3, .int .i64 0, .int .i64 0, .int .i64 0, .int .i64 0, .slice ab5 0 cb5, .slice av5 1 cv5, .int .u16 0, .int .u16 0, .slice ad5 0 cd5] tP)) = wy at *
  refine c_begin 24 rfl (by kernel_rfl) ?_
  have E := (Below.refl wy.heap.size wy).drew
  replace D := D.ext E
  replace BW := below_then BW E
  replace BZ := BZ.below E BZ.lt
  replace RW := RW.ext E
  replace NV5 := NV5.ext E
  clear E
  generalize wy.drew = wd at *
  obtain ⟨bz, oz, cz, ez, zc⟩ := row_one NV5.1
  simp only [Value.slice.injEq] at ez
  obtain ⟨rfl, -, rfl⟩ := ez
  have rw1 := RW.1
  obtain ⟨-, -, -, hcell⟩ := rw1.at
  obtain ⟨bw, ow, rfl, hcl⟩ := hcell 0 0 (by omega)
  have wc := hcl 0 (by omega)
  have nw0 : 0 < nw := by omega
  rw [Nat.add_zero, show ws.getD 0 0 = 3 by rw [← Hws.out]; rfl] at wc
  clear rw1 hcell hcl D HG RW NV5 BZn
  have e1 : bits BinOp.and IntKind.u16 3 (m.toNat : Int) = ((3 &&& m : UInt16).toNat : Int) := and16 3 m
  have e2 := andNot16 o m
  obtain ⟨y1, hy1⟩ : ∃ y, 3 &&& m = y := ⟨_, rfl⟩
  obtain ⟨y2, hy2⟩ : ∃ y, o &&& ~~~m = y := ⟨_, rfl⟩
  have e3 := or16 y1 y2
  rw [hy1] at e1
  rw [hy2] at e2
  rw [show y1 ||| y2 = y by rw [← hy1, ← hy2, ← HY.out]; rfl] at e3
  clear hy1 hy2 HY
  refine c_P trivial 0 rfl ?_
  refine c_R (fun w' => Blk w' qz tP [.int .i64 3, .int .i64 0, .int .i64 0, .int .i64 0, .int .i64 0, .slice ab5 0 cb5, .slice (some ⟨bz, oz, none⟩) 1 cv5, .int .u16 0, .int .u16 0, .slice ad5 0 cd5]) BZ trivial 1 rfl (fun w' hx => by have cc := hx.cell 6; go_simp; with_reducible rfl) ?_
  refine c_P ⟨BZ, trivial⟩ 2 rfl ?_
  refine c_P ⟨BZ, trivial⟩ 3 rfl ?_
  refine c_P ⟨BZ, trivial⟩ 4 rfl ?_
  refine c_P ⟨BZ, trivial⟩ 5 rfl ?_
  refine c_R (fun w' => Blk w' qz tP [.int .i64 3, .int .i64 0, .int .i64 0, .int .i64 0, .int .i64 0, .slice ab5 0 cb5, .slice (some ⟨bz, oz, none⟩) 1 cv5, .int .u16 0, .int .u16 0, .slice ad5 0 cd5]) BZ ⟨BZ, trivial⟩ 6 rfl (fun w' hx => by have cc := hx.cell 6; go_simp; with_reducible rfl) ?_
  refine c_P ⟨BZ, BZ, trivial⟩ 7 rfl ?_
  refine c_R (fun w' => w'.cell? ⟨bz, oz, none⟩ = some (wV y)) zc ⟨BZ, BZ, trivial⟩ 8 rfl (fun w' hx => by go_simp; with_reducible rfl) ?_
  refine c_P ⟨zc, BZ, BZ, trivial⟩ 9 rfl ?_
  refine c_P ⟨zc, BZ, BZ, trivial⟩ 10 rfl ?_
  refine c_R (fun w' => w'.cell? ⟨bw, ow, none⟩ = some (wV 3)) wc ⟨zc, BZ, BZ, trivial⟩ 11 rfl (fun w' hx => by go_simp; with_reducible rfl) ?_
  refine c_P ⟨wc, zc, BZ, BZ, trivial⟩ 12 rfl ?_
  refine c_P ⟨wc, zc, BZ, BZ, trivial⟩ 13 rfl ?_
  refine c_P ⟨wc, zc, BZ, BZ, trivial⟩ 14 rfl ?_
  refine c_P ⟨wc, zc, BZ, BZ, trivial⟩ 15 rfl ?_
  refine c_P ⟨wc, zc, BZ, BZ, trivial⟩ 16 rfl ?_
  refine c_P ⟨wc, zc, BZ, BZ, trivial⟩ 17 rfl ?_
  refine c_P ⟨wc, zc, BZ, BZ, trivial⟩ 18 rfl ?_
  refine c_P ⟨wc, zc, BZ, BZ, trivial⟩ 19 rfl ?_
  refine c_P ⟨wc, zc, BZ, BZ, trivial⟩ 20 rfl ?_
  clear e1 e2 e3
  refine c_move 21 (by kernel_rfl) (c_op 21 [(11, fun w' => w'.cell? ⟨bw, ow, none⟩ = some (wV 3)), (8, fun w' => w'.cell? ⟨bz, oz, none⟩ = some (wV y)), (6, fun w' => Blk w' qz tP [.int .i64 3, .int .i64 0, .int .i64 0, .int .i64 0, .int .i64 0, .slice ab5 0 cb5, .slice (some ⟨bz, oz, none⟩) 1 cv5, .int .u16 0, .int .u16 0, .slice ad5 0 cd5]), (1, fun w' => Blk w' qz tP [.int .i64 3, .int .i64 0, .int .i64 0, .int .i64 0, .int .i64 0, .slice ab5 0 cb5, .slice (some ⟨bz, oz, none⟩) 1 cv5, .int .u16 0, .int .u16 0, .slice ad5 0 cd5])] (by kernel_rfl) rfl (by kernel_rfl) (fun K hK => ?_))
  go_wp2_with fail
  refine (known9 wd).mono ?_
  rintro e wz ⟨rfl, E⟩
  go_simp
  have E2 := hidden (below_then BW E)
  replace BZ := BZ.below E BZ.lt
  replace zc := (E.cell (p := ⟨bz, oz, none⟩) (lt_of_cell zc)).trans zc
  replace wc := (E.cell (p := ⟨bw, ow, none⟩) (lt_of_cell wc)).trans wc
  clear E BW
  refine hK.out _ _ ⟨wc, zc, BZ, BZ, trivial⟩ ?_
  clear K hK
  try simp only [Act.put, PuA, PuB, PuC]
  refine c_P ⟨wc, zc, BZ, BZ, trivial⟩ 22 rfl ?_
  refine c_P ⟨wc, zc, BZ, BZ, trivial⟩ 23 rfl ?_
  refine c_done (by kernel_rfl) ?_
  go_wp2
  go_ret
  exact ⟨rfl, E2.out⟩
 ·
  go_wp2_with fail
  obtain ⟨X0, hX0⟩ : ∃ X, doD 100 (d2 (Cs.zero 100) 0 0) ⟨16, k, nw, 0, 0, [], ws, 0, 0⟩ = X := ⟨_, rfl⟩
  refine (vdo_any g gs lo hi 100 (d2 (Cs.zero 100) 0 0) ⟨16, k, nw, 0, 0, [], ws, 0, 0⟩ _ u3 D ⟨_, _, rfl, RowF.nil _ _, RW⟩ ⟨by decide, by decide, by decide, by decide⟩ ⟨by decide, by decide⟩).mono ?_
  rintro e u4 ⟨v', rfl, NR, D2, KK⟩
  rw [hX0] at NR D2
  have HX0 := hidden hX0
  clear hX0
  obtain ⟨vb, vv, vd, rfl, ⟨NB0, NV0, ND0⟩, nb, nv, nd⟩ := NR
  have hg := D.blk.lt
  have hh := D.sto.top
  clear D
  have D := D2
  clear D2
  replace BW := bw_gd BW KK HG.out
  replace RW := RW.kp KK (fun _ _ h => h)
  replace RB := RB.kp KK (fun _ _ h => h)
  clear KK
  have NB0 : RowF (Gd g lo hi) u4 _ _ := ⟨NB0, fun _ => nw_off nb hg hh⟩
  have NV0 : RowF (Gd g lo hi) u4 _ _ := ⟨NV0, fun _ => nw_off nv hg hh⟩
  have ND0 : RowF (Gd g lo hi) u4 _ _ := ⟨ND0, fun _ => nw_off nd hg hh⟩
  clear nb nv nd hg hh
  obtain ⟨ab0, cb0, rfl, -⟩ := id NB0.1
  obtain ⟨av0, cv0, rfl, -⟩ := id NV0.1
  obtain ⟨ad0, cd0, rfl, -⟩ := id ND0.1
  obtain rfl : ((⟨16, 0, k, (nw : Int), 0, [], [], 0, 0, []⟩ : Rp), d2 (setV 100 (Cs.zero 100) 3 k ws) 1 0) = X0 := by rw [← HX0.out, do16_ok ⟨by omega, by omega⟩ (by rw [HLws.out]) ⟨by omega, by omega⟩ (fits_t (by omega))] <;> rfl
  clear HX0
  simp only at D
  simp only [List.map_nil, List.length_nil] at NB0 NV0 ND0 ⊢
  clear NB0
  clear NV0
  clear ND0
  obtain ⟨s1, hs1⟩ : ∃ s, setV 100 (Cs.zero 100) 3 k ws = s := ⟨_, rfl⟩
  rw [hs1] at D
  have HS1 := hidden hs1
  clear hs1
  have GW : getV 100 s1 3 k nw = ws := by rw [← HS1.out]; exact getV_set (zero_lens 100).2 (by rw [HLws.out]) (fits_t (by omega))
  have G1 : Hid (getV 100 s1 3 k 1 = [3]) := by
   show _ = _
   rw [← HS1.out, ← Hws.out]
   exact getV_set1 (c := nw) (zero_lens 100).2 (by rw [Hws.out, HLws.out]) (fits_t (by omega))
  have SB : Hid (s1.b0.length = 100) := by show _ = _; rw [← HS1.out, setV_b0]; exact (zero_lens 100).1
  clear HS1
  have HGW := hidden GW
  clear GW
  go_wp2_with fail
  have E := (Below.refl u4.heap.size u4).alloc (Nat.le_refl _) (.cells #[.int .i64 16, .int .i64 0, .int .i64 k, .int .i64 (nw : Int), .int .i64 0, .slice ab0 0 cb0, .slice av0 0 cv0, .int .u16 0, .int .u16 0, .slice ad0 0 cd0] tP)
  have BX := Blk.new u4 tP [.int .i64 16, .int .i64 0, .int .i64 k, .int .i64 (nw : Int), .int .i64 0, .slice ab0 0 cb0, .slice av0 0 cv0, .int .u16 0, .int .u16 0, .slice ad0 0 cd0]
  have BXn : Hid (¬ Gd g lo hi u4.heap.size) := gd_no D.blk.lt D.sto.top
  have s1 := hidden (World.size_alloc u4 (.cells #[.int .i64 16, .int .i64 0, .int .i64 k, .int .i64 (nw : Int), .int .i64 0, .slice ab0 0 cb0, .slice av0 0 cv0, .int .u16 0, .int .u16 0, .slice ad0 0 cd0] tP))
  replace D := D.ext E
  replace BW := below_then BW E
  replace RW := RW.ext E
  replace RB := RB.ext E
  clear E
  generalize u4.heap.size = qx at *
  generalize u4.alloc (.cells #[.int .i64 16, .int .i64 0, .int .i64 k, .int .i64 (nw : Int), .int .i64 0, .slice ab0 0 cb0, .slice av0 0 cv0, .int .u16 0, .int .u16 0, .slice ad0 0 cd0] tP) = u5 at *
  clear s1
  obtain ⟨X1, hX1⟩ : ∃ X, doD 100 (d2 s1 1 0) ⟨3, k, nw, 0, 0, [], [], 0, 0⟩ = X := ⟨_, rfl⟩
  refine (vdo_any g gs lo hi 100 (d2 s1 1 0) ⟨3, k, nw, 0, 0, [], [], 0, 0⟩ _ u5 D ⟨_, _, rfl, RowF.nil _ _, RowF.nil _ _⟩ ⟨by simp [d2], by simp [d2], by simp [d2], by simp [d2]⟩ ⟨by simp [d2], by simp [d2]⟩).mono ?_
  rintro e u6 ⟨v', rfl, NR, D2, KK⟩
  rw [hX1] at NR D2
  have HX1 := hidden hX1
  clear hX1
  obtain ⟨vb, vv, vd, rfl, ⟨NB1, NV1, ND1⟩, nb, nv, nd⟩ := NR
  have hg := D.blk.lt
  have hh := D.sto.top
  clear D
  have D := D2
  clear D2
  replace BW := bw_gd BW KK HG.out
  replace BX := BX.kp KK BXn.out
  replace RW := RW.kp KK (fun _ _ h => h)
  replace RB := RB.kp KK (fun _ _ h => h)
  clear KK
  have NB1 : RowF (Gd g lo hi) u6 _ _ := ⟨NB1, fun _ => nw_off nb hg hh⟩
  have NV1 : RowF (Gd g lo hi) u6 _ _ := ⟨NV1, fun _ => nw_off nv hg hh⟩
  have ND1 : RowF (Gd g lo hi) u6 _ _ := ⟨ND1, fun _ => nw_off nd hg hh⟩
  clear nb nv nd hg hh
  obtain ⟨ab1, cb1, rfl, -⟩ := id NB1.1
  obtain ⟨av1, cv1, rfl, -⟩ := id NV1.1
  obtain ⟨ad1, cd1, rfl, -⟩ := id ND1.1
  obtain rfl : ((⟨3, 0, 0, 0, 0, [], (getV 100 s1 3 k nw), 0, 0, []⟩ : Rp), d2 s1 2 0) = X1 := by rw [← HX1.out, do3_ok ⟨by omega, by omega⟩ ⟨by omega, by omega⟩ (fits_t (by omega))] <;> rfl
  clear HX1
  simp only at D
  simp only [List.map_nil, List.length_nil, List.length_map] at NB1 NV1 ND1 ⊢
  clear NB1
  clear ND1
  simp only [HGW.out, HLws.out] at NV1 ⊢
  have E := (Below.refl u6.heap.size u6).alloc (Nat.le_refl _) (.cells #[.int .i64 3, .int .i64 0, .int .i64 0, .int .i64 0, .int .i64 0, .slice ab1 0 cb1, .slice av1 nw cv1, .int .u16 0, .int .u16 0, .slice ad1 0 cd1] tP)
  have BY := Blk.new u6 tP [.int .i64 3, .int .i64 0, .int .i64 0, .int .i64 0, .int .i64 0, .slice ab1 0 cb1, .slice av1 nw cv1, .int .u16 0, .int .u16 0, .slice ad1 0 cd1]
  have BYn : Hid (¬ Gd g lo hi u6.heap.size) := gd_no D.blk.lt D.sto.top
  replace D := D.ext E
  replace BW := below_then BW E
  replace BX := BX.below E BX.lt
  replace RW := RW.ext E
  replace RB := RB.ext E
  replace NV1 := NV1.ext E
  clear E
  have f1 : (u6.alloc (.cells #[.int .i64 3, .int .i64 0, .int .i64 0, .int .i64 0, .int .i64 0, .slice ab1 0 cb1, .slice av1 nw cv1, .int .u16 0, .int .u16 0, .slice ad1 0 cd1] tP)).cell? ⟨qx, 1, none⟩ = some (.int .i64 0) := BX.cell 1
  have f2 : (u6.alloc (.cells #[.int .i64 3, .int .i64 0, .int .i64 0, .int .i64 0, .int .i64 0, .slice ab1 0 cb1, .slice av1 nw cv1, .int .u16 0, .int .u16 0, .slice ad1 0 cd1] tP)).cell? ⟨u6.heap.size, 1, none⟩ = some (.int .i64 0) := BY.cell 1
  have f3 : (u6.alloc (.cells #[.int .i64 3, .int .i64 0, .int .i64 0, .int .i64 0, .int .i64 0, .slice ab1 0 cb1, .slice av1 nw cv1, .int .u16 0, .int .u16 0, .slice ad1 0 cd1] tP)).cell? ⟨u6.heap.size, 6, none⟩ = some (.slice av1 nw cv1) := BY.cell 6
  go_wp2_with fail
  clear f1 f2 f3
  generalize u6.heap.size = qy at *
  generalize (u6.alloc (.cells #[.int .i64 3, .int .i64 0, .int .i64 0, .int .i64 0, .int .i64 0, .slice ab1 0 cb1, .slice av1 nw cv1, .int .u16 0, .int .u16 0, .slice ad1 0 cd1] tP)) = qyw at *
  refine (booksameV _ _ ws qyw NV1.1 RW.1).mono ?_
  rintro e w' ⟨rfl, nq, rfl⟩
  have E : Below qyw.heap.size qyw (qyw.drewN nq) := below_drewn0 _ _ _
  replace D := D.ext E
  replace BW := below_then BW E
  replace BX := BX.below E BX.lt
  replace BY := BY.below E BY.lt
  replace RW := RW.ext E
  replace RB := RB.ext E
  replace NV1 := NV1.ext E
  clear E
  generalize qyw.drewN nq = u7 at *
  clear NV1
  go_wp2_with fail
  clear BY BYn
  obtain ⟨X2, hX2⟩ : ∃ X, doD 100 (d2 s1 2 0) ⟨15, k, nb, 0, 0, bs, [], 0, 0⟩ = X := ⟨_, rfl⟩
  refine (vdo_any g gs lo hi 100 (d2 s1 2 0) ⟨15, k, nb, 0, 0, bs, [], 0, 0⟩ _ u7 D ⟨_, _, rfl, RB, RowF.nil _ _⟩ ⟨by simp [d2], by simp [d2], by simp [d2], by simp [d2]⟩ ⟨by simp [d2], by simp [d2]⟩).mono ?_
  rintro e u8 ⟨v', rfl, NR, D2, KK⟩
  rw [hX2] at NR D2
  have HX2 := hidden hX2
  clear hX2
  obtain ⟨vb, vv, vd, rfl, ⟨NB2, NV2, ND2⟩, nb, nv, nd⟩ := NR
  have hg := D.blk.lt
  have hh := D.sto.top
  clear D
  have D := D2
  clear D2
  replace BW := bw_gd BW KK HG.out
  replace BX := BX.kp KK BXn.out
  replace RW := RW.kp KK (fun _ _ h => h)
  replace RB := RB.kp KK (fun _ _ h => h)
  clear KK
  have NB2 : RowF (Gd g lo hi) u8 _ _ := ⟨NB2, fun _ => nw_off nb hg hh⟩
  have NV2 : RowF (Gd g lo hi) u8 _ _ := ⟨NV2, fun _ => nw_off nv hg hh⟩
  have ND2 : RowF (Gd g lo hi) u8 _ _ := ⟨ND2, fun _ => nw_off nd hg hh⟩
  clear nb nv nd hg hh
  obtain ⟨ab2, cb2, rfl, -⟩ := id NB2.1
  obtain ⟨av2, cv2, rfl, -⟩ := id NV2.1
  obtain ⟨ad2, cd2, rfl, -⟩ := id ND2.1
  obtain rfl : ((⟨15, 2, 0, 0, 0, [], [], 0, 0, []⟩ : Rp), d2 s1 3 1) = X2 := by rw [← HX2.out, do15_no ⟨by omega, by omega⟩ (by rw [HLbs.out]) ⟨by omega, by omega⟩ (fits_f (by omega))] <;> rfl
  clear HX2
  simp only at D
  simp only [List.map_nil, List.length_nil] at NB2 NV2 ND2 ⊢
  clear NB2
  clear NV2
  clear ND2
  clear SB
  go_wp2_with fail
  have E := (Below.refl u8.heap.size u8).alloc (Nat.le_refl _) (.cells #[.int .i64 15, .int .i64 2, .int .i64 0, .int .i64 0, .int .i64 0, .slice ab2 0 cb2, .slice av2 0 cv2, .int .u16 0, .int .u16 0, .slice ad2 0 cd2] tP)
  have BP := Blk.new u8 tP [.int .i64 15, .int .i64 2, .int .i64 0, .int .i64 0, .int .i64 0, .slice ab2 0 cb2, .slice av2 0 cv2, .int .u16 0, .int .u16 0, .slice ad2 0 cd2]
  have BPn : Hid (¬ Gd g lo hi u8.heap.size) := gd_no D.blk.lt D.sto.top
  have s1 := hidden (World.size_alloc u8 (.cells #[.int .i64 15, .int .i64 2, .int .i64 0, .int .i64 0, .int .i64 0, .slice ab2 0 cb2, .slice av2 0 cv2, .int .u16 0, .int .u16 0, .slice ad2 0 cd2] tP))
  replace D := D.ext E
  replace BW := below_then BW E
  replace BX := BX.below E BX.lt
  replace RW := RW.ext E
  replace RB := RB.ext E
  clear E
  generalize u8.heap.size = qp at *
  generalize u8.alloc (.cells #[.int .i64 15, .int .i64 2, .int .i64 0, .int .i64 0, .int .i64 0, .slice ab2 0 cb2, .slice av2 0 cv2, .int .u16 0, .int .u16 0, .slice ad2 0 cd2] tP) = u9 at *
  clear s1
  obtain ⟨X3, hX3⟩ : ∃ X, doD 100 (d2 s1 3 1) ⟨1, k, nb, 0, 0, [], [], 0, 0⟩ = X := ⟨_, rfl⟩
  refine (vdo_any g gs lo hi 100 (d2 s1 3 1) ⟨1, k, nb, 0, 0, [], [], 0, 0⟩ _ u9 D ⟨_, _, rfl, RowF.nil _ _, RowF.nil _ _⟩ ⟨by simp [d2], by simp [d2], by simp [d2], by simp [d2]⟩ ⟨by simp [d2], by simp [d2]⟩).mono ?_
  rintro e u10 ⟨v', rfl, NR, D2, KK⟩
  rw [hX3] at NR D2
  have HX3 := hidden hX3
  clear hX3
  obtain ⟨vb, vv, vd, rfl, ⟨NB3, NV3, ND3⟩, nb, nv, nd⟩ := NR
  have hg := D.blk.lt
  have hh := D.sto.top
  clear D
  have D := D2
  clear D2
  replace BW := bw_gd BW KK HG.out
  replace BX := BX.kp KK BXn.out
  replace BP := BP.kp KK BPn.out
  replace RW := RW.kp KK (fun _ _ h => h)
  replace RB := RB.kp KK (fun _ _ h => h)
  clear KK
  have NB3 : RowF (Gd g lo hi) u10 _ _ := ⟨NB3, fun _ => nw_off nb hg hh⟩
  have NV3 : RowF (Gd g lo hi) u10 _ _ := ⟨NV3, fun _ => nw_off nv hg hh⟩
  have ND3 : RowF (Gd g lo hi) u10 _ _ := ⟨ND3, fun _ => nw_off nd hg hh⟩
  clear nb nv nd hg hh
  obtain ⟨ab3, cb3, rfl, -⟩ := id NB3.1
  obtain ⟨av3, cv3, rfl, -⟩ := id NV3.1
  obtain ⟨ad3, cd3, rfl, -⟩ := id ND3.1
  obtain rfl : ((⟨1, 2, 0, 0, 0, [], [], 0, 0, []⟩ : Rp), d2 s1 4 2) = X3 := by rw [← HX3.out, do1_no ⟨by omega, by omega⟩ ⟨by omega, by omega⟩ (fits_f (by omega))] <;> rfl
  clear HX3
  simp only at D
  simp only [List.map_nil, List.length_nil] at NB3 NV3 ND3 ⊢
  clear NB3
  clear NV3
  clear ND3
  have E := (Below.refl u10.heap.size u10).alloc (Nat.le_refl _) (.cells #[.int .i64 1, .int .i64 2, .int .i64 0, .int .i64 0, .int .i64 0, .slice ab3 0 cb3, .slice av3 0 cv3, .int .u16 0, .int .u16 0, .slice ad3 0 cd3] tP)
  have BQ := Blk.new u10 tP [.int .i64 1, .int .i64 2, .int .i64 0, .int .i64 0, .int .i64 0, .slice ab3 0 cb3, .slice av3 0 cv3, .int .u16 0, .int .u16 0, .slice ad3 0 cd3]
  have BQn : Hid (¬ Gd g lo hi u10.heap.size) := gd_no D.blk.lt D.sto.top
  replace D := D.ext E
  replace BW := below_then BW E
  replace BX := BX.below E BX.lt
  replace BP := BP.below E BP.lt
  replace RW := RW.ext E
  replace RB := RB.ext E
  clear E
  have f1 : (u10.alloc (.cells #[.int .i64 1, .int .i64 2, .int .i64 0, .int .i64 0, .int .i64 0, .slice ab3 0 cb3, .slice av3 0 cv3, .int .u16 0, .int .u16 0, .slice ad3 0 cd3] tP)).cell? ⟨qp, 1, none⟩ = some (.int .i64 2) := BP.cell 1
  have f2 : (u10.alloc (.cells #[.int .i64 1, .int .i64 2, .int .i64 0, .int .i64 0, .int .i64 0, .slice ab3 0 cb3, .slice av3 0 cv3, .int .u16 0, .int .u16 0, .slice ad3 0 cd3] tP)).cell? ⟨qx, 1, none⟩ = some (.int .i64 0) := BX.cell 1
  go_wp2_with fail
  clear f1 f2
  generalize u10.heap.size = qq at *
  generalize (u10.alloc (.cells #[.int .i64 1, .int .i64 2, .int .i64 0, .int .i64 0, .int .i64 0, .slice ab3 0 cb3, .slice av3 0 cv3, .int .u16 0, .int .u16 0, .slice ad3 0 cd3] tP)) = qqw at *
  clear BQ BQn
  clear BP BPn
  clear RB
  clear BX BXn
  have LV : Hid (s1.v1.length = 100) := D.sto.lens.2.2.2
  obtain ⟨X4, hX4⟩ : ∃ X, doD 100 (d2 s1 4 2) ⟨22, k, 0, 0, 0, [], [], m, o⟩ = X := ⟨_, rfl⟩
  refine (vdo_any g gs lo hi 100 (d2 s1 4 2) ⟨22, k, 0, 0, 0, [], [], m, o⟩ _ qqw D ⟨_, _, rfl, RowF.nil _ _, RowF.nil _ _⟩ ⟨by simp [d2], by simp [d2], by simp [d2], by simp [d2]⟩ ⟨by simp [d2], by simp [d2]⟩).mono ?_
  rintro e u11 ⟨v', rfl, NR, D2, KK⟩
  rw [hX4] at NR D2
  have HX4 := hidden hX4
  clear hX4
  obtain ⟨vb, vv, vd, rfl, ⟨NB4, NV4, ND4⟩, nb, nv, nd⟩ := NR
  have hg := D.blk.lt
  have hh := D.sto.top
  clear D
  have D := D2
  clear D2
  replace BW := bw_gd BW KK HG.out
  replace RW := RW.kp KK (fun _ _ h => h)
  clear KK
  have NB4 : RowF (Gd g lo hi) u11 _ _ := ⟨NB4, fun _ => nw_off nb hg hh⟩
  have NV4 : RowF (Gd g lo hi) u11 _ _ := ⟨NV4, fun _ => nw_off nv hg hh⟩
  have ND4 : RowF (Gd g lo hi) u11 _ _ := ⟨ND4, fun _ => nw_off nd hg hh⟩
  clear nb nv nd hg hh
  obtain ⟨ab4, cb4, rfl, -⟩ := id NB4.1
  obtain ⟨av4, cv4, rfl, -⟩ := id NV4.1
  obtain ⟨ad4, cd4, rfl, -⟩ := id ND4.1
  obtain rfl : ((⟨22, 0, k, 0, 0, [], [], m, o, []⟩ : Rp), d2 (setV 100 s1 3 k [maskW ((getV 100 s1 3 k 1).getD 0 0) m o]) 5 2) = X4 := by rw [← HX4.out, do22_ok ⟨by omega, by omega⟩ (fits_t (by omega))] <;> rfl
  clear HX4
  simp only at D
  simp only [List.map_nil, List.length_nil] at NB4 NV4 ND4 ⊢
  clear NB4
  clear NV4
  clear ND4
  skip
  rw [G1.out] at D
  obtain ⟨y, hy⟩ : ∃ y, maskW (([3] : List UInt16).getD 0 0) m o = y := ⟨_, rfl⟩
  rw [hy] at D
  obtain ⟨s3, hs3⟩ : ∃ s, setV 100 s1 3 k [y] = s := ⟨_, rfl⟩
  rw [hs3] at D
  have GZ : Hid (getV 100 s3 3 k 1 = [y]) := by
   show _ = _
   rw [← hs3]; exact getV_set LV.out rfl (fits_t (by omega))
  have HY := hidden hy
  clear hs3 hy G1
  go_wp2_with fail
  obtain ⟨X5, hX5⟩ : ∃ X, doD 100 (d2 s3 5 2) ⟨3, k, 1, 0, 0, [], [], 0, 0⟩ = X := ⟨_, rfl⟩
  refine (vdo_any g gs lo hi 100 (d2 s3 5 2) ⟨3, k, 1, 0, 0, [], [], 0, 0⟩ _ u11 D ⟨_, _, rfl, RowF.nil _ _, RowF.nil _ _⟩ ⟨by simp [d2], by simp [d2], by simp [d2], by simp [d2]⟩ ⟨by simp [d2], by simp [d2]⟩).mono ?_
  rintro e u12 ⟨v', rfl, NR, D2, KK⟩
  rw [hX5] at NR D2
  have HX5 := hidden hX5
  clear hX5
  obtain ⟨vb, vv, vd, rfl, ⟨NB5, NV5, ND5⟩, nb, nv, nd⟩ := NR
  have hg := D.blk.lt
  have hh := D.sto.top
  clear D
  have D := D2
  clear D2
  replace BW := bw_gd BW KK HG.out
  replace RW := RW.kp KK (fun _ _ h => h)
  clear KK
  have NB5 : RowF (Gd g lo hi) u12 _ _ := ⟨NB5, fun _ => nw_off nb hg hh⟩
  have NV5 : RowF (Gd g lo hi) u12 _ _ := ⟨NV5, fun _ => nw_off nv hg hh⟩
  have ND5 : RowF (Gd g lo hi) u12 _ _ := ⟨ND5, fun _ => nw_off nd hg hh⟩
  clear nb nv nd hg hh
  obtain ⟨ab5, cb5, rfl, -⟩ := id NB5.1
  obtain ⟨av5, cv5, rfl, -⟩ := id NV5.1
  obtain ⟨ad5, cd5, rfl, -⟩ := id ND5.1
  obtain rfl : ((⟨3, 0, 0, 0, 0, [], (getV 100 s3 3 k 1), 0, 0, []⟩ : Rp), d2 s3 6 2) = X5 := by rw [← HX5.out, do3_ok ⟨by omega, by omega⟩ ⟨by decide, by decide⟩ (fits_t (by omega))] <;> rfl
  clear HX5
  simp only at D
  simp only [List.map_nil, List.length_nil, List.length_map] at NB5 NV5 ND5 ⊢
  clear NB5
  clear ND5
  simp only [GZ.out, List.length_cons, List.length_nil, List.map_cons, List.map_nil] at NV5 ⊢
  have E := (Below.refl u12.heap.size u12).alloc (Nat.le_refl _) (.cells #[.int .i64 3, .int .i64 0, .int .i64 0, .int .i64 0, .int .i64 0, .slice ab5 0 cb5, .slice av5 1 cv5, .int .u16 0, .int .u16 0, .slice ad5 0 cd5] tP)
  have BZ := Blk.new u12 tP [.int .i64 3, .int .i64 0, .int .i64 0, .int .i64 0, .int .i64 0, .slice ab5 0 cb5, .slice av5 1 cv5, .int .u16 0, .int .u16 0, .slice ad5 0 cd5]
  have BZn : Hid (¬ Gd g lo hi u12.heap.size) := gd_no D.blk.lt D.sto.top
  replace D := D.ext E
  replace BW := below_then BW E
  replace RW := RW.ext E
  replace NV5 := NV5.ext E
  clear E
  go_wp2_with fail
  generalize u12.heap.size = qz at *
  generalize (u12.alloc (.cells #[.int .i64 3, .int .i64 0, .int .i64 0, .int .i64 0, .int .i64 0, .slice ab5 0 cb5, .slice av5 1 cv5, .int .u16 0, .int .u16 0, .slice ad5 0 cd5] tP)) = wy at *
  refine c_begin 24 rfl (by kernel_rfl) ?_
  have E := (Below.refl wy.heap.size wy).drew
  replace D := D.ext E
  replace BW := below_then BW E
  replace BZ := BZ.below E BZ.lt
  replace RW := RW.ext E
  replace NV5 := NV5.ext E
  clear E
  generalize wy.drew = wd at *
  obtain ⟨bz, oz, cz, ez, zc⟩ := row_one NV5.1
  simp only [Value.slice.injEq] at ez
  obtain ⟨rfl, -, rfl⟩ := ez
  have rw1 := RW.1
  obtain ⟨-, -, -, hcell⟩ := rw1.at
  obtain ⟨bw, ow, rfl, hcl⟩ := hcell 0 0 (by omega)
  have wc := hcl 0 (by omega)
  have nw0 : 0 < nw := by omega
  rw [Nat.add_zero, show ws.getD 0 0 = 3 by rw [← Hws.out]; rfl] at wc
  clear rw1 hcell hcl D HG RW NV5 BZn
  have e1 : bits BinOp.and IntKind.u16 3 (m.toNat : Int) = ((3 &&& m : UInt16).toNat : Int) := and16 3 m
  have e2 := andNot16 o m
  obtain ⟨y1, hy1⟩ : ∃ y, 3 &&& m = y := ⟨_, rfl⟩
  obtain ⟨y2, hy2⟩ : ∃ y, o &&& ~~~m = y := ⟨_, rfl⟩
  have e3 := or16 y1 y2
  rw [hy1] at e1
  rw [hy2] at e2
  rw [show y1 ||| y2 = y by rw [← hy1, ← hy2, ← HY.out]; rfl] at e3
  clear hy1 hy2 HY
  refine c_P trivial 0 rfl ?_
  refine c_R (fun w' => Blk w' qz tP [.int .i64 3, .int .i64 0, .int .i64 0, .int .i64 0, .int .i64 0, .slice ab5 0 cb5, .slice (some ⟨bz, oz, none⟩) 1 cv5, .int .u16 0, .int .u16 0, .slice ad5 0 cd5]) BZ trivial 1 rfl (fun w' hx => by have cc := hx.cell 6; go_simp; with_reducible rfl) ?_
  refine c_P ⟨BZ, trivial⟩ 2 rfl ?_
  refine c_P ⟨BZ, trivial⟩ 3 rfl ?_
  refine c_P ⟨BZ, trivial⟩ 4 rfl ?_
  refine c_P ⟨BZ, trivial⟩ 5 rfl ?_
  refine c_R (fun w' => Blk w' qz tP [.int .i64 3, .int .i64 0, .int .i64 0, .int .i64 0, .int .i64 0, .slice ab5 0 cb5, .slice (some ⟨bz, oz, none⟩) 1 cv5, .int .u16 0, .int .u16 0, .slice ad5 0 cd5]) BZ ⟨BZ, trivial⟩ 6 rfl (fun w' hx => by have cc := hx.cell 6; go_simp; with_reducible rfl) ?_
  refine c_P ⟨BZ, BZ, trivial⟩ 7 rfl ?_
  refine c_R (fun w' => w'.cell? ⟨bz, oz, none⟩ = some (wV y)) zc ⟨BZ, BZ, trivial⟩ 8 rfl (fun w' hx => by go_simp; with_reducible rfl) ?_
  refine c_P ⟨zc, BZ, BZ, trivial⟩ 9 rfl ?_
  refine c_P ⟨zc, BZ, BZ, trivial⟩ 10 rfl ?_
  refine c_R (fun w' => w'.cell? ⟨bw, ow, none⟩ = some (wV 3)) wc ⟨zc, BZ, BZ, trivial⟩ 11 rfl (fun w' hx => by go_simp; with_reducible rfl) ?_
  refine c_P ⟨wc, zc, BZ, BZ, trivial⟩ 12 rfl ?_
  refine c_P ⟨wc, zc, BZ, BZ, trivial⟩ 13 rfl ?_
  refine c_P ⟨wc, zc, BZ, BZ, trivial⟩ 14 rfl ?_
  refine c_P ⟨wc, zc, BZ, BZ, trivial⟩ 15 rfl ?_
  refine c_P ⟨wc, zc, BZ, BZ, trivial⟩ 16 rfl ?_
  refine c_P ⟨wc, zc, BZ, BZ, trivial⟩ 17 rfl ?_
  refine c_P ⟨wc, zc, BZ, BZ, trivial⟩ 18 rfl ?_
  refine c_P ⟨wc, zc, BZ, BZ, trivial⟩ 19 rfl ?_
  refine c_P ⟨wc, zc, BZ, BZ, trivial⟩ 20 rfl ?_
  clear e1 e2 e3
  refine c_move 21 (by kernel_rfl) (c_op 21 [(11, fun w' => w'.cell? ⟨bw, ow, none⟩ = some (wV 3)), (8, fun w' => w'.cell? ⟨bz, oz, none⟩ = some (wV y)), (6, fun w' => Blk w' qz tP [.int .i64 3, .int .i64 0, .int .i64 0, .int .i64 0, .int .i64 0, .slice ab5 0 cb5, .slice (some ⟨bz, oz, none⟩) 1 cv5, .int .u16 0, .int .u16 0, .slice ad5 0 cd5]), (1, fun w' => Blk w' qz tP [.int .i64 3, .int .i64 0, .int .i64 0, .int .i64 0, .int .i64 0, .slice ab5 0 cb5, .slice (some ⟨bz, oz, none⟩) 1 cv5, .int .u16 0, .int .u16 0, .slice ad5 0 cd5])] (by kernel_rfl) rfl (by kernel_rfl) (fun K hK => ?_))
  go_wp2_with fail
  refine (known9 wd).mono ?_
  rintro e wz ⟨rfl, E⟩
  go_simp
  have E2 := hidden (below_then BW E)
  replace BZ := BZ.below E BZ.lt
  replace zc := (E.cell (p := ⟨bz, oz, none⟩) (lt_of_cell zc)).trans zc
  replace wc := (E.cell (p := ⟨bw, ow, none⟩) (lt_of_cell wc)).trans wc
  clear E BW
  refine hK.out _ _ ⟨wc, zc, BZ, BZ, trivial⟩ ?_
  clear K hK
  try simp only [Act.put, PuA, PuB, PuC]
  refine c_P ⟨wc, zc, BZ, BZ, trivial⟩ 22 rfl ?_
  refine c_P ⟨wc, zc, BZ, BZ, trivial⟩ 23 rfl ?_
  refine c_done (by kernel_rfl) ?_
  go_wp2
  go_ret
  exact ⟨rfl, E2.out⟩
 ·
  go_wp2_with fail
  obtain ⟨X0, hX0⟩ : ∃ X, doD 100 (d2 (Cs.zero 100) 0 0) ⟨16, k, nw, 0, 0, [], ws, 0, 0⟩ = X := ⟨_, rfl⟩
  refine (vdo_any g gs lo hi 100 (d2 (Cs.zero 100) 0 0) ⟨16, k, nw, 0, 0, [], ws, 0, 0⟩ _ u3 D ⟨_, _, rfl, RowF.nil _ _, RW⟩ ⟨by decide, by decide, by decide, by decide⟩ ⟨by decide, by decide⟩).mono ?_
  rintro e u4 ⟨v', rfl, NR, D2, KK⟩
  rw [hX0] at NR D2
  have HX0 := hidden hX0
  clear hX0
  obtain ⟨vb, vv, vd, rfl, ⟨NB0, NV0, ND0⟩, nb, nv, nd⟩ := NR
  have hg := D.blk.lt
  have hh := D.sto.top
  clear D
  have D := D2
  clear D2
  replace BW := bw_gd BW KK HG.out
  replace RW := RW.kp KK (fun _ _ h => h)
  replace RB := RB.kp KK (fun _ _ h => h)
  clear KK
  have NB0 : RowF (Gd g lo hi) u4 _ _ := ⟨NB0, fun _ => nw_off nb hg hh⟩
  have NV0 : RowF (Gd g lo hi) u4 _ _ := ⟨NV0, fun _ => nw_off nv hg hh⟩
  have ND0 : RowF (Gd g lo hi) u4 _ _ := ⟨ND0, fun _ => nw_off nd hg hh⟩
  clear nb nv nd hg hh
  obtain ⟨ab0, cb0, rfl, -⟩ := id NB0.1
  obtain ⟨av0, cv0, rfl, -⟩ := id NV0.1
  obtain ⟨ad0, cd0, rfl, -⟩ := id ND0.1
  obtain rfl : ((⟨16, 2, 0, 0, 0, [], [], 0, 0, []⟩ : Rp), d2 (Cs.zero 100) 1 1) = X0 := by rw [← HX0.out, do16_no ⟨by omega, by omega⟩ (by rw [HLws.out]) ⟨by omega, by omega⟩ (fits_f (by omega))] <;> rfl
  clear HX0
  simp only at D
  simp only [List.map_nil, List.length_nil] at NB0 NV0 ND0 ⊢
  clear NB0
  clear NV0
  clear ND0
  go_wp2_with fail
  have E := (Below.refl u4.heap.size u4).alloc (Nat.le_refl _) (.cells #[.int .i64 16, .int .i64 2, .int .i64 0, .int .i64 0, .int .i64 0, .slice ab0 0 cb0, .slice av0 0 cv0, .int .u16 0, .int .u16 0, .slice ad0 0 cd0] tP)
  have BX := Blk.new u4 tP [.int .i64 16, .int .i64 2, .int .i64 0, .int .i64 0, .int .i64 0, .slice ab0 0 cb0, .slice av0 0 cv0, .int .u16 0, .int .u16 0, .slice ad0 0 cd0]
  have BXn : Hid (¬ Gd g lo hi u4.heap.size) := gd_no D.blk.lt D.sto.top
  have s1 := hidden (World.size_alloc u4 (.cells #[.int .i64 16, .int .i64 2, .int .i64 0, .int .i64 0, .int .i64 0, .slice ab0 0 cb0, .slice av0 0 cv0, .int .u16 0, .int .u16 0, .slice ad0 0 cd0] tP))
  replace D := D.ext E
  replace BW := below_then BW E
  replace RW := RW.ext E
  replace RB := RB.ext E
  clear E
  generalize u4.heap.size = qx at *
  generalize u4.alloc (.cells #[.int .i64 16, .int .i64 2, .int .i64 0, .int .i64 0, .int .i64 0, .slice ab0 0 cb0, .slice av0 0 cv0, .int .u16 0, .int .u16 0, .slice ad0 0 cd0] tP) = u5 at *
  clear s1
  obtain ⟨X1, hX1⟩ : ∃ X, doD 100 (d2 (Cs.zero 100) 1 1) ⟨3, k, nw, 0, 0, [], [], 0, 0⟩ = X := ⟨_, rfl⟩
  refine (vdo_any g gs lo hi 100 (d2 (Cs.zero 100) 1 1) ⟨3, k, nw, 0, 0, [], [], 0, 0⟩ _ u5 D ⟨_, _, rfl, RowF.nil _ _, RowF.nil _ _⟩ ⟨by decide, by decide, by decide, by decide⟩ ⟨by decide, by decide⟩).mono ?_
  rintro e u6 ⟨v', rfl, NR, D2, KK⟩
  rw [hX1] at NR D2
  have HX1 := hidden hX1
  clear hX1
  obtain ⟨vb, vv, vd, rfl, ⟨NB1, NV1, ND1⟩, nb, nv, nd⟩ := NR
  have hg := D.blk.lt
  have hh := D.sto.top
  clear D
  have D := D2
  clear D2
  replace BW := bw_gd BW KK HG.out
  replace BX := BX.kp KK BXn.out
  replace RW := RW.kp KK (fun _ _ h => h)
  replace RB := RB.kp KK (fun _ _ h => h)
  clear KK
  have NB1 : RowF (Gd g lo hi) u6 _ _ := ⟨NB1, fun _ => nw_off nb hg hh⟩
  have NV1 : RowF (Gd g lo hi) u6 _ _ := ⟨NV1, fun _ => nw_off nv hg hh⟩
  have ND1 : RowF (Gd g lo hi) u6 _ _ := ⟨ND1, fun _ => nw_off nd hg hh⟩
  clear nb nv nd hg hh
  obtain ⟨ab1, cb1, rfl, -⟩ := id NB1.1
  obtain ⟨av1, cv1, rfl, -⟩ := id NV1.1
  obtain ⟨ad1, cd1, rfl, -⟩ := id ND1.1
  obtain rfl : ((⟨3, 2, 0, 0, 0, [], [], 0, 0, []⟩ : Rp), d2 (Cs.zero 100) 2 2) = X1 := by rw [← HX1.out, do3_no ⟨by omega, by omega⟩ ⟨by omega, by omega⟩ (fits_f (by omega))] <;> rfl
  clear HX1
  simp only at D
  simp only [List.map_nil, List.length_nil] at NB1 NV1 ND1 ⊢
  clear NB1
  clear NV1
  clear ND1
  have SB : Hid ((Cs.zero 100).b0.length = 100) := (zero_lens 100).1
  have E := (Below.refl u6.heap.size u6).alloc (Nat.le_refl _) (.cells #[.int .i64 3, .int .i64 2, .int .i64 0, .int .i64 0, .int .i64 0, .slice ab1 0 cb1, .slice av1 0 cv1, .int .u16 0, .int .u16 0, .slice ad1 0 cd1] tP)
  have BY := Blk.new u6 tP [.int .i64 3, .int .i64 2, .int .i64 0, .int .i64 0, .int .i64 0, .slice ab1 0 cb1, .slice av1 0 cv1, .int .u16 0, .int .u16 0, .slice ad1 0 cd1]
  have BYn : Hid (¬ Gd g lo hi u6.heap.size) := gd_no D.blk.lt D.sto.top
  replace D := D.ext E
  replace BW := below_then BW E
  replace BX := BX.below E BX.lt
  replace RW := RW.ext E
  replace RB := RB.ext E
  clear E
  have f1 : (u6.alloc (.cells #[.int .i64 3, .int .i64 2, .int .i64 0, .int .i64 0, .int .i64 0, .slice ab1 0 cb1, .slice av1 0 cv1, .int .u16 0, .int .u16 0, .slice ad1 0 cd1] tP)).cell? ⟨qx, 1, none⟩ = some (.int .i64 2) := BX.cell 1
  have f2 : (u6.alloc (.cells #[.int .i64 3, .int .i64 2, .int .i64 0, .int .i64 0, .int .i64 0, .slice ab1 0 cb1, .slice av1 0 cv1, .int .u16 0, .int .u16 0, .slice ad1 0 cd1] tP)).cell? ⟨u6.heap.size, 1, none⟩ = some (.int .i64 2) := BY.cell 1
  go_wp2_with fail
  clear f1 f2
  generalize u6.heap.size = qy at *
  generalize (u6.alloc (.cells #[.int .i64 3, .int .i64 2, .int .i64 0, .int .i64 0, .int .i64 0, .slice ab1 0 cb1, .slice av1 0 cv1, .int .u16 0, .int .u16 0, .slice ad1 0 cd1] tP)) = qyw at *
  clear BY BYn
  obtain ⟨X2, hX2⟩ : ∃ X, doD 100 (d2 (Cs.zero 100) 2 2) ⟨15, k, nb, 0, 0, bs, [], 0, 0⟩ = X := ⟨_, rfl⟩
  refine (vdo_any g gs lo hi 100 (d2 (Cs.zero 100) 2 2) ⟨15, k, nb, 0, 0, bs, [], 0, 0⟩ _ qyw D ⟨_, _, rfl, RB, RowF.nil _ _⟩ ⟨by decide, by decide, by decide, by decide⟩ ⟨by decide, by decide⟩).mono ?_
  rintro e u7 ⟨v', rfl, NR, D2, KK⟩
  rw [hX2] at NR D2
  have HX2 := hidden hX2
  clear hX2
  obtain ⟨vb, vv, vd, rfl, ⟨NB2, NV2, ND2⟩, nb, nv, nd⟩ := NR
  have hg := D.blk.lt
  have hh := D.sto.top
  clear D
  have D := D2
  clear D2
  replace BW := bw_gd BW KK HG.out
  replace BX := BX.kp KK BXn.out
  replace RW := RW.kp KK (fun _ _ h => h)
  replace RB := RB.kp KK (fun _ _ h => h)
  clear KK
  have NB2 : RowF (Gd g lo hi) u7 _ _ := ⟨NB2, fun _ => nw_off nb hg hh⟩
  have NV2 : RowF (Gd g lo hi) u7 _ _ := ⟨NV2, fun _ => nw_off nv hg hh⟩
  have ND2 : RowF (Gd g lo hi) u7 _ _ := ⟨ND2, fun _ => nw_off nd hg hh⟩
  clear nb nv nd hg hh
  obtain ⟨ab2, cb2, rfl, -⟩ := id NB2.1
  obtain ⟨av2, cv2, rfl, -⟩ := id NV2.1
  obtain ⟨ad2, cd2, rfl, -⟩ := id ND2.1
  obtain rfl : ((⟨15, 0, k, (nb : Int), 0, [], [], 0, 0, []⟩ : Rp), d2 (setB 100 (Cs.zero 100) 0 k bs) 3 2) = X2 := by rw [← HX2.out, do15_ok ⟨by omega, by omega⟩ (by rw [HLbs.out]) ⟨by omega, by omega⟩ (fits_t (by omega))] <;> rfl
  clear HX2
  simp only at D
  simp only [List.map_nil, List.length_nil] at NB2 NV2 ND2 ⊢
  clear NB2
  clear NV2
  clear ND2
  obtain ⟨s2, hs2⟩ : ∃ s, setB 100 (Cs.zero 100) 0 k bs = s := ⟨_, rfl⟩
  rw [hs2] at D
  have HS2 := hidden hs2
  clear hs2
  have HGB : Hid (getB 100 s2 0 k nb = bs) := by
   show _ = _
   rw [← HS2.out]; exact getB_set SB.out (by rw [HLbs.out]) (fits_t (by omega))
  clear HS2 SB
  go_wp2_with fail
  have E := (Below.refl u7.heap.size u7).alloc (Nat.le_refl _) (.cells #[.int .i64 15, .int .i64 0, .int .i64 k, .int .i64 (nb : Int), .int .i64 0, .slice ab2 0 cb2, .slice av2 0 cv2, .int .u16 0, .int .u16 0, .slice ad2 0 cd2] tP)
  have BP := Blk.new u7 tP [.int .i64 15, .int .i64 0, .int .i64 k, .int .i64 (nb : Int), .int .i64 0, .slice ab2 0 cb2, .slice av2 0 cv2, .int .u16 0, .int .u16 0, .slice ad2 0 cd2]
  have BPn : Hid (¬ Gd g lo hi u7.heap.size) := gd_no D.blk.lt D.sto.top
  have s1 := hidden (World.size_alloc u7 (.cells #[.int .i64 15, .int .i64 0, .int .i64 k, .int .i64 (nb : Int), .int .i64 0, .slice ab2 0 cb2, .slice av2 0 cv2, .int .u16 0, .int .u16 0, .slice ad2 0 cd2] tP))
  replace D := D.ext E
  replace BW := below_then BW E
  replace BX := BX.below E BX.lt
  replace RW := RW.ext E
  replace RB := RB.ext E
  clear E
  generalize u7.heap.size = qp at *
  generalize u7.alloc (.cells #[.int .i64 15, .int .i64 0, .int .i64 k, .int .i64 (nb : Int), .int .i64 0, .slice ab2 0 cb2, .slice av2 0 cv2, .int .u16 0, .int .u16 0, .slice ad2 0 cd2] tP) = u8 at *
  clear s1
  obtain ⟨X3, hX3⟩ : ∃ X, doD 100 (d2 s2 3 2) ⟨1, k, nb, 0, 0, [], [], 0, 0⟩ = X := ⟨_, rfl⟩
  refine (vdo_any g gs lo hi 100 (d2 s2 3 2) ⟨1, k, nb, 0, 0, [], [], 0, 0⟩ _ u8 D ⟨_, _, rfl, RowF.nil _ _, RowF.nil _ _⟩ ⟨by simp [d2], by simp [d2], by simp [d2], by simp [d2]⟩ ⟨by simp [d2], by simp [d2]⟩).mono ?_
  rintro e u9 ⟨v', rfl, NR, D2, KK⟩
  rw [hX3] at NR D2
  have HX3 := hidden hX3
  clear hX3
  obtain ⟨vb, vv, vd, rfl, ⟨NB3, NV3, ND3⟩, nb, nv, nd⟩ := NR
  have hg := D.blk.lt
  have hh := D.sto.top
  clear D
  have D := D2
  clear D2
  replace BW := bw_gd BW KK HG.out
  replace BX := BX.kp KK BXn.out
  replace BP := BP.kp KK BPn.out
  replace RW := RW.kp KK (fun _ _ h => h)
  replace RB := RB.kp KK (fun _ _ h => h)
  clear KK
  have NB3 : RowF (Gd g lo hi) u9 _ _ := ⟨NB3, fun _ => nw_off nb hg hh⟩
  have NV3 : RowF (Gd g lo hi) u9 _ _ := ⟨NV3, fun _ => nw_off nv hg hh⟩
  have ND3 : RowF (Gd g lo hi) u9 _ _ := ⟨ND3, fun _ => nw_off nd hg hh⟩
  clear nb nv nd hg hh
  obtain ⟨ab3, cb3, rfl, -⟩ := id NB3.1
  obtain ⟨av3, cv3, rfl, -⟩ := id NV3.1
  obtain ⟨ad3, cd3, rfl, -⟩ := id ND3.1
  obtain rfl : ((⟨1, 0, 0, 0, 0, (getB 100 s2 0 k nb), [], 0, 0, []⟩ : Rp), d2 s2 4 2) = X3 := by rw [← HX3.out, do1_ok ⟨by omega, by omega⟩ ⟨by omega, by omega⟩ (fits_t (by omega))] <;> rfl
  clear HX3
  simp only at D
  simp only [List.map_nil, List.length_nil, List.length_map] at NB3 NV3 ND3 ⊢
  clear NV3
  clear ND3
  simp only [HGB.out, HLbs.out] at NB3 ⊢
  have E := (Below.refl u9.heap.size u9).alloc (Nat.le_refl _) (.cells #[.int .i64 1, .int .i64 0, .int .i64 0, .int .i64 0, .int .i64 0, .slice ab3 nb cb3, .slice av3 0 cv3, .int .u16 0, .int .u16 0, .slice ad3 0 cd3] tP)
  have BQ := Blk.new u9 tP [.int .i64 1, .int .i64 0, .int .i64 0, .int .i64 0, .int .i64 0, .slice ab3 nb cb3, .slice av3 0 cv3, .int .u16 0, .int .u16 0, .slice ad3 0 cd3]
  have BQn : Hid (¬ Gd g lo hi u9.heap.size) := gd_no D.blk.lt D.sto.top
  replace D := D.ext E
  replace BW := below_then BW E
  replace BX := BX.below E BX.lt
  replace BP := BP.below E BP.lt
  replace RW := RW.ext E
  replace RB := RB.ext E
  replace NB3 := NB3.ext E
  clear E
  have f1 : (u9.alloc (.cells #[.int .i64 1, .int .i64 0, .int .i64 0, .int .i64 0, .int .i64 0, .slice ab3 nb cb3, .slice av3 0 cv3, .int .u16 0, .int .u16 0, .slice ad3 0 cd3] tP)).cell? ⟨qp, 1, none⟩ = some (.int .i64 0) := BP.cell 1
  have f2 : (u9.alloc (.cells #[.int .i64 1, .int .i64 0, .int .i64 0, .int .i64 0, .int .i64 0, .slice ab3 nb cb3, .slice av3 0 cv3, .int .u16 0, .int .u16 0, .slice ad3 0 cd3] tP)).cell? ⟨qx, 1, none⟩ = some (.int .i64 2) := BX.cell 1
  have f3 : (u9.alloc (.cells #[.int .i64 1, .int .i64 0, .int .i64 0, .int .i64 0, .int .i64 0, .slice ab3 nb cb3, .slice av3 0 cv3, .int .u16 0, .int .u16 0, .slice ad3 0 cd3] tP)).cell? ⟨u9.heap.size, 5, none⟩ = some (.slice ab3 nb cb3) := BQ.cell 5
  go_wp2_with fail
  clear f1 f2 f3
  generalize u9.heap.size = qq at *
  generalize (u9.alloc (.cells #[.int .i64 1, .int .i64 0, .int .i64 0, .int .i64 0, .int .i64 0, .slice ab3 nb cb3, .slice av3 0 cv3, .int .u16 0, .int .u16 0, .slice ad3 0 cd3] tP)) = qqw at *
  refine (booksameB _ _ bs qqw NB3.1 RB.1).mono ?_
  rintro e w' ⟨rfl, nq, rfl⟩
  have E : Below qqw.heap.size qqw (qqw.drewN nq) := below_drewn0 _ _ _
  replace D := D.ext E
  replace BW := below_then BW E
  replace BX := BX.below E BX.lt
  replace BP := BP.below E BP.lt
  replace BQ := BQ.below E BQ.lt
  replace RW := RW.ext E
  replace RB := RB.ext E
  replace NB3 := NB3.ext E
  clear E
  generalize qqw.drewN nq = u10 at *
  clear NB3
  have f2 : u10.cell? ⟨qx, 1, none⟩ = some (.int .i64 2) := BX.cell 1
  go_wp2_with fail
  clear f2
  clear BQ BQn
  clear BP BPn
  clear RB
  refine (known9 u10).mono ?_
  rintro e wz ⟨rfl, E⟩
  have E2 := hidden (below_then BW E)
  clear E BW D BX BXn RW
  go_wp2
  go_ret
  exact ⟨rfl, E2.out⟩
 ·
  go_wp2_with fail
  obtain ⟨X0, hX0⟩ : ∃ X, doD 100 (d2 (Cs.zero 100) 0 0) ⟨16, k, nw, 0, 0, [], ws, 0, 0⟩ = X := ⟨_, rfl⟩
  refine (vdo_any g gs lo hi 100 (d2 (Cs.zero 100) 0 0) ⟨16, k, nw, 0, 0, [], ws, 0, 0⟩ _ u3 D ⟨_, _, rfl, RowF.nil _ _, RW⟩ ⟨by decide, by decide, by decide, by decide⟩ ⟨by decide, by decide⟩).mono ?_
  rintro e u4 ⟨v', rfl, NR, D2, KK⟩
  rw [hX0] at NR D2
  have HX0 := hidden hX0
  clear hX0
  obtain ⟨vb, vv, vd, rfl, ⟨NB0, NV0, ND0⟩, nb, nv, nd⟩ := NR
  have hg := D.blk.lt
  have hh := D.sto.top
  clear D
  have D := D2
  clear D2
  replace BW := bw_gd BW KK HG.out
  replace RW := RW.kp KK (fun _ _ h => h)
  replace RB := RB.kp KK (fun _ _ h => h)
  clear KK
  have NB0 : RowF (Gd g lo hi) u4 _ _ := ⟨NB0, fun _ => nw_off nb hg hh⟩
  have NV0 : RowF (Gd g lo hi) u4 _ _ := ⟨NV0, fun _ => nw_off nv hg hh⟩
  have ND0 : RowF (Gd g lo hi) u4 _ _ := ⟨ND0, fun _ => nw_off nd hg hh⟩
  clear nb nv nd hg hh
  obtain ⟨ab0, cb0, rfl, -⟩ := id NB0.1
  obtain ⟨av0, cv0, rfl, -⟩ := id NV0.1
  obtain ⟨ad0, cd0, rfl, -⟩ := id ND0.1
  obtain rfl : ((⟨16, 2, 0, 0, 0, [], [], 0, 0, []⟩ : Rp), d2 (Cs.zero 100) 1 1) = X0 := by rw [← HX0.out, do16_no ⟨by omega, by omega⟩ (by rw [HLws.out]) ⟨by omega, by omega⟩ (fits_f (by omega))] <;> rfl
  clear HX0
  simp only at D
  simp only [List.map_nil, List.length_nil] at NB0 NV0 ND0 ⊢
  clear NB0
  clear NV0
  clear ND0
  go_wp2_with fail
  have E := (Below.refl u4.heap.size u4).alloc (Nat.le_refl _) (.cells #[.int .i64 16, .int .i64 2, .int .i64 0, .int .i64 0, .int .i64 0, .slice ab0 0 cb0, .slice av0 0 cv0, .int .u16 0, .int .u16 0, .slice ad0 0 cd0] tP)
  have BX := Blk.new u4 tP [.int .i64 16, .int .i64 2, .int .i64 0, .int .i64 0, .int .i64 0, .slice ab0 0 cb0, .slice av0 0 cv0, .int .u16 0, .int .u16 0, .slice ad0 0 cd0]
  have BXn : Hid (¬ Gd g lo hi u4.heap.size) := gd_no D.blk.lt D.sto.top
  have s1 := hidden (World.size_alloc u4 (.cells #[.int .i64 16, .int .i64 2, .int .i64 0, .int .i64 0, .int .i64 0, .slice ab0 0 cb0, .slice av0 0 cv0, .int .u16 0, .int .u16 0, .slice ad0 0 cd0] tP))
  replace D := D.ext E
  replace BW := below_then BW E
  replace RW := RW.ext E
  replace RB := RB.ext E
  clear E
  generalize u4.heap.size = qx at *
  generalize u4.alloc (.cells #[.int .i64 16, .int .i64 2, .int .i64 0, .int .i64 0, .int .i64 0, .slice ab0 0 cb0, .slice av0 0 cv0, .int .u16 0, .int .u16 0, .slice ad0 0 cd0] tP) = u5 at *
  clear s1
  obtain ⟨X1, hX1⟩ : ∃ X, doD 100 (d2 (Cs.zero 100) 1 1) ⟨3, k, nw, 0, 0, [], [], 0, 0⟩ = X := ⟨_, rfl⟩
  refine (vdo_any g gs lo hi 100 (d2 (Cs.zero 100) 1 1) ⟨3, k, nw, 0, 0, [], [], 0, 0⟩ _ u5 D ⟨_, _, rfl, RowF.nil _ _, RowF.nil _ _⟩ ⟨by decide, by decide, by decide, by decide⟩ ⟨by decide, by decide⟩).mono ?_
  rintro e u6 ⟨v', rfl, NR, D2, KK⟩
  rw [hX1] at NR D2
  have HX1 := hidden hX1
  clear hX1
  obtain ⟨vb, vv, vd, rfl, ⟨NB1, NV1, ND1⟩, nb, nv, nd⟩ := NR
  have hg := D.blk.lt
  have hh := D.sto.top
  clear D
  have D := D2
  clear D2
  replace BW := bw_gd BW KK HG.out
  replace BX := BX.kp KK BXn.out
  replace RW := RW.kp KK (fun _ _ h => h)
  replace RB := RB.kp KK (fun _ _ h => h)
  clear KK
  have NB1 : RowF (Gd g lo hi) u6 _ _ := ⟨NB1, fun _ => nw_off nb hg hh⟩
  have NV1 : RowF (Gd g lo hi) u6 _ _ := ⟨NV1, fun _ => nw_off nv hg hh⟩
  have ND1 : RowF (Gd g lo hi) u6 _ _ := ⟨ND1, fun _ => nw_off nd hg hh⟩
  clear nb nv nd hg hh
  obtain ⟨ab1, cb1, rfl, -⟩ := id NB1.1
  obtain ⟨av1, cv1, rfl, -⟩ := id NV1.1
  obtain ⟨ad1, cd1, rfl, -⟩ := id ND1.1
  obtain rfl : ((⟨3, 2, 0, 0, 0, [], [], 0, 0, []⟩ : Rp), d2 (Cs.zero 100) 2 2) = X1 := by rw [← HX1.out, do3_no ⟨by omega, by omega⟩ ⟨by omega, by omega⟩ (fits_f (by omega))] <;> rfl
  clear HX1
  simp only at D
  simp only [List.map_nil, List.length_nil] at NB1 NV1 ND1 ⊢
  clear NB1
  clear NV1
  clear ND1
  have SB : Hid ((Cs.zero 100).b0.length = 100) := (zero_lens 100).1
  have E := (Below.refl u6.heap.size u6).alloc (Nat.le_refl _) (.cells #[.int .i64 3, .int .i64 2, .int .i64 0, .int .i64 0, .int .i64 0, .slice ab1 0 cb1, .slice av1 0 cv1, .int .u16 0, .int .u16 0, .slice ad1 0 cd1] tP)
  have BY := Blk.new u6 tP [.int .i64 3, .int .i64 2, .int .i64 0, .int .i64 0, .int .i64 0, .slice ab1 0 cb1, .slice av1 0 cv1, .int .u16 0, .int .u16 0, .slice ad1 0 cd1]
  have BYn : Hid (¬ Gd g lo hi u6.heap.size) := gd_no D.blk.lt D.sto.top
  replace D := D.ext E
  replace BW := below_then BW E
  replace BX := BX.below E BX.lt
  replace RW := RW.ext E
  replace RB := RB.ext E
  clear E
  have f1 : (u6.alloc (.cells #[.int .i64 3, .int .i64 2, .int .i64 0, .int .i64 0, .int .i64 0, .slice ab1 0 cb1, .slice av1 0 cv1, .int .u16 0, .int .u16 0, .slice ad1 0 cd1] tP)).cell? ⟨qx, 1, none⟩ = some (.int .i64 2) := BX.cell 1
  have f2 : (u6.alloc (.cells #[.int .i64 3, .int .i64 2, .int .i64 0, .int .i64 0, .int .i64 0, .slice ab1 0 cb1, .slice av1 0 cv1, .int .u16 0, .int .u16 0, .slice ad1 0 cd1] tP)).cell? ⟨u6.heap.size, 1, none⟩ = some (.int .i64 2) := BY.cell 1
  go_wp2_with fail
  clear f1 f2
  generalize u6.heap.size = qy at *
  generalize (u6.alloc (.cells #[.int .i64 3, .int .i64 2, .int .i64 0, .int .i64 0, .int .i64 0, .slice ab1 0 cb1, .slice av1 0 cv1, .int .u16 0, .int .u16 0, .slice ad1 0 cd1] tP)) = qyw at *
  clear BY BYn
  obtain ⟨X2, hX2⟩ : ∃ X, doD 100 (d2 (Cs.zero 100) 2 2) ⟨15, k, nb, 0, 0, bs, [], 0, 0⟩ = X := ⟨_, rfl⟩
  refine (vdo_any g gs lo hi 100 (d2 (Cs.zero 100) 2 2) ⟨15, k, nb, 0, 0, bs, [], 0, 0⟩ _ qyw D ⟨_, _, rfl, RB, RowF.nil _ _⟩ ⟨by decide, by decide, by decide, by decide⟩ ⟨by decide, by decide⟩).mono ?_
  rintro e u7 ⟨v', rfl, NR, D2, KK⟩
  rw [hX2] at NR D2
  have HX2 := hidden hX2
  clear hX2
  obtain ⟨vb, vv, vd, rfl, ⟨NB2, NV2, ND2⟩, nb, nv, nd⟩ := NR
  have hg := D.blk.lt
  have hh := D.sto.top
  clear D
  have D := D2
  clear D2
  replace BW := bw_gd BW KK HG.out
  replace BX := BX.kp KK BXn.out
  replace RW := RW.kp KK (fun _ _ h => h)
  replace RB := RB.kp KK (fun _ _ h => h)
  clear KK
  have NB2 : RowF (Gd g lo hi) u7 _ _ := ⟨NB2, fun _ => nw_off nb hg hh⟩
  have NV2 : RowF (Gd g lo hi) u7 _ _ := ⟨NV2, fun _ => nw_off nv hg hh⟩
  have ND2 : RowF (Gd g lo hi) u7 _ _ := ⟨ND2, fun _ => nw_off nd hg hh⟩
  clear nb nv nd hg hh
  obtain ⟨ab2, cb2, rfl, -⟩ := id NB2.1
  obtain ⟨av2, cv2, rfl, -⟩ := id NV2.1
  obtain ⟨ad2, cd2, rfl, -⟩ := id ND2.1
  obtain rfl : ((⟨15, 2, 0, 0, 0, [], [], 0, 0, []⟩ : Rp), d2 (Cs.zero 100) 3 3) = X2 := by rw [← HX2.out, do15_no ⟨by omega, by omega⟩ (by rw [HLbs.out]) ⟨by omega, by omega⟩ (fits_f (by omega))] <;> rfl
  clear HX2
  simp only at D
  simp only [List.map_nil, List.length_nil] at NB2 NV2 ND2 ⊢
  clear NB2
  clear NV2
  clear ND2
  clear SB
  go_wp2_with fail
  have E := (Below.refl u7.heap.size u7).alloc (Nat.le_refl _) (.cells #[.int .i64 15, .int .i64 2, .int .i64 0, .int .i64 0, .int .i64 0, .slice ab2 0 cb2, .slice av2 0 cv2, .int .u16 0, .int .u16 0, .slice ad2 0 cd2] tP)
  have BP := Blk.new u7 tP [.int .i64 15, .int .i64 2, .int .i64 0, .int .i64 0, .int .i64 0, .slice ab2 0 cb2, .slice av2 0 cv2, .int .u16 0, .int .u16 0, .slice ad2 0 cd2]
  have BPn : Hid (¬ Gd g lo hi u7.heap.size) := gd_no D.blk.lt D.sto.top
  have s1 := hidden (World.size_alloc u7 (.cells #[.int .i64 15, .int .i64 2, .int .i64 0, .int .i64 0, .int .i64 0, .slice ab2 0 cb2, .slice av2 0 cv2, .int .u16 0, .int .u16 0, .slice ad2 0 cd2] tP))
  replace D := D.ext E
  replace BW := below_then BW E
  replace BX := BX.below E BX.lt
  replace RW := RW.ext E
  replace RB := RB.ext E
  clear E
  generalize u7.heap.size = qp at *
  generalize u7.alloc (.cells #[.int .i64 15, .int .i64 2, .int .i64 0, .int .i64 0, .int .i64 0, .slice ab2 0 cb2, .slice av2 0 cv2, .int .u16 0, .int .u16 0, .slice ad2 0 cd2] tP) = u8 at *
  clear s1
  obtain ⟨X3, hX3⟩ : ∃ X, doD 100 (d2 (Cs.zero 100) 3 3) ⟨1, k, nb, 0, 0, [], [], 0, 0⟩ = X := ⟨_, rfl⟩
  refine (vdo_any g gs lo hi 100 (d2 (Cs.zero 100) 3 3) ⟨1, k, nb, 0, 0, [], [], 0, 0⟩ _ u8 D ⟨_, _, rfl, RowF.nil _ _, RowF.nil _ _⟩ ⟨by decide, by decide, by decide, by decide⟩ ⟨by decide, by decide⟩).mono ?_
  rintro e u9 ⟨v', rfl, NR, D2, KK⟩
  rw [hX3] at NR D2
  have HX3 := hidden hX3
  clear hX3
  obtain ⟨vb, vv, vd, rfl, ⟨NB3, NV3, ND3⟩, nb, nv, nd⟩ := NR
  have hg := D.blk.lt
  have hh := D.sto.top
  clear D
  have D := D2
  clear D2
  replace BW := bw_gd BW KK HG.out
  replace BX := BX.kp KK BXn.out
  replace BP := BP.kp KK BPn.out
  replace RW := RW.kp KK (fun _ _ h => h)
  replace RB := RB.kp KK (fun _ _ h => h)
  clear KK
  have NB3 : RowF (Gd g lo hi) u9 _ _ := ⟨NB3, fun _ => nw_off nb hg hh⟩
  have NV3 : RowF (Gd g lo hi) u9 _ _ := ⟨NV3, fun _ => nw_off nv hg hh⟩
  have ND3 : RowF (Gd g lo hi) u9 _ _ := ⟨ND3, fun _ => nw_off nd hg hh⟩
  clear nb nv nd hg hh
  obtain ⟨ab3, cb3, rfl, -⟩ := id NB3.1
  obtain ⟨av3, cv3, rfl, -⟩ := id NV3.1
  obtain ⟨ad3, cd3, rfl, -⟩ := id ND3.1
  obtain rfl : ((⟨1, 2, 0, 0, 0, [], [], 0, 0, []⟩ : Rp), d2 (Cs.zero 100) 4 4) = X3 := by rw [← HX3.out, do1_no ⟨by omega, by omega⟩ ⟨by omega, by omega⟩ (fits_f (by omega))] <;> rfl
  clear HX3
  simp only at D
  simp only [List.map_nil, List.length_nil] at NB3 NV3 ND3 ⊢
  clear NB3
  clear NV3
  clear ND3
  have E := (Below.refl u9.heap.size u9).alloc (Nat.le_refl _) (.cells #[.int .i64 1, .int .i64 2, .int .i64 0, .int .i64 0, .int .i64 0, .slice ab3 0 cb3, .slice av3 0 cv3, .int .u16 0, .int .u16 0, .slice ad3 0 cd3] tP)
  have BQ := Blk.new u9 tP [.int .i64 1, .int .i64 2, .int .i64 0, .int .i64 0, .int .i64 0, .slice ab3 0 cb3, .slice av3 0 cv3, .int .u16 0, .int .u16 0, .slice ad3 0 cd3]
  have BQn : Hid (¬ Gd g lo hi u9.heap.size) := gd_no D.blk.lt D.sto.top
  replace D := D.ext E
  replace BW := below_then BW E
  replace BX := BX.below E BX.lt
  replace BP := BP.below E BP.lt
  replace RW := RW.ext E
  replace RB := RB.ext E
  clear E
  have f1 : (u9.alloc (.cells #[.int .i64 1, .int .i64 2, .int .i64 0, .int .i64 0, .int .i64 0, .slice ab3 0 cb3, .slice av3 0 cv3, .int .u16 0, .int .u16 0, .slice ad3 0 cd3] tP)).cell? ⟨qp, 1, none⟩ = some (.int .i64 2) := BP.cell 1
  have f2 : (u9.alloc (.cells #[.int .i64 1, .int .i64 2, .int .i64 0, .int .i64 0, .int .i64 0, .slice ab3 0 cb3, .slice av3 0 cv3, .int .u16 0, .int .u16 0, .slice ad3 0 cd3] tP)).cell? ⟨qx, 1, none⟩ = some (.int .i64 2) := BX.cell 1
  go_wp2_with fail
  clear f1 f2
  generalize u9.heap.size = qq at *
  generalize (u9.alloc (.cells #[.int .i64 1, .int .i64 2, .int .i64 0, .int .i64 0, .int .i64 0, .slice ab3 0 cb3, .slice av3 0 cv3, .int .u16 0, .int .u16 0, .slice ad3 0 cd3] tP)) = qqw at *
  clear BQ BQn
  clear BP BPn
  clear RB
  refine (known9 qqw).mono ?_
  rintro e wz ⟨rfl, E⟩
  have E2 := hidden (below_then BW E)
  clear E BW D BX BXn RW
  go_wp2
  go_ret
  exact ⟨rfl, E2.out⟩
theorem writes_law_i (v1 v2 : Value) (xs : List UInt16) (ls : List Bool) (a b c : Int) (w : World) (hv : Row w v1 (xs.map wV)) (hl : Row w v2 (ls.map Value.bool)) (ha : -9223372036854775808 ≤ a ∧ a ≤ 9223372036854775807) (hb : 0 ≤ b ∧ b ≤ 65535) (hc : 0 ≤ c ∧ c ≤ 65535) : Calls Try.prog 3 #[.int .i64 a, v1, v2, .int .u16 b, .int .u16 c] w fun e w' => e = .returned (.bool true) ∧ Below w.heap.size w w' := by
 have e : ∀ x : Int, 0 ≤ x ∧ x ≤ 65535 → Value.int .u16 x = wV (wOf x) := fun x hx => by rw [wV, wOf_nat, show x % 65536 = x by omega]
 rw [e b hb, e c hc]
 exact writes_law v1 v2 xs ls a _ _ w hv hl ha
end Go.Proofs.Ytdihcdphgiaepaa
