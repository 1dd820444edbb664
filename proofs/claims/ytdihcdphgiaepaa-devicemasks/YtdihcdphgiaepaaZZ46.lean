/- The developers' Pdu. -/
import Derived.Deep.Cut
import Derived.Test.YtdihcdphgiaepaaZZ42
import Derived.Test.YtdihcdphgiaepaaZZ45
namespace Go.Proofs.Ytdihcdphgiaepaa
open Go.RowKit
theorem ref_rp' (w : World) (f k : Int) : IsRp w (rpV f k 0 0 0 (.slice none 0 0) (.slice none 0 0) 0 0 (.slice none 0 0)) (refP f k) := ⟨_, _, _, rfl, Row.nil w, Row.nil w, Row.nil w⟩
theorem readE_cases (b : List UInt8) (h0 : b ≠ []) : readE b = 0 ∨ readE b = 15 ∨ readE b = 12 := by
 unfold readE
 rw [if_neg h0]
 (repeat' split) <;> simp
set_option maxRecDepth 100000 in
set_option maxHeartbeats 4000000 in
theorem vpdu_nil (g gs lo hi n : Nat) (dv : Dv) (vb : Value) (b : List UInt8) (w : World) (D : DD w g gs lo hi n dv) (hv : RowF (Gd g lo hi) w vb (b.map bV)) (_hbl : b.length ≤ 140737488351232) (_hm : 0 ≤ dv.msgs ∧ dv.msgs ≤ 100000000000000000 ∧ 0 ≤ dv.flts ∧ dv.flts ≤ 100000000000000000) (h0 : b = []) :
  Calls Try.prog 22 #[ptrG g, vb] w fun e w' => ∃ v', e = .returned v' ∧ Row w' v' ((([] : List UInt8), dv).1.map bV) ∧ DD w' g gs lo hi n (([] : List UInt8), dv).2 ∧ Kp (Gd g lo hi) w w' := by
 obtain ⟨av, cv, rfl, -⟩ := id hv.1
 obtain ⟨-, -, hmx, -⟩ := hv.1.at
 unfold maxLen at hmx
 simp only [List.length_map] at hv ⊢
 have HG : Hid (g < w.heap.size ∧ hi ≤ w.heap.size) := ⟨D.blk.lt, D.sto.top⟩
 have EA0 := (Below.refl w.heap.size w).alloc (Nat.le_refl _) (.cells zsP.toArray tP)
 have HB := hidden (Blk.new w tP zsP)
 have DH := hidden (D.ext EA0)
 have VH := hidden (hv.ext EA0)
 have KH := hidden (Kp.of_below (F := Gd g lo hi) EA0)
 clear D
 have HE : Hid (readE b = 13) := by show _ = _; rw [h0]; exact readE_short
 clear h0
 have C := hidden (read_pdu_new _ b _ (hv.1.below EA0))
 clear hv EA0
 go_enter Try.func22, Try.ntmps22
 go_wp2_with fail
 obtain ⟨b5, hb5⟩ : ∃ b, b = w.heap.size := ⟨_, rfl⟩
 rw [← hb5] at HB HG ⊢
 generalize w.alloc (.cells zsP.toArray tP) = wa at *
 have HL : Hid (g < b5 ∧ hi ≤ b5 ∧ b5 < wa.heap.size) := ⟨HG.out.1, HG.out.2, HB.out.lt⟩
 have H5 := hidden hb5
 clear HG hb5
 refine C.out.mono ?_
 rintro e w1 ⟨v1, rfl, hq, E, nq⟩
 obtain ⟨ab, capb, aq, capq, rfl, hq1, hq2⟩ := hq.slices
 obtain ⟨vb1, vv1, eq1, hr1, hr2⟩ := hq
 simp only [rqV, Value.agg.injEq, Array.mk.injEq, List.cons.injEq, and_true, true_and] at eq1
 obtain ⟨rfl, rfl⟩ := eq1
 obtain ⟨nb, nv⟩ := nq.parts
 have F1 : RowF (Gd g lo hi) w1 _ _ := ⟨hr1, fun _ => newv_off nb (by have := HL.out; omega) (by have := HL.out; omega)⟩
 have F2 : RowF (Gd g lo hi) w1 _ _ := ⟨hr2, fun _ => newv_off nv (by have := HL.out; omega) (by have := HL.out; omega)⟩
 have D1 := DH.out.ext E
 have KP := KH.out.ext E
 have B1 := HB.out.below E HB.out.lt
 have V1 := VH.out.ext E
 have EB : Below w1.heap.size w1 (w1.alloc (.cells #[.int .i64 (readQ b).fn, .int .i64 (readQ b).loc, .int .i64 (readQ b).cnt, .int .i64 (readQ b).wat, .int .i64 (readQ b).sub, .slice ab (readQ b).bits.length capb, .slice aq (readQ b).vals.length capq, wV (readQ b).land, wV (readQ b).lor] tQ)) := (Below.refl _ _).alloc (Nat.le_refl _) _
 have XB := Blk.new w1 tQ [.int .i64 (readQ b).fn, .int .i64 (readQ b).loc, .int .i64 (readQ b).cnt, .int .i64 (readQ b).wat, .int .i64 (readQ b).sub, .slice ab (readQ b).bits.length capb, .slice aq (readQ b).vals.length capq, wV (readQ b).land, wV (readQ b).lor]
 have G1 := hidden (F1.ext EB)
 have G2 := hidden (F2.ext EB)
 clear DH KH HB VH
 have DH := hidden (D1.ext EB)
 have KH := hidden (KP.ext EB)
 have HB := hidden (B1.below EB B1.lt)
 have VH := hidden (V1.ext EB)
 have XH := hidden XB
 have E1 := hidden E.size
 clear C nq nb nv hr1 hr2 F1 F2 D1 KP B1 V1 XB EB E
 rw [HE.out]
 go_wp2
 go_ret
 exact ⟨_, rfl, Row.nil _, DH.out, KH.out⟩
set_option maxRecDepth 100000 in
set_option maxHeartbeats 4000000 in
theorem vpdu_do (g gs lo hi n : Nat) (dv : Dv) (vb : Value) (b : List UInt8) (w : World) (D : DD w g gs lo hi n dv) (hv : RowF (Gd g lo hi) w vb (b.map bV)) (_hbl : b.length ≤ 140737488351232) (hm : 0 ≤ dv.msgs ∧ dv.msgs ≤ 100000000000000000 ∧ 0 ≤ dv.flts ∧ dv.flts ≤ 100000000000000000) (hu : 0 ≤ dv.unit ∧ dv.unit ≤ 255) (he : readE b = 0) (X : Rp × Dv) (hX : doD n dv (readQ b) = X) :
  Calls Try.prog 22 #[ptrG g, vb] w fun e w' => ∃ v', e = .returned v' ∧ Row w' v' ((layR X.1, X.2).1.map bV) ∧ DD w' g gs lo hi n (layR X.1, X.2).2 ∧ Kp (Gd g lo hi) w w' := by
 obtain ⟨av, cv, rfl, -⟩ := id hv.1
 obtain ⟨-, -, hmx, -⟩ := hv.1.at
 unfold maxLen at hmx
 simp only [List.length_map] at hv ⊢
 have HG : Hid (g < w.heap.size ∧ hi ≤ w.heap.size) := ⟨D.blk.lt, D.sto.top⟩
 have EA0 := (Below.refl w.heap.size w).alloc (Nat.le_refl _) (.cells zsP.toArray tP)
 have HB := hidden (Blk.new w tP zsP)
 have DH := hidden (D.ext EA0)
 have VH := hidden (hv.ext EA0)
 have KH := hidden (Kp.of_below (F := Gd g lo hi) EA0)
 clear D
 have HE := hidden he
 have HX := hidden hX
 have HM := hidden hm
 have HU := hidden hu
 clear he hX hm hu VH
 have C := hidden (read_pdu_new _ b _ (hv.1.below EA0))
 clear hv EA0
 go_enter Try.func22, Try.ntmps22
 go_wp2_with fail
 obtain ⟨b5, hb5⟩ : ∃ b, b = w.heap.size := ⟨_, rfl⟩
 rw [← hb5] at HB HG ⊢
 generalize w.alloc (.cells zsP.toArray tP) = wa at *
 have HL : Hid (g < b5 ∧ hi ≤ b5 ∧ b5 < wa.heap.size) := ⟨HG.out.1, HG.out.2, HB.out.lt⟩
 have H5 := hidden hb5
 clear HG hb5
 refine C.out.mono ?_
 rintro e w1 ⟨v1, rfl, hq, E, nq⟩
 obtain ⟨ab, capb, aq, capq, rfl, hq1, hq2⟩ := hq.slices
 obtain ⟨vb1, vv1, eq1, hr1, hr2⟩ := hq
 simp only [rqV, Value.agg.injEq, Array.mk.injEq, List.cons.injEq, and_true, true_and] at eq1
 obtain ⟨rfl, rfl⟩ := eq1
 obtain ⟨nb, nv⟩ := nq.parts
 have F1 : RowF (Gd g lo hi) w1 _ _ := ⟨hr1, fun _ => newv_off nb (by have := HL.out; omega) (by have := HL.out; omega)⟩
 have F2 : RowF (Gd g lo hi) w1 _ _ := ⟨hr2, fun _ => newv_off nv (by have := HL.out; omega) (by have := HL.out; omega)⟩
 have D1 := DH.out.ext E
 have KP := KH.out.ext E
 have B1 := HB.out.below E HB.out.lt
 have EB : Below w1.heap.size w1 (w1.alloc (.cells #[.int .i64 (readQ b).fn, .int .i64 (readQ b).loc, .int .i64 (readQ b).cnt, .int .i64 (readQ b).wat, .int .i64 (readQ b).sub, .slice ab (readQ b).bits.length capb, .slice aq (readQ b).vals.length capq, wV (readQ b).land, wV (readQ b).lor] tQ)) := (Below.refl _ _).alloc (Nat.le_refl _) _
 have XB := Blk.new w1 tQ [.int .i64 (readQ b).fn, .int .i64 (readQ b).loc, .int .i64 (readQ b).cnt, .int .i64 (readQ b).wat, .int .i64 (readQ b).sub, .slice ab (readQ b).bits.length capb, .slice aq (readQ b).vals.length capq, wV (readQ b).land, wV (readQ b).lor]
 have G1 := hidden (F1.ext EB)
 have G2 := hidden (F2.ext EB)
 clear DH KH HB
 have DH := hidden (D1.ext EB)
 have KH := hidden (KP.ext EB)
 have HB := hidden (B1.below EB B1.lt)
 have XH := hidden XB
 have E1 := hidden E.size
 clear C nq nb nv hr1 hr2 F1 F2 D1 KP B1 XB EB E
 rw [HE.out]
 obtain ⟨x0, x1, x2, x3, x4, x5, x6, x7, x8⟩ := cells9 XH.out
 go_wp2_with fail
 clear x0 x1 x2 x3 x4 x5 x6 x7 x8 XH
 have HZ : Hid (b5 < (w1.alloc (.cells #[.int .i64 (readQ b).fn, .int .i64 (readQ b).loc, .int .i64 (readQ b).cnt, .int .i64 (readQ b).wat, .int .i64 (readQ b).sub, .slice ab (readQ b).bits.length capb, .slice aq (readQ b).vals.length capq, wV (readQ b).land, wV (readQ b).lor] tQ)).heap.size) := HB.out.lt
 generalize w1.alloc (.cells #[.int .i64 (readQ b).fn, .int .i64 (readQ b).loc, .int .i64 (readQ b).cnt, .int .i64 (readQ b).wat, .int .i64 (readQ b).sub, .slice ab (readQ b).bits.length capb, .slice aq (readQ b).vals.length capq, wV (readQ b).land, wV (readQ b).lor] tQ) = w2 at *
 refine (vdo_any g gs lo hi n dv (readQ b) _ w2 DH.out ⟨_, _, rfl, G1.out, G2.out⟩ HM.out HU.out).mono ?_
 rintro e w3 ⟨v3, rfl, NR, D2, KK⟩
 rw [HX.out] at NR D2
 clear HX
 obtain ⟨vb3, vv3, vd3, rfl, ⟨NB, NV, ND⟩, nb, nv, nd⟩ := NR
 have BZ := HB.out.kp KK (gd_no (by have := HL.out; omega) (by have := HL.out; omega))
 have KP := KH.out.then KK (fun _ _ h => h)
 obtain ⟨⟨rf, rc, ra, rn, rs, rb, rv, rm, ro, rd⟩, dv2⟩ := X
 simp only at NB NV ND D2 ⊢
 have nb' : Hid (∀ k, vb3.ownBlock = some k → b5 < k) := fun k hk => by have := nb k hk; have := HZ.out; omega
 have nv' : Hid (∀ k, vv3.ownBlock = some k → b5 < k) := fun k hk => by have := nv k hk; have := HZ.out; omega
 have nd' : Hid (∀ k, vd3.ownBlock = some k → b5 < k) := fun k hk => by have := nd k hk; have := HZ.out; omega
 clear KK nb nv nd DH KH HB G1 G2
 obtain ⟨avb, cvb, rfl, -⟩ := id NB
 obtain ⟨avv, cvv, rfl, -⟩ := id NV
 obtain ⟨avd, cvd, rfl, -⟩ := id ND
 simp only [List.length_map] at NB NV ND nb' nv' nd' ⊢
 have HNB := hidden NB
 have HNV := hidden NV
 have HND := hidden ND
 have HD2 := hidden D2
 clear NB NV ND D2
 obtain ⟨z0, z1, z2, z3, z4, z5, z6, z7, z8, z9⟩ := cells10 BZ
 have yz := fun i => BZ.frozen i
 go_upto_region 13 with fail
 clear z0 z1 z2 z3 z4 z5 z6 z7 z8 z9 yz
 obtain ⟨wl, hwl, BF, PN, PK⟩ := put10 BZ rfl (.int .i64 rf) (.int .i64 rc) (.int .i64 ra) (.int .i64 rn) (.int .i64 rs) (.slice avb rb.length cvb) (.slice avv rv.length cvv) (wV rm) (wV ro) (.slice avd rd.length cvd)
 rw [hwl]
 clear hwl
 have KS := PK _ _ (Kp.refl (· = b5) w3) (fun _ => rfl)
 have K5 := PK _ _ KP (fun h => by have := H5.out; omega)
 have D5 := HD2.out.kp KS (fun i x e => by subst e; exact gd_no (by have := HL.out; omega) (by have := HL.out; omega) x)
 have NB := HNB.out.kp KS (fun k hk e => by have := nb'.out k hk; omega)
 have NV := HNV.out.kp KS (fun k hk e => by have := nv'.out k hk; omega)
 have ND := HND.out.kp KS (fun k hk e => by have := nd'.out k hk; omega)
 obtain ⟨c0, c1, c2, c3, c4, c5, c6, c7, c8, c9⟩ := cells10 BF
 clear PN PK KS BZ BF KP HNB HNV HND HD2
 go_wp2_with fail
 clear c0 c1 c2 c3 c4 c5 c6 c7 c8 c9
 refine (bytes_rep _ ⟨rf, rc, ra, rn, rs, rb, rv, rm, ro, rd⟩ wl ⟨_, _, _, rfl, NB, NV, ND⟩).mono ?_
 rintro e w4 ⟨v4, rfl, R4, E4⟩
 have D4 := hidden (D5.ext E4)
 have K6 := hidden (K5.ext E4)
 have R5 := hidden R4
 clear E4 R4
 go_wp2
 go_ret
 exact ⟨_, rfl, R5.out, D4.out, K6.out⟩
set_option maxRecDepth 100000 in
set_option maxHeartbeats 4000000 in
theorem vpdu_ref1 (g gs lo hi n : Nat) (dv : Dv) (vb : Value) (b : List UInt8) (w : World) (D : DD w g gs lo hi n dv) (hv : RowF (Gd g lo hi) w vb (b.map bV)) (hbl : b.length ≤ 140737488351232) (hm : 0 ≤ dv.msgs ∧ dv.msgs ≤ 100000000000000000 ∧ 0 ≤ dv.flts ∧ dv.flts ≤ 100000000000000000) (h0 : b ≠ []) (he : readE b = 15) :
  Calls Try.prog 22 #[ptrG g, vb] w fun e w' => ∃ v', e = .returned v' ∧ Row w' v' ((layR (refD { dv with msgs := dv.msgs + 1 } (fnOf b) 1).1, (refD { dv with msgs := dv.msgs + 1 } (fnOf b) 1).2).1.map bV) ∧ DD w' g gs lo hi n (layR (refD { dv with msgs := dv.msgs + 1 } (fnOf b) 1).1, (refD { dv with msgs := dv.msgs + 1 } (fnOf b) 1).2).2 ∧ Kp (Gd g lo hi) w w' := by
 obtain ⟨av, cv, rfl, -⟩ := id hv.1
 obtain ⟨-, -, hmx, -⟩ := hv.1.at
 unfold maxLen at hmx
 simp only [List.length_map] at hv ⊢
 have HG : Hid (g < w.heap.size ∧ hi ≤ w.heap.size) := ⟨D.blk.lt, D.sto.top⟩
 have EA0 := (Below.refl w.heap.size w).alloc (Nat.le_refl _) (.cells zsP.toArray tP)
 have HB := hidden (Blk.new w tP zsP)
 have DH := hidden (D.ext EA0)
 have VH := hidden (hv.ext EA0)
 have KH := hidden (Kp.of_below (F := Gd g lo hi) EA0)
 clear D
 have HE := hidden he
 have HP := hidden (List.length_pos_iff.2 h0)
 have hp2 : (0 : Int) < (b.length : Int) := by have := HP.out; omega
 have hp3 : 0 < b.length := by have := HP.out; omega
 obtain ⟨f1, f2, f3, f4⟩ := hm
 clear he h0
 have C := hidden (read_pdu_new _ b _ (hv.1.below EA0))
 clear hv EA0
 go_enter Try.func22, Try.ntmps22
 go_wp2_with fail
 obtain ⟨b5, hb5⟩ : ∃ b, b = w.heap.size := ⟨_, rfl⟩
 rw [← hb5] at HB HG ⊢
 generalize w.alloc (.cells zsP.toArray tP) = wa at *
 have HL : Hid (g < b5 ∧ hi ≤ b5 ∧ b5 < wa.heap.size) := ⟨HG.out.1, HG.out.2, HB.out.lt⟩
 have H5 := hidden hb5
 clear HG hb5
 refine C.out.mono ?_
 rintro e w1 ⟨v1, rfl, hq, E, nq⟩
 obtain ⟨ab, capb, aq, capq, rfl, hq1, hq2⟩ := hq.slices
 obtain ⟨vb1, vv1, eq1, hr1, hr2⟩ := hq
 simp only [rqV, Value.agg.injEq, Array.mk.injEq, List.cons.injEq, and_true, true_and] at eq1
 obtain ⟨rfl, rfl⟩ := eq1
 obtain ⟨nb, nv⟩ := nq.parts
 have F1 : RowF (Gd g lo hi) w1 _ _ := ⟨hr1, fun _ => newv_off nb (by have := HL.out; omega) (by have := HL.out; omega)⟩
 have F2 : RowF (Gd g lo hi) w1 _ _ := ⟨hr2, fun _ => newv_off nv (by have := HL.out; omega) (by have := HL.out; omega)⟩
 have D1 := DH.out.ext E
 have KP := KH.out.ext E
 have B1 := HB.out.below E HB.out.lt
 have V1 := VH.out.ext E
 have EB : Below w1.heap.size w1 (w1.alloc (.cells #[.int .i64 (readQ b).fn, .int .i64 (readQ b).loc, .int .i64 (readQ b).cnt, .int .i64 (readQ b).wat, .int .i64 (readQ b).sub, .slice ab (readQ b).bits.length capb, .slice aq (readQ b).vals.length capq, wV (readQ b).land, wV (readQ b).lor] tQ)) := (Below.refl _ _).alloc (Nat.le_refl _) _
 have XB := Blk.new w1 tQ [.int .i64 (readQ b).fn, .int .i64 (readQ b).loc, .int .i64 (readQ b).cnt, .int .i64 (readQ b).wat, .int .i64 (readQ b).sub, .slice ab (readQ b).bits.length capb, .slice aq (readQ b).vals.length capq, wV (readQ b).land, wV (readQ b).lor]
 have G1 := hidden (F1.ext EB)
 have G2 := hidden (F2.ext EB)
 clear DH KH HB VH
 have DH := hidden (D1.ext EB)
 have KH := hidden (KP.ext EB)
 have HB := hidden (B1.below EB B1.lt)
 have VH := hidden (V1.ext EB)
 have XH := hidden XB
 have E1 := hidden E.size
 clear C nq nb nv hr1 hr2 F1 F2 D1 KP B1 V1 XB EB E
 rw [HE.out]
 go_upto_region 11 with fail
 have D2 := DH.out
 obtain ⟨ds, dm, df, du⟩ := dv
 simp only at f1 f2 f3 f4 D2 ⊢
 have B2 := HB.out
 have K2 := KH.out
 have V2 := VH.out
 clear DH KH HB VH G1 G2 XH
 generalize w1.alloc (.cells #[.int .i64 (readQ b).fn, .int .i64 (readQ b).loc, .int .i64 (readQ b).cnt, .int .i64 (readQ b).wat, .int .i64 (readQ b).sub, .slice ab (readQ b).bits.length capb, .slice aq (readQ b).vals.length capq, wV (readQ b).land, wV (readQ b).lor] tQ) = w2 at *
 have q1 : w2.cell? ⟨g, 1, none⟩ = some (.int .i64 dm) := D2.blk.cell 1
 have p1 := D2.blk.frozen 1
 have BD := hidden (D2.blk.set 1 (.int .i64 (dm + 1)))
 have KS := Kp.set (F := (· = g)) (Kp.refl _ w2) (p := ⟨g, 1, none⟩) (fun _ => rfl) (.int .i64 (dm + 1))
 have SS := hidden (D2.sto.kp KS (fun i h e => by subst e; exact D2.off h))
 have B3 := hidden (B2.kp KS (by have := HL.out; omega))
 have K3 := K2.set (p := ⟨g, 1, none⟩) (fun _ => .inl rfl) (.int .i64 (dm + 1))
 have R3 := (V2.kp KS (fun i _ h => by subst h; exact .inl rfl)).1
 obtain ⟨-, -, -, hcell⟩ := R3.at
 obtain ⟨bb, ob, rfl, hcl⟩ := hcell 0 0 HP.out
 have c0 := hcl 0 HP.out
 rw [Nat.add_zero] at c0
 have HF : Hid (fnOf b = ((b.getD 0 0).toNat : Int)) := rfl
 generalize b.getD 0 0 = x at *
 have hx := x.toNat_lt
 have HO := hidden D2.off
 have K3H := hidden K3
 clear hcell hcl R3 D2 B2 K2 V2 K3 KS
 go_upto_region 12 with fail
 clear q1 p1
 generalize w2.setCell ⟨g, 1, none⟩ (.int .i64 (dm + 1)) = w3 at *
 go_wp2_with fail
 clear c0
 refine (vrefuse_any g gs (dm + 1) df du x.toNat 1 w3 BD.out ⟨by omega, by omega⟩).mono ?_
 rintro e w5 ⟨rfl, BD3, KK⟩
 have S3 := SS.out.kp KK (fun i h e => by subst e; exact HO.out h)
 have BZ := B3.out.kp KK (by have := HL.out; omega)
 have KP := K3H.out.then KK (fun _ _ h => .inl h)
 have D3 : Hid (DD w5 g gs lo hi n ⟨ds, dm + 1, df + 1, du⟩) := ⟨BD3, S3, HO.out⟩
 clear BD SS K3H KK B3 S3 BD3
 obtain ⟨z0, z1, z2, z3, z4, z5, z6, z7, z8, z9⟩ := cells10 BZ
 have yz := fun i => BZ.frozen i
 go_upto_region 13 with fail
 clear z0 z1 z2 z3 z4 z5 z6 z7 z8 z9 yz
 obtain ⟨wl, hwl, BF, PN, PK⟩ := put10 BZ rfl (.int .i64 ((x.toNat : Int) % 128)) (.int .i64 1) (.int .i64 0) (.int .i64 0) (.int .i64 0) (.slice none 0 0) (.slice none 0 0) (.int .u16 0) (.int .u16 0) (.slice none 0 0)
 rw [hwl]
 clear hwl
 have KS := PK _ _ (Kp.refl (· = b5) w5) (fun _ => rfl)
 have K5 := PK _ _ KP (fun h => by have := H5.out; omega)
 have D5 := D3.out.kp KS (fun i x e => by subst e; exact gd_no (by have := HL.out; omega) (by have := HL.out; omega) x)
 obtain ⟨c0, c1, c2, c3, c4, c5, c6, c7, c8, c9⟩ := cells10 BF
 clear PN PK KS BZ BF KP D3
 go_wp2_with fail
 clear c0 c1 c2 c3 c4 c5 c6 c7 c8 c9
 refine (bytes_rep _ (refP ((x.toNat : Int) % 128) 1) wl (ref_rp' wl ((x.toNat : Int) % 128) 1)).mono ?_
 rintro e w4 ⟨v4, rfl, R4, E4⟩
 have D4 := hidden (D5.ext E4)
 have K6 := hidden (K5.ext E4)
 have R5 := hidden R4
 clear E4 R4 D5 K5
 go_wp2
 go_ret
 rw [HF.out]
 exact ⟨_, rfl, R5.out, D4.out, K6.out⟩
set_option maxRecDepth 100000 in
set_option maxHeartbeats 4000000 in
theorem vpdu_ref3 (g gs lo hi n : Nat) (dv : Dv) (vb : Value) (b : List UInt8) (w : World) (D : DD w g gs lo hi n dv) (hv : RowF (Gd g lo hi) w vb (b.map bV)) (hbl : b.length ≤ 140737488351232) (hm : 0 ≤ dv.msgs ∧ dv.msgs ≤ 100000000000000000 ∧ 0 ≤ dv.flts ∧ dv.flts ≤ 100000000000000000) (h0 : b ≠ []) (he : readE b = 12) :
  Calls Try.prog 22 #[ptrG g, vb] w fun e w' => ∃ v', e = .returned v' ∧ Row w' v' ((layR (refD { dv with msgs := dv.msgs + 1 } (fnOf b) 3).1, (refD { dv with msgs := dv.msgs + 1 } (fnOf b) 3).2).1.map bV) ∧ DD w' g gs lo hi n (layR (refD { dv with msgs := dv.msgs + 1 } (fnOf b) 3).1, (refD { dv with msgs := dv.msgs + 1 } (fnOf b) 3).2).2 ∧ Kp (Gd g lo hi) w w' := by
 obtain ⟨av, cv, rfl, -⟩ := id hv.1
 obtain ⟨-, -, hmx, -⟩ := hv.1.at
 unfold maxLen at hmx
 simp only [List.length_map] at hv ⊢
 have HG : Hid (g < w.heap.size ∧ hi ≤ w.heap.size) := ⟨D.blk.lt, D.sto.top⟩
 have EA0 := (Below.refl w.heap.size w).alloc (Nat.le_refl _) (.cells zsP.toArray tP)
 have HB := hidden (Blk.new w tP zsP)
 have DH := hidden (D.ext EA0)
 have VH := hidden (hv.ext EA0)
 have KH := hidden (Kp.of_below (F := Gd g lo hi) EA0)
 clear D
 have HE := hidden he
 have HP := hidden (List.length_pos_iff.2 h0)
 have hp2 : (0 : Int) < (b.length : Int) := by have := HP.out; omega
 have hp3 : 0 < b.length := by have := HP.out; omega
 obtain ⟨f1, f2, f3, f4⟩ := hm
 clear he h0
 have C := hidden (read_pdu_new _ b _ (hv.1.below EA0))
 clear hv EA0
 go_enter Try.func22, Try.ntmps22
 go_wp2_with fail
 obtain ⟨b5, hb5⟩ : ∃ b, b = w.heap.size := ⟨_, rfl⟩
 rw [← hb5] at HB HG ⊢
 generalize w.alloc (.cells zsP.toArray tP) = wa at *
 have HL : Hid (g < b5 ∧ hi ≤ b5 ∧ b5 < wa.heap.size) := ⟨HG.out.1, HG.out.2, HB.out.lt⟩
 have H5 := hidden hb5
 clear HG hb5
 refine C.out.mono ?_
 rintro e w1 ⟨v1, rfl, hq, E, nq⟩
 obtain ⟨ab, capb, aq, capq, rfl, hq1, hq2⟩ := hq.slices
 obtain ⟨vb1, vv1, eq1, hr1, hr2⟩ := hq
 simp only [rqV, Value.agg.injEq, Array.mk.injEq, List.cons.injEq, and_true, true_and] at eq1
 obtain ⟨rfl, rfl⟩ := eq1
 obtain ⟨nb, nv⟩ := nq.parts
 have F1 : RowF (Gd g lo hi) w1 _ _ := ⟨hr1, fun _ => newv_off nb (by have := HL.out; omega) (by have := HL.out; omega)⟩
 have F2 : RowF (Gd g lo hi) w1 _ _ := ⟨hr2, fun _ => newv_off nv (by have := HL.out; omega) (by have := HL.out; omega)⟩
 have D1 := DH.out.ext E
 have KP := KH.out.ext E
 have B1 := HB.out.below E HB.out.lt
 have V1 := VH.out.ext E
 have EB : Below w1.heap.size w1 (w1.alloc (.cells #[.int .i64 (readQ b).fn, .int .i64 (readQ b).loc, .int .i64 (readQ b).cnt, .int .i64 (readQ b).wat, .int .i64 (readQ b).sub, .slice ab (readQ b).bits.length capb, .slice aq (readQ b).vals.length capq, wV (readQ b).land, wV (readQ b).lor] tQ)) := (Below.refl _ _).alloc (Nat.le_refl _) _
 have XB := Blk.new w1 tQ [.int .i64 (readQ b).fn, .int .i64 (readQ b).loc, .int .i64 (readQ b).cnt, .int .i64 (readQ b).wat, .int .i64 (readQ b).sub, .slice ab (readQ b).bits.length capb, .slice aq (readQ b).vals.length capq, wV (readQ b).land, wV (readQ b).lor]
 have G1 := hidden (F1.ext EB)
 have G2 := hidden (F2.ext EB)
 clear DH KH HB VH
 have DH := hidden (D1.ext EB)
 have KH := hidden (KP.ext EB)
 have HB := hidden (B1.below EB B1.lt)
 have VH := hidden (V1.ext EB)
 have XH := hidden XB
 have E1 := hidden E.size
 clear C nq nb nv hr1 hr2 F1 F2 D1 KP B1 V1 XB EB E
 rw [HE.out]
 go_upto_region 4 with fail
 have D2 := DH.out
 obtain ⟨ds, dm, df, du⟩ := dv
 simp only at f1 f2 f3 f4 D2 ⊢
 have B2 := HB.out
 have K2 := KH.out
 have V2 := VH.out
 clear DH KH HB VH G1 G2 XH
 generalize w1.alloc (.cells #[.int .i64 (readQ b).fn, .int .i64 (readQ b).loc, .int .i64 (readQ b).cnt, .int .i64 (readQ b).wat, .int .i64 (readQ b).sub, .slice ab (readQ b).bits.length capb, .slice aq (readQ b).vals.length capq, wV (readQ b).land, wV (readQ b).lor] tQ) = w2 at *
 have q1 : w2.cell? ⟨g, 1, none⟩ = some (.int .i64 dm) := D2.blk.cell 1
 have p1 := D2.blk.frozen 1
 have BD := hidden (D2.blk.set 1 (.int .i64 (dm + 1)))
 have KS := Kp.set (F := (· = g)) (Kp.refl _ w2) (p := ⟨g, 1, none⟩) (fun _ => rfl) (.int .i64 (dm + 1))
 have SS := hidden (D2.sto.kp KS (fun i h e => by subst e; exact D2.off h))
 have B3 := hidden (B2.kp KS (by have := HL.out; omega))
 have K3 := K2.set (p := ⟨g, 1, none⟩) (fun _ => .inl rfl) (.int .i64 (dm + 1))
 have R3 := (V2.kp KS (fun i _ h => by subst h; exact .inl rfl)).1
 obtain ⟨-, -, -, hcell⟩ := R3.at
 obtain ⟨bb, ob, rfl, hcl⟩ := hcell 0 0 HP.out
 have c0 := hcl 0 HP.out
 rw [Nat.add_zero] at c0
 have HF : Hid (fnOf b = ((b.getD 0 0).toNat : Int)) := rfl
 generalize b.getD 0 0 = x at *
 have hx := x.toNat_lt
 have HO := hidden D2.off
 have K3H := hidden K3
 clear hcell hcl R3 D2 B2 K2 V2 K3 KS
 go_upto_region 5 with fail
 clear q1 p1
 generalize w2.setCell ⟨g, 1, none⟩ (.int .i64 (dm + 1)) = w3 at *
 go_wp2_with fail
 clear c0
 refine (vrefuse_any g gs (dm + 1) df du x.toNat 3 w3 BD.out ⟨by omega, by omega⟩).mono ?_
 rintro e w5 ⟨rfl, BD3, KK⟩
 have S3 := SS.out.kp KK (fun i h e => by subst e; exact HO.out h)
 have BZ := B3.out.kp KK (by have := HL.out; omega)
 have KP := K3H.out.then KK (fun _ _ h => .inl h)
 have D3 : Hid (DD w5 g gs lo hi n ⟨ds, dm + 1, df + 1, du⟩) := ⟨BD3, S3, HO.out⟩
 clear BD SS K3H KK B3 S3 BD3
 obtain ⟨z0, z1, z2, z3, z4, z5, z6, z7, z8, z9⟩ := cells10 BZ
 have yz := fun i => BZ.frozen i
 go_upto_region 13 with fail
 clear z0 z1 z2 z3 z4 z5 z6 z7 z8 z9 yz
 obtain ⟨wl, hwl, BF, PN, PK⟩ := put10 BZ rfl (.int .i64 ((x.toNat : Int) % 128)) (.int .i64 3) (.int .i64 0) (.int .i64 0) (.int .i64 0) (.slice none 0 0) (.slice none 0 0) (.int .u16 0) (.int .u16 0) (.slice none 0 0)
 rw [hwl]
 clear hwl
 have KS := PK _ _ (Kp.refl (· = b5) w5) (fun _ => rfl)
 have K5 := PK _ _ KP (fun h => by have := H5.out; omega)
 have D5 := D3.out.kp KS (fun i x e => by subst e; exact gd_no (by have := HL.out; omega) (by have := HL.out; omega) x)
 obtain ⟨c0, c1, c2, c3, c4, c5, c6, c7, c8, c9⟩ := cells10 BF
 clear PN PK KS BZ BF KP D3
 go_wp2_with fail
 clear c0 c1 c2 c3 c4 c5 c6 c7 c8 c9
 refine (bytes_rep _ (refP ((x.toNat : Int) % 128) 3) wl (ref_rp' wl ((x.toNat : Int) % 128) 3)).mono ?_
 rintro e w4 ⟨v4, rfl, R4, E4⟩
 have D4 := hidden (D5.ext E4)
 have K6 := hidden (K5.ext E4)
 have R5 := hidden R4
 clear E4 R4 D5 K5
 go_wp2
 go_ret
 rw [HF.out]
 exact ⟨_, rfl, R5.out, D4.out, K6.out⟩
theorem vpdu_any (g gs lo hi n : Nat) (dv : Dv) (vb : Value) (b : List UInt8) (w : World) (D : DD w g gs lo hi n dv) (hv : RowF (Gd g lo hi) w vb (b.map bV)) (hbl : b.length ≤ 140737488351232) (hm : 0 ≤ dv.msgs ∧ dv.msgs ≤ 100000000000000000 ∧ 0 ≤ dv.flts ∧ dv.flts ≤ 100000000000000000) (hu : 0 ≤ dv.unit ∧ dv.unit ≤ 255) :
  Calls Try.prog 22 #[ptrG g, vb] w fun e w' => ∃ v', e = .returned v' ∧ Row w' v' ((pduD n dv b).1.map bV) ∧ DD w' g gs lo hi n (pduD n dv b).2 ∧ Kp (Gd g lo hi) w w' := by
 by_cases h0 : b = []
 ·
  rw [show pduD n dv b = ([], dv) by simp [pduD, h0]]
  exact vpdu_nil g gs lo hi n dv vb b w D hv hbl hm h0
 ·
  rcases readE_cases b h0 with he | he | he
  ·
   rw [show pduD n dv b = (layR (doD n dv (readQ b)).1, (doD n dv (readQ b)).2) by simp [pduD, h0, he]]
   exact vpdu_do g gs lo hi n dv vb b w D hv hbl hm hu he _ rfl
  ·
   rw [show pduD n dv b = (layR (refD { dv with msgs := dv.msgs + 1 } (fnOf b) 1).1, (refD { dv with msgs := dv.msgs + 1 } (fnOf b) 1).2) by simp [pduD, h0, he]]
   exact vpdu_ref1 g gs lo hi n dv vb b w D hv hbl hm h0 he
  ·
   rw [show pduD n dv b = (layR (refD { dv with msgs := dv.msgs + 1 } (fnOf b) 3).1, (refD { dv with msgs := dv.msgs + 1 } (fnOf b) 3).2) by simp [pduD, h0, he]]
   exact vpdu_ref3 g gs lo hi n dv vb b w D hv hbl hm h0 he
end Go.Proofs.Ytdihcdphgiaepaa
