/- ReplyTells: replies are judged, written, read as the document says, for any, any bytes. The walk. -/
import Derived.Test.YtbajlhpmmmhkoaaJ50
import Derived.Test.YtbajlhpmmmhkoaaJOR
import Derived.Test.YtbajlhpmmmhkoaaJ46
import Derived.Test.YtbajlhpmmmhkoaaJ30
namespace Go.Proofs.Ytbajlhpmmmhkoaa
open Go.RowKit
theorem IsRq.set_new {w : World} {v u : Value} {q : Rq} {base g o : Nat} (h : IsRq w v q) (hn : NewQ base v) (hg : g < base) : IsRq (w.setCell ⟨g, o, none⟩ u) v q := by
 obtain ⟨vb, vv, rfl, h1, h2⟩ := h
 obtain ⟨n1, n2⟩ := hn.parts
 exact ⟨vb, vv, rfl, h1.setCell_new n1 hg, h2.setCell_new n2 hg⟩
theorem IsRp.set_new {w : World} {v u : Value} {r : Rp} {base g o : Nat} (h : IsRp w v r) (hn : NewR base v) (hg : g < base) : IsRp (w.setCell ⟨g, o, none⟩ u) v r := by
 obtain ⟨vb, vv, vd, rfl, h1, h2, h3⟩ := h
 obtain ⟨n1, n2, n3⟩ := hn.parts
 exact ⟨vb, vv, vd, rfl, h1.setCell_new n1 hg, h2.setCell_new n2 hg, h3.setCell_new n3 hg⟩
theorem FromQ.newR {base B : Nat} {qv v : Value} (h : FromQ base qv v) (hq : NewQ B qv) (hb : B ≤ base) : NewR B v := by
 obtain ⟨x0, x1, x2, x3, x4, vb, vv, x7, x8, vd, z0, z1, z2, z3, z4, qb, qw, z7, z8, rfl, rfl, h1, h2, h3⟩ := h
 obtain ⟨n1, n2⟩ := hq.parts
 refine ⟨_, _, _, _, _, _, _, _, _, _, rfl, ?_, ?_, h3.le hb⟩
 ·
  rcases h1 with h1 | rfl
  ·
   exact h1.le hb
  ·
   exact n1
 ·
  rcases h2 with h2 | rfl
  ·
   exact h2.le hb
  ·
   exact n2
theorem xor_any4 (x : UInt8) (T : Nat) (h : T < 256) : ∃ y : UInt8, bits BinOp.xor IntKind.u8 (x.toNat : Int) (T : Int) = (y.toNat : Int) := by
 have hz : x.toNat ^^^ T < 256 := Nat.xor_lt_two_pow (n := 8) x.toNat_lt h
 have hy : (UInt8.ofNat (x.toNat ^^^ T)).toNat = x.toNat ^^^ T := by rw [UInt8.toNat_ofNat']; omega
 exact ⟨UInt8.ofNat (x.toNat ^^^ T), by rw [hy, u8_xor_nat _ _ x.toNat_lt h]⟩
set_option maxRecDepth 100000 in
set_option maxHeartbeats 4000000 in
theorem rtells_walk (vt vu vr vb : Value) (x z : List Int) (r : Rp) (bs : List UInt8) (what n at' t : Int) (w : World) (hwh : -9223372036854775808 ≤ what ∧ what ≤ 9223372036854775807) (hn : -9223372036854775808 ≤ n ∧ n ≤ 9223372036854775807) (ha : -9223372036854775808 ≤ at' ∧ at' ≤ 9223372036854775807) (htt : 0 ≤ t ∧ t ≤ 255)
  (ht : Row w vt (x.map iV)) (bx : ∀ n ∈ x, -9223372036854775808 ≤ n ∧ n ≤ 9223372036854775807) (hu : Row w vu (z.map iV)) (bz : ∀ n ∈ z, -9223372036854775808 ≤ n ∧ n ≤ 9223372036854775807) (hraw : IsRp w vr r) (hb0 : Row w vb (bs.map bV)) (sb : bs.length ≤ 140737488351232) :
  Calls Try.prog 4 #[vt, vu, .int .i64 what, .int .i64 n, .int .i64 at', vr, vb, .int .u8 t] w fun e w' => e = .returned (.bool true) ∧ Below w.heap.size w w' := by
 obtain ⟨ta, tc, rfl, -⟩ := id ht
 obtain ⟨ua, uc, rfl, -⟩ := id hu
 obtain ⟨ba, bc, rfl, -⟩ := id hb0
 obtain ⟨rb, rbc, rv, rvc, rd, rdc, rfl, -, -, -⟩ := hraw.slices
 simp only [List.length_map] at ht hu hb0 ⊢
 obtain ⟨T, rfl⟩ : ∃ T : Nat, t = (T : Int) := ⟨t.toNat, by omega⟩
 have hT : T < 256 := by omega
 have HRQ := hidden req_ok
 have XR := Blk.new w 35 [.int .i64 r.fn, .int .i64 r.code, .int .i64 r.loc, .int .i64 r.cnt, .int .i64 r.sub, .slice rb r.bits.length rbc, .slice rv r.vals.length rvc, .int .u16 r.land.toNat, .int .u16 r.lor.toNat, .slice rd r.data.length rdc]
 have B1 := (Below.refl w.heap.size w).alloc (Nat.le_refl _) (.cells #[.int .i64 r.fn, .int .i64 r.code, .int .i64 r.loc, .int .i64 r.cnt, .int .i64 r.sub, .slice rb r.bits.length rbc, .slice rv r.vals.length rvc, .int .u16 r.land.toNat, .int .u16 r.lor.toNat, .slice rd r.data.length rdc] 35)
 obtain ⟨w1, hw1⟩ : ∃ w1, w.alloc (.cells #[.int .i64 r.fn, .int .i64 r.code, .int .i64 r.loc, .int .i64 r.cnt, .int .i64 r.sub, .slice rb r.bits.length rbc, .slice rv r.vals.length rvc, .int .u16 r.land.toNat, .int .u16 r.lor.toNat, .slice rd r.data.length rdc] 35) = w1 := ⟨_, rfl⟩
 have hs1 : w1.heap.size = w.heap.size + 1 := by rw [← hw1]; simp
 have hw1' : w.alloc (.cells #[.int .i64 r.fn, .int .i64 r.code, .int .i64 r.loc, .int .i64 r.cnt, .int .i64 r.sub, .slice rb r.bits.length rbc, .slice rv r.vals.length rvc, wV r.land, wV r.lor, .slice rd r.data.length rdc] 35) = w1 := hw1
 rw [hw1] at XR B1
 have lR : w.heap.size < w1.heap.size := by omega
 have T1 := tap_new w1 ta x.length tc x (ht.below B1) bx
 have HU := hidden (hu.below B1)
 have HRW := hidden (hraw.below B1)
 have HB := hidden (hb0.below B1)
 have BZ := hidden bz
 have SB := hidden sb
 have hraw0 := hraw
 have hb00 := hb0
 clear hw1 hs1 ht hb0 bx hraw hu bz sb
 go_enter Try.func4, Try.ntmps4
 go_wp2_with fail
 clear hw1'
 refine (HRQ.out _ _ x _ T1 (by simp)).mono ?_
 rintro e w2 ⟨v2, rfl, q, q2, rq, -, ⟨-, hcn⟩, nQ, D2⟩
 replace nQ := hidden (show NewQ (w.heap.size + 1) v2 by obtain ⟨x0, x1, x2, x3, x4, vb, vv, x7, x8, e, n1, n2⟩ := nQ; exact ⟨x0, x1, x2, x3, x4, vb, vv, x7, x8, e, n1.le (by omega), n2.le (by omega)⟩)
 have E2 : Below w1.heap.size w1 w2 := (((Below.refl w1.heap.size w1).alloc (Nat.le_refl _) (.cells #[.slice ta x.length tc, .int .i64 0] 31))).trans (D2.below (by omega) (Nat.le_refl _))
 clear D2 T1 lR HRQ
 replace B1 := below_then B1 E2
 replace XR := XR.below E2 XR.lt
 replace HU := hidden (HU.out.below E2)
 replace HRW := hidden (HRW.out.below E2)
 replace HB := hidden (HB.out.below E2)
 clear E2
 have hqc : 0 ≤ q.cnt := by have := (right_parts rq).2.2.1.2.2.2; simp [numB] at this; omega
 have hqf : 0 ≤ q.fn ∧ q.fn ≤ 127 := by have := known_cases (right_parts rq).1; omega
 have RQ := hidden rq
 have CN := hidden hcn
 clear rq
 obtain ⟨qb, qcb, qv, qcv, rfl, -, -⟩ := q2.slices
 have hgQ := XR.lt
 have XQ := Blk.new w2 26 [.int .i64 q.fn, .int .i64 q.loc, .int .i64 q.cnt, .int .i64 q.wat, .int .i64 q.sub, .slice qb q.bits.length qcb, .slice qv q.vals.length qcv, .int .u16 q.land.toNat, .int .u16 q.lor.toNat]
 have E3 := (Below.refl w2.heap.size w2).alloc (Nat.le_refl _) (.cells #[.int .i64 q.fn, .int .i64 q.loc, .int .i64 q.cnt, .int .i64 q.wat, .int .i64 q.sub, .slice qb q.bits.length qcb, .slice qv q.vals.length qcv, .int .u16 q.land.toNat, .int .u16 q.lor.toNat] 26)
 replace B1 := below_then B1 E3
 replace XR := XR.below E3 XR.lt
 replace HU := hidden (HU.out.below E3)
 replace HRW := hidden (HRW.out.below E3)
 replace HB := hidden (HB.out.below E3)
 replace q2 := q2.below E3
 clear E3
 have lQ := XQ.lt
 go_wp2_with fail
 refine (made_any _ _ z q _ HU.out BZ.out q2 RQ.out CN.out).mono ?_
 rintro e w3 ⟨v3, rfl, m, im, -, -, -, E4, FM⟩
 have nM := hidden (FM.newR nQ.out (by rw [World.size_alloc]; omega))
 clear lQ FM
 replace B1 := below_then B1 E4
 replace XR := XR.below E4 XR.lt
 replace HRW := hidden (HRW.out.below E4)
 replace HB := hidden (HB.out.below E4)
 replace q2 := q2.below E4
 replace XQ := XQ.below E4 XQ.lt
 clear E4
 clear HU BZ
 obtain ⟨mb, mbc, mv, mvc, md, mdc, rfl, -, -, -⟩ := im.slices
 have hgM := XR.lt
 have XM := Blk.new w3 35 [.int .i64 m.fn, .int .i64 m.code, .int .i64 m.loc, .int .i64 m.cnt, .int .i64 m.sub, .slice mb m.bits.length mbc, .slice mv m.vals.length mvc, .int .u16 m.land.toNat, .int .u16 m.lor.toNat, .slice md m.data.length mdc]
 have E5 := (Below.refl w3.heap.size w3).alloc (Nat.le_refl _) (.cells #[.int .i64 m.fn, .int .i64 m.code, .int .i64 m.loc, .int .i64 m.cnt, .int .i64 m.sub, .slice mb m.bits.length mbc, .slice mv m.vals.length mvc, .int .u16 m.land.toNat, .int .u16 m.lor.toNat, .slice md m.data.length mdc] 35)
 replace B1 := below_then B1 E5
 replace XR := XR.below E5 XR.lt
 replace HRW := hidden (HRW.out.below E5)
 replace HB := hidden (HB.out.below E5)
 replace q2 := q2.below E5
 replace XQ := XQ.below E5 XQ.lt
 replace im := im.below E5
 clear E5
 generalize w2.heap.size = gQ at *
 go_wp2_with fail
 refine (rlay_ref _ m _ im).mono ?_
 rintro e w4 ⟨v4, rfl, o4, E6⟩
 replace B1 := below_then B1 E6
 replace XR := XR.below E6 XR.lt
 replace HRW := hidden (HRW.out.below E6)
 replace HB := hidden (HB.out.below E6)
 replace q2 := q2.below E6
 replace XQ := XQ.below E6 XQ.lt
 replace im := im.below E6
 replace XM := XM.below E6 XM.lt
 clear E6
 have LX := layR_short m
 generalize layR m = X at *
 generalize goodE m = eM at *
 have RX := Row.of_owns o4
 have nX := (NewV.of_owns o4).le (base' := w.heap.size + 1) (by rw [World.size_alloc]; omega)
 clear o4
 generalize w3.heap.size = gM at *
 obtain ⟨xa, xc, rfl, -⟩ := id RX
 simp only [List.length_map] at RX nX ⊢
 have ho0 := World.ownsRow_made (base := w4.heap.size) (e := 5) (size := 1) w4 #[] 0 (Nat.le_refl _) (Nat.zero_le _) (by simp)
 have hb0 : Below w4.heap.size w4 (w4.alloc (.cells #[] 5)) := (Below.refl _ _).alloc (Nat.le_refl _) _
 have hv0 := RX.below hb0
 go_wp2_with (at_builtin; refine wpList_app rfl (.tmp 36) (.tmp 37) 33 rfl w4.heap.size 5 (.int .u8 0) 1 Try.underlying33 info_u8 rfl rfl ho0 rfl hv0 (one_bytes X) (by simp [maxLen]; omega) (by simp; omega) (by simp) ?_)
 intro v5 w5 ho5 hg5
 have E7 : Below w4.heap.size w4 w5 := hb0.grown hg5 (by simp) (fun k hk => (ho0.lt k hk).1)
 clear hb0 hv0 hg5 ho0
 try simp only [List.length_map, List.nil_append, Nat.zero_add] at ho5
 have sz5 := E7.size
 have hb1 : Below w4.heap.size w5 (w5.alloc (.cells #[.int .u8 0] 5)) := (Below.refl _ _).alloc sz5 _
 have RN := row_new w5 [.int .u8 0] 5 1 rfl (by decide)
 have hoA := ho5.alloc (.cells #[.int .u8 0] 5)
 go_wp2_with (at_builtin; refine wpList_app rfl (.tmp 38) (.tmp 39) 33 rfl w4.heap.size 5 (.int .u8 0) 1 Try.underlying33 info_u8 rfl rfl hoA rfl RN (by intro u hu; simp at hu; subst hu; rfl) (by simp [maxLen]; omega) (by simp; omega) (by simp; omega) ?_)
 intro v6 w6 ho6 hg6
 have E8 : Below w4.heap.size w5 w6 := hb1.grown hg6 (by simp; omega) (fun k hk => (hoA.lt k hk).1)
 have E9 := E7.trans E8
 clear hb1 hg6 hoA RN ho5 E7 E8 sz5
 obtain ⟨N, hN⟩ : ∃ N, X.length = N := ⟨_, rfl⟩
 have HN := hidden hN
 rw [hN] at LX
 clear hN
 simp only [HN.out] at ho6 RX nX ⊢
 obtain ⟨g, cap6, rfl, hgb⟩ := owns_some ho6 (by omega)
 replace ho6 : w6.ownsRow w4.heap.size 5 1 (.slice (some ⟨g, 0, none⟩) (N + 1) cap6) (N + 1) ((X ++ [0]).map bV) := by rw [List.map_append]; exact ho6
 have hYl : (X ++ [(0 : UInt8)]).length = N + 1 := by simp [HN.out]
 have HY := hidden hYl
 clear hYl
 generalize X ++ [(0 : UInt8)] = Ys at *
 go_wp2_with fail
 refine (within_any at' 0 (N : Int) _ ha (by omega) (by omega) (by omega)).mono ?_
 rintro e wx ⟨⟨mk, rfl, hm0, hm2⟩, rfl⟩
 obtain ⟨k, rfl⟩ : ∃ k : Nat, mk = (k : Int) := ⟨mk.toNat, by omega⟩
 have hk : k < N + 1 := by omega
 have hkX : k < Ys.length := by rw [HY.out]; exact hk
 have c0 : w6.cell? ⟨g, k, none⟩ = some (bV (Ys.getD k 0)) := by rw [ho6.cellAt _ (by omega)]; simp [hkX]
 have f0 := ho6.frozenAt k
 generalize Ys.getD k 0 = zz at *
 obtain ⟨y, hy⟩ := xor_any4 zz T hT
 have HYX := hidden hy
 have hki : (k : Int) < (N : Int) + 1 := by omega
 have hki2 : k ≤ N := by omega
 have st := ho6.stored k (.int .u8 (y.toNat : Int))
 rw [← List.map_set (f := bV) (a := y)] at st
 have E10 := E9.grown st.2 E9.size (fun k hk => by cases hk; exact hgb)
 have R9 := Row.of_owns st.1
 have n9 := (NewV.of_owns st.1).le (base' := w.heap.size + 1) (by have := XR.lt; omega)
 have hZ : (Ys.set k y).length ≤ 1001 := by simp [HY.out]; omega
 have hZ2 : (Ys.set k y).length = N + 1 := by simp [HY.out]
 have HZ2 := hidden hZ2
 clear hZ2
 generalize Ys.set k y = Z at *
 obtain ⟨w7, hw7⟩ : ∃ w7, w6.setCell ⟨g, k, none⟩ (.int .u8 (y.toNat : Int)) = w7 := ⟨_, rfl⟩
 rw [hw7] at R9 E10
 have hw7' : w6.setCell ⟨g, k, none⟩ (.int .u8 (bits BinOp.xor IntKind.u8 (zz.toNat : Int) (T : Int))) = w7 := by rw [HYX.out]; exact hw7
 clear st ho6 hw7 HYX hy hkX E9 hgb
 replace B1 := below_then B1 E10
 replace XR := XR.below E10 XR.lt
 replace HRW := hidden (HRW.out.below E10)
 replace HB := hidden (HB.out.below E10)
 replace q2 := q2.below E10
 replace XQ := XQ.below E10 XQ.lt
 replace im := im.below E10
 replace XM := XM.below E10 XM.lt
 replace RX := RX.below E10
 clear E10
 clear HRW HB
 go_wp2
 clear c0 f0 hw7' hki
 have RTk := R9.take k (by omega)
 rw [← List.map_take] at RTk
 have hcap : k ≤ cap6 := by obtain ⟨-, h1, -⟩ := R9.at; omega
 have hBT : (Z.take k).length ≤ 1001 := by simp; omega
 have nT : NewV (w.heap.size + 1) (.slice (some ⟨g, 0, none⟩) k cap6) := fun a n c e => by cases e; exact n9 _ _ _ rfl
 generalize Z.take k = BT at *
 obtain ⟨vb', vv', vd', hE', rb1, rv1, rd1⟩ := id hraw0
 simp only [rpV, Value.agg.injEq, Array.mk.injEq, List.cons.injEq, and_true, true_and] at hE'
 obtain ⟨rfl, rfl, rfl⟩ := hE'
 obtain ⟨-, kb1, kb2, -⟩ := rb1.at
 obtain ⟨-, kv1, kv2, -⟩ := rv1.at
 obtain ⟨-, kd1, kd2, -⟩ := rd1.at
 obtain ⟨nb, hnb⟩ : ∃ nb, min r.bits.length 30 = nb := ⟨_, rfl⟩
 obtain ⟨nv, hnv⟩ : ∃ nv, min r.vals.length 30 = nv := ⟨_, rfl⟩
 obtain ⟨nd, hnd⟩ : ∃ nd, min r.data.length 30 = nd := ⟨_, rfl⟩
 have hm1 : (if (30 : Int) < (r.bits.length : Int) then (30 : Int) else (r.bits.length : Int)) = (nb : Int) := by split <;> omega
 have hm2' : (if (30 : Int) < (r.vals.length : Int) then (30 : Int) else (r.vals.length : Int)) = (nv : Int) := by split <;> omega
 have hm3 : (if (30 : Int) < (r.data.length : Int) then (30 : Int) else (r.data.length : Int)) = (nd : Int) := by split <;> omega
 have tb := rb1.take nb (by omega)
 have tv := rv1.take nv (by omega)
 have td := rd1.take nd (by omega)
 rw [← List.map_take] at tb tv td
 have hnb2 : nb ≤ rbc := by omega
 have hnv2 : nv ≤ rvc := by omega
 have hnd2 : nd ≤ rdc := by omega
 have HT := hidden (And.intro tb (And.intro tv td))
 have EBL := hidden (show (r.bits.take nb).length = nb by simp; omega)
 have EVL := hidden (show (r.vals.take nv).length = nv by simp; omega)
 have EDL := hidden (show (r.data.take nd).length = nd by simp; omega)
 clear hnb hnv hnd rb1 rv1 rd1 kb1 kv1 kd1 kb2 kv2 kd2 tb tv td
 refine c_begin 27 rfl (by kernel_rfl) ?_
 have ED := (Below.refl w7.heap.size w7).drew
 replace B1 := below_then B1 ED
 replace XR := XR.below ED XR.lt
 replace q2 := q2.below ED
 replace XQ := XQ.below ED XQ.lt
 replace im := im.below ED
 replace XM := XM.below ED XM.lt
 replace RX := RX.below ED
 replace R9 := R9.below ED
 replace RTk := RTk.below ED
 clear ED
 generalize w7.drew = w8 at *
 obtain ⟨R, hR⟩ : ∃ R : World → Prop, (fun w' : World => Blk w' w.heap.size 35 [.int .i64 r.fn, .int .i64 r.code, .int .i64 r.loc, .int .i64 r.cnt, .int .i64 r.sub, .slice rb r.bits.length rbc, .slice rv r.vals.length rvc, .int .u16 r.land.toNat, .int .u16 r.lor.toNat, .slice rd r.data.length rdc]) = R := ⟨_, rfl⟩
 have r0 : R w8 := by rw [← hR]; exact XR
 have RD := hidden (fun w' (h : R w') => (show w'.cell? ⟨w.heap.size, 5, none⟩ = some (.slice rb r.bits.length rbc) ∧ w'.cell? ⟨w.heap.size, 6, none⟩ = some (.slice rv r.vals.length rvc) ∧ w'.cell? ⟨w.heap.size, 9, none⟩ = some (.slice rd r.data.length rdc) by
  rw [← hR] at h
  exact ⟨h.cell 5, h.cell 6, h.cell 9⟩))
 clear hR
 refine c_P trivial 0 rfl ?_
 refine c_R R r0 trivial 1 rfl (fun w' hx => by obtain ⟨y5, y6, y9⟩ := RD.out w' hx; go_simp; with_reducible rfl) ?_
 refine c_P ⟨r0, trivial⟩ 2 rfl ?_
 refine c_R R r0 ⟨r0, trivial⟩ 3 rfl (fun w' hx => by obtain ⟨y5, y6, y9⟩ := RD.out w' hx; go_simp; with_reducible rfl) ?_
 refine c_P ⟨r0, r0, trivial⟩ 4 rfl ?_
 refine c_P ⟨r0, r0, trivial⟩ 5 rfl ?_
 refine c_P ⟨r0, r0, trivial⟩ 6 rfl ?_
 refine c_P ⟨r0, r0, trivial⟩ 7 rfl ?_
 refine c_R R r0 ⟨r0, r0, trivial⟩ 8 rfl (fun w' hx => by obtain ⟨y5, y6, y9⟩ := RD.out w' hx; go_simp; with_reducible rfl) ?_
 refine c_P ⟨r0, r0, r0, trivial⟩ 9 rfl ?_
 refine c_R R r0 ⟨r0, r0, r0, trivial⟩ 10 rfl (fun w' hx => by obtain ⟨y5, y6, y9⟩ := RD.out w' hx; go_simp; with_reducible rfl) ?_
 refine c_P ⟨r0, r0, r0, r0, trivial⟩ 11 rfl ?_
 refine c_P ⟨r0, r0, r0, r0, trivial⟩ 12 rfl ?_
 refine c_P ⟨r0, r0, r0, r0, trivial⟩ 13 rfl ?_
 refine c_P ⟨r0, r0, r0, r0, trivial⟩ 14 rfl ?_
 refine c_R R r0 ⟨r0, r0, r0, r0, trivial⟩ 15 rfl (fun w' hx => by obtain ⟨y5, y6, y9⟩ := RD.out w' hx; go_simp; with_reducible rfl) ?_
 refine c_P ⟨r0, r0, r0, r0, r0, trivial⟩ 16 rfl ?_
 refine c_R R r0 ⟨r0, r0, r0, r0, r0, trivial⟩ 17 rfl (fun w' hx => by obtain ⟨y5, y6, y9⟩ := RD.out w' hx; go_simp; with_reducible rfl) ?_
 refine c_P ⟨r0, r0, r0, r0, r0, r0, trivial⟩ 18 rfl ?_
 refine c_P ⟨r0, r0, r0, r0, r0, r0, trivial⟩ 19 rfl ?_
 refine c_P ⟨r0, r0, r0, r0, r0, r0, trivial⟩ 20 rfl ?_
 refine c_P ⟨r0, r0, r0, r0, r0, r0, trivial⟩ 21 rfl ?_
 have s5 : w8.cell? ⟨w.heap.size, 5, none⟩ = some (.slice rb r.bits.length rbc) := XR.cell 5
 have f5 := XR.frozen
 have l5 := XR.lt
 refine c_move 22 (by kernel_rfl) (c_op 22 [] (by kernel_rfl) rfl (by kernel_rfl) (fun K hK => ?_))
 go_simp
 clear s5 f5 l5
 replace B1 := B1.setCell (p := ⟨w.heap.size, 5, none⟩) (Nat.le_refl _) (.slice rb nb rbc)
 replace XQ := XQ.set_ne (g := w.heap.size) (by omega) 5 (.slice rb nb rbc)
 replace XM := XM.set_ne (g := w.heap.size) (by omega) 5 (.slice rb nb rbc)
 replace q2 := q2.set_new nQ.out (o := 5) (u := .slice rb nb rbc) (Nat.lt_succ_self w.heap.size)
 replace im := im.set_new nM.out (o := 5) (u := .slice rb nb rbc) (Nat.lt_succ_self w.heap.size)
 replace RX := RX.setCell_new (o := 5) (u := .slice rb nb rbc) nX (Nat.lt_succ_self w.heap.size)
 replace R9 := R9.setCell_new (o := 5) (u := .slice rb nb rbc) n9 (Nat.lt_succ_self w.heap.size)
 replace RTk := RTk.setCell_new (o := 5) (u := .slice rb nb rbc) nT (Nat.lt_succ_self w.heap.size)
 replace XR := XR.set 5 (.slice rb nb rbc)
 simp only [List.set_cons_zero, List.set_cons_succ] at XR
 refine hK.out _ _ trivial ?_
 clear K hK
 try simp only [Act.put, PuA, PuB, PuC]
 generalize w8.setCell ⟨w.heap.size, 5, none⟩ (.slice rb nb rbc) = w9 at *
 refine c_P trivial 23 rfl ?_
 have s5 : w9.cell? ⟨w.heap.size, 6, none⟩ = some (.slice rv r.vals.length rvc) := XR.cell 6
 have f5 := XR.frozen
 have l5 := XR.lt
 refine c_move 24 (by kernel_rfl) (c_op 24 [] (by kernel_rfl) rfl (by kernel_rfl) (fun K hK => ?_))
 go_simp
 clear s5 f5 l5
 replace B1 := B1.setCell (p := ⟨w.heap.size, 6, none⟩) (Nat.le_refl _) (.slice rv nv rvc)
 replace XQ := XQ.set_ne (g := w.heap.size) (by omega) 6 (.slice rv nv rvc)
 replace XM := XM.set_ne (g := w.heap.size) (by omega) 6 (.slice rv nv rvc)
 replace q2 := q2.set_new nQ.out (o := 6) (u := .slice rv nv rvc) (Nat.lt_succ_self w.heap.size)
 replace im := im.set_new nM.out (o := 6) (u := .slice rv nv rvc) (Nat.lt_succ_self w.heap.size)
 replace RX := RX.setCell_new (o := 6) (u := .slice rv nv rvc) nX (Nat.lt_succ_self w.heap.size)
 replace R9 := R9.setCell_new (o := 6) (u := .slice rv nv rvc) n9 (Nat.lt_succ_self w.heap.size)
 replace RTk := RTk.setCell_new (o := 6) (u := .slice rv nv rvc) nT (Nat.lt_succ_self w.heap.size)
 replace XR := XR.set 6 (.slice rv nv rvc)
 simp only [List.set_cons_zero, List.set_cons_succ] at XR
 refine hK.out _ _ trivial ?_
 clear K hK
 try simp only [Act.put, PuA, PuB, PuC]
 generalize w9.setCell ⟨w.heap.size, 6, none⟩ (.slice rv nv rvc) = w10 at *
 refine c_P trivial 25 rfl ?_
 have s5 : w10.cell? ⟨w.heap.size, 9, none⟩ = some (.slice rd r.data.length rdc) := XR.cell 9
 have f5 := XR.frozen
 have l5 := XR.lt
 refine c_move 26 (by kernel_rfl) (c_op 26 [] (by kernel_rfl) rfl (by kernel_rfl) (fun K hK => ?_))
 go_simp
 clear s5 f5 l5
 replace B1 := B1.setCell (p := ⟨w.heap.size, 9, none⟩) (Nat.le_refl _) (.slice rd nd rdc)
 replace XQ := XQ.set_ne (g := w.heap.size) (by omega) 9 (.slice rd nd rdc)
 replace XM := XM.set_ne (g := w.heap.size) (by omega) 9 (.slice rd nd rdc)
 replace q2 := q2.set_new nQ.out (o := 9) (u := .slice rd nd rdc) (Nat.lt_succ_self w.heap.size)
 replace im := im.set_new nM.out (o := 9) (u := .slice rd nd rdc) (Nat.lt_succ_self w.heap.size)
 replace RX := RX.setCell_new (o := 9) (u := .slice rd nd rdc) nX (Nat.lt_succ_self w.heap.size)
 replace R9 := R9.setCell_new (o := 9) (u := .slice rd nd rdc) n9 (Nat.lt_succ_self w.heap.size)
 replace RTk := RTk.setCell_new (o := 9) (u := .slice rd nd rdc) nT (Nat.lt_succ_self w.heap.size)
 replace XR := XR.set 9 (.slice rd nd rdc)
 simp only [List.set_cons_zero, List.set_cons_succ] at XR
 refine hK.out _ _ trivial ?_
 clear K hK
 try simp only [Act.put, PuA, PuB, PuC]
 generalize w10.setCell ⟨w.heap.size, 9, none⟩ (.slice rd nd rdc) = w11 at *
 refine c_done (by kernel_rfl) ?_
 clear hm1 hm2' hm3 hnb2 hnv2 hnd2 RD r0
 have ir : IsRp w11 (rpV r.fn r.code r.loc r.cnt r.sub (.slice rb nb rbc) (.slice rv nv rvc) r.land r.lor (.slice rd nd rdc)) ⟨r.fn, r.code, r.loc, r.cnt, r.sub, r.bits.take nb, r.vals.take nv, r.land, r.lor, r.data.take nd⟩ := ⟨_, _, _, rfl, HT.out.1.below B1, HT.out.2.1.below B1, HT.out.2.2.below B1⟩
 have RB := hb00.below B1
 clear HT EBL EVL EDL
 have XP := Blk.new w11 26 [.int .i64 at', .int .i64 q.loc, .int .i64 n, .int .i64 q.wat, .int .i64 q.sub, .slice qb q.bits.length qcb, .slice qv q.vals.length qcv, .int .u16 q.land.toNat, .int .u16 q.lor.toNat]
 have EP := (Below.refl w11.heap.size w11).alloc (Nat.le_refl _) (.cells #[.int .i64 at', .int .i64 q.loc, .int .i64 n, .int .i64 q.wat, .int .i64 q.sub, .slice qb q.bits.length qcb, .slice qv q.vals.length qcv, .int .u16 q.land.toNat, .int .u16 q.lor.toNat] 26)
 have HX := hidden (⟨below_then B1 EP, XR.below EP XR.lt, XQ.below EP XQ.lt, XM.below EP XM.lt, XP, q2.below EP, im.below EP, RX.below EP, R9.below EP, RTk.below EP, ir.below EP, RB.below EP⟩ : _ ∧ _ ∧ _ ∧ _ ∧ _ ∧ _ ∧ _ ∧ _ ∧ _ ∧ _ ∧ _ ∧ _)
 have d0 := XQ.cell 0
 have d1 := XQ.cell 1
 have d2 := XQ.cell 2
 have d3 := XQ.cell 3
 have d4 := XQ.cell 4
 have d5 := XQ.cell 5
 have d6 := XQ.cell 6
 have d7 := XQ.cell 7
 have d8 := XQ.cell 8
 simp at d0 d1 d2 d3 d4 d5 d6 d7 d8
 have df := XQ.frozen
 have dl := XQ.lt
 clear XR XQ XM XP q2 im RX R9 RTk ir RB EP B1
 go_wp2
 clear d0 d1 d2 d3 d4 d5 d6 d7 d8 df dl
 obtain ⟨B1, XR, XQ, XM, XP, q2, im, RX, R9, RTk, ir, RB⟩ := HX.out
 clear HX
 obtain ⟨w12, hw12⟩ : ∃ w12, w11.alloc (.cells #[.int .i64 at', .int .i64 q.loc, .int .i64 n, .int .i64 q.wat, .int .i64 q.sub, .slice qb q.bits.length qcb, .slice qv q.vals.length qcv, .int .u16 q.land.toNat, .int .u16 q.lor.toNat] 26) = w12 := ⟨_, rfl⟩
 rw [hw12] at B1 XR XQ XM XP q2 im RX R9 RTk ir RB
 have hw12' : w11.alloc (.cells #[.int .i64 at', .int .i64 q.loc, .int .i64 n, .int .i64 q.wat, .int .i64 q.sub, .slice qb q.bits.length qcb, .slice qv q.vals.length qcv, wV q.land, wV q.lor] 26) = w12 := hw12
 first | rw [hw12] | rw [hw12']
 clear hw12 hw12'
 generalize w11.heap.size = gP at *
 refine wp_region_pi [(0, true), (1, false), (2, true), (3, true), (4, true), (5, true), (6, false), (7, false), (8, true), (9, true), (10, true), (11, true), (12, true), (13, true), (14, false), (15, false), (16, true), (17, true), (18, true), (19, false), (20, true), (21, true), (22, true), (23, true), (24, false), (25, true), (26, true), (27, true), (28, true), (29, false), (30, true), (31, true), (32, true), (33, true), (34, true), (35, true), (36, false), (37, true), (38, true), (39, true), (40, true), (41, false), (42, true), (43, true), (44, true), (45, true), (46, false), (47, true), (48, true), (49, true), (50, true), (52, true), (53, true), (51, false), (54, false), (55, false), (56, true), (57, true), (58, false), (59, true), (60, true)] (by kernel_rfl) (by kernel_rfl) (by kernel_rfl) (fun _ _ _ d _ h => by cases d <;> exact h) ?_
 have ED := (Below.refl w12.heap.size w12).drew
 replace B1 := below_then B1 ED
 replace XR := XR.below ED XR.lt
 replace XQ := XQ.below ED XQ.lt
 replace XM := XM.below ED XM.lt
 replace XP := XP.below ED XP.lt
 replace q2 := q2.below ED
 replace im := im.below ED
 replace RX := RX.below ED
 replace R9 := R9.below ED
 replace RTk := RTk.below ED
 replace ir := ir.below ED
 replace RB := RB.below ED
 clear ED
 generalize w12.drew = c0 at *
 have RDM := hidden (fun w' (hx : Ext c0 w') => (⟨(XM.below hx XM.lt).cell 0, (XM.below hx XM.lt).cell 1, (XM.below hx XM.lt).cell 2, (XM.below hx XM.lt).cell 3, (XM.below hx XM.lt).cell 4, (XM.below hx XM.lt).cell 5, (XM.below hx XM.lt).cell 6, (XM.below hx XM.lt).cell 7, (XM.below hx XM.lt).cell 8, (XM.below hx XM.lt).cell 9⟩ : _ ∧ _ ∧ _ ∧ _ ∧ _ ∧ _ ∧ _ ∧ _ ∧ _ ∧ _))
 simp at RDM
 have RDR := hidden (fun w' (hx : Ext c0 w') => (⟨(XR.below hx XR.lt).cell 0, (XR.below hx XR.lt).cell 1, (XR.below hx XR.lt).cell 2, (XR.below hx XR.lt).cell 3, (XR.below hx XR.lt).cell 4, (XR.below hx XR.lt).cell 5, (XR.below hx XR.lt).cell 6, (XR.below hx XR.lt).cell 7, (XR.below hx XR.lt).cell 8, (XR.below hx XR.lt).cell 9⟩ : _ ∧ _ ∧ _ ∧ _ ∧ _ ∧ _ ∧ _ ∧ _ ∧ _ ∧ _))
 simp at RDR
 have RDQ := hidden (fun w' (hx : Ext c0 w') => (⟨(XQ.below hx XQ.lt).cell 0, (XQ.below hx XQ.lt).cell 1, (XQ.below hx XQ.lt).cell 2, (XQ.below hx XQ.lt).cell 3, (XQ.below hx XQ.lt).cell 4, (XQ.below hx XQ.lt).cell 5, (XQ.below hx XQ.lt).cell 6, (XQ.below hx XQ.lt).cell 7, (XQ.below hx XQ.lt).cell 8⟩ : _ ∧ _ ∧ _ ∧ _ ∧ _ ∧ _ ∧ _ ∧ _ ∧ _))
 simp at RDQ
 have RDP := hidden (fun w' (hx : Ext c0 w') => (⟨(XP.below hx XP.lt).cell 0, (XP.below hx XP.lt).cell 1, (XP.below hx XP.lt).cell 2, (XP.below hx XP.lt).cell 3, (XP.below hx XP.lt).cell 4, (XP.below hx XP.lt).cell 5, (XP.below hx XP.lt).cell 6, (XP.below hx XP.lt).cell 7, (XP.below hx XP.lt).cell 8⟩ : _ ∧ _ ∧ _ ∧ _ ∧ _ ∧ _ ∧ _ ∧ _ ∧ _))
 simp at RDP
 have qp : IsRq c0 (rqV at' q.loc n q.wat q.sub (.slice qb q.bits.length qcb) (.slice qv q.vals.length qcv) q.land q.lor) ⟨at', q.loc, n, q.wat, q.sub, q.bits, q.vals, q.land, q.lor⟩ := by
  obtain ⟨vb, vv, hE, h1, h2⟩ := id q2
  simp only [rqV, Value.agg.injEq, Array.mk.injEq, List.cons.injEq, and_true, true_and] at hE
  obtain ⟨rfl, rfl⟩ := hE
  exact ⟨_, _, rfl, h1, h2⟩
 have t255 := and255 n
 have CNQ := CN.out
 have SBQ := SB.out
 have hXl : X.length ≤ 1000 := by rw [HN.out]; exact LX
 have x0 := Ext.refl c0
 clear XM XR XQ XP
 refine pi_R x0 rfl (fun w' hx => by obtain ⟨y0, y1, y2, y3, y4, y5, y6, y7, y8, y9⟩ := RDM.out w' hx; go_simp; with_reducible rfl) ?_
 have z0 := Ext.refl c0
 refine pi_move rfl (by kernel_rfl) (fun K hK => ?_)
 go_wp2_with fail
 refine (same_law4 _ m _ im).mono ?_
 rintro e c1 ⟨rfl, F1⟩
 go_simp
 have M1 := Ext.trans z0 F1
 refine hK.out _ _ M1 ?_
 clear K hK
 try simp only [Act.put, PuA, PuB, PuC]
 have T1 := F1
 refine pi_P M1 rfl ?_
 refine pi_R M1 rfl (fun w' hx => by obtain ⟨y0, y1, y2, y3, y4, y5, y6, y7, y8, y9⟩ := RDM.out w' (Ext.trans T1 hx); go_simp; with_reducible rfl) ?_
 have z1 := Ext.refl c1
 iterate 2 (refine pi_P z1 rfl ?_)
 refine pi_move rfl (by kernel_rfl) (fun K hK => ?_)
 go_wp2_with fail
 refine (odd_law4 _ m what n _ (im.below T1) hwh).mono ?_
 rintro e c2 ⟨vo1, rfl, ⟨mo1, io1⟩, F2⟩
 go_simp
 have M2 := Ext.trans z1 F2
 refine hK.out _ _ M2 ?_
 clear K hK
 try simp only [Act.put, PuA, PuB, PuC]
 have T2 := Ext.trans T1 F2
 refine pi_move rfl (by kernel_rfl) (fun K hK => ?_)
 go_wp2_with fail
 refine (same_law4 _ mo1 _ io1).mono ?_
 rintro e c3 ⟨rfl, F3⟩
 go_simp
 have M3 := Ext.trans M2 F3
 refine hK.out _ _ M3 ?_
 clear K hK
 try simp only [Act.put, PuA, PuB, PuC]
 have T3 := Ext.trans T2 F3
 iterate 2 (refine pi_P M3 rfl ?_)
 refine pi_R M3 rfl (fun w' hx => by obtain ⟨y0, y1, y2, y3, y4, y5, y6, y7, y8, y9⟩ := RDM.out w' (Ext.trans T3 hx); go_simp; with_reducible rfl) ?_
 have z3 := Ext.refl c3
 iterate 3 (refine pi_P z3 rfl ?_)
 refine pi_move rfl (by kernel_rfl) (fun K hK => ?_)
 go_wp2_with fail
 refine (odd_law4 _ m what (n % 256) _ (im.below T3) hwh).mono ?_
 rintro e c4 ⟨vo2, rfl, ⟨mo2, io2⟩, F4⟩
 go_simp
 have M4 := Ext.trans z3 F4
 refine hK.out _ _ M4 ?_
 clear K hK
 try simp only [Act.put, PuA, PuB, PuC]
 have T4 := Ext.trans T3 F4
 refine pi_move rfl (by kernel_rfl) (fun K hK => ?_)
 go_wp2_with fail
 refine (same_law4 _ mo2 _ io2).mono ?_
 rintro e c5 ⟨rfl, F5⟩
 go_simp
 have M5 := Ext.trans M4 F5
 refine hK.out _ _ M5 ?_
 clear K hK
 try simp only [Act.put, PuA, PuB, PuC]
 have T5 := Ext.trans T4 F5
 iterate 2 (refine pi_P M5 rfl ?_)
 refine pi_R M5 rfl (fun w' hx => by obtain ⟨y0, y1, y2, y3, y4, y5, y6, y7, y8, y9⟩ := RDR.out w' (Ext.trans T5 hx); go_simp; with_reducible rfl) ?_
 have z5 := Ext.refl c5
 refine pi_move rfl (by kernel_rfl) (fun K hK => ?_)
 go_wp2_with fail
 refine (same_law4 _ _ _ (ir.below T5)).mono ?_
 rintro e c6 ⟨rfl, F6⟩
 go_simp
 have M6 := Ext.trans z5 F6
 refine hK.out _ _ M6 ?_
 clear K hK
 try simp only [Act.put, PuA, PuB, PuC]
 have T6 := Ext.trans T5 F6
 iterate 3 (refine pi_P M6 rfl ?_)
 refine pi_R M6 rfl (fun w' hx => by obtain ⟨y0, y1, y2, y3, y4, y5, y6, y7, y8⟩ := RDQ.out w' (Ext.trans T6 hx); go_simp; with_reducible rfl) ?_
 have z6 := Ext.refl c6
 refine pi_move rfl (by kernel_rfl) (fun K hK => ?_)
 go_wp2_with fail
 refine (reads_law4 _ _ X q _ (RX.below T6) (q2.below T6) (by omega) (by omega) (by omega) (.inl (by omega))).mono ?_
 rintro e c7 ⟨rfl, F7⟩
 go_simp
 have M7 := Ext.trans z6 F7
 refine hK.out _ _ M7 ?_
 clear K hK
 try simp only [Act.put, PuA, PuB, PuC]
 have T7 := Ext.trans T6 F7
 iterate 3 (refine pi_P M7 rfl ?_)
 refine pi_R M7 rfl (fun w' hx => by obtain ⟨y0, y1, y2, y3, y4, y5, y6, y7, y8⟩ := RDQ.out w' (Ext.trans T7 hx); go_simp; with_reducible rfl) ?_
 have z7 := Ext.refl c7
 refine pi_move rfl (by kernel_rfl) (fun K hK => ?_)
 go_wp2_with fail
 refine (reads_law4 _ _ Z q _ (R9.below T7) (q2.below T7) (by omega) (by omega) (by omega) (.inl (by omega))).mono ?_
 rintro e c8 ⟨rfl, F8⟩
 go_simp
 have M8 := Ext.trans z7 F8
 refine hK.out _ _ M8 ?_
 clear K hK
 try simp only [Act.put, PuA, PuB, PuC]
 have T8 := Ext.trans T7 F8
 iterate 5 (refine pi_P M8 rfl ?_)
 refine pi_R M8 rfl (fun w' hx => by obtain ⟨y0, y1, y2, y3, y4, y5, y6, y7, y8⟩ := RDQ.out w' (Ext.trans T8 hx); go_simp; with_reducible rfl) ?_
 have z8 := Ext.refl c8
 refine pi_move rfl (by kernel_rfl) (fun K hK => ?_)
 go_wp2_with fail
 refine (reads_law4 _ _ BT q _ (RTk.below T8) (q2.below T8) (by omega) (by omega) (by omega) (.inl (by omega))).mono ?_
 rintro e c9 ⟨rfl, F9⟩
 go_simp
 have M9 := Ext.trans z8 F9
 refine hK.out _ _ M9 ?_
 clear K hK
 try simp only [Act.put, PuA, PuB, PuC]
 have T9 := Ext.trans T8 F9
 iterate 3 (refine pi_P M9 rfl ?_)
 refine pi_R M9 rfl (fun w' hx => by obtain ⟨y0, y1, y2, y3, y4, y5, y6, y7, y8⟩ := RDQ.out w' (Ext.trans T9 hx); go_simp; with_reducible rfl) ?_
 have z9 := Ext.refl c9
 refine pi_move rfl (by kernel_rfl) (fun K hK => ?_)
 go_wp2_with fail
 refine (reads_law4 _ _ bs q _ (RB.below T9) (q2.below T9) (by omega) (by omega) (by omega) (.inl (by omega))).mono ?_
 rintro e c10 ⟨rfl, F10⟩
 go_simp
 have M10 := Ext.trans z9 F10
 refine hK.out _ _ M10 ?_
 clear K hK
 try simp only [Act.put, PuA, PuB, PuC]
 have T10 := Ext.trans T9 F10
 iterate 3 (refine pi_P M10 rfl ?_)
 refine pi_R M10 rfl (fun w' hx => by obtain ⟨y0, y1, y2, y3, y4, y5, y6, y7, y8⟩ := RDP.out w' (Ext.trans T10 hx); go_simp; with_reducible rfl) ?_
 have z10 := Ext.refl c10
 refine pi_move rfl (by kernel_rfl) (fun K hK => ?_)
 go_wp2_with fail
 refine (reads_law4 _ _ X _ _ (RX.below T10) (qp.below T10) hn ha (by omega) (by simp only; omega)).mono ?_
 rintro e c11 ⟨rfl, F11⟩
 go_simp
 have M11 := Ext.trans z10 F11
 refine hK.out _ _ M11 ?_
 clear K hK
 try simp only [Act.put, PuA, PuB, PuC]
 have T11 := Ext.trans T10 F11
 iterate 6 (refine pi_P M11 rfl ?_)
 refine pi_move rfl (by kernel_rfl) (fun K hK => ?_)
 go_wp2_with fail
 refine (refuse_rep n at' _).mono ?_
 rintro e c12 ⟨rfl, F12⟩
 go_simp
 have M12 := Ext.trans M11 F12
 refine hK.out _ _ M12 ?_
 clear K hK
 try simp only [Act.put, PuA, PuB, PuC]
 have T12 := Ext.trans T11 F12
 refine pi_move rfl (by kernel_rfl) (fun K hK => ?_)
 go_wp2_with fail
 refine (refuse_ref n at' _).mono ?_
 rintro e c13 ⟨rfl, F13⟩
 go_simp
 have M13 := Ext.trans M12 F13
 refine hK.out _ _ M13 ?_
 clear K hK
 try simp only [Act.put, PuA, PuB, PuC]
 have T13 := Ext.trans T12 F13
 refine pi_move rfl (by kernel_rfl) (fun K hK => ?_)
 go_wp2_with fail
 refine (alike_ref _ _ (refP (n % 128) (at' % 256)) (refP (n % 128) (at' % 256)) _ (ref_rp _ _ _) (ref_rp _ _ _)).mono ?_
 rintro e c14 ⟨rfl, F14⟩
 rw [show decide (refP (n % 128) (at' % 256) = refP (n % 128) (at' % 256)) = true by simp]
 go_simp
 have M14 := Ext.trans M13 F14
 refine hK.out _ _ M14 ?_
 clear K hK
 try simp only [Act.put, PuA, PuB, PuC]
 have T14 := Ext.trans T13 F14
 iterate 2 (refine pi_P M14 rfl ?_)
 refine pi_move rfl (by kernel_rfl) (fun K hK => ?_)
 go_wp2_with fail
 refine (known_law4 _).mono ?_
 rintro e c15 ⟨rfl, F15⟩
 go_simp
 have M15 := Ext.trans M14 F15
 refine hK.out _ _ M15 ?_
 clear K hK
 try simp only [Act.put, PuA, PuB, PuC]
 have T15 := Ext.trans T14 F15
 iterate 2 (refine pi_P M15 rfl ?_)
 refine pi_nil ?_
 replace B1 := below_then B1 T15
 clear RDM RDR RDQ RDP qp q2 im ir RX R9 RTk RB
 go_wp2
 go_ret
 exact ⟨rfl, B1⟩
end Go.Proofs.Ytbajlhpmmmhkoaa
