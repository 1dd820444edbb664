/- Joined texts. -/
import Derived.Deep.Cut
import Derived.Deep.CutRange
import Derived.Test.YtdihcdphgiaepaaGreatZZ45
import Derived.Test.YtdihcdphgiaepaaGreatZZ48
namespace Go.Proofs.YtdihcdphgiaepaaGreat
open Go.RowKit
def G2 (g lo hi g2 lo2 hi2 : Nat) (i : Nat) : Prop := Gd g lo hi i ∨ Gd g2 lo2 hi2 i
def Lay2 (W g lo hi g2 lo2 hi2 : Nat) : Prop := W ≤ lo ∧ hi ≤ g ∧ W ≤ g ∧ g < lo2 ∧ hi2 ≤ g2 ∧ (W ≤ lo2 ∧ hi2 ≤ g2 ∧ W ≤ g2) ∧ g < g2
theorem dis {W g lo hi g2 lo2 hi2 i : Nat} (h : W ≤ lo ∧ hi ≤ g ∧ W ≤ g ∧ g < lo2 ∧ hi2 ≤ g2 ∧ (W ≤ lo2 ∧ hi2 ≤ g2 ∧ W ≤ g2) ∧ g < g2) (x : Gd g lo hi i) (y : Gd g2 lo2 hi2 i) : False := by
 rcases x with x | x
 ·
  rcases y with y | y
  ·
   omega
  ·
   have := y.1; omega
 ·
  have := x.2;rcases y with y | y
  ·
   omega
  ·
   have := y.1; omega
theorem DR.kp {F : Nat → Prop} {w w' : World} {g gs lo hi n : Nat} {d : Dv} (h : DR w g gs lo hi n d) (k : Kp F w w') (hF : ∀ i, Gd g lo hi i → ¬ F i) : DR w' g gs lo hi n d :=
 ⟨h.blk.kp k (hF g (.inl rfl)), h.sto.kp k (fun i hi' => hF i (.inr hi')), h.off⟩
theorem RowF.old {F : Nat → Prop} {w w' : World} {v : Value} {xs : List Value} (h : Row w v xs) (hb : Bo w w') (hF : ∀ i, F i → w.heap.size ≤ i) : RowF F w' v xs :=
 ⟨h.below hb, fun h0 k hk x => by have := Row.ltvR h h0 hk; have := hF k x; omega⟩
theorem nw_off2 {B g lo hi g2 lo2 hi2 : Nat} {v : Value} (h : NwV B v) (h1 : g < B) (h2 : hi ≤ B) (h3 : g2 < B) (h4 : hi2 ≤ B) : Off (G2 g lo hi g2 lo2 hi2) v := fun k hk x => by
 have := h k hk;rcases x with (x | x) | (x | x)
 ·
  omega
 ·
  have := x.2; omega
 ·
  omega
 ·
  have := x.2; omega
def Bnd (d : Dv) (B : Nat) : Prop := 0 ≤ d.msgs ∧ d.msgs ≤ B ∧ 0 ≤ d.flts ∧ d.flts ≤ B ∧ d.unit = 0
theorem Bnd.mono {d : Dv} {B B' : Nat} (h : Bnd d B) (hb : B ≤ B') : Bnd d B' := by
 obtain ⟨h1, h2, h3, h4, h5⟩ := h;exact ⟨h1, by omega, h3, by omega, h5⟩
theorem Bnd.do {d : Dv} {B : Nat} (h : Bnd d B) (n : Nat) (q : Rq) : Bnd (doD n d q).2 (B + 1) := by
 obtain ⟨h1, h2, h3, h4, h5⟩ := h;obtain ⟨k1, k2, k3, k4, k5⟩ := do_keeps n d q ⟨h1, h3⟩;exact ⟨k2, by omega, k4, by omega, k1.trans h5⟩
theorem Bnd.pdu {d : Dv} {B : Nat} (h : Bnd d B) (n : Nat) (b : List UInt8) : Bnd (pduD n d b).2 (B + 1) := by
 obtain ⟨h1, h2, h3, h4, h5⟩ := h;obtain ⟨k1, k2, k3, k4, k5⟩ := pdu_keeps n d b ⟨h1, h3⟩;exact ⟨k2, by omega, k4, by omega, k1.trans h5⟩
theorem Bnd.hm {d : Dv} {B : Nat} (h : Bnd d B) (hb : B ≤ 1000) : 0 ≤ d.msgs ∧ d.msgs ≤ 100000000000000000 ∧ 0 ≤ d.flts ∧ d.flts ≤ 100000000000000000 := by
 obtain ⟨h1, h2, h3, h4, h5⟩ := h;omega
theorem Bnd.hu {d : Dv} {B : Nat} (h : Bnd d B) : 0 ≤ d.unit ∧ d.unit ≤ 255 := by rw [h.2.2.2.2]; decide
theorem bytesR_le (q : Rq) : (bytesR q).length ≤ 1000 := by
 by_cases hr : rightE q = 0
 ·
  rw [bytesR_0 hr];obtain ⟨hk, -, -, hl⟩ := right_parts hr;obtain ⟨f, a, c, p, s, bs, vs, m, o⟩ := q;rcases known_cases hk with e | e | e | e | e | e | e | e | e | e | e | e
  all_goals
   simp only at e;subst e;simp [listB] at hl;simp [bytesQ, bodyQ, pw, cntL, packL_len, bytesL_len];try omega
 ·
  rw [bytesR_no hr]; simp
theorem old_gd {W g lo hi : Nat} (h : W ≤ lo ∧ W ≤ g) : ∀ i, Gd g lo hi i → W ≤ i := fun i x => by
 rcases x with x | x
 ·
  omega
 ·
  have := x.1; omega
set_option maxRecDepth 100000 in
set_option maxHeartbeats 16000000 in
theorem play9 (cells : Int) (vl vr : Value) (qs : List Rq) (bss : List (List UInt8)) (w : World) (hl : Reqs w vl qs) (hr : RowsB w vr bss) (hbl : ∀ i, (bss.getD i []).length ≤ 140737488351232) (hc : -9223372036854775808 ≤ cells ∧ cells ≤ 9223372036854775807) :
  Calls Tryz.prog 6 #[J cells, vl, vr] w fun e w' => e = .returned (.bool true) ∧ Bo w w' := by
 obtain ⟨al, cl, rfl, hl1, hl2, hat⟩ := hl;obtain ⟨ar, cr, rfl, hr1, hr2, hrow⟩ := hr.at;unfold maxLen at hl2 hr2;have HAT := Hh hat;have HROW := Hh hrow;have HBL := Hh hbl;clear hat hrow hbl hr;by_cases hbad : 1 ≤ cells ∧ cells ≤ 65536
 rotate_left
 ·
  have C := Hh (vnew_bad cells w hbad);have hcase : (cells < 1) ∨ (¬ cells < 1 ∧ 65536 < cells) := by omega
  clear hbad;rcases hcase with h1 | ⟨h1, h2⟩
  all_goals
   go_enter Tryz.func6, Tryz.ntmps6;go_wp2_with fail
   refine C.out.mono ?_;rintro e w1 ⟨rfl, rfl⟩;go_wp2;go_ret;exact ⟨rfl, Below.refl _ _⟩
 obtain ⟨hb1, hb2⟩ := hbad;obtain ⟨c0, rfl⟩ : ∃ k : Nat, cells = (k : Int) := ⟨cells.toNat, by omega⟩;obtain ⟨n, hn⟩ : ∃ n : Nat, (if (2100 : Int) < (c0 : Int) then (2100 : Int) else (c0 : Int)) = (n : Int) := by
  by_cases h : (2100 : Int) < (c0 : Int)
  ·
   exact ⟨2100, by rw [if_pos h]; rfl⟩
  ·
   exact ⟨c0, by rw [if_neg h]⟩
 have hn1 : 1 ≤ n ∧ n ≤ 65536 := by split at hn <;> omega
 have HN1 := Hh hn1;have h1 : ¬ (c0 : Int) < 1 := by omega
 have h2 : ¬ (65536 : Int) < (c0 : Int) := by omega
 clear hn1;have BW := Below.refl w.heap.size w;go_enter Tryz.func6, Tryz.ntmps6;go_wp2_with fail
 refine (vnew_any c0 c0 w rfl ⟨by omega, by omega⟩).mono ?_;rintro e w1 ⟨g0, gs0, lo0, hi0, rfl, -, -, -, E⟩;replace BW := bT BW E;clear E;go_wp2_with fail
 refine (vnew_any n n w1 rfl HN1.out).mono ?_;rintro e w2 ⟨g, gs, lo, hi, rfl, D, hg1, hg2, E⟩;have sz1 := BW.size;replace BW := bT BW E;clear E;go_wp2_with fail
 refine (newdev_any n w2 HN1.out).mono ?_;rintro e w3 ⟨g2, gs2, hi2, rfl, RB, RS, rh, E⟩;obtain ⟨lo2, hlo2⟩ := exb (w2.heap.size);have HG : Hid (w.heap.size ≤ lo ∧ hi ≤ g ∧ w.heap.size ≤ g ∧ g < lo2 ∧ hi2 ≤ g2 ∧ (w.heap.size ≤ lo2 ∧ hi2 ≤ g2 ∧ w.heap.size ≤ g2) ∧ g < g2) := by
  have q1 := D.sto.me.1;have q2 := D.sto.me.2;have q3 := D.blk.lt;have q4 := RS.me.1;have q5 := RS.me.2;have q6 := BW.size;show _ ∧ _;omega
 rw [← hlo2] at RS;have R : DR w3 g2 gs2 lo2 hi2 n ⟨Cs.zero n, 0, 0, 0⟩ := ⟨RB, RS, fun x => by have := x.2; omega⟩;replace D := D.ext E;replace BW := bT BW E;have HB : Bnd ⟨Cs.zero n, 0, 0, 0⟩ (3 * 0) := ⟨by simp, by simp, by simp, by simp, rfl⟩;generalize (⟨Cs.zero n, 0, 0, 0⟩ : Dv) = dv0 at *;clear E RB RS rh hg1 hg2 sz1 hlo2 hn h1 h2 HN1 hb1 hb2;go_wp2_with fail
 go_loopw [9, 10, 11] (fun i _ _ wr => ∃ (k : Nat) (dv : Dv), k ≤ qs.length ∧ k ≤ 50 ∧ i = J k ∧ DD wr g gs lo hi n dv ∧ DR wr g2 gs2 lo2 hi2 n dv ∧ Bnd dv (3 * k) ∧ Bo w wr) (fun i _ _ _ => 50 - (intOf i).toNat)
 case atStart => exact ⟨0, dv0, by omega, by omega, rfl, D, R, HB, BW⟩
 case round =>
  clear D R HB BW;obtain ⟨k, dv, hk, hk5, rfl, D, R, HB, BW⟩ := hrel;by_cases hlt : k < qs.length ∧ k < 50
  rotate_left
  ·
   rcases (show (¬ (k : Int) < (qs.length : Int)) ∨ ((k : Int) < (qs.length : Int) ∧ ¬ (k : Int) < 50) by omega) with hx | ⟨hx, hy⟩
   ·
    go_wp2_with fail
    refine (same9 g gs lo hi g2 gs2 lo2 hi2 n dv wr D R).mono ?_;rintro e wz ⟨rfl, E⟩;have E2 := Hh (bT BW E);clear E BW D R;go_wp2;go_ret;exact ⟨rfl, E2.out⟩
   ·
    go_wp2_with fail
    refine (same9 g gs lo hi g2 gs2 lo2 hi2 n dv wr D R).mono ?_;rintro e wz ⟨rfl, E⟩;have E2 := Hh (bT BW E);clear E BW D R;go_wp2;go_ret;exact ⟨rfl, E2.out⟩
  obtain ⟨hlt, h50⟩ := hlt;have hlt' : (k : Int) < (qs.length : Int) := by omega
  have h50' : (k : Int) < 50 := by omega
  have h0 : (0 : Int) ≤ (k : Int) := by omega
  obtain ⟨q, hq⟩ : ∃ q, qs[k]? = some q := ⟨qs[k], List.getElem?_eq_getElem hlt⟩;obtain ⟨bq, oq, rfl, hreq⟩ := HAT.out k hlt;obtain ⟨vb, vv, hcs, r1, r2⟩ := hreq k q hq;obtain ⟨ab, cb, rfl, -⟩ := id r1;obtain ⟨av, cv, rfl, -⟩ := id r2;simp only [List.length_map] at r1 r2 hcs;have CQ := Hh hcs;have R1 := Hh r1;have R2' := Hh r2;have OD := Hh (old_gd ⟨HG.out.1, HG.out.2.2.1⟩ (hi := hi));have OR := Hh (old_gd ⟨HG.out.2.2.2.2.2.1.1, HG.out.2.2.2.2.2.1.2.2⟩ (hi := hi2));clear hreq hcs r1 r2 hq;go_upto_region 10 with fail
  go_cut [55] from 28 to 55 (fun z wx => z = .bool false ∧ ∃ d1, DD wx g gs lo hi n d1 ∧ DR wx g2 gs2 lo2 hi2 n d1 ∧ Bnd d1 (3 * k + 1) ∧ Bo w wx)
  case first =>
   go_wp2_with fail
   refine c_begin 18 rfl (by kernel_rfl) ?_;have E := (Below.refl wr.heap.size wr).drew;replace D := D.ext E;replace R := R.ext E;replace BW := bT BW E;clear E;generalize wr.drew = y1 at *;refine c_P trivial 0 rfl ?_;refine c_P trivial 1 rfl ?_;refine c_P trivial 2 rfl ?_;refine c_P trivial 3 rfl ?_;refine c_P trivial 4 rfl ?_;refine c_P trivial 5 rfl ?_;refine c_P trivial 6 rfl ?_;refine c_R (fun w' => Bo w w') BW trivial 7 rfl (fun w' hx => by obtain ⟨c0, c1, c2, c3, c4, c5, c6, c7, c8⟩ := CQ.out; replace c0 := cell_b c0 hx; replace c1 := cell_b c1 hx; replace c2 := cell_b c2 hx; replace c3 := cell_b c3 hx; replace c4 := cell_b c4 hx; replace c5 := cell_b c5 hx; replace c6 := cell_b c6 hx; replace c7 := cell_b c7 hx; replace c8 := cell_b c8 hx; go_simp; with_reducible rfl) ?_;refine c_P ⟨BW, trivial⟩ 9 rfl ?_;refine c_P ⟨BW, trivial⟩ 10 rfl ?_;refine c_P ⟨BW, trivial⟩ 11 rfl ?_;refine c_P ⟨BW, trivial⟩ 12 rfl ?_;refine c_R (fun w' => Bo w w') BW ⟨BW, trivial⟩ 13 rfl (fun w' hx => by obtain ⟨c0, c1, c2, c3, c4, c5, c6, c7, c8⟩ := CQ.out; replace c0 := cell_b c0 hx; replace c1 := cell_b c1 hx; replace c2 := cell_b c2 hx; replace c3 := cell_b c3 hx; replace c4 := cell_b c4 hx; replace c5 := cell_b c5 hx; replace c6 := cell_b c6 hx; replace c7 := cell_b c7 hx; replace c8 := cell_b c8 hx; go_simp; with_reducible rfl) ?_;refine c_M 8 (c_O 8 [(13, fun w' => Bo w w')] rfl (fun K hK => ?_));have hgB := D.blk.lt;have hhB := D.sto.top;have hgR := R.blk.lt;have hhR := R.sto.top;go_wp2_with fail
   refine (vdo_any g gs lo hi n dv q _ y1 D ⟨_, _, rfl, RowF.old R1.out BW OD.out, RowF.old R2'.out BW OD.out⟩ (HB.hm (by omega)) HB.hu).mono ?_;rintro e y2 ⟨v', rfl, NR, D2, KK⟩;obtain ⟨vb1, vv1, vd1, rfl, ⟨NB1, NV1, ND1⟩, nb, nv, nd⟩ := NR;have NB1 : RowF (G2 g lo hi g2 lo2 hi2) y2 _ _ := ⟨NB1, fun _ => nw_off2 nb hgB hhB hgR hhR⟩;have NV1 : RowF (G2 g lo hi g2 lo2 hi2) y2 _ _ := ⟨NV1, fun _ => nw_off2 nv hgB hhB hgR hhR⟩;have ND1 : RowF (G2 g lo hi g2 lo2 hi2) y2 _ _ := ⟨ND1, fun _ => nw_off2 nd hgB hhB hgR hhR⟩;clear nb nv nd hgB hhB hgR hhR;have D := D2;clear D2;replace R := R.kp KK (fun i x y => dis HG.out y x);replace BW := bw_gd BW KK ⟨HG.out.1, HG.out.2.1, HG.out.2.2.1⟩;clear KK;go_simp;refine hK.out _ _ ⟨BW, trivial⟩ ?_;clear K hK;try simp only [Pu]
   refine c_M 14 (c_O 14 [] rfl (fun K hK => ?_));go_wp2_with fail
   refine (rdo_any g2 gs2 lo2 hi2 n dv q _ y2 R ⟨_, _, rfl, RowF.old R1.out BW OR.out, RowF.old R2'.out BW OR.out⟩ (HB.hm (by omega))).mono ?_;rintro e y3 ⟨v', rfl, NR, R2, KK⟩;obtain ⟨vb2, vv2, vd2, rfl, ⟨NB2, NV2, ND2⟩, -⟩ := NR;have R := R2;clear R2;replace D := D.kp KK (fun i x y => dis HG.out x y);replace BW := bw_gd BW KK HG.out.2.2.2.2.2.1;replace NB1 := NB1.kp KK (fun _ _ h => .inr h);replace NV1 := NV1.kp KK (fun _ _ h => .inr h);replace ND1 := ND1.kp KK (fun _ _ h => .inr h);clear KK;go_simp;refine hK.out _ _ trivial ?_;clear K hK;try simp only [Pu]
   refine c_M 15 (c_O 15 [] rfl (fun K hK => ?_));go_wp2_with fail
   refine (alike_ref _ _ (doD n dv q).1 (doD n dv q).1 y3 ⟨_, _, _, rfl, NB1.1, NV1.1, ND1.1⟩ ⟨_, _, _, rfl, NB2, NV2, ND2⟩).mono ?_;rintro e y4 ⟨rfl, E⟩;rw [decide_eq_true rfl];go_simp;clear NB1 NV1 ND1 NB2 NV2 ND2;replace D := D.ext E;replace R := R.ext E;replace BW := bT BW E;clear E;refine hK.out _ _ trivial ?_;clear K hK;try simp only [Pu]
   refine c_P trivial 16 rfl ?_;refine c_P trivial 17 rfl ?_;refine c_done (by kernel_rfl) ?_;have HB1 := HB.do n q;go_wp2;go_meet
   exact ⟨rfl, _, D, R, HB1, BW⟩
  case rest =>
   clear D R HB BW;obtain ⟨rfl, d1, D, R, HB, BW⟩ := hcut;clear dv;go_upto_region 12 with fail
   go_cut [76] from 28 to 76 (fun z wx => z = .bool false ∧ ∃ d2, DD wx g gs lo hi n d2 ∧ DR wx g2 gs2 lo2 hi2 n d2 ∧ Bnd d2 (3 * k + 2) ∧ Bo w wx)
   case first =>
    by_cases hkr : k < bss.length
    ·
     have hkr' : (k : Int) < (bss.length : Int) := by omega
     obtain ⟨br, orr, rfl, hrw⟩ := HROW.out k hkr;obtain ⟨u, cu, ru⟩ := hrw k hkr;obtain ⟨au, ccu, rfl, -⟩ := id ru;simp only [List.length_map] at ru cu;have RU := Hh ru;have CU := Hh cu;have BL := Hh (HBL.out k);clear hrw ru cu;generalize bss.getD k [] = bs at *;go_wp2_with fail
     refine c_begin 21 rfl (by kernel_rfl) ?_;have E := (Below.refl wc.heap.size wc).drew;replace D := D.ext E;replace R := R.ext E;replace BW := bT BW E;clear E;generalize wc.drew = y5 at *;refine c_P trivial 0 rfl ?_;refine c_P trivial 1 rfl ?_;refine c_P trivial 2 rfl ?_;refine c_P trivial 3 rfl ?_;refine c_P trivial 4 rfl ?_;refine c_P trivial 5 rfl ?_;refine c_P trivial 6 rfl ?_;refine c_P trivial 7 rfl ?_;refine c_P trivial 8 rfl ?_;refine c_R (fun w' => Bo w w') BW trivial 9 rfl (fun w' hx => by have cu := cell_b CU.out hx; go_simp; with_reducible rfl) ?_;refine c_P ⟨BW, trivial⟩ 12 rfl ?_;refine c_P ⟨BW, trivial⟩ 13 rfl ?_;refine c_P ⟨BW, trivial⟩ 14 rfl ?_;refine c_P ⟨BW, trivial⟩ 15 rfl ?_;refine c_R (fun w' => Bo w w') BW ⟨BW, trivial⟩ 16 rfl (fun w' hx => by have cu := cell_b CU.out hx; go_simp; with_reducible rfl) ?_;refine c_M 10 (c_O 10 [(16, fun w' => Bo w w')] rfl (fun K hK => ?_));have hgB := D.blk.lt;have hhB := D.sto.top;have hgR := R.blk.lt;have hhR := R.sto.top;go_wp2_with fail
     refine (vpdu_any_new g gs lo hi n d1 _ bs y5 D (RowF.old RU.out BW OD.out) BL.out (HB.hm (by omega)) HB.hu).mono ?_;rintro e y6 ⟨v', rfl, PR, nw, D2, KK⟩;have PR : RowF (G2 g lo hi g2 lo2 hi2) y6 _ _ := ⟨PR, fun _ => nw_off2 nw hgB hhB hgR hhR⟩;clear nw hgB hhB hgR hhR;have D := D2;clear D2;replace R := R.kp KK (fun i x y => dis HG.out y x);replace BW := bw_gd BW KK ⟨HG.out.1, HG.out.2.1, HG.out.2.2.1⟩;clear KK;obtain ⟨ap, cp, rfl, -⟩ := id PR.1;simp only [List.length_map] at PR ⊢;go_simp;refine hK.out _ _ ⟨BW, trivial⟩ ?_;clear K hK;try simp only [Pu]
     refine c_R (fun w' => RowF (G2 g lo hi g2 lo2 hi2) w' (.slice ap (pduD n d1 bs).1.length cp) ((pduD n d1 bs).1.map bV)) PR ⟨BW, trivial⟩ 11 rfl (fun w' hx => by have SC := conv_row (P := Tryz.prog) hx.1 27 9 5 Tryz.underlying27 Tryz.underlying5 Tryz.underlying9; go_simp; with_reducible rfl) ?_;refine c_M 17 (c_O 17 [(11, fun w' => RowF (G2 g lo hi g2 lo2 hi2) w' (.slice ap (pduD n d1 bs).1.length cp) ((pduD n d1 bs).1.map bV))] rfl (fun K hK => ?_));go_wp2_with fail
     refine (rpdu_any g2 gs2 lo2 hi2 n d1 _ bs y6 R (RowF.old RU.out BW OR.out) BL.out (HB.hm (by omega))).mono ?_;rintro e y7 ⟨v', rfl, OW, R2, KK⟩;have QR : Row y7 v' ((pduD n d1 bs).1.map bV) := Row.of_owns OW;clear OW;have R := R2;clear R2;replace D := D.kp KK (fun i x y => dis HG.out x y);replace BW := bw_gd BW KK HG.out.2.2.2.2.2.1;replace PR := PR.kp KK (fun _ _ h => .inr h);clear KK;obtain ⟨aq, cq, rfl, -⟩ := id QR;simp only [List.length_map] at QR ⊢;go_simp;refine hK.out _ _ ⟨PR, trivial⟩ ?_;clear K hK;try simp only [Pu]
     refine c_R (fun w' => Row w' (.slice aq (pduD n d1 bs).1.length cq) ((pduD n d1 bs).1.map bV)) QR ⟨PR, trivial⟩ 18 rfl (fun w' hx => by have SC := conv_row (P := Tryz.prog) hx 27 9 5 Tryz.underlying27 Tryz.underlying5 Tryz.underlying9; go_simp; with_reducible rfl) ?_;refine c_P ⟨QR, PR, trivial⟩ 19 rfl ?_;refine c_P ⟨QR, PR, trivial⟩ 20 rfl ?_;refine c_done (by kernel_rfl) ?_;have HB1 := HB.pdu n bs;go_wp2;go_meet
     exact ⟨by simp, _, D, R, HB1, BW⟩
    ·
     have hkr' : ¬ (k : Int) < (bss.length : Int) := by omega
     go_wp2;go_quiet (fail)
     go_wp2_with fail
     go_meet
     exact ⟨rfl, d1, D.ext (below_drewn0 _ _ _), R.ext (below_drewn0 _ _ _), HB.mono (by omega), bT BW (below_drewn0 _ _ _)⟩
   case rest =>
    clear D R HB BW;obtain ⟨rfl, d2, D, R, HB, BW⟩ := hcut;clear d1;obtain ⟨c0', c1, c2, c3, c4, c5, c6, c7, c8⟩ := CQ.out;replace c0' := cell_b c0' BW;replace c1 := cell_b c1 BW;replace c2 := cell_b c2 BW;replace c3 := cell_b c3 BW;replace c4 := cell_b c4 BW;replace c5 := cell_b c5 BW;replace c6 := cell_b c6 BW;replace c7 := cell_b c7 BW;replace c8 := cell_b c8 BW;go_wp2_with fail
    clear c0' c1 c2 c3 c4 c5 c6 c7 c8;refine (bytes_ref _ q wc ⟨_, _, rfl, R1.out.below BW, R2'.out.below BW⟩).mono ?_;rintro e y8 ⟨v', rfl, OB, E⟩;have RB : RowF (G2 g lo hi g2 lo2 hi2) y8 v' ((bytesR q).map bV) := ⟨Row.of_owns OB, fun _ => nw_off2 (fun k hk => (OB.lt k hk).1) D.blk.lt D.sto.top R.blk.lt R.sto.top⟩;clear OB;replace D := D.ext E;replace R := R.ext E;replace BW := bT BW E;clear E;obtain ⟨ab1, cb1, rfl, -⟩ := id RB.1;simp only [List.length_map] at RB ⊢;have BL := bytesR_le q;generalize bytesR q = bs at *;clear CQ R1 R2';go_upto_region 15 with fail
    go_cut [98] from 28 to 98 (fun z wx => z = .bool false ∧ ∃ d3, DD wx g gs lo hi n d3 ∧ DR wx g2 gs2 lo2 hi2 n d3 ∧ Bnd d3 (3 * k + 3) ∧ Bo w wx)
    case first =>
     by_cases h3 : (k : Int) % 3 = 0
     rotate_left
     ·
      have h3b : ((k : Int) % 3 == 0) = false := by rw [beq_eq_false_iff_ne]; exact h3
      go_wp2;go_quiet (fail)
      go_wp2_with fail
      go_meet
      exact ⟨rfl, d2, D.ext (below_drewn0 _ _ _), R.ext (below_drewn0 _ _ _), HB.mono (by omega), bT BW (below_drewn0 _ _ _)⟩
     ·
      skip
      have h3b : ((k : Int) % 3 == 0) = true := by rw [h3]; rfl
      have h3t : (k : Int).tmod 3 = 0 := by rw [Int.tmod_eq_emod_of_nonneg h0]; exact h3
      go_wp2_with fail
      refine c_begin 14 rfl (by kernel_rfl) ?_;have E := (Below.refl y8.heap.size y8).drew;replace D := D.ext E;replace R := R.ext E;replace BW := bT BW E;replace RB := RB.ext E;clear E;generalize y8.drew = y9 at *;refine c_P trivial 0 rfl ?_;refine c_P trivial 1 rfl ?_;refine c_P trivial 2 rfl ?_;refine c_P trivial 3 rfl ?_;refine c_P trivial 4 rfl ?_;refine c_P trivial 5 rfl ?_;refine c_P trivial 8 rfl ?_;refine c_P trivial 9 rfl ?_;refine c_M 6 (c_O 6 [] rfl (fun K hK => ?_));have hgB := D.blk.lt;have hhB := D.sto.top;have hgR := R.blk.lt;have hhR := R.sto.top;go_wp2_with fail
      refine (vpdu_any_new g gs lo hi n d2 _ bs y9 D (RB.sub (fun _ h => .inl h)) (by omega) (HB.hm (by omega)) HB.hu).mono ?_;rintro e y10 ⟨v', rfl, PR, nw, D2, KK⟩;have PR : RowF (G2 g lo hi g2 lo2 hi2) y10 _ _ := ⟨PR, fun _ => nw_off2 nw hgB hhB hgR hhR⟩;clear nw hgB hhB hgR hhR;have D := D2;clear D2;replace R := R.kp KK (fun i x y => dis HG.out y x);replace BW := bw_gd BW KK ⟨HG.out.1, HG.out.2.1, HG.out.2.2.1⟩;replace RB := RB.kp KK (fun _ _ h => .inl h);clear KK;obtain ⟨ap, cp, rfl, -⟩ := id PR.1;simp only [List.length_map] at PR ⊢;go_simp;refine hK.out _ _ trivial ?_;clear K hK;try simp only [Pu]
      refine c_R (fun w' => RowF (G2 g lo hi g2 lo2 hi2) w' (.slice ap (pduD n d2 bs).1.length cp) ((pduD n d2 bs).1.map bV)) PR trivial 7 rfl (fun w' hx => by have SC := conv_row (P := Tryz.prog) hx.1 27 9 5 Tryz.underlying27 Tryz.underlying5 Tryz.underlying9; go_simp; with_reducible rfl) ?_;refine c_M 10 (c_O 10 [(7, fun w' => RowF (G2 g lo hi g2 lo2 hi2) w' (.slice ap (pduD n d2 bs).1.length cp) ((pduD n d2 bs).1.map bV))] rfl (fun K hK => ?_));go_wp2_with fail
      refine (rpdu_any g2 gs2 lo2 hi2 n d2 _ bs y10 R (RB.sub (fun _ h => .inr h)) (by omega) (HB.hm (by omega))).mono ?_;rintro e y11 ⟨v', rfl, OW, R2, KK⟩;have QR : Row y11 v' ((pduD n d2 bs).1.map bV) := Row.of_owns OW;clear OW;have R := R2;clear R2;replace D := D.kp KK (fun i x y => dis HG.out x y);replace BW := bw_gd BW KK HG.out.2.2.2.2.2.1;replace RB := RB.kp KK (fun _ _ h => .inr h);replace PR := PR.kp KK (fun _ _ h => .inr h);clear KK;obtain ⟨aq, cq, rfl, -⟩ := id QR;simp only [List.length_map] at QR ⊢;go_simp;refine hK.out _ _ ⟨PR, trivial⟩ ?_;clear K hK;try simp only [Pu]
      refine c_R (fun w' => Row w' (.slice aq (pduD n d2 bs).1.length cq) ((pduD n d2 bs).1.map bV)) QR ⟨PR, trivial⟩ 11 rfl (fun w' hx => by have SC := conv_row (P := Tryz.prog) hx 27 9 5 Tryz.underlying27 Tryz.underlying5 Tryz.underlying9; go_simp; with_reducible rfl) ?_;refine c_P ⟨QR, PR, trivial⟩ 12 rfl ?_;refine c_P ⟨QR, PR, trivial⟩ 13 rfl ?_;refine c_done (by kernel_rfl) ?_;have HB1 := HB.pdu n bs;go_wp2;go_meet
      exact ⟨by simp, _, D, R, HB1, BW⟩
    case rest =>
     clear D R HB BW RB;obtain ⟨rfl, d3, D, R, HB, BW⟩ := hcut;clear d2;by_cases h8 : (k : Int) % 8 = 1
     rotate_left
     ·
      have h8b : ((k : Int) % 8 == 1) = false := by rw [beq_eq_false_iff_ne]; exact h8
      have HD := Hh D;have HR := Hh R;have HBB := Hh HB;have HW := Hh BW;clear D R HB BW;go_wp2;exact ⟨⟨k + 1, d3, by omega, by omega, by simp, HD.out, HR.out, HBB.out.mono (by omega), HW.out⟩, by simp only [intOf]; omega⟩
     ·
      have h8b : ((k : Int) % 8 == 1) = true := by rw [h8]; rfl
      go_wp2_with fail
      refine (same9 g gs lo hi g2 gs2 lo2 hi2 n d3 wc D R).mono ?_;rintro e wz ⟨rfl, E⟩;have HD := Hh (D.ext E);have HR := Hh (R.ext E);have HBB := Hh HB;have HW := Hh (bT BW E);clear D R HB BW E;go_wp2;exact ⟨⟨k + 1, d3, by omega, by omega, by simp, HD.out, HR.out, HBB.out.mono (by omega), HW.out⟩, by simp only [intOf]; omega⟩
end Go.Proofs.YtdihcdphgiaepaaGreat
