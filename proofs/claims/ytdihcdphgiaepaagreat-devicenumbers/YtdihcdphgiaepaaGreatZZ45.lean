/- Joined texts. -/
import Derived.Test.YtdihcdphgiaepaaGreatZZ40
import Derived.Test.YtdihcdphgiaepaaGreatZZ41
import Derived.Test.YtdihcdphgiaepaaGreatZZ43
import Derived.Test.YtdihcdphgiaepaaGreatZZ44
set_option maxHeartbeats 4000000
set_option maxRecDepth 100000
namespace Go.Proofs.YtdihcdphgiaepaaGreat
open Go.RowKit
theorem rdo_any (g gs lo hi n : Nat) (dv : Dv) (q : Rq) (v : Value) (w : World) (D : DR w g gs lo hi n dv) (h : IsRqF (Gd g lo hi) w v q) (hm : 0 ≤ dv.msgs ∧ dv.msgs ≤ 100000000000000000 ∧ 0 ≤ dv.flts ∧ dv.flts ≤ 100000000000000000) :
  Calls Tryz.prog 18 #[ptrG g, v] w fun e w' => ∃ v', e = .returned v' ∧ NRp w.heap.size w' v' (doD n dv q).1 ∧ DR w' g gs lo hi n (doD n dv q).2 ∧ Kp (Gd g lo hi) w w' := by
 obtain ⟨f, a, c, p, s, bs, vs, m, o⟩ := q;cases hk : knownB f
 ·
  rw [show doD n dv ⟨f, a, c, p, s, bs, vs, m, o⟩ = refD { dv with msgs := dv.msgs + 1 } f 1 by simp [doD, hk]];exact rdo_fn g gs lo hi n dv f a c p s bs vs m o v w D h hm hk
 ·
  cases hc : countsB ⟨f, a, c, p, s, bs, vs, m, o⟩
  ·
   rw [show doD n dv ⟨f, a, c, p, s, bs, vs, m, o⟩ = refD { dv with msgs := dv.msgs + 1 } f 3 by simp [doD, hk, hc]];exact rdo_cnt g gs lo hi n dv f a c p s bs vs m o v w D h hm hk hc
  ·
   obtain ⟨-, hn, hb, hv, h8⟩ := counts_parts hc;obtain ⟨i1, i2⟩ := ask_i64 hc;cases ht : allThere n ⟨f, a, c, p, s, bs, vs, m, o⟩
   ·
    rw [show doD n dv ⟨f, a, c, p, s, bs, vs, m, o⟩ = refD { dv with msgs := dv.msgs + 1 } f 2 by simp [doD, hk, hc, ht]];cases h1 : fits n (askR ⟨f, a, c, p, s, bs, vs, m, o⟩).1 (askR ⟨f, a, c, p, s, bs, vs, m, o⟩).2.1
    ·
     exact rdo_adr1 g gs lo hi n dv f a c p s bs vs m o v w D h hm hk hc h1 i1
    ·
     rw [allThere, h1, Bool.true_and] at ht;exact rdo_adr2 g gs lo hi n dv f a c p s bs vs m o v w D h hm hk hc h1 ht i1 i2
   ·
    rw [show doD n dv ⟨f, a, c, p, s, bs, vs, m, o⟩ = goD n { dv with msgs := dv.msgs + 1 } ⟨f, a, c, p, s, bs, vs, m, o⟩ by simp [doD, hk, hc, ht]];simp only at hn hb hv h8;rcases known_cases hk with rfl | rfl | rfl | rfl | rfl | rfl | rfl | rfl | rfl | rfl | rfl | rfl
    ·
     exact rdo_1 g gs lo hi n dv a c p s bs vs m o v w D h hm hc ht hn hb hv
    ·
     exact rdo_2 g gs lo hi n dv a c p s bs vs m o v w D h hm hc ht hn hb hv
    ·
     exact rdo_3 g gs lo hi n dv a c p s bs vs m o v w D h hm hc ht hn hb hv
    ·
     exact rdo_4 g gs lo hi n dv a c p s bs vs m o v w D h hm hc ht hn hb hv
    ·
     exact rdo_5 g gs lo hi n dv a c p s bs vs m o v w D h hm hc ht hn hb hv
    ·
     exact rdo_6 g gs lo hi n dv a c p s bs vs m o v w D h hm hc ht hn hb hv
    ·
     exact rdo_8 g gs lo hi n dv a c p s bs vs m o v w D h hm hc ht hn hb hv (h8 rfl)
    ·
     exact rdo_15 g gs lo hi n dv a c p s bs vs m o v w D h hm hc ht hn hb hv
    ·
     exact rdo_16 g gs lo hi n dv a c p s bs vs m o v w D h hm hc ht hn hb hv
    ·
     exact rdo_17 g gs lo hi n dv a c p s bs vs m o v w D h hm hc ht hn hb hv
    ·
     exact rdo_22 g gs lo hi n dv a c p s bs vs m o v w D h hm hc ht hn hb hv
    ·
     exact rdo_23 g gs lo hi n dv a c p s bs vs m o v w D h hm hc ht hn hb hv
theorem DR.ext {w w' : World} {g gs lo hi n : Nat} {d : Dv} (h : DR w g gs lo hi n d) (hb : Bo w w') : DR w' g gs lo hi n d := ⟨h.blk.below hb h.blk.lt, h.sto.ext hb, h.off⟩
theorem rpdu_any (g gs lo hi n : Nat) (dv : Dv) (vb : Value) (b : List UInt8) (w : World) (D : DR w g gs lo hi n dv) (hv : RowF (Gd g lo hi) w vb (b.map bV)) (hbl : b.length ≤ 140737488351232) (hm : 0 ≤ dv.msgs ∧ dv.msgs ≤ 100000000000000000 ∧ 0 ≤ dv.flts ∧ dv.flts ≤ 100000000000000000) :
  Calls Tryz.prog 19 #[ptrG g, vb] w fun e w' => ∃ v', e = .returned v' ∧ w'.ownsRow w.heap.size 5 1 v' (pduD n dv b).1.length ((pduD n dv b).1.map bV) ∧ DR w' g gs lo hi n (pduD n dv b).2 ∧ Kp (Gd g lo hi) w w' := by
 obtain ⟨av, cv, rfl, -⟩ := id hv.1;by_cases h0 : b = []
 ·
  subst h0;rw [show pduD n dv [] = ([], dv) by simp [pduD]];simp only [List.map_nil, List.length_nil] at hv ⊢;go_enter Tryz.func19, Tryz.ntmps19;go_wp2;go_ret;exact ⟨_, rfl, World.ownsRow_nil _ _ _ _, D, Kp.refl _ _⟩
 ·
  have hp : 0 < b.length := lpi.2 h0;have hne : ((b.length : Int) == 0) = false := by rw [beq_eq_false_iff_ne]; omega
  have hp2 : (0 : Int) < (b.length : Int) := by omega
  obtain ⟨-, -, hmx, -⟩ := hv.1.at;unfold maxLen at hmx;simp only [List.length_map] at hv ⊢;by_cases he : readE b = 0
  ·
   have HE := Hh he;rw [show pduD n dv b = (layR (doD n dv (readQ b)).1, (doD n dv (readQ b)).2) by simp [pduD, h0, he]];clear he h0;have C := Hh (read_ref_new _ b w hv.1 hbl);have HV := Hh hv;have HP := Hh hp;have HG : Hid (g < w.heap.size ∧ hi ≤ w.heap.size) := ⟨D.blk.lt, D.sto.top⟩;clear hv hp;go_enter Tryz.func19, Tryz.ntmps19;go_wp2_with fail
   refine C.out.mono ?_;rintro e w1 ⟨v1, rfl, hq, E, nq⟩;obtain ⟨ab, capb, aq, capq, rfl, hq1, hq2⟩ := hq.slices;obtain ⟨vb1, vv1, eq1, hr1, hr2⟩ := hq;simp only [rqV, Ij] at eq1;obtain ⟨rfl, rfl⟩ := eq1;obtain ⟨nb, nv⟩ := nq.parts;have F1 : RowF (Gd g lo hi) w1 _ _ := ⟨hr1, fun _ => newv_off nb HG.out.1 HG.out.2⟩;have F2 : RowF (Gd g lo hi) w1 _ _ := ⟨hr2, fun _ => newv_off nv HG.out.1 HG.out.2⟩;have D1 := D.ext E;have KP := Kp.of_below (F := Gd g lo hi) E;have EB : Bo w1 (w1.alloc (.cells #[J (readQ b).fn, J (readQ b).loc, J (readQ b).cnt, J (readQ b).wat, J (readQ b).sub, .slice ab (readQ b).bits.length capb, .slice aq (readQ b).vals.length capq, wV (readQ b).land, wV (readQ b).lor] tQ)) := aL _ _;have XB := Blk.new w1 tQ [J (readQ b).fn, J (readQ b).loc, J (readQ b).cnt, J (readQ b).wat, J (readQ b).sub, .slice ab (readQ b).bits.length capb, .slice aq (readQ b).vals.length capq, wV (readQ b).land, wV (readQ b).lor];have D2 := D1.ext EB;have K2 := KP.ext EB;have G1 := Hh (F1.ext EB);have G2 := Hh (F2.ext EB);have DH := Hh D2;have KH := Hh K2;have XH := Hh XB;clear C nq nb nv hr1 hr2 F1 F2 D D1 D2 KP K2 XB EB E;rw [HE.out];obtain ⟨x0, x1, x2, x3, x4, x5, x6, x7, x8⟩ := cells9 XH.out;go_wp2_with fail
   clear x0 x1 x2 x3 x4 x5 x6 x7 x8 XH;generalize w1.alloc (.cells #[J (readQ b).fn, J (readQ b).loc, J (readQ b).cnt, J (readQ b).wat, J (readQ b).sub, .slice ab (readQ b).bits.length capb, .slice aq (readQ b).vals.length capq, wV (readQ b).land, wV (readQ b).lor] tQ) = w2 at *;refine (rdo_any g gs lo hi n dv (readQ b) _ w2 DH.out ⟨_, _, rfl, G1.out, G2.out⟩ hm).mono ?_;rintro e w3 ⟨v3, rfl, NR, D3, K3⟩;have K4 := KH.out.then K3 (fun _ _ h => h);clear G1 G2 DH KH K3;go_wp2_with fail
   refine (rlay_ref _ _ w3 NR.is).mono ?_;rintro e w4 ⟨v4, rfl, O4, E4⟩;have D4 := D3.ext E4;have O5 := owns_base O4 K4.size;have K5 := K4.ext E4;clear NR D3 K4 O4 E4;go_wp2;go_ret;exact ⟨_, rfl, O5, D4, K5⟩
  ·
   obtain ⟨kc, hkc⟩ : ∃ k : Int, (if readE b = 15 then 1 else 3) = k := ⟨_, rfl⟩;rw [show pduD n dv b = (layR (refD { dv with msgs := dv.msgs + 1 } (fnOf b) kc).1, (refD { dv with msgs := dv.msgs + 1 } (fnOf b) kc).2) by simp [pduD, h0, he, hkc]];have t1 : (readE b != 0) = true := by simpa using he
   clear h0;obtain ⟨f1, f2, f3, f4⟩ := hm;rcases (show (readE b = 15 ∧ kc = 1) ∨ ((readE b == 15) = false ∧ kc = 3) by
    by_cases h15 : readE b = 15
    ·
     exact .inl ⟨h15, by rw [← hkc, if_pos h15]⟩
    ·
     exact .inr ⟨by simpa using h15, by rw [← hkc, if_neg h15]⟩) with ⟨h15, rfl⟩ | ⟨h15, rfl⟩
   ·
    clear hkc he;have C := Hh (read_ref_new _ b w hv.1 hbl);have HV := Hh hv;have HP := Hh hp;have HG : Hid (g < w.heap.size ∧ hi ≤ w.heap.size) := ⟨D.blk.lt, D.sto.top⟩;clear hv hp;go_enter Tryz.func19, Tryz.ntmps19;go_wp2_with fail
    refine C.out.mono ?_;rintro e w1 ⟨v1, rfl, hq, E, nq⟩;obtain ⟨ab, capb, aq, capq, rfl, hq1, hq2⟩ := hq.slices;obtain ⟨vb1, vv1, eq1, hr1, hr2⟩ := hq;simp only [rqV, Ij] at eq1;obtain ⟨rfl, rfl⟩ := eq1;obtain ⟨nb, nv⟩ := nq.parts;have F1 : RowF (Gd g lo hi) w1 _ _ := ⟨hr1, fun _ => newv_off nb HG.out.1 HG.out.2⟩;have F2 : RowF (Gd g lo hi) w1 _ _ := ⟨hr2, fun _ => newv_off nv HG.out.1 HG.out.2⟩;have D1 := D.ext E;have KP := Kp.of_below (F := Gd g lo hi) E;have EB : Bo w1 (w1.alloc (.cells #[J (readQ b).fn, J (readQ b).loc, J (readQ b).cnt, J (readQ b).wat, J (readQ b).sub, .slice ab (readQ b).bits.length capb, .slice aq (readQ b).vals.length capq, wV (readQ b).land, wV (readQ b).lor] tQ)) := aL _ _;have XB := Blk.new w1 tQ [J (readQ b).fn, J (readQ b).loc, J (readQ b).cnt, J (readQ b).wat, J (readQ b).sub, .slice ab (readQ b).bits.length capb, .slice aq (readQ b).vals.length capq, wV (readQ b).land, wV (readQ b).lor];have D2 := D1.ext EB;have K2 := KP.ext EB;have G1 := Hh (F1.ext EB);have G2 := Hh (F2.ext EB);have DH := Hh D2;have KH := Hh K2;have XH := Hh XB;clear C nq nb nv hr1 hr2 F1 F2 D D1 D2 KP K2 XB EB E;have D2 := DH.out;obtain ⟨ds, dm, df, du⟩ := dv;simp only at f1 f2 f3 f4 D2 ⊢;have q1 : (w1.alloc (.cells #[J (readQ b).fn, J (readQ b).loc, J (readQ b).cnt, J (readQ b).wat, J (readQ b).sub, .slice ab (readQ b).bits.length capb, .slice aq (readQ b).vals.length capq, wV (readQ b).land, wV (readQ b).lor] tQ)).cell? ⟨g, 1, none⟩ = some (J dm) := D2.blk.cell 1;have p1 := D2.blk.frozen 1;have BD := Hh (D2.blk.set 1 (J (dm + 1)));have KS := Kp.set (F := (· = g)) (Kp.refl _ (w1.alloc (.cells #[J (readQ b).fn, J (readQ b).loc, J (readQ b).cnt, J (readQ b).wat, J (readQ b).sub, .slice ab (readQ b).bits.length capb, .slice aq (readQ b).vals.length capq, wV (readQ b).land, wV (readQ b).lor] tQ))) (p := ⟨g, 1, none⟩) (fun _ => rfl) (J (dm + 1));have SS := Hh (D2.sto.kp KS (fun i h e => by subst e; exact D2.off h));have K3 := KH.out.set (p := ⟨g, 1, none⟩) (fun _ => .inl rfl) (J (dm + 1));have R3 := (HV.out.kp K3 (fun _ _ h => h)).1;obtain ⟨-, -, -, hcell⟩ := R3.at;obtain ⟨bb, ob, rfl, hcl⟩ := hcell 0 0 HP.out;have c0 := hcl 0 HP.out;rw [Nat.add_zero] at c0;have HF : Hid (fnOf b = ((b.getD 0 0).toNat : Int)) := rfl;generalize b.getD 0 0 = x at *;have hx := x.toNat_lt;have HO := Hh D2.off;have K3H := Hh K3;clear hcell hcl R3 D2 DH KH G1 G2 XH K3 KS;go_wp2_with fail
    clear q1 p1 c0;generalize (w1.alloc (.cells #[J (readQ b).fn, J (readQ b).loc, J (readQ b).cnt, J (readQ b).wat, J (readQ b).sub, .slice ab (readQ b).bits.length capb, .slice aq (readQ b).vals.length capq, wV (readQ b).land, wV (readQ b).lor] tQ)).setCell ⟨g, 1, none⟩ (J (dm + 1)) = w2 at *;refine (drefuse_any g gs (dm + 1) df du x.toNat 1 w2 BD.out ⟨by omega, by omega⟩).mono ?_;rintro e w3 ⟨rfl, BD3, KK⟩;have S3 := SS.out.kp KK (fun i h e => by subst e; exact HO.out h);have K4 := K3H.out.then KK (fun _ _ h => .inl h);clear BD SS K3H KK;go_wp2_with fail
    refine (rlay_ref _ (refP ((x.toNat : Int) % 128) 1) w3 (ref_rp w3 ((x.toNat : Int) % 128) 1)).mono ?_;rintro e w4 ⟨v4, rfl, O4, E4⟩;have BD4 := BD3.below E4 BD3.lt;have S4 := S3.ext E4;have O5 := owns_base O4 K4.size;have K5 := K4.ext E4;clear K4 O4 E4 BD3 S3;go_wp2;go_ret;rw [HF.out];exact ⟨_, rfl, O5, ⟨BD4, S4, HO.out⟩, K5⟩
   ·
    clear hkc he;have C := Hh (read_ref_new _ b w hv.1 hbl);have HV := Hh hv;have HP := Hh hp;have HG : Hid (g < w.heap.size ∧ hi ≤ w.heap.size) := ⟨D.blk.lt, D.sto.top⟩;clear hv hp;go_enter Tryz.func19, Tryz.ntmps19;go_wp2_with fail
    refine C.out.mono ?_;rintro e w1 ⟨v1, rfl, hq, E, nq⟩;obtain ⟨ab, capb, aq, capq, rfl, hq1, hq2⟩ := hq.slices;obtain ⟨vb1, vv1, eq1, hr1, hr2⟩ := hq;simp only [rqV, Ij] at eq1;obtain ⟨rfl, rfl⟩ := eq1;obtain ⟨nb, nv⟩ := nq.parts;have F1 : RowF (Gd g lo hi) w1 _ _ := ⟨hr1, fun _ => newv_off nb HG.out.1 HG.out.2⟩;have F2 : RowF (Gd g lo hi) w1 _ _ := ⟨hr2, fun _ => newv_off nv HG.out.1 HG.out.2⟩;have D1 := D.ext E;have KP := Kp.of_below (F := Gd g lo hi) E;have EB : Bo w1 (w1.alloc (.cells #[J (readQ b).fn, J (readQ b).loc, J (readQ b).cnt, J (readQ b).wat, J (readQ b).sub, .slice ab (readQ b).bits.length capb, .slice aq (readQ b).vals.length capq, wV (readQ b).land, wV (readQ b).lor] tQ)) := aL _ _;have XB := Blk.new w1 tQ [J (readQ b).fn, J (readQ b).loc, J (readQ b).cnt, J (readQ b).wat, J (readQ b).sub, .slice ab (readQ b).bits.length capb, .slice aq (readQ b).vals.length capq, wV (readQ b).land, wV (readQ b).lor];have D2 := D1.ext EB;have K2 := KP.ext EB;have G1 := Hh (F1.ext EB);have G2 := Hh (F2.ext EB);have DH := Hh D2;have KH := Hh K2;have XH := Hh XB;clear C nq nb nv hr1 hr2 F1 F2 D D1 D2 KP K2 XB EB E;have D2 := DH.out;obtain ⟨ds, dm, df, du⟩ := dv;simp only at f1 f2 f3 f4 D2 ⊢;have q1 : (w1.alloc (.cells #[J (readQ b).fn, J (readQ b).loc, J (readQ b).cnt, J (readQ b).wat, J (readQ b).sub, .slice ab (readQ b).bits.length capb, .slice aq (readQ b).vals.length capq, wV (readQ b).land, wV (readQ b).lor] tQ)).cell? ⟨g, 1, none⟩ = some (J dm) := D2.blk.cell 1;have p1 := D2.blk.frozen 1;have BD := Hh (D2.blk.set 1 (J (dm + 1)));have KS := Kp.set (F := (· = g)) (Kp.refl _ (w1.alloc (.cells #[J (readQ b).fn, J (readQ b).loc, J (readQ b).cnt, J (readQ b).wat, J (readQ b).sub, .slice ab (readQ b).bits.length capb, .slice aq (readQ b).vals.length capq, wV (readQ b).land, wV (readQ b).lor] tQ))) (p := ⟨g, 1, none⟩) (fun _ => rfl) (J (dm + 1));have SS := Hh (D2.sto.kp KS (fun i h e => by subst e; exact D2.off h));have K3 := KH.out.set (p := ⟨g, 1, none⟩) (fun _ => .inl rfl) (J (dm + 1));have R3 := (HV.out.kp K3 (fun _ _ h => h)).1;obtain ⟨-, -, -, hcell⟩ := R3.at;obtain ⟨bb, ob, rfl, hcl⟩ := hcell 0 0 HP.out;have c0 := hcl 0 HP.out;rw [Nat.add_zero] at c0;have HF : Hid (fnOf b = ((b.getD 0 0).toNat : Int)) := rfl;generalize b.getD 0 0 = x at *;have hx := x.toNat_lt;have HO := Hh D2.off;have K3H := Hh K3;clear hcell hcl R3 D2 DH KH G1 G2 XH K3 KS;go_wp2_with fail
    clear q1 p1 c0;generalize (w1.alloc (.cells #[J (readQ b).fn, J (readQ b).loc, J (readQ b).cnt, J (readQ b).wat, J (readQ b).sub, .slice ab (readQ b).bits.length capb, .slice aq (readQ b).vals.length capq, wV (readQ b).land, wV (readQ b).lor] tQ)).setCell ⟨g, 1, none⟩ (J (dm + 1)) = w2 at *;refine (drefuse_any g gs (dm + 1) df du x.toNat 3 w2 BD.out ⟨by omega, by omega⟩).mono ?_;rintro e w3 ⟨rfl, BD3, KK⟩;have S3 := SS.out.kp KK (fun i h e => by subst e; exact HO.out h);have K4 := K3H.out.then KK (fun _ _ h => .inl h);clear BD SS K3H KK;go_wp2_with fail
    refine (rlay_ref _ (refP ((x.toNat : Int) % 128) 3) w3 (ref_rp w3 ((x.toNat : Int) % 128) 3)).mono ?_;rintro e w4 ⟨v4, rfl, O4, E4⟩;have BD4 := BD3.below E4 BD3.lt;have S4 := S3.ext E4;have O5 := owns_base O4 K4.size;have K5 := K4.ext E4;clear K4 O4 E4 BD3 S3;go_wp2;go_ret;rw [HF.out];exact ⟨_, rfl, O5, ⟨BD4, S4, HO.out⟩, K5⟩
theorem same9 (g gs lo hi g2 gs2 lo2 hi2 n : Nat) (dv : Dv) (w : World) (D : DD w g gs lo hi n dv) (R : DR w g2 gs2 lo2 hi2 n dv) :
  Calls Tryz.prog 20 #[ptrG g, ptrG g2] w fun e w' => e = .returned (.bool true) ∧ Bo w w' := by
 have BW := Below.refl w.heap.size w;have hn := D.sto.pos.2;have NC : w.cell? ⟨gs2, 0, none⟩ = some (J n) := by
  obtain ⟨g0, g1, g2', g3, c0, c1, c2, c3, hb, -⟩ := R.sto.rows;exact hb.cell 0
 go_enter Tryz.func20, Tryz.ntmps20;go_wp2_with fail
 refine (vcounts_any g gs dv.msgs dv.flts dv.unit w D.blk).mono ?_;rintro e x1 ⟨rfl, E⟩;replace D := D.ext E;replace R := R.ext E;replace BW := bT BW E;replace NC := cell_b NC E;clear E;have y1 : x1.cell? ⟨g2, 1, none⟩ = some (J dv.msgs) := R.blk.cell 1;have y2 : x1.cell? ⟨g2, 2, none⟩ = some (J dv.flts) := R.blk.cell 2;go_wp2_with fail
 clear y1 y2;refine (vstore_any g gs dv.msgs dv.flts dv.unit x1 D.blk).mono ?_;rintro e w' ⟨rfl, rfl⟩;go_wp2_with fail
 go_loopw [7, 8, 9, 10, 11, 12, 13, 14, 15] (fun s _ _ _ _ _ _ _ _ wr => ∃ k : Nat, k ≤ 4 ∧ s = J k ∧ DD wr g gs lo hi n dv ∧ DR wr g2 gs2 lo2 hi2 n dv ∧ Bo w wr ∧ wr.cell? ⟨gs2, 0, none⟩ = some (J n)) (fun s _ _ _ _ _ _ _ _ _ => 4 - (intOf s).toNat)
 case atStart => exact ⟨0, by omega, rfl, D, R, BW, NC⟩
 case round =>
  clear D R BW NC;obtain ⟨k, hk, rfl, D, R, BW, NC⟩ := hrel;by_cases hlt : k < 4
  ·
   have hlt' : (k : Int) < 4 := by omega
   go_wp2_with fail
   refine c_begin 16 rfl (by kernel_rfl) ?_;have E := (Below.refl wr.heap.size wr).drew;replace D := D.ext E;replace R := R.ext E;replace BW := bT BW E;replace NC := cell_b NC E;clear E;generalize wr.drew = x2 at *;refine c_P trivial 0 rfl ?_;refine c_P trivial 2 rfl ?_;refine c_P trivial 3 rfl ?_;refine c_P trivial 4 rfl ?_;refine c_P trivial 5 rfl ?_;refine c_R (fun w' => Blk w' g2 tD [ptrG gs2, J dv.msgs, J dv.flts, J dv.unit]) R.blk trivial 6 rfl (fun w' hx => by have cc := hx.cell 0; go_simp; with_reducible rfl) ?_;refine c_P ⟨R.blk, trivial⟩ 7 rfl ?_;refine c_P ⟨R.blk, trivial⟩ 8 rfl ?_;refine c_R (fun w' => w'.cell? ⟨gs2, 0, none⟩ = some (J n)) NC ⟨R.blk, trivial⟩ 9 rfl (fun w' hx => by go_simp; with_reducible rfl) ?_;refine c_M 1 (c_O 1 [(9, fun w' => w'.cell? ⟨gs2, 0, none⟩ = some (J n)), (6, fun w' => Blk w' g2 tD [ptrG gs2, J dv.msgs, J dv.flts, J dv.unit])] rfl (fun K hK => ?_));go_wp2_with fail
   refine (vstore_any g gs dv.msgs dv.flts dv.unit x2 D.blk).mono ?_;rintro e w' ⟨rfl, rfl⟩;go_simp;refine hK.out _ _ ⟨NC, R.blk, trivial⟩ ?_;clear K hK;try simp only [Pu]
   refine c_M 10 (c_O 10 [(6, fun w' => Blk w' g2 tD [ptrG gs2, J dv.msgs, J dv.flts, J dv.unit])] rfl (fun K hK => ?_));go_wp2_with fail
   refine (getB_any lo hi gs n dv.s k 0 n x2 D.sto (by unfold i64; omega)).mono ?_;rintro e x3 ⟨vVA, rfl, VA, -, E⟩;go_simp;replace D := D.ext E;replace R := R.ext E;replace BW := bT BW E;replace NC := cell_b NC E;clear E;refine hK.out _ _ ⟨R.blk, trivial⟩ ?_;clear K hK;try simp only [Pu]
   refine c_P ⟨R.blk, trivial⟩ 11 rfl ?_;refine c_P ⟨R.blk, trivial⟩ 12 rfl ?_;refine c_P ⟨R.blk, trivial⟩ 13 rfl ?_;refine c_P ⟨R.blk, trivial⟩ 14 rfl ?_;refine c_P ⟨R.blk, trivial⟩ 15 rfl ?_;refine c_done (by kernel_rfl) ?_;go_wp2_with fail
   refine c_begin 18 rfl (by kernel_rfl) ?_;have E := (Below.refl x3.heap.size x3).drew;replace D := D.ext E;replace R := R.ext E;replace BW := bT BW E;replace NC := cell_b NC E;replace VA := VA.below E;clear E;generalize x3.drew = x4 at *;refine c_P trivial 0 rfl ?_;refine c_P trivial 1 rfl ?_;refine c_P trivial 2 rfl ?_;refine c_R (fun w' => Blk w' g2 tD [ptrG gs2, J dv.msgs, J dv.flts, J dv.unit]) R.blk trivial 3 rfl (fun w' hx => by have cc := hx.cell 0; go_simp; with_reducible rfl) ?_;refine c_P ⟨R.blk, trivial⟩ 4 rfl ?_;refine c_P ⟨R.blk, trivial⟩ 5 rfl ?_;refine c_P ⟨R.blk, trivial⟩ 6 rfl ?_;refine c_P ⟨R.blk, trivial⟩ 7 rfl ?_;refine c_R (fun w' => Blk w' g2 tD [ptrG gs2, J dv.msgs, J dv.flts, J dv.unit]) R.blk ⟨R.blk, trivial⟩ 8 rfl (fun w' hx => by have cc := hx.cell 0; go_simp; with_reducible rfl) ?_;refine c_P ⟨R.blk, R.blk, trivial⟩ 9 rfl ?_;refine c_P ⟨R.blk, R.blk, trivial⟩ 10 rfl ?_;refine c_R (fun w' => w'.cell? ⟨gs2, 0, none⟩ = some (J n)) NC ⟨R.blk, R.blk, trivial⟩ 11 rfl (fun w' hx => by go_simp; with_reducible rfl) ?_;refine c_M 12 (c_O 12 [(8, fun w' => Blk w' g2 tD [ptrG gs2, J dv.msgs, J dv.flts, J dv.unit])] rfl (fun K hK => ?_));go_wp2_with fail
   refine (rgetB_any lo2 hi2 gs2 n dv.s k 0 n x4 R.sto (by unfold i64; omega) (by unfold i64; omega)).mono ?_;rintro e x5 ⟨vVB, rfl, VB, -, E⟩;go_simp;replace D := D.ext E;replace R := R.ext E;replace BW := bT BW E;replace NC := cell_b NC E;replace VA := VA.below E;clear E;refine hK.out _ _ ⟨R.blk, trivial⟩ ?_;clear K hK;try simp only [Pu]
   refine c_P ⟨R.blk, trivial⟩ 13 rfl ?_;refine c_P ⟨R.blk, trivial⟩ 14 rfl ?_;refine c_P ⟨R.blk, trivial⟩ 15 rfl ?_;refine c_P ⟨R.blk, trivial⟩ 16 rfl ?_;refine c_P ⟨R.blk, trivial⟩ 17 rfl ?_;refine c_done (by kernel_rfl) ?_;go_wp2_with fail
   refine c_begin 16 rfl (by kernel_rfl) ?_;have E := (Below.refl x5.heap.size x5).drew;replace D := D.ext E;replace R := R.ext E;replace BW := bT BW E;replace NC := cell_b NC E;replace VA := VA.below E;replace VB := VB.below E;clear E;generalize x5.drew = x6 at *;refine c_P trivial 0 rfl ?_;refine c_P trivial 2 rfl ?_;refine c_P trivial 3 rfl ?_;refine c_P trivial 4 rfl ?_;refine c_P trivial 5 rfl ?_;refine c_R (fun w' => Blk w' g2 tD [ptrG gs2, J dv.msgs, J dv.flts, J dv.unit]) R.blk trivial 6 rfl (fun w' hx => by have cc := hx.cell 0; go_simp; with_reducible rfl) ?_;refine c_P ⟨R.blk, trivial⟩ 7 rfl ?_;refine c_P ⟨R.blk, trivial⟩ 8 rfl ?_;refine c_R (fun w' => w'.cell? ⟨gs2, 0, none⟩ = some (J n)) NC ⟨R.blk, trivial⟩ 9 rfl (fun w' hx => by go_simp; with_reducible rfl) ?_;refine c_M 1 (c_O 1 [(9, fun w' => w'.cell? ⟨gs2, 0, none⟩ = some (J n)), (6, fun w' => Blk w' g2 tD [ptrG gs2, J dv.msgs, J dv.flts, J dv.unit])] rfl (fun K hK => ?_));go_wp2_with fail
   refine (vstore_any g gs dv.msgs dv.flts dv.unit x6 D.blk).mono ?_;rintro e w' ⟨rfl, rfl⟩;go_simp;refine hK.out _ _ ⟨NC, R.blk, trivial⟩ ?_;clear K hK;try simp only [Pu]
   refine c_M 10 (c_O 10 [(6, fun w' => Blk w' g2 tD [ptrG gs2, J dv.msgs, J dv.flts, J dv.unit])] rfl (fun K hK => ?_));go_wp2_with fail
   refine (getV_any lo hi gs n dv.s k 0 n x6 D.sto (by unfold i64; omega)).mono ?_;rintro e x7 ⟨vVC, rfl, VC, -, E⟩;go_simp;replace D := D.ext E;replace R := R.ext E;replace BW := bT BW E;replace NC := cell_b NC E;replace VA := VA.below E;replace VB := VB.below E;clear E;refine hK.out _ _ ⟨R.blk, trivial⟩ ?_;clear K hK;try simp only [Pu]
   refine c_P ⟨R.blk, trivial⟩ 11 rfl ?_;refine c_P ⟨R.blk, trivial⟩ 12 rfl ?_;refine c_P ⟨R.blk, trivial⟩ 13 rfl ?_;refine c_P ⟨R.blk, trivial⟩ 14 rfl ?_;refine c_P ⟨R.blk, trivial⟩ 15 rfl ?_;refine c_done (by kernel_rfl) ?_;go_wp2_with fail
   refine c_begin 18 rfl (by kernel_rfl) ?_;have E := (Below.refl x7.heap.size x7).drew;replace D := D.ext E;replace R := R.ext E;replace BW := bT BW E;replace NC := cell_b NC E;replace VA := VA.below E;replace VB := VB.below E;replace VC := VC.below E;clear E;generalize x7.drew = x8 at *;refine c_P trivial 0 rfl ?_;refine c_P trivial 1 rfl ?_;refine c_P trivial 2 rfl ?_;refine c_R (fun w' => Blk w' g2 tD [ptrG gs2, J dv.msgs, J dv.flts, J dv.unit]) R.blk trivial 3 rfl (fun w' hx => by have cc := hx.cell 0; go_simp; with_reducible rfl) ?_;refine c_P ⟨R.blk, trivial⟩ 4 rfl ?_;refine c_P ⟨R.blk, trivial⟩ 5 rfl ?_;refine c_P ⟨R.blk, trivial⟩ 6 rfl ?_;refine c_P ⟨R.blk, trivial⟩ 7 rfl ?_;refine c_R (fun w' => Blk w' g2 tD [ptrG gs2, J dv.msgs, J dv.flts, J dv.unit]) R.blk ⟨R.blk, trivial⟩ 8 rfl (fun w' hx => by have cc := hx.cell 0; go_simp; with_reducible rfl) ?_;refine c_P ⟨R.blk, R.blk, trivial⟩ 9 rfl ?_;refine c_P ⟨R.blk, R.blk, trivial⟩ 10 rfl ?_;refine c_R (fun w' => w'.cell? ⟨gs2, 0, none⟩ = some (J n)) NC ⟨R.blk, R.blk, trivial⟩ 11 rfl (fun w' hx => by go_simp; with_reducible rfl) ?_;refine c_M 12 (c_O 12 [(8, fun w' => Blk w' g2 tD [ptrG gs2, J dv.msgs, J dv.flts, J dv.unit])] rfl (fun K hK => ?_));go_wp2_with fail
   refine (rgetV_any lo2 hi2 gs2 n dv.s k 0 n x8 R.sto (by unfold i64; omega) (by unfold i64; omega)).mono ?_;rintro e x9 ⟨vVD, rfl, VD, -, E⟩;go_simp;replace D := D.ext E;replace R := R.ext E;replace BW := bT BW E;replace NC := cell_b NC E;replace VA := VA.below E;replace VB := VB.below E;replace VC := VC.below E;clear E;refine hK.out _ _ ⟨R.blk, trivial⟩ ?_;clear K hK;try simp only [Pu]
   refine c_P ⟨R.blk, trivial⟩ 13 rfl ?_;refine c_P ⟨R.blk, trivial⟩ 14 rfl ?_;refine c_P ⟨R.blk, trivial⟩ 15 rfl ?_;refine c_P ⟨R.blk, trivial⟩ 16 rfl ?_;refine c_P ⟨R.blk, trivial⟩ 17 rfl ?_;refine c_done (by kernel_rfl) ?_;go_wp2_with fail
   refine (booksameB _ _ (getB n dv.s k 0 n) x9 VA VB).mono ?_;rintro e w' ⟨rfl, nq, rfl⟩;have E : Bo x9 (x9.drewN nq) := below_drewn0 _ _ _;replace D := D.ext E;replace R := R.ext E;replace BW := bT BW E;replace NC := cell_b NC E;replace VA := VA.below E;replace VB := VB.below E;replace VC := VC.below E;replace VD := VD.below E;clear E;generalize x9.drewN nq = x10 at *;go_wp2_with fail
   refine (booksameV _ _ (getV n dv.s k 0 n) x10 VC VD).mono ?_;rintro e w' ⟨rfl, nq, rfl⟩;have E : Bo x10 (x10.drewN nq) := below_drewn0 _ _ _;replace D := D.ext E;replace R := R.ext E;replace BW := bT BW E;replace NC := cell_b NC E;replace VA := VA.below E;replace VB := VB.below E;replace VC := VC.below E;replace VD := VD.below E;clear E;generalize x10.drewN nq = x11 at *;have HD := Hh D;have HR := Hh R;have HB := Hh BW;have HN := Hh NC;clear D R BW NC VA VB VC VD;go_wp2;exact ⟨⟨k + 1, hlt, by simp, HD.out, HR.out, HB.out, HN.out⟩, by simp only [intOf]; omega⟩
  ·
   have hlt' : ¬ (k : Int) < 4 := by omega
   have HB := Hh BW;clear D R BW NC;go_wp2;go_ret;exact ⟨rfl, HB.out⟩
end Go.Proofs.YtdihcdphgiaepaaGreat
