/- Contracts of reply.listed, asked, others, echo, echoed, known, slices.Clone. -/
import Derived.Deep.Cut
import Derived.Test.YtdihcdphgiaepaaGreatZZ17
import Derived.Test.YtdihcdphgiaepaaGreatZZ24
import Derived.Test.YtdihcdphgiaepaaGreatZZ8
namespace Go.Proofs.YtdihcdphgiaepaaGreat
open Go.RowKit
set_option maxRecDepth 100000 in
set_option maxHeartbeats 4000000 in
theorem vdo_gen (g gs lo hi n : Nat) (dv : Dv) (f a c p s : Int) (bs : List Bool) (vs : List UInt16) (m o : UInt16) (v : Value) (w : World) (D : DD w g gs lo hi n dv) (h : IsRqF (Gd g lo hi) w v ⟨f, a, c, p, s, bs, vs, m, o⟩) (hm : 0 ≤ dv.msgs ∧ dv.msgs ≤ 100000000000000000 ∧ 0 ≤ dv.flts ∧ dv.flts ≤ 100000000000000000)
  (hc : countsB ⟨f, a, c, p, s, bs, vs, m, o⟩ = true) (X : Rp × Dv) (F : Nat) (hent : ∀ args w, (callFunc F args).run Tryz.prog w = .ok (.enter F args) w) (hdeed : ∀ w, Calls Tryz.prog 47 #[.int .i64 f] w fun e w' => e = .returned (.func (.func F) #[] #[]) ∧ Below w.heap.size w w') (hact : ∀ (v : Value) (w : World), DD w g gs lo hi n ⟨dv.s, dv.msgs + 1, dv.flts, dv.unit⟩ → IsRqF (Gd g lo hi) w v ⟨f, a, c, p, s, bs, vs, m, o⟩ → Calls Tryz.prog F #[ptrG g, v] w fun e w' => ∃ v', e = .returned v' ∧ NRp w.heap.size w' v' X.1 ∧ DD w' g gs lo hi n X.2 ∧ Kp (Gd g lo hi) w w') :
  Calls Tryz.prog 17 #[ptrG g, v] w fun e w' => ∃ v', e = .returned v' ∧ NRp w.heap.size w' v' (X).1 ∧ DD w' g gs lo hi n (X).2 ∧ Kp (Gd g lo hi) w w' := by
 obtain ⟨ab, capb, av, capv, rfl, hl1, hl2, rb, rv⟩ := h.slices;clear h;have R1 := hidden rb;have R2 := hidden rv;clear rb rv;simp only at hl1 hl2 R1 R2 ⊢;have HR : Hid (rightE ⟨f, a, c, p, s, bs, vs, m, o⟩ = 0) := by show _ = _; simp [countsB] at hc; exact hc.1
 have HC := hidden hc;have HDE := hidden hdeed;have HAC := hidden hact;have HEN := hidden hent;clear hc hdeed hact hent;have HM := hidden hm;obtain ⟨hb, hs, ho⟩ := D;obtain ⟨s0, ms, fl, un⟩ := dv;simp only at hb hs hm ⊢;obtain ⟨f1, f2, f3, f4⟩ := hm;have HO := hidden ho;have XQ := (Blk.new w tQ [.int .i64 f, .int .i64 a, .int .i64 c, .int .i64 p, .int .i64 s, .slice ab bs.length capb, .slice av vs.length capv, wV m, wV o]).alloc (.cells zsP.toArray tP);have BZ := Blk.new (w.alloc (.cells #[.int .i64 f, .int .i64 a, .int .i64 c, .int .i64 p, .int .i64 s, .slice ab bs.length capb, .slice av vs.length capv, wV m, wV o] tQ)) tP zsP;rw [World.size_alloc] at BZ;have E0 : Below w.heap.size w ((w.alloc (.cells #[.int .i64 f, .int .i64 a, .int .i64 c, .int .i64 p, .int .i64 s, .slice ab bs.length capb, .slice av vs.length capv, wV m, wV o] tQ)).alloc (.cells zsP.toArray tP)) := ((Below.refl w.heap.size w).alloc (Nat.le_refl _) _).alloc (by simp) _;have HL : Hid (g < w.heap.size ∧ hi ≤ w.heap.size) := ⟨hb.lt, hs.top⟩;have BD := hb.below E0 hb.lt;have S := hs.ext E0;have KP := Kp.of_below (F := Gd g lo hi) E0;clear E0 hb hs ho;have XH := hidden XQ;have ZH := hidden BZ;have DH := hidden BD;have SH := hidden S;have KH := hidden KP;clear XQ BZ BD S KP;go_enter Tryz.func17, Tryz.ntmps17;go_upto_region 1 with fail
 have XQ := XH.out;have BZ := ZH.out;have BD := DH.out;have S := SH.out;have KP := KH.out;clear XH ZH DH SH KH;obtain ⟨b3, hb3⟩ : ∃ b, b = w.heap.size := ⟨_, rfl⟩;rw [← hb3] at XQ BZ HL ⊢;have HB := hidden hb3;clear hb3;obtain ⟨b4, hb4⟩ : ∃ b, b = b3 + 1 := ⟨_, rfl⟩;rw [← hb4] at BZ ⊢;replace HL : Hid (g < b3 ∧ hi ≤ b3 ∧ b4 = b3 + 1 ∧ b3 = w.heap.size) := ⟨HL.out.1, HL.out.2, hb4, HB.out⟩;clear hb4 HB;generalize (w.alloc (.cells #[.int .i64 f, .int .i64 a, .int .i64 c, .int .i64 p, .int .i64 s, .slice ab bs.length capb, .slice av vs.length capv, wV m, wV o] tQ)).alloc (.cells zsP.toArray tP) = w1 at *;have u1 : w1.cell? ⟨g, 1, none⟩ = some (.int .i64 ms) := BD.cell 1;have uf := BD.frozen 1;go_upto_region 2 with fail
 clear u1 uf;have KS : Kp (· = g) w1 (w1.setCell ⟨g, 1, none⟩ (.int .i64 (ms + 1))) := Kp.set (F := (· = g)) (Kp.refl _ w1) (p := ⟨g, 1, none⟩) (fun _ => rfl) (.int .i64 (ms + 1));replace XQ := XQ.kp KS (by have := HL.out; omega);replace BZ := BZ.kp KS (by have := HL.out; omega);replace BD := BD.set 1 (.int .i64 (ms + 1));replace S := S.kp KS (fun i h e => by subst e; exact HO.out h);replace KP := KP.set (p := ⟨g, 1, none⟩) (fun _ => .inl rfl) (.int .i64 (ms + 1));clear KS;generalize w1.setCell ⟨g, 1, none⟩ (.int .i64 (ms + 1)) = w2 at *;obtain ⟨x0, x1, x2, x3, x4, x5, x6, x7, x8⟩ := cells9 XQ;go_wp2_with fail
 clear x0 x1 x2 x3 x4 x5 x6 x7 x8;refine (right_pdu _ ⟨f, a, c, p, s, bs, vs, m, o⟩ w2 ⟨_, _, rfl, (R1.out.kp KP (fun _ _ h => h)).1, (R2.out.kp KP (fun _ _ h => h)).1⟩).mono ?_;rintro e w3 ⟨rfl, E⟩;replace XQ := XQ.below E XQ.lt;replace BZ := BZ.below E BZ.lt;replace BD := BD.below E BD.lt;replace S := S.ext E;replace KP := KP.ext E;clear E;rw [HR.out];obtain ⟨x0, x1, x2, x3, x4, x5, x6, x7, x8⟩ := cells9 XQ;go_wp2_with fail
 clear x0 x1 x2 x3 x4 x5 x6 x7 x8;refine (counts_pdu _ ⟨f, a, c, p, s, bs, vs, m, o⟩ w3 ⟨_, _, rfl, (R1.out.kp KP (fun _ _ h => h)).1, (R2.out.kp KP (fun _ _ h => h)).1⟩).mono ?_;rintro e w4 ⟨rfl, E⟩;rw [HC.out];replace XQ := XQ.below E XQ.lt;replace BZ := BZ.below E BZ.lt;replace BD := BD.below E BD.lt;replace S := S.ext E;replace KP := KP.ext E;clear E;go_wp2_with fail
 refine c_begin 7 rfl (by kernel_rfl) ?_;have EA := (Below.refl w4.heap.size w4).drew;replace XQ := XQ.below EA XQ.lt;replace BZ := BZ.below EA BZ.lt;replace BD := BD.below EA BD.lt;replace S := S.ext EA;replace KP := KP.ext EA;clear EA;generalize w4.drew = w5 at *;refine c_P trivial 0 rfl ?_;refine c_R (fun w' => Blk w' b3 tQ [.int .i64 f, .int .i64 a, .int .i64 c, .int .i64 p, .int .i64 s, .slice ab bs.length capb, .slice av vs.length capv, wV m, wV o]) XQ trivial 1 rfl (fun w' hx => by have cc := hx.cell 0; go_simp; with_reducible rfl) ?_;refine c_P ⟨XQ, trivial⟩ 3 rfl ?_;refine c_R (fun w' => Blk w' b3 tQ [.int .i64 f, .int .i64 a, .int .i64 c, .int .i64 p, .int .i64 s, .slice ab bs.length capb, .slice av vs.length capv, wV m, wV o]) XQ ⟨XQ, trivial⟩ 4 rfl (fun w' hx => by obtain ⟨x0, x1, x2, x3, x4, x5, x6, x7, x8⟩ := cells9 hx; go_simp; with_reducible rfl) ?_;refine c_move 2 (by kernel_rfl) (c_op 2 [(4, fun w' => Blk w' b3 tQ [.int .i64 f, .int .i64 a, .int .i64 c, .int .i64 p, .int .i64 s, .slice ab bs.length capb, .slice av vs.length capv, wV m, wV o])] (by kernel_rfl) rfl (by kernel_rfl) (fun K hK => ?_));go_wp2_with fail
 refine (HDE.out w5).mono ?_;rintro e w6 ⟨rfl, E⟩;go_simp;replace XQ := XQ.below E XQ.lt;replace BZ := BZ.below E BZ.lt;replace BD := BD.below E BD.lt;replace S := S.ext E;replace KP := KP.ext E;clear E;refine hK.out _ _ ⟨XQ, trivial⟩ ?_;clear K hK;try simp only [Act.put, PuA, PuB, PuC]
 refine c_move 5 (by kernel_rfl) (c_op 5 [] (by kernel_rfl) rfl (by kernel_rfl) (fun K hK => ?_));have HZ : Hid (b4 < w6.heap.size) := BZ.lt;go_wp2_with fail
 rw [HEN.out];go_wp2_with fail
 refine (HAC.out _ w6 ⟨BD, S, HO.out⟩ ⟨_, _, rfl, R1.out.kp KP (fun _ _ h => h), R2.out.kp KP (fun _ _ h => h)⟩).mono ?_;rintro e wd ⟨v', rfl, ⟨vb, vv, vd, rfl, ⟨NB, NV, ND⟩, nb, nv, nd⟩, D2, KK⟩;have BZ := BZ.kp KK (gd_no (by have := HL.out; omega) (by have := HL.out; omega));replace KP := KP.then KK (fun _ _ h => h);obtain ⟨⟨rf, rc, ra, rn, rs, rb, rv, rm, ro, rd⟩, dv2⟩ := X;simp only at NB NV ND D2 ⊢;have nb' : Hid (∀ k, vb.ownBlock = some k → b4 < k) := fun k hk => by have := nb k hk; have := HL.out; have := HZ.out; omega
 replace nb : Hid (NwV w.heap.size vb) := nb.mono (by have := HL.out; have := HZ.out; omega);have nv' : Hid (∀ k, vv.ownBlock = some k → b4 < k) := fun k hk => by have := nv k hk; have := HL.out; have := HZ.out; omega
 replace nv : Hid (NwV w.heap.size vv) := nv.mono (by have := HL.out; have := HZ.out; omega);have nd' : Hid (∀ k, vd.ownBlock = some k → b4 < k) := fun k hk => by have := nd k hk; have := HL.out; have := HZ.out; omega
 replace nd : Hid (NwV w.heap.size vd) := nd.mono (by have := HL.out; have := HZ.out; omega);clear KK XQ;obtain ⟨avb, cvb, rfl, -⟩ := id NB;obtain ⟨avv, cvv, rfl, -⟩ := id NV;obtain ⟨avd, cvd, rfl, -⟩ := id ND;simp only [List.length_map] at NB NV ND nb nv nd nb' nv' nd' ⊢;have HNB := hidden NB;have HNV := hidden NV;have HND := hidden ND;have HD2 := hidden D2;clear NB NV ND D2;go_simp;refine hK.out _ _ trivial ?_;clear K hK;try simp only [Act.put, PuA, PuB, PuC]
 refine c_move 6 (by kernel_rfl) (c_op 6 [] (by kernel_rfl) rfl (by kernel_rfl) (fun K hK => ?_));obtain ⟨z0, z1, z2, z3, z4, z5, z6, z7, z8, z9⟩ := cells10 BZ;have yz := fun i => BZ.frozen i;go_simp;clear z0 z1 z2 z3 z4 z5 z6 z7 z8 z9 yz;obtain ⟨wl, hwl, BF, PN, PK⟩ := put10 BZ rfl (.int .i64 rf) (.int .i64 rc) (.int .i64 ra) (.int .i64 rn) (.int .i64 rs) (.slice avb rb.length cvb) (.slice avv rv.length cvv) (wV rm) (wV ro) (.slice avd rd.length cvd);rw [hwl];clear hwl;have KS := PK _ _ (Kp.refl (· = b4) wd) (fun _ => rfl);replace KP := PK _ _ KP (fun h => by have := HL.out; omega);have D2 := HD2.out.kp KS (fun i x e => by subst e; exact gd_no (by have := HL.out; omega) (by have := HL.out; omega) x);have NB := HNB.out.kp KS (fun k hk e => by have := nb'.out k hk; omega);have NV := HNV.out.kp KS (fun k hk e => by have := nv'.out k hk; omega);have ND := HND.out.kp KS (fun k hk e => by have := nd'.out k hk; omega);clear PN PK KS BZ HNB HNV HND HD2;refine hK.out _ _ trivial ?_;clear K hK;try simp only [Act.put, PuA, PuB, PuC]
 refine c_done (by kernel_rfl) ?_;go_wp2;obtain ⟨c0, c1, c2, c3, c4, c5, c6, c7, c8, c9⟩ := cells10 BF;clear BF;refine bodyPost_ret (v := _) (by simp [results, Tryz.results17, go_sem, c0, c1, c2, c3, c4, c5, c6, c7, c8, c9]; with_reducible rfl) rfl ?_;exact ⟨_, rfl, ⟨_, _, _, rfl, ⟨NB, NV, ND⟩, nb.out, nv.out, nd.out⟩, D2, KP⟩
set_option maxRecDepth 100000 in
set_option maxHeartbeats 4000000 in
theorem vdo_fn (g gs lo hi n : Nat) (dv : Dv) (f a c p s : Int) (bs : List Bool) (vs : List UInt16) (m o : UInt16) (v : Value) (w : World) (D : DD w g gs lo hi n dv) (h : IsRqF (Gd g lo hi) w v ⟨f, a, c, p, s, bs, vs, m, o⟩) (hm : 0 ≤ dv.msgs ∧ dv.msgs ≤ 100000000000000000 ∧ 0 ≤ dv.flts ∧ dv.flts ≤ 100000000000000000)
  (hk : knownB f = false) :
  Calls Tryz.prog 17 #[ptrG g, v] w fun e w' => ∃ v', e = .returned v' ∧ NRp w.heap.size w' v' (refD ⟨dv.s, dv.msgs + 1, dv.flts, dv.unit⟩ f 1).1 ∧ DD w' g gs lo hi n (refD ⟨dv.s, dv.msgs + 1, dv.flts, dv.unit⟩ f 1).2 ∧ Kp (Gd g lo hi) w w' := by
 obtain ⟨ab, capb, av, capv, rfl, hl1, hl2, rb, rv⟩ := h.slices;clear h;have R1 := hidden rb;have R2 := hidden rv;clear rb rv;simp only at hl1 hl2 R1 R2 ⊢;have HR : Hid (rightE ⟨f, a, c, p, s, bs, vs, m, o⟩ = 15) := by show _ = _; simp [rightE, hk]
 clear hk;unfold refD;have HM := hidden hm;obtain ⟨hb, hs, ho⟩ := D;obtain ⟨s0, ms, fl, un⟩ := dv;simp only at hb hs hm ⊢;obtain ⟨f1, f2, f3, f4⟩ := hm;have HO := hidden ho;have XQ := (Blk.new w tQ [.int .i64 f, .int .i64 a, .int .i64 c, .int .i64 p, .int .i64 s, .slice ab bs.length capb, .slice av vs.length capv, wV m, wV o]).alloc (.cells zsP.toArray tP);have BZ := Blk.new (w.alloc (.cells #[.int .i64 f, .int .i64 a, .int .i64 c, .int .i64 p, .int .i64 s, .slice ab bs.length capb, .slice av vs.length capv, wV m, wV o] tQ)) tP zsP;rw [World.size_alloc] at BZ;have E0 : Below w.heap.size w ((w.alloc (.cells #[.int .i64 f, .int .i64 a, .int .i64 c, .int .i64 p, .int .i64 s, .slice ab bs.length capb, .slice av vs.length capv, wV m, wV o] tQ)).alloc (.cells zsP.toArray tP)) := ((Below.refl w.heap.size w).alloc (Nat.le_refl _) _).alloc (by simp) _;have HL : Hid (g < w.heap.size ∧ hi ≤ w.heap.size) := ⟨hb.lt, hs.top⟩;have BD := hb.below E0 hb.lt;have S := hs.ext E0;have KP := Kp.of_below (F := Gd g lo hi) E0;clear E0 hb hs ho;have XH := hidden XQ;have ZH := hidden BZ;have DH := hidden BD;have SH := hidden S;have KH := hidden KP;clear XQ BZ BD S KP;go_enter Tryz.func17, Tryz.ntmps17;go_upto_region 1 with fail
 have XQ := XH.out;have BZ := ZH.out;have BD := DH.out;have S := SH.out;have KP := KH.out;clear XH ZH DH SH KH;obtain ⟨b3, hb3⟩ : ∃ b, b = w.heap.size := ⟨_, rfl⟩;rw [← hb3] at XQ BZ HL ⊢;have HB := hidden hb3;clear hb3;obtain ⟨b4, hb4⟩ : ∃ b, b = b3 + 1 := ⟨_, rfl⟩;rw [← hb4] at BZ ⊢;replace HL : Hid (g < b3 ∧ hi ≤ b3 ∧ b4 = b3 + 1 ∧ b3 = w.heap.size) := ⟨HL.out.1, HL.out.2, hb4, HB.out⟩;clear hb4 HB;generalize (w.alloc (.cells #[.int .i64 f, .int .i64 a, .int .i64 c, .int .i64 p, .int .i64 s, .slice ab bs.length capb, .slice av vs.length capv, wV m, wV o] tQ)).alloc (.cells zsP.toArray tP) = w1 at *;have u1 : w1.cell? ⟨g, 1, none⟩ = some (.int .i64 ms) := BD.cell 1;have uf := BD.frozen 1;go_upto_region 2 with fail
 clear u1 uf;have KS : Kp (· = g) w1 (w1.setCell ⟨g, 1, none⟩ (.int .i64 (ms + 1))) := Kp.set (F := (· = g)) (Kp.refl _ w1) (p := ⟨g, 1, none⟩) (fun _ => rfl) (.int .i64 (ms + 1));replace XQ := XQ.kp KS (by have := HL.out; omega);replace BZ := BZ.kp KS (by have := HL.out; omega);replace BD := BD.set 1 (.int .i64 (ms + 1));replace S := S.kp KS (fun i h e => by subst e; exact HO.out h);replace KP := KP.set (p := ⟨g, 1, none⟩) (fun _ => .inl rfl) (.int .i64 (ms + 1));clear KS;generalize w1.setCell ⟨g, 1, none⟩ (.int .i64 (ms + 1)) = w2 at *;obtain ⟨x0, x1, x2, x3, x4, x5, x6, x7, x8⟩ := cells9 XQ;go_wp2_with fail
 clear x0 x1 x2 x3 x4 x5 x6 x7 x8;refine (right_pdu _ ⟨f, a, c, p, s, bs, vs, m, o⟩ w2 ⟨_, _, rfl, (R1.out.kp KP (fun _ _ h => h)).1, (R2.out.kp KP (fun _ _ h => h)).1⟩).mono ?_;rintro e w3 ⟨rfl, E⟩;replace XQ := XQ.below E XQ.lt;replace BZ := BZ.below E BZ.lt;replace BD := BD.below E BD.lt;replace S := S.ext E;replace KP := KP.ext E;clear E;rw [HR.out];have x0 : w3.cell? ⟨b3, 0, none⟩ = some (.int .i64 f) := XQ.cell 0;go_wp2_with fail
 clear x0;refine (vrefuse_any g gs (ms + 1) fl un f 1 w3 BD ⟨by omega, by omega⟩).mono ?_;rintro e wd ⟨rfl, BD2, KK⟩;replace BZ := BZ.kp KK (by have := HL.out; omega);replace S := S.kp KK (fun i h e => by subst e; exact HO.out h);replace KP := KP.then KK (fun _ _ h => .inl h);clear BD KK XQ;have BD := BD2;clear BD2;obtain ⟨z0, z1, z2, z3, z4, z5, z6, z7, z8, z9⟩ := cells10 BZ;have yz := fun i => BZ.frozen i;go_wp2;clear z0 z1 z2 z3 z4 z5 z6 z7 z8 z9 yz;obtain ⟨wl, hwl, BF, PN, PK⟩ := put10 BZ rfl (.int .i64 (f % 128)) (.int .i64 1) (.int .i64 0) (.int .i64 0) (.int .i64 0) (.slice none 0 0) (.slice none 0 0) (.int .u16 0) (.int .u16 0) (.slice none 0 0);rw [hwl];clear hwl;have KS := PK _ _ (Kp.refl (· = b4) wd) (fun _ => rfl);replace KP := PK _ _ KP (fun h => by have := HL.out; omega);replace BD := BD.kp KS (by have := HL.out; omega);replace S := S.kp KS (fun i h e => by subst e; exact (fun h => by have h2 := h.2; have := HL.out; omega) h);obtain ⟨c0, c1, c2, c3, c4, c5, c6, c7, c8, c9⟩ := cells10 BF;clear PN PK KS BZ BF;refine bodyPost_ret (v := _) (by simp [results, Tryz.results17, go_sem, c0, c1, c2, c3, c4, c5, c6, c7, c8, c9]; with_reducible rfl) rfl ?_;exact ⟨_, rfl, NRp.ref _ _ _ _, ⟨BD, S, HO.out⟩, KP⟩
set_option maxRecDepth 100000 in
set_option maxHeartbeats 4000000 in
theorem vdo_cnt (g gs lo hi n : Nat) (dv : Dv) (f a c p s : Int) (bs : List Bool) (vs : List UInt16) (m o : UInt16) (v : Value) (w : World) (D : DD w g gs lo hi n dv) (h : IsRqF (Gd g lo hi) w v ⟨f, a, c, p, s, bs, vs, m, o⟩) (hm : 0 ≤ dv.msgs ∧ dv.msgs ≤ 100000000000000000 ∧ 0 ≤ dv.flts ∧ dv.flts ≤ 100000000000000000)
  (hk : knownB f = true) (hc : countsB ⟨f, a, c, p, s, bs, vs, m, o⟩ = false) :
  Calls Tryz.prog 17 #[ptrG g, v] w fun e w' => ∃ v', e = .returned v' ∧ NRp w.heap.size w' v' (refD ⟨dv.s, dv.msgs + 1, dv.flts, dv.unit⟩ f 3).1 ∧ DD w' g gs lo hi n (refD ⟨dv.s, dv.msgs + 1, dv.flts, dv.unit⟩ f 3).2 ∧ Kp (Gd g lo hi) w w' := by
 obtain ⟨ab, capb, av, capv, rfl, hl1, hl2, rb, rv⟩ := h.slices;clear h;have R1 := hidden rb;have R2 := hidden rv;clear rb rv;simp only at hl1 hl2 R1 R2 ⊢;have HR : Hid ((rightE ⟨f, a, c, p, s, bs, vs, m, o⟩ == 15) = false) := by
  show _ = _;rw [beq_eq_false_iff_ne];intro e;unfold rightE at e;rw [if_neg (by simp [hk])] at e
  (repeat' split at e) <;> simp at e
 have HC := hidden hc;clear hk hc;unfold refD;have HM := hidden hm;obtain ⟨hb, hs, ho⟩ := D;obtain ⟨s0, ms, fl, un⟩ := dv;simp only at hb hs hm ⊢;obtain ⟨f1, f2, f3, f4⟩ := hm;have HO := hidden ho;have XQ := (Blk.new w tQ [.int .i64 f, .int .i64 a, .int .i64 c, .int .i64 p, .int .i64 s, .slice ab bs.length capb, .slice av vs.length capv, wV m, wV o]).alloc (.cells zsP.toArray tP);have BZ := Blk.new (w.alloc (.cells #[.int .i64 f, .int .i64 a, .int .i64 c, .int .i64 p, .int .i64 s, .slice ab bs.length capb, .slice av vs.length capv, wV m, wV o] tQ)) tP zsP;rw [World.size_alloc] at BZ;have E0 : Below w.heap.size w ((w.alloc (.cells #[.int .i64 f, .int .i64 a, .int .i64 c, .int .i64 p, .int .i64 s, .slice ab bs.length capb, .slice av vs.length capv, wV m, wV o] tQ)).alloc (.cells zsP.toArray tP)) := ((Below.refl w.heap.size w).alloc (Nat.le_refl _) _).alloc (by simp) _;have HL : Hid (g < w.heap.size ∧ hi ≤ w.heap.size) := ⟨hb.lt, hs.top⟩;have BD := hb.below E0 hb.lt;have S := hs.ext E0;have KP := Kp.of_below (F := Gd g lo hi) E0;clear E0 hb hs ho;have XH := hidden XQ;have ZH := hidden BZ;have DH := hidden BD;have SH := hidden S;have KH := hidden KP;clear XQ BZ BD S KP;go_enter Tryz.func17, Tryz.ntmps17;go_upto_region 1 with fail
 have XQ := XH.out;have BZ := ZH.out;have BD := DH.out;have S := SH.out;have KP := KH.out;clear XH ZH DH SH KH;obtain ⟨b3, hb3⟩ : ∃ b, b = w.heap.size := ⟨_, rfl⟩;rw [← hb3] at XQ BZ HL ⊢;have HB := hidden hb3;clear hb3;obtain ⟨b4, hb4⟩ : ∃ b, b = b3 + 1 := ⟨_, rfl⟩;rw [← hb4] at BZ ⊢;replace HL : Hid (g < b3 ∧ hi ≤ b3 ∧ b4 = b3 + 1 ∧ b3 = w.heap.size) := ⟨HL.out.1, HL.out.2, hb4, HB.out⟩;clear hb4 HB;generalize (w.alloc (.cells #[.int .i64 f, .int .i64 a, .int .i64 c, .int .i64 p, .int .i64 s, .slice ab bs.length capb, .slice av vs.length capv, wV m, wV o] tQ)).alloc (.cells zsP.toArray tP) = w1 at *;have u1 : w1.cell? ⟨g, 1, none⟩ = some (.int .i64 ms) := BD.cell 1;have uf := BD.frozen 1;go_upto_region 2 with fail
 clear u1 uf;have KS : Kp (· = g) w1 (w1.setCell ⟨g, 1, none⟩ (.int .i64 (ms + 1))) := Kp.set (F := (· = g)) (Kp.refl _ w1) (p := ⟨g, 1, none⟩) (fun _ => rfl) (.int .i64 (ms + 1));replace XQ := XQ.kp KS (by have := HL.out; omega);replace BZ := BZ.kp KS (by have := HL.out; omega);replace BD := BD.set 1 (.int .i64 (ms + 1));replace S := S.kp KS (fun i h e => by subst e; exact HO.out h);replace KP := KP.set (p := ⟨g, 1, none⟩) (fun _ => .inl rfl) (.int .i64 (ms + 1));clear KS;generalize w1.setCell ⟨g, 1, none⟩ (.int .i64 (ms + 1)) = w2 at *;obtain ⟨x0, x1, x2, x3, x4, x5, x6, x7, x8⟩ := cells9 XQ;go_wp2_with fail
 clear x0 x1 x2 x3 x4 x5 x6 x7 x8;refine (right_pdu _ ⟨f, a, c, p, s, bs, vs, m, o⟩ w2 ⟨_, _, rfl, (R1.out.kp KP (fun _ _ h => h)).1, (R2.out.kp KP (fun _ _ h => h)).1⟩).mono ?_;rintro e w3 ⟨rfl, E⟩;replace XQ := XQ.below E XQ.lt;replace BZ := BZ.below E BZ.lt;replace BD := BD.below E BD.lt;replace S := S.ext E;replace KP := KP.ext E;clear E;generalize rightE ⟨f, a, c, p, s, bs, vs, m, o⟩ = re at HR ⊢;have hr : (re == 15) = false := HR.out;obtain ⟨x0, x1, x2, x3, x4, x5, x6, x7, x8⟩ := cells9 XQ;go_wp2_with fail
 clear x0 x1 x2 x3 x4 x5 x6 x7 x8;refine (counts_pdu _ ⟨f, a, c, p, s, bs, vs, m, o⟩ w3 ⟨_, _, rfl, (R1.out.kp KP (fun _ _ h => h)).1, (R2.out.kp KP (fun _ _ h => h)).1⟩).mono ?_;rintro e w4 ⟨rfl, E⟩;rw [HC.out];replace XQ := XQ.below E XQ.lt;replace BZ := BZ.below E BZ.lt;replace BD := BD.below E BD.lt;replace S := S.ext E;replace KP := KP.ext E;clear E;have x0 : w4.cell? ⟨b3, 0, none⟩ = some (.int .i64 f) := XQ.cell 0;go_wp2_with fail
 clear x0;refine (vrefuse_any g gs (ms + 1) fl un f 3 w4 BD ⟨by omega, by omega⟩).mono ?_;rintro e wd ⟨rfl, BD2, KK⟩;replace BZ := BZ.kp KK (by have := HL.out; omega);replace S := S.kp KK (fun i h e => by subst e; exact HO.out h);replace KP := KP.then KK (fun _ _ h => .inl h);clear BD KK XQ;have BD := BD2;clear BD2;obtain ⟨z0, z1, z2, z3, z4, z5, z6, z7, z8, z9⟩ := cells10 BZ;have yz := fun i => BZ.frozen i;go_wp2;clear z0 z1 z2 z3 z4 z5 z6 z7 z8 z9 yz;obtain ⟨wl, hwl, BF, PN, PK⟩ := put10 BZ rfl (.int .i64 (f % 128)) (.int .i64 3) (.int .i64 0) (.int .i64 0) (.int .i64 0) (.slice none 0 0) (.slice none 0 0) (.int .u16 0) (.int .u16 0) (.slice none 0 0);rw [hwl];clear hwl;have KS := PK _ _ (Kp.refl (· = b4) wd) (fun _ => rfl);replace KP := PK _ _ KP (fun h => by have := HL.out; omega);replace BD := BD.kp KS (by have := HL.out; omega);replace S := S.kp KS (fun i h e => by subst e; exact (fun h => by have h2 := h.2; have := HL.out; omega) h);obtain ⟨c0, c1, c2, c3, c4, c5, c6, c7, c8, c9⟩ := cells10 BF;clear PN PK KS BZ BF;refine bodyPost_ret (v := _) (by simp [results, Tryz.results17, go_sem, c0, c1, c2, c3, c4, c5, c6, c7, c8, c9]; with_reducible rfl) rfl ?_;exact ⟨_, rfl, NRp.ref _ _ _ _, ⟨BD, S, HO.out⟩, KP⟩
theorem enter9 {P : Program} {f : FuncId} {fn : Func} {c : Code} (hf : P.funcs[f]? = some fn) (hname : (fn.name == "runtime.NumGoroutine") = false) (hb : fn.body = some c) (args : Array Value) (w : World) : (callFunc f args).run P w = .ok (.enter f args) w := by
 have h1 : fn.name ≠ "runtime.NumGoroutine" := by simpa using hname
 simp [callFunc, hf, h1, hb]
set_option maxRecDepth 100000 in
theorem vdo_any (g gs lo hi n : Nat) (dv : Dv) (q : Rq) (v : Value) (w : World) (D : DD w g gs lo hi n dv) (h : IsRqF (Gd g lo hi) w v q) (hm : 0 ≤ dv.msgs ∧ dv.msgs ≤ 100000000000000000 ∧ 0 ≤ dv.flts ∧ dv.flts ≤ 100000000000000000) (hu : 0 ≤ dv.unit ∧ dv.unit ≤ 255) :
  Calls Tryz.prog 17 #[ptrG g, v] w fun e w' => ∃ v', e = .returned v' ∧ NRp w.heap.size w' v' (doD n dv q).1 ∧ DD w' g gs lo hi n (doD n dv q).2 ∧ Kp (Gd g lo hi) w w' := by
 obtain ⟨f, a, c, p, s, bs, vs, m, o⟩ := q;cases hk : knownB f
 ·
  rw [show doD n dv ⟨f, a, c, p, s, bs, vs, m, o⟩ = refD ⟨dv.s, dv.msgs + 1, dv.flts, dv.unit⟩ f 1 by simp [doD, hk]];exact vdo_fn g gs lo hi n dv f a c p s bs vs m o v w D h hm hk
 ·
  cases hc : countsB ⟨f, a, c, p, s, bs, vs, m, o⟩
  ·
   rw [show doD n dv ⟨f, a, c, p, s, bs, vs, m, o⟩ = refD ⟨dv.s, dv.msgs + 1, dv.flts, dv.unit⟩ f 3 by simp [doD, hk, hc]];exact vdo_cnt g gs lo hi n dv f a c p s bs vs m o v w D h hm hk hc
  ·
   rw [doD_act (q := ⟨f, a, c, p, s, bs, vs, m, o⟩) hk hc];rcases known_cases hk with rfl | rfl | rfl | rfl | rfl | rfl | rfl | rfl | rfl | rfl | rfl | rfl
   all_goals have hm2 : 0 ≤ dv.msgs + 1 ∧ dv.msgs + 1 ≤ 100000000000000001 ∧ 0 ≤ dv.flts ∧ dv.flts ≤ 100000000000000001 := by omega
   ·
    exact vdo_gen g gs lo hi n dv 1 a c p s bs vs m o v w D h hm hc _ 91 (enter9 Tryz.func91 (by kernel_rfl) rfl) deed_1 (fun v w D h => vact_1 g gs lo hi n ⟨dv.s, dv.msgs + 1, dv.flts, dv.unit⟩ a c p s bs vs m o v w D h hm2 hc _ rfl)
   ·
    exact vdo_gen g gs lo hi n dv 2 a c p s bs vs m o v w D h hm hc _ 92 (enter9 Tryz.func92 (by kernel_rfl) rfl) deed_2 (fun v w D h => vact_2 g gs lo hi n ⟨dv.s, dv.msgs + 1, dv.flts, dv.unit⟩ a c p s bs vs m o v w D h hm2 hc _ rfl)
   ·
    exact vdo_gen g gs lo hi n dv 3 a c p s bs vs m o v w D h hm hc _ 93 (enter9 Tryz.func93 (by kernel_rfl) rfl) deed_3 (fun v w D h => vact_3 g gs lo hi n ⟨dv.s, dv.msgs + 1, dv.flts, dv.unit⟩ a c p s bs vs m o v w D h hm2 hc _ rfl)
   ·
    exact vdo_gen g gs lo hi n dv 4 a c p s bs vs m o v w D h hm hc _ 94 (enter9 Tryz.func94 (by kernel_rfl) rfl) deed_4 (fun v w D h => vact_4 g gs lo hi n ⟨dv.s, dv.msgs + 1, dv.flts, dv.unit⟩ a c p s bs vs m o v w D h hm2 hc _ rfl)
   ·
    exact vdo_gen g gs lo hi n dv 5 a c p s bs vs m o v w D h hm hc _ 95 (enter9 Tryz.func95 (by kernel_rfl) rfl) deed_5 (fun v w D h => vact_5 g gs lo hi n ⟨dv.s, dv.msgs + 1, dv.flts, dv.unit⟩ a c p s bs vs m o v w D h hm2 hc _ rfl)
   ·
    exact vdo_gen g gs lo hi n dv 6 a c p s bs vs m o v w D h hm hc _ 96 (enter9 Tryz.func96 (by kernel_rfl) rfl) deed_6 (fun v w D h => vact_6 g gs lo hi n ⟨dv.s, dv.msgs + 1, dv.flts, dv.unit⟩ a c p s bs vs m o v w D h hm2 hc _ rfl)
   ·
    exact vdo_gen g gs lo hi n dv 8 a c p s bs vs m o v w D h hm hc _ 97 (enter9 Tryz.func97 (by kernel_rfl) rfl) deed_8 (fun v w D h => vact_8 g gs lo hi n ⟨dv.s, dv.msgs + 1, dv.flts, dv.unit⟩ a c p s bs vs m o v w D h hm2 hc _ rfl)
   ·
    exact vdo_gen g gs lo hi n dv 15 a c p s bs vs m o v w D h hm hc _ 98 (enter9 Tryz.func98 (by kernel_rfl) rfl) deed_15 (fun v w D h => vact_15 g gs lo hi n ⟨dv.s, dv.msgs + 1, dv.flts, dv.unit⟩ a c p s bs vs m o v w D h hm2 hc _ rfl)
   ·
    exact vdo_gen g gs lo hi n dv 16 a c p s bs vs m o v w D h hm hc _ 99 (enter9 Tryz.func99 (by kernel_rfl) rfl) deed_16 (fun v w D h => vact_16 g gs lo hi n ⟨dv.s, dv.msgs + 1, dv.flts, dv.unit⟩ a c p s bs vs m o v w D h hm2 hc _ rfl)
   ·
    exact vdo_gen g gs lo hi n dv 17 a c p s bs vs m o v w D h hm hc _ 100 (enter9 Tryz.func100 (by kernel_rfl) rfl) deed_17 (fun v w D h => vact_17 g gs lo hi n ⟨dv.s, dv.msgs + 1, dv.flts, dv.unit⟩ a c p s bs vs m o v w D h hm2 hu hc _ rfl)
   ·
    exact vdo_gen g gs lo hi n dv 22 a c p s bs vs m o v w D h hm hc _ 101 (enter9 Tryz.func101 (by kernel_rfl) rfl) deed_22 (fun v w D h => vact_22 g gs lo hi n ⟨dv.s, dv.msgs + 1, dv.flts, dv.unit⟩ a c p s bs vs m o v w D h hm2 hc _ rfl)
   ·
    exact vdo_gen g gs lo hi n dv 23 a c p s bs vs m o v w D h hm hc _ 102 (enter9 Tryz.func102 (by kernel_rfl) rfl) deed_23 (fun v w D h => vact_23 g gs lo hi n ⟨dv.s, dv.msgs + 1, dv.flts, dv.unit⟩ a c p s bs vs m o v w D h hm2 hc _ rfl)
theorem diag_keeps (d : Dv) (q : Rq) : (diagD d q).2.unit = d.unit ∧ ((diagD d q).2.msgs = d.msgs ∨ (diagD d q).2.msgs = 0) ∧ ((diagD d q).2.flts = d.flts ∨ (diagD d q).2.flts = 0 ∨ (diagD d q).2.flts = d.flts + 1) := by
 rw [diagD];by_cases a1 : q.sub = 0
 ·
  rw [if_pos a1]; simp
 rw [if_neg a1];by_cases a2 : q.sub = 10
 ·
  rw [if_pos a2]; simp
 rw [if_neg a2];by_cases a3 : q.sub = 11 ∨ q.sub = 13 ∨ q.sub = 14
 ·
  rw [if_pos a3];by_cases a4 : q.vals.getD 0 0 ≠ 0
  ·
   rw [if_pos a4]; simp [refD]
  ·
   rw [if_neg a4]; simp
 ·
  rw [if_neg a3]; simp [refD]
theorem go_keeps (n : Nat) (d : Dv) (q : Rq) : (goD n d q).2.unit = d.unit ∧ ((goD n d q).2.msgs = d.msgs ∨ (goD n d q).2.msgs = 0) ∧ ((goD n d q).2.flts = d.flts ∨ (goD n d q).2.flts = 0 ∨ (goD n d q).2.flts = d.flts + 1) := by
 rw [goD];by_cases a0 : q.fn = 1 ∨ q.fn = 2
 ·
  rw [if_pos a0]; simp
 rw [if_neg a0];by_cases a1 : q.fn = 3
 ·
  rw [if_pos a1]; simp
 rw [if_neg a1];by_cases a2 : q.fn = 4
 ·
  rw [if_pos a2]; simp
 rw [if_neg a2];by_cases a3 : q.fn = 5
 ·
  rw [if_pos a3]; simp
 rw [if_neg a3];by_cases a4 : q.fn = 15
 ·
  rw [if_pos a4]; simp
 rw [if_neg a4];by_cases a5 : q.fn = 6
 ·
  rw [if_pos a5]; simp
 rw [if_neg a5];by_cases a6 : q.fn = 16
 ·
  rw [if_pos a6]; simp
 rw [if_neg a6];by_cases a7 : q.fn = 22
 ·
  rw [if_pos a7]; simp
 rw [if_neg a7];by_cases a8 : q.fn = 23
 ·
  rw [if_pos a8]; simp
 rw [if_neg a8];by_cases b8 : q.fn = 8
 ·
  rw [if_pos b8]; exact diag_keeps d q
 rw [if_neg b8];by_cases b17 : q.fn = 17
 ·
  rw [if_pos b17]; simp
 ·
  rw [if_neg b17]; simp
theorem do_keeps (n : Nat) (d : Dv) (q : Rq) (hm : 0 ≤ d.msgs ∧ 0 ≤ d.flts) : (doD n d q).2.unit = d.unit ∧ 0 ≤ (doD n d q).2.msgs ∧ (doD n d q).2.msgs ≤ d.msgs + 1 ∧ 0 ≤ (doD n d q).2.flts ∧ (doD n d q).2.flts ≤ d.flts + 1 := by
 obtain ⟨h1, h2⟩ := hm;unfold doD
 dsimp only
 split
 ·
  simp only [refD, true_and]; omega
 ·
  split
  ·
   simp only [refD, true_and]; omega
  ·
   split
   ·
    simp only [refD, true_and]; omega
   ·
    obtain ⟨a1, a2, a3⟩ := go_keeps n { d with msgs := d.msgs + 1 } q;simp only at a1 a2 a3;refine ⟨a1, ?_⟩;omega
theorem pdu_keeps (n : Nat) (d : Dv) (b : List UInt8) (hm : 0 ≤ d.msgs ∧ 0 ≤ d.flts) : (pduD n d b).2.unit = d.unit ∧ 0 ≤ (pduD n d b).2.msgs ∧ (pduD n d b).2.msgs ≤ d.msgs + 1 ∧ 0 ≤ (pduD n d b).2.flts ∧ (pduD n d b).2.flts ≤ d.flts + 1 := by
 have hk := do_keeps n d (readQ b) hm;obtain ⟨h1, h2⟩ := hm;unfold pduD
 split
 ·
  simp only [true_and]; omega
 ·
  split
  ·
   simp only [refD, true_and]; omega
  ·
   exact hk
set_option maxHeartbeats 1000000 in
theorem listed_rep (v : Value) (r : Rp) (w : World) (h : IsRp w v r) (hk : knownB r.fn = true) :
  Calls Tryz.prog 119 #[v] w fun e w' => e = .returned (.bool (listA r)) ∧ Below w.heap.size w w' := by
 obtain ⟨ab, capb, av, capv, ad, capd, rfl, h1, h2, h3⟩ := h.slices;obtain ⟨f, k, a, c, s, bs, vs, m, o, ds⟩ := r;simp only at h1 h2 h3 hk ⊢;clear h;have B : Hid (∀ o, Below w.heap.size w (w.alloc o)) := fun o => (Below.refl _ _).alloc (Nat.le_refl _) o;rcases known_cases hk with rfl | rfl | rfl | rfl | rfl | rfl | rfl | rfl | rfl | rfl | rfl | rfl
 all_goals
  clear hk;go_enter Tryz.func119, Tryz.ntmps119;go_wp2;go_ret;refine ⟨ret_bool ?_, B.out _⟩;rw [Bool.eq_iff_iff];simp [listA];try omega
def othersA (r : Rp) : Rp :=
 if r.fn = 1 ∨ r.fn = 2 then ⟨0, r.code, r.loc, r.cnt, r.sub, [], r.vals, r.land, r.lor, r.data⟩
 else if r.fn = 3 ∨ r.fn = 4 ∨ r.fn = 23 then ⟨0, r.code, r.loc, r.cnt, r.sub, r.bits, [], r.land, r.lor, r.data⟩
 else if r.fn = 5 then ⟨0, r.code, 0, r.cnt, r.sub, [], r.vals, r.land, r.lor, r.data⟩
 else if r.fn = 6 then ⟨0, r.code, 0, r.cnt, r.sub, r.bits, [], r.land, r.lor, r.data⟩
 else if r.fn = 8 then ⟨0, r.code, r.loc, r.cnt, 0, r.bits, [], r.land, r.lor, r.data⟩
 else if r.fn = 15 ∨ r.fn = 16 then ⟨0, r.code, 0, 0, r.sub, r.bits, r.vals, r.land, r.lor, r.data⟩
 else if r.fn = 17 then ⟨0, r.code, r.loc, r.cnt, r.sub, r.bits, r.vals, r.land, r.lor, []⟩
 else if r.fn = 22 then ⟨0, r.code, 0, r.cnt, r.sub, r.bits, r.vals, 0, 0, r.data⟩
 else ⟨0, r.code, r.loc, r.cnt, r.sub, r.bits, r.vals, r.land, r.lor, r.data⟩
theorem othersA_form (r : Rp) (hc : r.code = 0) (hk : knownB r.fn = true) : othersA r = zeroP ↔ formA r := by
 obtain ⟨f, k, a, c, s, bs, vs, m, o, ds⟩ := r;simp only at hk hc;subst hc;rcases known_cases hk with rfl | rfl | rfl | rfl | rfl | rfl | rfl | rfl | rfl | rfl | rfl | rfl <;> simp [othersA, zeroP, formA, and_assoc]
set_option maxHeartbeats 1000000 in
theorem others_rep (v : Value) (r : Rp) (w : World) (h : IsRp w v r) (hk : knownB r.fn = true) :
  Calls Tryz.prog 117 #[v] w fun e w' => ∃ v', e = .returned v' ∧ IsRp w' v' (othersA r) ∧ Below w.heap.size w w' := by
 obtain ⟨f, k, a, c, s, bs, vs, m, o, ds⟩ := r;obtain ⟨vb, vv, vd, rfl, hb, hv, hd⟩ := h;obtain ⟨ab, capb, rfl, -⟩ := id hb;obtain ⟨av, capv, rfl, -⟩ := id hv;obtain ⟨ad, capd, rfl, -⟩ := id hd;simp only at hb hv hd hk ⊢;rcases known_cases hk with rfl | rfl | rfl | rfl | rfl | rfl | rfl | rfl | rfl | rfl | rfl | rfl
 all_goals
  clear hk;go_enter Tryz.func117, Tryz.ntmps117;go_wp2
 all_goals
  refine bodyPost_ret (v := _) (by simp [results, Tryz.results117, go_sem]; with_reducible rfl) rfl ?_;have hB := fun o1 o2 => ((Below.refl w.heap.size w).alloc (Nat.le_refl _) o1).alloc (by simp) o2;refine ⟨_, rfl, ?_, hB _ _⟩;simp only [List.length_map] at hb hv hd;simp [othersA];refine ⟨_, _, _, rfl, ?_, ?_, ?_⟩
  ·
   first | exact Row.nil _ | exact hb.below (hB _ _)
  ·
   first | exact Row.nil _ | exact hv.below (hB _ _)
  ·
   first | exact Row.nil _ | exact hd.below (hB _ _)
set_option maxHeartbeats 1000000 in
theorem echoed_rep (v : Value) (r : Rp) (w : World) (h : IsRp w v r) :
  Calls Tryz.prog 85 #[v] w fun e w' => ∃ v', e = .returned v' ∧ IsRq w' v' (echoQ r) ∧ Below w.heap.size w w' := by
 obtain ⟨f, k, a, c, s, bs, vs, m, o, ds⟩ := r;obtain ⟨vb, vv, vd, rfl, hb, hv, hd⟩ := h;obtain ⟨ab, capb, rfl, -⟩ := id hb;obtain ⟨av, capv, rfl, -⟩ := id hv;obtain ⟨ad, capd, rfl, -⟩ := id hd;simp only at hb hv hd ⊢;go_enter Tryz.func85, Tryz.ntmps85;go_wp2;refine bodyPost_ret (v := _) (by simp [results, Tryz.results85, go_sem]; with_reducible rfl) rfl ?_;have hB := fun o1 o2 => ((Below.refl w.heap.size w).alloc (Nat.le_refl _) o1).alloc (by simp) o2;refine ⟨_, rfl, ?_, hB _ _⟩;simp only [List.length_map] at hb hv;exact ⟨_, _, rfl, hb.below (hB _ _), hv.below (hB _ _)⟩
def NewP (base : Nat) (v : Value) : Prop := ∃ f k a c s vb vv m o vd, v = rpV f k a c s vb vv m o vd ∧ NewV base vb ∧ NewV base vv ∧ NewV base vd
set_option maxHeartbeats 400000 in
theorem known_rep (f : Int) (w : World) : Calls Tryz.prog 115 #[.int .i64 f] w fun e w' => e = .returned (.bool (knownB f)) ∧ Below w.heap.size w w' := by
 have C := hidden (right_pdu _ ⟨f, 0, 0, 0, 0, [], [], 0, 0⟩ w ⟨_, _, rfl, Row.nil _, Row.nil _⟩);have E : Hid ((rightE ⟨f, 0, 0, 0, 0, [], [], 0, 0⟩ != 15) = knownB f) := by
  show _ = _;cases hk : knownB f
  ·
   simp [rightE, hk]
  ·
   rw [bne_iff_ne];unfold rightE;rw [if_neg (by rw [hk]; simp)]
   split
   ·
    decide
   ·
    split
    ·
     decide
    ·
     split <;> decide
 generalize rightE ⟨f, 0, 0, 0, 0, [], [], 0, 0⟩ = R at *;go_enter Tryz.func115, Tryz.ntmps115;go_wp2_with fail
 refine C.out.mono ?_;rintro e w1 ⟨rfl, B1⟩;go_wp2;go_ret;exact ⟨ret_bool E.out, B1⟩
end Go.Proofs.YtdihcdphgiaepaaGreat
