/- The developers' Do, in part. -/
import Derived.Deep.Cut
import Derived.Test.YtdihcdphgiaepaaZZ36
import Derived.Test.YtdihcdphgiaepaaZZ37
namespace Go.Proofs.Ytdihcdphgiaepaa
open Go.RowKit
set_option maxRecDepth 100000 in
set_option maxHeartbeats 4000000 in
theorem vdo_8 (g gs lo hi n : Nat) (dv : Dv) (a c p s : Int) (bs : List Bool) (vs : List UInt16) (m o : UInt16) (v : Value) (w : World) (D : DD w g gs lo hi n dv) (h : IsRqF (Gd g lo hi) w v ⟨8, a, c, p, s, bs, vs, m, o⟩) (hm : 0 ≤ dv.msgs ∧ dv.msgs ≤ 100000000000000000 ∧ 0 ≤ dv.flts ∧ dv.flts ≤ 100000000000000000)
  (hc : countsB ⟨8, a, c, p, s, bs, vs, m, o⟩ = true) (X : Rp × Dv) (hX : actD n ⟨dv.s, dv.msgs + 1, dv.flts, dv.unit⟩ ⟨8, a, c, p, s, bs, vs, m, o⟩ = X) :
  Calls Try.prog 8 #[ptrG g, v] w fun e w' => ∃ v', e = .returned v' ∧ NRp w.heap.size w' v' (X).1 ∧ DD w' g gs lo hi n (X).2 ∧ Kp (Gd g lo hi) w w' := by
 obtain ⟨ab, capb, av, capv, rfl, hl1, hl2, rb, rv⟩ := h.slices
 clear h
 have R1 := hidden rb
 have R2 := hidden rv
 clear rb rv
 simp only at hl1 hl2 R1 R2 ⊢
 have HR : Hid (rightE ⟨8, a, c, p, s, bs, vs, m, o⟩ = 0) := by show _ = _; simp [countsB] at hc; exact hc.1
 have HC := hidden hc
 have HX := hidden hX
 clear hc hX
 have HM := hidden hm
 obtain ⟨hb, hs, ho⟩ := D
 obtain ⟨s0, ms, fl, un⟩ := dv
 simp only at hb hs hm ⊢
 obtain ⟨f1, f2, f3, f4⟩ := hm
 have HO := hidden ho
 have XQ := (Blk.new w tQ [.int .i64 8, .int .i64 a, .int .i64 c, .int .i64 p, .int .i64 s, .slice ab bs.length capb, .slice av vs.length capv, wV m, wV o]).alloc (.cells zsP.toArray tP)
 have BZ := Blk.new (w.alloc (.cells #[.int .i64 8, .int .i64 a, .int .i64 c, .int .i64 p, .int .i64 s, .slice ab bs.length capb, .slice av vs.length capv, wV m, wV o] tQ)) tP zsP
 rw [World.size_alloc] at BZ
 have E0 : Below w.heap.size w ((w.alloc (.cells #[.int .i64 8, .int .i64 a, .int .i64 c, .int .i64 p, .int .i64 s, .slice ab bs.length capb, .slice av vs.length capv, wV m, wV o] tQ)).alloc (.cells zsP.toArray tP)) := ((Below.refl w.heap.size w).alloc (Nat.le_refl _) _).alloc (by simp) _
 have HL : Hid (g < w.heap.size ∧ hi ≤ w.heap.size) := ⟨hb.lt, hs.top⟩
 have BD := hb.below E0 hb.lt
 have S := hs.ext E0
 have KP := Kp.of_below (F := Gd g lo hi) E0
 clear E0 hb hs ho
 have XH := hidden XQ
 have ZH := hidden BZ
 have DH := hidden BD
 have SH := hidden S
 have KH := hidden KP
 clear XQ BZ BD S KP
 go_enter Try.func8, Try.ntmps8
 go_upto_region 1 with fail
 have XQ := XH.out
 have BZ := ZH.out
 have BD := DH.out
 have S := SH.out
 have KP := KH.out
 clear XH ZH DH SH KH
 obtain ⟨b3, hb3⟩ : ∃ b, b = w.heap.size := ⟨_, rfl⟩
 rw [← hb3] at XQ BZ HL ⊢
 have HB := hidden hb3
 clear hb3
 obtain ⟨b4, hb4⟩ : ∃ b, b = b3 + 1 := ⟨_, rfl⟩
 rw [← hb4] at BZ ⊢
 replace HL : Hid (g < b3 ∧ hi ≤ b3 ∧ b4 = b3 + 1 ∧ b3 = w.heap.size) := ⟨HL.out.1, HL.out.2, hb4, HB.out⟩
 clear hb4 HB
 generalize (w.alloc (.cells #[.int .i64 8, .int .i64 a, .int .i64 c, .int .i64 p, .int .i64 s, .slice ab bs.length capb, .slice av vs.length capv, wV m, wV o] tQ)).alloc (.cells zsP.toArray tP) = w1 at *
 have u1 : w1.cell? ⟨g, 1, none⟩ = some (.int .i64 ms) := BD.cell 1
 have uf := BD.frozen 1
 go_upto_region 2 with fail
 clear u1 uf
 have KS : Kp (· = g) w1 (w1.setCell ⟨g, 1, none⟩ (.int .i64 (ms + 1))) := Kp.set (F := (· = g)) (Kp.refl _ w1) (p := ⟨g, 1, none⟩) (fun _ => rfl) (.int .i64 (ms + 1))
 replace XQ := XQ.kp KS (by have := HL.out; omega)
 replace BZ := BZ.kp KS (by have := HL.out; omega)
 replace BD := BD.set 1 (.int .i64 (ms + 1))
 replace S := S.kp KS (fun i h e => by subst e; exact HO.out h)
 replace KP := KP.set (p := ⟨g, 1, none⟩) (fun _ => .inl rfl) (.int .i64 (ms + 1))
 clear KS
 generalize w1.setCell ⟨g, 1, none⟩ (.int .i64 (ms + 1)) = w2 at *
 obtain ⟨x0, x1, x2, x3, x4, x5, x6, x7, x8⟩ := cells9 XQ
 go_wp2_with fail
 clear x0 x1 x2 x3 x4 x5 x6 x7 x8
 refine (right_pdu _ ⟨8, a, c, p, s, bs, vs, m, o⟩ w2 ⟨_, _, rfl, (R1.out.kp KP (fun _ _ h => h)).1, (R2.out.kp KP (fun _ _ h => h)).1⟩).mono ?_
 rintro e w3 ⟨rfl, E⟩
 replace XQ := XQ.below E XQ.lt
 replace BZ := BZ.below E BZ.lt
 replace BD := BD.below E BD.lt
 replace S := S.ext E
 replace KP := KP.ext E
 clear E
 rw [HR.out]
 obtain ⟨x0, x1, x2, x3, x4, x5, x6, x7, x8⟩ := cells9 XQ
 go_wp2_with fail
 clear x0 x1 x2 x3 x4 x5 x6 x7 x8
 refine (counts_pdu _ ⟨8, a, c, p, s, bs, vs, m, o⟩ w3 ⟨_, _, rfl, (R1.out.kp KP (fun _ _ h => h)).1, (R2.out.kp KP (fun _ _ h => h)).1⟩).mono ?_
 rintro e w4 ⟨rfl, E⟩
 rw [HC.out]
 replace XQ := XQ.below E XQ.lt
 replace BZ := BZ.below E BZ.lt
 replace BD := BD.below E BD.lt
 replace S := S.ext E
 replace KP := KP.ext E
 clear E
 go_wp2_with fail
 refine c_begin 7 rfl (by kernel_rfl) ?_
 have EA := (Below.refl w4.heap.size w4).drew
 replace XQ := XQ.below EA XQ.lt
 replace BZ := BZ.below EA BZ.lt
 replace BD := BD.below EA BD.lt
 replace S := S.ext EA
 replace KP := KP.ext EA
 clear EA
 generalize w4.drew = w5 at *
 refine c_P trivial 0 rfl ?_
 refine c_R (fun w' => Blk w' b3 tQ [.int .i64 8, .int .i64 a, .int .i64 c, .int .i64 p, .int .i64 s, .slice ab bs.length capb, .slice av vs.length capv, wV m, wV o]) XQ trivial 1 rfl (fun w' hx => by have cc := hx.cell 0; go_simp; with_reducible rfl) ?_
 refine c_P ⟨XQ, trivial⟩ 3 rfl ?_
 refine c_R (fun w' => Blk w' b3 tQ [.int .i64 8, .int .i64 a, .int .i64 c, .int .i64 p, .int .i64 s, .slice ab bs.length capb, .slice av vs.length capv, wV m, wV o]) XQ ⟨XQ, trivial⟩ 4 rfl (fun w' hx => by obtain ⟨x0, x1, x2, x3, x4, x5, x6, x7, x8⟩ := cells9 hx; go_simp; with_reducible rfl) ?_
 refine c_move 2 (by kernel_rfl) (c_op 2 [(4, fun w' => Blk w' b3 tQ [.int .i64 8, .int .i64 a, .int .i64 c, .int .i64 p, .int .i64 s, .slice ab bs.length capb, .slice av vs.length capv, wV m, wV o])] (by kernel_rfl) rfl (by kernel_rfl) (fun K hK => ?_))
 go_wp2_with fail
 refine (deed_8 w5).mono ?_
 rintro e w6 ⟨rfl, E⟩
 go_simp
 replace XQ := XQ.below E XQ.lt
 replace BZ := BZ.below E BZ.lt
 replace BD := BD.below E BD.lt
 replace S := S.ext E
 replace KP := KP.ext E
 clear E
 refine hK.out _ _ ⟨XQ, trivial⟩ ?_
 clear K hK
 try simp only [Act.put, PuA, PuB, PuC]
 refine c_move 5 (by kernel_rfl) (c_op 5 [] (by kernel_rfl) rfl (by kernel_rfl) (fun K hK => ?_))
 have HZ : Hid (b4 < w6.heap.size) := BZ.lt
 go_wp2_with fail
 refine (vact_8 g gs lo hi n ⟨s0, ms + 1, fl, un⟩ a c p s bs vs m o _ w6 ⟨BD, S, HO.out⟩ ⟨_, _, rfl, R1.out.kp KP (fun _ _ h => h), R2.out.kp KP (fun _ _ h => h)⟩ (by have h : 0 ≤ ms ∧ ms ≤ 100000000000000000 ∧ 0 ≤ fl ∧ fl ≤ 100000000000000000 := HM.out; show 0 ≤ ms + 1 ∧ ms + 1 ≤ 100000000000000001 ∧ 0 ≤ fl ∧ fl ≤ 100000000000000001; omega) HC.out X HX.out).mono ?_
 clear S BD HX
 rintro e wd ⟨v', rfl, ⟨vb, vv, vd, rfl, ⟨NB, NV, ND⟩, nb, nv, nd⟩, D2, KK⟩
 have BZ := BZ.kp KK (gd_no (by have := HL.out; omega) (by have := HL.out; omega))
 replace KP := KP.then KK (fun _ _ h => h)
 obtain ⟨⟨rf, rc, ra, rn, rs, rb, rv, rm, ro, rd⟩, dv2⟩ := X
 simp only at NB NV ND D2 ⊢
 have nb' : Hid (∀ k, vb.ownBlock = some k → b4 < k) := fun k hk => by have := nb k hk; have := HL.out; have := HZ.out; omega
 replace nb : Hid (NwV w.heap.size vb) := nb.mono (by have := HL.out; have := HZ.out; omega)
 have nv' : Hid (∀ k, vv.ownBlock = some k → b4 < k) := fun k hk => by have := nv k hk; have := HL.out; have := HZ.out; omega
 replace nv : Hid (NwV w.heap.size vv) := nv.mono (by have := HL.out; have := HZ.out; omega)
 have nd' : Hid (∀ k, vd.ownBlock = some k → b4 < k) := fun k hk => by have := nd k hk; have := HL.out; have := HZ.out; omega
 replace nd : Hid (NwV w.heap.size vd) := nd.mono (by have := HL.out; have := HZ.out; omega)
 clear KK XQ
 obtain ⟨avb, cvb, rfl, -⟩ := id NB
 obtain ⟨avv, cvv, rfl, -⟩ := id NV
 obtain ⟨avd, cvd, rfl, -⟩ := id ND
 simp only [List.length_map] at NB NV ND nb nv nd nb' nv' nd' ⊢
 have HNB := hidden NB
 have HNV := hidden NV
 have HND := hidden ND
 have HD2 := hidden D2
 clear NB NV ND D2
 go_simp
 refine hK.out _ _ trivial ?_
 clear K hK
 try simp only [Act.put, PuA, PuB, PuC]
 refine c_move 6 (by kernel_rfl) (c_op 6 [] (by kernel_rfl) rfl (by kernel_rfl) (fun K hK => ?_))
 obtain ⟨z0, z1, z2, z3, z4, z5, z6, z7, z8, z9⟩ := cells10 BZ
 have yz := fun i => BZ.frozen i
 go_simp
 clear z0 z1 z2 z3 z4 z5 z6 z7 z8 z9 yz
 obtain ⟨wl, hwl, BF, PN, PK⟩ := put10 BZ rfl (.int .i64 rf) (.int .i64 rc) (.int .i64 ra) (.int .i64 rn) (.int .i64 rs) (.slice avb rb.length cvb) (.slice avv rv.length cvv) (wV rm) (wV ro) (.slice avd rd.length cvd)
 rw [hwl]
 clear hwl
 have KS := PK _ _ (Kp.refl (· = b4) wd) (fun _ => rfl)
 replace KP := PK _ _ KP (fun h => by have := HL.out; omega)
 have D2 := HD2.out.kp KS (fun i x e => by subst e; exact gd_no (by have := HL.out; omega) (by have := HL.out; omega) x)
 have NB := HNB.out.kp KS (fun k hk e => by have := nb'.out k hk; omega)
 have NV := HNV.out.kp KS (fun k hk e => by have := nv'.out k hk; omega)
 have ND := HND.out.kp KS (fun k hk e => by have := nd'.out k hk; omega)
 clear PN PK KS BZ HNB HNV HND HD2
 refine hK.out _ _ trivial ?_
 clear K hK
 try simp only [Act.put, PuA, PuB, PuC]
 refine c_done (by kernel_rfl) ?_
 go_wp2
 obtain ⟨c0, c1, c2, c3, c4, c5, c6, c7, c8, c9⟩ := cells10 BF
 clear BF
 refine bodyPost_ret (v := _) (by simp [results, Try.results8, go_sem, c0, c1, c2, c3, c4, c5, c6, c7, c8, c9]; with_reducible rfl) rfl ?_
 exact ⟨_, rfl, ⟨_, _, _, rfl, ⟨NB, NV, ND⟩, nb.out, nv.out, nd.out⟩, D2, KP⟩
set_option maxRecDepth 100000 in
set_option maxHeartbeats 4000000 in
theorem vdo_15 (g gs lo hi n : Nat) (dv : Dv) (a c p s : Int) (bs : List Bool) (vs : List UInt16) (m o : UInt16) (v : Value) (w : World) (D : DD w g gs lo hi n dv) (h : IsRqF (Gd g lo hi) w v ⟨15, a, c, p, s, bs, vs, m, o⟩) (hm : 0 ≤ dv.msgs ∧ dv.msgs ≤ 100000000000000000 ∧ 0 ≤ dv.flts ∧ dv.flts ≤ 100000000000000000)
  (hc : countsB ⟨15, a, c, p, s, bs, vs, m, o⟩ = true) (X : Rp × Dv) (hX : actD n ⟨dv.s, dv.msgs + 1, dv.flts, dv.unit⟩ ⟨15, a, c, p, s, bs, vs, m, o⟩ = X) :
  Calls Try.prog 8 #[ptrG g, v] w fun e w' => ∃ v', e = .returned v' ∧ NRp w.heap.size w' v' (X).1 ∧ DD w' g gs lo hi n (X).2 ∧ Kp (Gd g lo hi) w w' := by
 obtain ⟨ab, capb, av, capv, rfl, hl1, hl2, rb, rv⟩ := h.slices
 clear h
 have R1 := hidden rb
 have R2 := hidden rv
 clear rb rv
 simp only at hl1 hl2 R1 R2 ⊢
 have HR : Hid (rightE ⟨15, a, c, p, s, bs, vs, m, o⟩ = 0) := by show _ = _; simp [countsB] at hc; exact hc.1
 have HC := hidden hc
 have HX := hidden hX
 clear hc hX
 have HM := hidden hm
 obtain ⟨hb, hs, ho⟩ := D
 obtain ⟨s0, ms, fl, un⟩ := dv
 simp only at hb hs hm ⊢
 obtain ⟨f1, f2, f3, f4⟩ := hm
 have HO := hidden ho
 have XQ := (Blk.new w tQ [.int .i64 15, .int .i64 a, .int .i64 c, .int .i64 p, .int .i64 s, .slice ab bs.length capb, .slice av vs.length capv, wV m, wV o]).alloc (.cells zsP.toArray tP)
 have BZ := Blk.new (w.alloc (.cells #[.int .i64 15, .int .i64 a, .int .i64 c, .int .i64 p, .int .i64 s, .slice ab bs.length capb, .slice av vs.length capv, wV m, wV o] tQ)) tP zsP
 rw [World.size_alloc] at BZ
 have E0 : Below w.heap.size w ((w.alloc (.cells #[.int .i64 15, .int .i64 a, .int .i64 c, .int .i64 p, .int .i64 s, .slice ab bs.length capb, .slice av vs.length capv, wV m, wV o] tQ)).alloc (.cells zsP.toArray tP)) := ((Below.refl w.heap.size w).alloc (Nat.le_refl _) _).alloc (by simp) _
 have HL : Hid (g < w.heap.size ∧ hi ≤ w.heap.size) := ⟨hb.lt, hs.top⟩
 have BD := hb.below E0 hb.lt
 have S := hs.ext E0
 have KP := Kp.of_below (F := Gd g lo hi) E0
 clear E0 hb hs ho
 have XH := hidden XQ
 have ZH := hidden BZ
 have DH := hidden BD
 have SH := hidden S
 have KH := hidden KP
 clear XQ BZ BD S KP
 go_enter Try.func8, Try.ntmps8
 go_upto_region 1 with fail
 have XQ := XH.out
 have BZ := ZH.out
 have BD := DH.out
 have S := SH.out
 have KP := KH.out
 clear XH ZH DH SH KH
 obtain ⟨b3, hb3⟩ : ∃ b, b = w.heap.size := ⟨_, rfl⟩
 rw [← hb3] at XQ BZ HL ⊢
 have HB := hidden hb3
 clear hb3
 obtain ⟨b4, hb4⟩ : ∃ b, b = b3 + 1 := ⟨_, rfl⟩
 rw [← hb4] at BZ ⊢
 replace HL : Hid (g < b3 ∧ hi ≤ b3 ∧ b4 = b3 + 1 ∧ b3 = w.heap.size) := ⟨HL.out.1, HL.out.2, hb4, HB.out⟩
 clear hb4 HB
 generalize (w.alloc (.cells #[.int .i64 15, .int .i64 a, .int .i64 c, .int .i64 p, .int .i64 s, .slice ab bs.length capb, .slice av vs.length capv, wV m, wV o] tQ)).alloc (.cells zsP.toArray tP) = w1 at *
 have u1 : w1.cell? ⟨g, 1, none⟩ = some (.int .i64 ms) := BD.cell 1
 have uf := BD.frozen 1
 go_upto_region 2 with fail
 clear u1 uf
 have KS : Kp (· = g) w1 (w1.setCell ⟨g, 1, none⟩ (.int .i64 (ms + 1))) := Kp.set (F := (· = g)) (Kp.refl _ w1) (p := ⟨g, 1, none⟩) (fun _ => rfl) (.int .i64 (ms + 1))
 replace XQ := XQ.kp KS (by have := HL.out; omega)
 replace BZ := BZ.kp KS (by have := HL.out; omega)
 replace BD := BD.set 1 (.int .i64 (ms + 1))
 replace S := S.kp KS (fun i h e => by subst e; exact HO.out h)
 replace KP := KP.set (p := ⟨g, 1, none⟩) (fun _ => .inl rfl) (.int .i64 (ms + 1))
 clear KS
 generalize w1.setCell ⟨g, 1, none⟩ (.int .i64 (ms + 1)) = w2 at *
 obtain ⟨x0, x1, x2, x3, x4, x5, x6, x7, x8⟩ := cells9 XQ
 go_wp2_with fail
 clear x0 x1 x2 x3 x4 x5 x6 x7 x8
 refine (right_pdu _ ⟨15, a, c, p, s, bs, vs, m, o⟩ w2 ⟨_, _, rfl, (R1.out.kp KP (fun _ _ h => h)).1, (R2.out.kp KP (fun _ _ h => h)).1⟩).mono ?_
 rintro e w3 ⟨rfl, E⟩
 replace XQ := XQ.below E XQ.lt
 replace BZ := BZ.below E BZ.lt
 replace BD := BD.below E BD.lt
 replace S := S.ext E
 replace KP := KP.ext E
 clear E
 rw [HR.out]
 obtain ⟨x0, x1, x2, x3, x4, x5, x6, x7, x8⟩ := cells9 XQ
 go_wp2_with fail
 clear x0 x1 x2 x3 x4 x5 x6 x7 x8
 refine (counts_pdu _ ⟨15, a, c, p, s, bs, vs, m, o⟩ w3 ⟨_, _, rfl, (R1.out.kp KP (fun _ _ h => h)).1, (R2.out.kp KP (fun _ _ h => h)).1⟩).mono ?_
 rintro e w4 ⟨rfl, E⟩
 rw [HC.out]
 replace XQ := XQ.below E XQ.lt
 replace BZ := BZ.below E BZ.lt
 replace BD := BD.below E BD.lt
 replace S := S.ext E
 replace KP := KP.ext E
 clear E
 go_wp2_with fail
 refine c_begin 7 rfl (by kernel_rfl) ?_
 have EA := (Below.refl w4.heap.size w4).drew
 replace XQ := XQ.below EA XQ.lt
 replace BZ := BZ.below EA BZ.lt
 replace BD := BD.below EA BD.lt
 replace S := S.ext EA
 replace KP := KP.ext EA
 clear EA
 generalize w4.drew = w5 at *
 refine c_P trivial 0 rfl ?_
 refine c_R (fun w' => Blk w' b3 tQ [.int .i64 15, .int .i64 a, .int .i64 c, .int .i64 p, .int .i64 s, .slice ab bs.length capb, .slice av vs.length capv, wV m, wV o]) XQ trivial 1 rfl (fun w' hx => by have cc := hx.cell 0; go_simp; with_reducible rfl) ?_
 refine c_P ⟨XQ, trivial⟩ 3 rfl ?_
 refine c_R (fun w' => Blk w' b3 tQ [.int .i64 15, .int .i64 a, .int .i64 c, .int .i64 p, .int .i64 s, .slice ab bs.length capb, .slice av vs.length capv, wV m, wV o]) XQ ⟨XQ, trivial⟩ 4 rfl (fun w' hx => by obtain ⟨x0, x1, x2, x3, x4, x5, x6, x7, x8⟩ := cells9 hx; go_simp; with_reducible rfl) ?_
 refine c_move 2 (by kernel_rfl) (c_op 2 [(4, fun w' => Blk w' b3 tQ [.int .i64 15, .int .i64 a, .int .i64 c, .int .i64 p, .int .i64 s, .slice ab bs.length capb, .slice av vs.length capv, wV m, wV o])] (by kernel_rfl) rfl (by kernel_rfl) (fun K hK => ?_))
 go_wp2_with fail
 refine (deed_15 w5).mono ?_
 rintro e w6 ⟨rfl, E⟩
 go_simp
 replace XQ := XQ.below E XQ.lt
 replace BZ := BZ.below E BZ.lt
 replace BD := BD.below E BD.lt
 replace S := S.ext E
 replace KP := KP.ext E
 clear E
 refine hK.out _ _ ⟨XQ, trivial⟩ ?_
 clear K hK
 try simp only [Act.put, PuA, PuB, PuC]
 refine c_move 5 (by kernel_rfl) (c_op 5 [] (by kernel_rfl) rfl (by kernel_rfl) (fun K hK => ?_))
 have HZ : Hid (b4 < w6.heap.size) := BZ.lt
 go_wp2_with fail
 refine (vact_15 g gs lo hi n ⟨s0, ms + 1, fl, un⟩ a c p s bs vs m o _ w6 ⟨BD, S, HO.out⟩ ⟨_, _, rfl, R1.out.kp KP (fun _ _ h => h), R2.out.kp KP (fun _ _ h => h)⟩ (by have h : 0 ≤ ms ∧ ms ≤ 100000000000000000 ∧ 0 ≤ fl ∧ fl ≤ 100000000000000000 := HM.out; show 0 ≤ ms + 1 ∧ ms + 1 ≤ 100000000000000001 ∧ 0 ≤ fl ∧ fl ≤ 100000000000000001; omega) HC.out X HX.out).mono ?_
 clear S BD HX
 rintro e wd ⟨v', rfl, ⟨vb, vv, vd, rfl, ⟨NB, NV, ND⟩, nb, nv, nd⟩, D2, KK⟩
 have BZ := BZ.kp KK (gd_no (by have := HL.out; omega) (by have := HL.out; omega))
 replace KP := KP.then KK (fun _ _ h => h)
 obtain ⟨⟨rf, rc, ra, rn, rs, rb, rv, rm, ro, rd⟩, dv2⟩ := X
 simp only at NB NV ND D2 ⊢
 have nb' : Hid (∀ k, vb.ownBlock = some k → b4 < k) := fun k hk => by have := nb k hk; have := HL.out; have := HZ.out; omega
 replace nb : Hid (NwV w.heap.size vb) := nb.mono (by have := HL.out; have := HZ.out; omega)
 have nv' : Hid (∀ k, vv.ownBlock = some k → b4 < k) := fun k hk => by have := nv k hk; have := HL.out; have := HZ.out; omega
 replace nv : Hid (NwV w.heap.size vv) := nv.mono (by have := HL.out; have := HZ.out; omega)
 have nd' : Hid (∀ k, vd.ownBlock = some k → b4 < k) := fun k hk => by have := nd k hk; have := HL.out; have := HZ.out; omega
 replace nd : Hid (NwV w.heap.size vd) := nd.mono (by have := HL.out; have := HZ.out; omega)
 clear KK XQ
 obtain ⟨avb, cvb, rfl, -⟩ := id NB
 obtain ⟨avv, cvv, rfl, -⟩ := id NV
 obtain ⟨avd, cvd, rfl, -⟩ := id ND
 simp only [List.length_map] at NB NV ND nb nv nd nb' nv' nd' ⊢
 have HNB := hidden NB
 have HNV := hidden NV
 have HND := hidden ND
 have HD2 := hidden D2
 clear NB NV ND D2
 go_simp
 refine hK.out _ _ trivial ?_
 clear K hK
 try simp only [Act.put, PuA, PuB, PuC]
 refine c_move 6 (by kernel_rfl) (c_op 6 [] (by kernel_rfl) rfl (by kernel_rfl) (fun K hK => ?_))
 obtain ⟨z0, z1, z2, z3, z4, z5, z6, z7, z8, z9⟩ := cells10 BZ
 have yz := fun i => BZ.frozen i
 go_simp
 clear z0 z1 z2 z3 z4 z5 z6 z7 z8 z9 yz
 obtain ⟨wl, hwl, BF, PN, PK⟩ := put10 BZ rfl (.int .i64 rf) (.int .i64 rc) (.int .i64 ra) (.int .i64 rn) (.int .i64 rs) (.slice avb rb.length cvb) (.slice avv rv.length cvv) (wV rm) (wV ro) (.slice avd rd.length cvd)
 rw [hwl]
 clear hwl
 have KS := PK _ _ (Kp.refl (· = b4) wd) (fun _ => rfl)
 replace KP := PK _ _ KP (fun h => by have := HL.out; omega)
 have D2 := HD2.out.kp KS (fun i x e => by subst e; exact gd_no (by have := HL.out; omega) (by have := HL.out; omega) x)
 have NB := HNB.out.kp KS (fun k hk e => by have := nb'.out k hk; omega)
 have NV := HNV.out.kp KS (fun k hk e => by have := nv'.out k hk; omega)
 have ND := HND.out.kp KS (fun k hk e => by have := nd'.out k hk; omega)
 clear PN PK KS BZ HNB HNV HND HD2
 refine hK.out _ _ trivial ?_
 clear K hK
 try simp only [Act.put, PuA, PuB, PuC]
 refine c_done (by kernel_rfl) ?_
 go_wp2
 obtain ⟨c0, c1, c2, c3, c4, c5, c6, c7, c8, c9⟩ := cells10 BF
 clear BF
 refine bodyPost_ret (v := _) (by simp [results, Try.results8, go_sem, c0, c1, c2, c3, c4, c5, c6, c7, c8, c9]; with_reducible rfl) rfl ?_
 exact ⟨_, rfl, ⟨_, _, _, rfl, ⟨NB, NV, ND⟩, nb.out, nv.out, nd.out⟩, D2, KP⟩
set_option maxRecDepth 100000 in
set_option maxHeartbeats 4000000 in
theorem vdo_16 (g gs lo hi n : Nat) (dv : Dv) (a c p s : Int) (bs : List Bool) (vs : List UInt16) (m o : UInt16) (v : Value) (w : World) (D : DD w g gs lo hi n dv) (h : IsRqF (Gd g lo hi) w v ⟨16, a, c, p, s, bs, vs, m, o⟩) (hm : 0 ≤ dv.msgs ∧ dv.msgs ≤ 100000000000000000 ∧ 0 ≤ dv.flts ∧ dv.flts ≤ 100000000000000000)
  (hc : countsB ⟨16, a, c, p, s, bs, vs, m, o⟩ = true) (X : Rp × Dv) (hX : actD n ⟨dv.s, dv.msgs + 1, dv.flts, dv.unit⟩ ⟨16, a, c, p, s, bs, vs, m, o⟩ = X) :
  Calls Try.prog 8 #[ptrG g, v] w fun e w' => ∃ v', e = .returned v' ∧ NRp w.heap.size w' v' (X).1 ∧ DD w' g gs lo hi n (X).2 ∧ Kp (Gd g lo hi) w w' := by
 obtain ⟨ab, capb, av, capv, rfl, hl1, hl2, rb, rv⟩ := h.slices
 clear h
 have R1 := hidden rb
 have R2 := hidden rv
 clear rb rv
 simp only at hl1 hl2 R1 R2 ⊢
 have HR : Hid (rightE ⟨16, a, c, p, s, bs, vs, m, o⟩ = 0) := by show _ = _; simp [countsB] at hc; exact hc.1
 have HC := hidden hc
 have HX := hidden hX
 clear hc hX
 have HM := hidden hm
 obtain ⟨hb, hs, ho⟩ := D
 obtain ⟨s0, ms, fl, un⟩ := dv
 simp only at hb hs hm ⊢
 obtain ⟨f1, f2, f3, f4⟩ := hm
 have HO := hidden ho
 have XQ := (Blk.new w tQ [.int .i64 16, .int .i64 a, .int .i64 c, .int .i64 p, .int .i64 s, .slice ab bs.length capb, .slice av vs.length capv, wV m, wV o]).alloc (.cells zsP.toArray tP)
 have BZ := Blk.new (w.alloc (.cells #[.int .i64 16, .int .i64 a, .int .i64 c, .int .i64 p, .int .i64 s, .slice ab bs.length capb, .slice av vs.length capv, wV m, wV o] tQ)) tP zsP
 rw [World.size_alloc] at BZ
 have E0 : Below w.heap.size w ((w.alloc (.cells #[.int .i64 16, .int .i64 a, .int .i64 c, .int .i64 p, .int .i64 s, .slice ab bs.length capb, .slice av vs.length capv, wV m, wV o] tQ)).alloc (.cells zsP.toArray tP)) := ((Below.refl w.heap.size w).alloc (Nat.le_refl _) _).alloc (by simp) _
 have HL : Hid (g < w.heap.size ∧ hi ≤ w.heap.size) := ⟨hb.lt, hs.top⟩
 have BD := hb.below E0 hb.lt
 have S := hs.ext E0
 have KP := Kp.of_below (F := Gd g lo hi) E0
 clear E0 hb hs ho
 have XH := hidden XQ
 have ZH := hidden BZ
 have DH := hidden BD
 have SH := hidden S
 have KH := hidden KP
 clear XQ BZ BD S KP
 go_enter Try.func8, Try.ntmps8
 go_upto_region 1 with fail
 have XQ := XH.out
 have BZ := ZH.out
 have BD := DH.out
 have S := SH.out
 have KP := KH.out
 clear XH ZH DH SH KH
 obtain ⟨b3, hb3⟩ : ∃ b, b = w.heap.size := ⟨_, rfl⟩
 rw [← hb3] at XQ BZ HL ⊢
 have HB := hidden hb3
 clear hb3
 obtain ⟨b4, hb4⟩ : ∃ b, b = b3 + 1 := ⟨_, rfl⟩
 rw [← hb4] at BZ ⊢
 replace HL : Hid (g < b3 ∧ hi ≤ b3 ∧ b4 = b3 + 1 ∧ b3 = w.heap.size) := ⟨HL.out.1, HL.out.2, hb4, HB.out⟩
 clear hb4 HB
 generalize (w.alloc (.cells #[.int .i64 16, .int .i64 a, .int .i64 c, .int .i64 p, .int .i64 s, .slice ab bs.length capb, .slice av vs.length capv, wV m, wV o] tQ)).alloc (.cells zsP.toArray tP) = w1 at *
 have u1 : w1.cell? ⟨g, 1, none⟩ = some (.int .i64 ms) := BD.cell 1
 have uf := BD.frozen 1
 go_upto_region 2 with fail
 clear u1 uf
 have KS : Kp (· = g) w1 (w1.setCell ⟨g, 1, none⟩ (.int .i64 (ms + 1))) := Kp.set (F := (· = g)) (Kp.refl _ w1) (p := ⟨g, 1, none⟩) (fun _ => rfl) (.int .i64 (ms + 1))
 replace XQ := XQ.kp KS (by have := HL.out; omega)
 replace BZ := BZ.kp KS (by have := HL.out; omega)
 replace BD := BD.set 1 (.int .i64 (ms + 1))
 replace S := S.kp KS (fun i h e => by subst e; exact HO.out h)
 replace KP := KP.set (p := ⟨g, 1, none⟩) (fun _ => .inl rfl) (.int .i64 (ms + 1))
 clear KS
 generalize w1.setCell ⟨g, 1, none⟩ (.int .i64 (ms + 1)) = w2 at *
 obtain ⟨x0, x1, x2, x3, x4, x5, x6, x7, x8⟩ := cells9 XQ
 go_wp2_with fail
 clear x0 x1 x2 x3 x4 x5 x6 x7 x8
 refine (right_pdu _ ⟨16, a, c, p, s, bs, vs, m, o⟩ w2 ⟨_, _, rfl, (R1.out.kp KP (fun _ _ h => h)).1, (R2.out.kp KP (fun _ _ h => h)).1⟩).mono ?_
 rintro e w3 ⟨rfl, E⟩
 replace XQ := XQ.below E XQ.lt
 replace BZ := BZ.below E BZ.lt
 replace BD := BD.below E BD.lt
 replace S := S.ext E
 replace KP := KP.ext E
 clear E
 rw [HR.out]
 obtain ⟨x0, x1, x2, x3, x4, x5, x6, x7, x8⟩ := cells9 XQ
 go_wp2_with fail
 clear x0 x1 x2 x3 x4 x5 x6 x7 x8
 refine (counts_pdu _ ⟨16, a, c, p, s, bs, vs, m, o⟩ w3 ⟨_, _, rfl, (R1.out.kp KP (fun _ _ h => h)).1, (R2.out.kp KP (fun _ _ h => h)).1⟩).mono ?_
 rintro e w4 ⟨rfl, E⟩
 rw [HC.out]
 replace XQ := XQ.below E XQ.lt
 replace BZ := BZ.below E BZ.lt
 replace BD := BD.below E BD.lt
 replace S := S.ext E
 replace KP := KP.ext E
 clear E
 go_wp2_with fail
 refine c_begin 7 rfl (by kernel_rfl) ?_
 have EA := (Below.refl w4.heap.size w4).drew
 replace XQ := XQ.below EA XQ.lt
 replace BZ := BZ.below EA BZ.lt
 replace BD := BD.below EA BD.lt
 replace S := S.ext EA
 replace KP := KP.ext EA
 clear EA
 generalize w4.drew = w5 at *
 refine c_P trivial 0 rfl ?_
 refine c_R (fun w' => Blk w' b3 tQ [.int .i64 16, .int .i64 a, .int .i64 c, .int .i64 p, .int .i64 s, .slice ab bs.length capb, .slice av vs.length capv, wV m, wV o]) XQ trivial 1 rfl (fun w' hx => by have cc := hx.cell 0; go_simp; with_reducible rfl) ?_
 refine c_P ⟨XQ, trivial⟩ 3 rfl ?_
 refine c_R (fun w' => Blk w' b3 tQ [.int .i64 16, .int .i64 a, .int .i64 c, .int .i64 p, .int .i64 s, .slice ab bs.length capb, .slice av vs.length capv, wV m, wV o]) XQ ⟨XQ, trivial⟩ 4 rfl (fun w' hx => by obtain ⟨x0, x1, x2, x3, x4, x5, x6, x7, x8⟩ := cells9 hx; go_simp; with_reducible rfl) ?_
 refine c_move 2 (by kernel_rfl) (c_op 2 [(4, fun w' => Blk w' b3 tQ [.int .i64 16, .int .i64 a, .int .i64 c, .int .i64 p, .int .i64 s, .slice ab bs.length capb, .slice av vs.length capv, wV m, wV o])] (by kernel_rfl) rfl (by kernel_rfl) (fun K hK => ?_))
 go_wp2_with fail
 refine (deed_16 w5).mono ?_
 rintro e w6 ⟨rfl, E⟩
 go_simp
 replace XQ := XQ.below E XQ.lt
 replace BZ := BZ.below E BZ.lt
 replace BD := BD.below E BD.lt
 replace S := S.ext E
 replace KP := KP.ext E
 clear E
 refine hK.out _ _ ⟨XQ, trivial⟩ ?_
 clear K hK
 try simp only [Act.put, PuA, PuB, PuC]
 refine c_move 5 (by kernel_rfl) (c_op 5 [] (by kernel_rfl) rfl (by kernel_rfl) (fun K hK => ?_))
 have HZ : Hid (b4 < w6.heap.size) := BZ.lt
 go_wp2_with fail
 refine (vact_16 g gs lo hi n ⟨s0, ms + 1, fl, un⟩ a c p s bs vs m o _ w6 ⟨BD, S, HO.out⟩ ⟨_, _, rfl, R1.out.kp KP (fun _ _ h => h), R2.out.kp KP (fun _ _ h => h)⟩ (by have h : 0 ≤ ms ∧ ms ≤ 100000000000000000 ∧ 0 ≤ fl ∧ fl ≤ 100000000000000000 := HM.out; show 0 ≤ ms + 1 ∧ ms + 1 ≤ 100000000000000001 ∧ 0 ≤ fl ∧ fl ≤ 100000000000000001; omega) HC.out X HX.out).mono ?_
 clear S BD HX
 rintro e wd ⟨v', rfl, ⟨vb, vv, vd, rfl, ⟨NB, NV, ND⟩, nb, nv, nd⟩, D2, KK⟩
 have BZ := BZ.kp KK (gd_no (by have := HL.out; omega) (by have := HL.out; omega))
 replace KP := KP.then KK (fun _ _ h => h)
 obtain ⟨⟨rf, rc, ra, rn, rs, rb, rv, rm, ro, rd⟩, dv2⟩ := X
 simp only at NB NV ND D2 ⊢
 have nb' : Hid (∀ k, vb.ownBlock = some k → b4 < k) := fun k hk => by have := nb k hk; have := HL.out; have := HZ.out; omega
 replace nb : Hid (NwV w.heap.size vb) := nb.mono (by have := HL.out; have := HZ.out; omega)
 have nv' : Hid (∀ k, vv.ownBlock = some k → b4 < k) := fun k hk => by have := nv k hk; have := HL.out; have := HZ.out; omega
 replace nv : Hid (NwV w.heap.size vv) := nv.mono (by have := HL.out; have := HZ.out; omega)
 have nd' : Hid (∀ k, vd.ownBlock = some k → b4 < k) := fun k hk => by have := nd k hk; have := HL.out; have := HZ.out; omega
 replace nd : Hid (NwV w.heap.size vd) := nd.mono (by have := HL.out; have := HZ.out; omega)
 clear KK XQ
 obtain ⟨avb, cvb, rfl, -⟩ := id NB
 obtain ⟨avv, cvv, rfl, -⟩ := id NV
 obtain ⟨avd, cvd, rfl, -⟩ := id ND
 simp only [List.length_map] at NB NV ND nb nv nd nb' nv' nd' ⊢
 have HNB := hidden NB
 have HNV := hidden NV
 have HND := hidden ND
 have HD2 := hidden D2
 clear NB NV ND D2
 go_simp
 refine hK.out _ _ trivial ?_
 clear K hK
 try simp only [Act.put, PuA, PuB, PuC]
 refine c_move 6 (by kernel_rfl) (c_op 6 [] (by kernel_rfl) rfl (by kernel_rfl) (fun K hK => ?_))
 obtain ⟨z0, z1, z2, z3, z4, z5, z6, z7, z8, z9⟩ := cells10 BZ
 have yz := fun i => BZ.frozen i
 go_simp
 clear z0 z1 z2 z3 z4 z5 z6 z7 z8 z9 yz
 obtain ⟨wl, hwl, BF, PN, PK⟩ := put10 BZ rfl (.int .i64 rf) (.int .i64 rc) (.int .i64 ra) (.int .i64 rn) (.int .i64 rs) (.slice avb rb.length cvb) (.slice avv rv.length cvv) (wV rm) (wV ro) (.slice avd rd.length cvd)
 rw [hwl]
 clear hwl
 have KS := PK _ _ (Kp.refl (· = b4) wd) (fun _ => rfl)
 replace KP := PK _ _ KP (fun h => by have := HL.out; omega)
 have D2 := HD2.out.kp KS (fun i x e => by subst e; exact gd_no (by have := HL.out; omega) (by have := HL.out; omega) x)
 have NB := HNB.out.kp KS (fun k hk e => by have := nb'.out k hk; omega)
 have NV := HNV.out.kp KS (fun k hk e => by have := nv'.out k hk; omega)
 have ND := HND.out.kp KS (fun k hk e => by have := nd'.out k hk; omega)
 clear PN PK KS BZ HNB HNV HND HD2
 refine hK.out _ _ trivial ?_
 clear K hK
 try simp only [Act.put, PuA, PuB, PuC]
 refine c_done (by kernel_rfl) ?_
 go_wp2
 obtain ⟨c0, c1, c2, c3, c4, c5, c6, c7, c8, c9⟩ := cells10 BF
 clear BF
 refine bodyPost_ret (v := _) (by simp [results, Try.results8, go_sem, c0, c1, c2, c3, c4, c5, c6, c7, c8, c9]; with_reducible rfl) rfl ?_
 exact ⟨_, rfl, ⟨_, _, _, rfl, ⟨NB, NV, ND⟩, nb.out, nv.out, nd.out⟩, D2, KP⟩
end Go.Proofs.Ytdihcdphgiaepaa
