/- The developers' mask. -/
import Derived.Deep.Cut
import Derived.Test.YtdihcdphgiaepaaZZ26
namespace Go.Proofs.Ytdihcdphgiaepaa
open Go.RowKit
set_option maxRecDepth 100000 in
set_option maxHeartbeats 4000000 in
theorem vmask_ok (g gs lo hi n : Nat) (dv : Dv) (a c p s : Int) (bs : List Bool) (vs : List UInt16) (m o : UInt16) (v : Value) (w : World) (D : DD w g gs lo hi n dv) (h : IsRqF (Gd g lo hi) w v ⟨22, a, c, p, s, bs, vs, m, o⟩) (hm : 0 ≤ dv.msgs ∧ dv.msgs ≤ 100000000000000001 ∧ 0 ≤ dv.flts ∧ dv.flts ≤ 100000000000000001)
  (hn : (0 ≤ a ∧ a ≤ 65535) ∧ (0 ≤ c ∧ c ≤ 65535) ∧ (0 ≤ p ∧ p ≤ 65535)) (hok : okV n 3 a 1 = true) :
  Calls Try.prog 40 #[ptrG g, v] w fun e w' => ∃ v', e = .returned v' ∧ NRp w.heap.size w' v' (((⟨22, 0, a, 0, 0, [], [], m, o, []⟩ : Rp), ({ dv with s := setV n dv.s 3 a [maskW ((getV n dv.s 3 a 1).getD 0 0) m o] } : Dv))).1 ∧ DD w' g gs lo hi n (((⟨22, 0, a, 0, 0, [], [], m, o, []⟩ : Rp), ({ dv with s := setV n dv.s 3 a [maskW ((getV n dv.s 3 a 1).getD 0 0) m o] } : Dv))).2 ∧ Kp (Gd g lo hi) w w' := by
 obtain ⟨ab, capb, av, capv, rfl, hl1, hl2, rb, rv⟩ := h.slices
 clear h
 have R1 := hidden rb
 have R2 := hidden rv
 clear rb rv
 simp only at hl1 hl2 R1 R2 ⊢
 have HN := hidden hn
 have HK := hidden hok
 clear hn hok
 obtain ⟨hb, hs, ho⟩ := D
 obtain ⟨s0, ms, fl, un⟩ := dv
 simp only at hb hs hm ⊢
 obtain ⟨f1, f2, f3, f4⟩ := hm
 have HO := hidden ho
 have XQ := (Blk.new w tQ [.int .i64 22, .int .i64 a, .int .i64 c, .int .i64 p, .int .i64 s, .slice ab bs.length capb, .slice av vs.length capv, wV m, wV o]).alloc (.cells zsP.toArray tP)
 have BZ := Blk.new (w.alloc (.cells #[.int .i64 22, .int .i64 a, .int .i64 c, .int .i64 p, .int .i64 s, .slice ab bs.length capb, .slice av vs.length capv, wV m, wV o] tQ)) tP zsP
 rw [World.size_alloc] at BZ
 have E0 : Below w.heap.size w ((w.alloc (.cells #[.int .i64 22, .int .i64 a, .int .i64 c, .int .i64 p, .int .i64 s, .slice ab bs.length capb, .slice av vs.length capv, wV m, wV o] tQ)).alloc (.cells zsP.toArray tP)) := ((Below.refl w.heap.size w).alloc (Nat.le_refl _) _).alloc (by simp) _
 have HL : Hid (g < w.heap.size ∧ hi ≤ w.heap.size) := ⟨hb.lt, hs.top⟩
 have BD := hb.below E0 hb.lt
 have S := hs.ext E0
 have KP := Kp.of_below (F := Gd g lo hi) E0
 clear E0 hb hs ho
 have XH := hidden XQ
 have ZH := hidden BZ
 have DH := hidden BD
 have SH := hidden S
 have KH := hidden KP
 clear XQ BZ BD S KP
 go_enter Try.func40, Try.ntmps40
 go_wp2_with fail
 have XQ := XH.out
 have BZ := ZH.out
 have BD := DH.out
 have S := SH.out
 have KP := KH.out
 clear XH ZH DH SH KH
 obtain ⟨b3, hb3⟩ : ∃ b, b = w.heap.size := ⟨_, rfl⟩
 rw [← hb3] at XQ BZ HL ⊢
 have HB := hidden hb3
 clear hb3
 obtain ⟨b4, hb4⟩ : ∃ b, b = b3 + 1 := ⟨_, rfl⟩
 rw [← hb4] at BZ ⊢
 replace HL : Hid (g < b3 ∧ hi ≤ b3 ∧ b4 = b3 + 1 ∧ b3 = w.heap.size) := ⟨HL.out.1, HL.out.2, hb4, HB.out⟩
 clear hb4 HB
 generalize (w.alloc (.cells #[.int .i64 22, .int .i64 a, .int .i64 c, .int .i64 p, .int .i64 s, .slice ab bs.length capb, .slice av vs.length capv, wV m, wV o] tQ)).alloc (.cells zsP.toArray tP) = w1 at *
 refine c_begin 12 rfl (by kernel_rfl) ?_
 have EA := (Below.refl w1.heap.size w1).drew
 replace XQ := XQ.below EA XQ.lt
 replace BZ := BZ.below EA BZ.lt
 replace BD := BD.below EA BD.lt
 replace S := S.ext EA
 replace KP := KP.ext EA
 clear EA
 generalize w1.drew = w2 at *
 refine c_P trivial 0 rfl ?_
 refine c_P trivial 1 rfl ?_
 refine c_P trivial 2 rfl ?_
 refine c_R (fun w' => Blk w' g tV [ptrG gs, .int .i64 ms, .int .i64 fl, .int .u8 un]) BD trivial 3 rfl (fun w' hx => by have cc := hx.cell 0; go_simp; with_reducible rfl) ?_
 refine c_P ⟨BD, trivial⟩ 4 rfl ?_
 refine c_R (fun w' => Blk w' b3 tQ [.int .i64 22, .int .i64 a, .int .i64 c, .int .i64 p, .int .i64 s, .slice ab bs.length capb, .slice av vs.length capv, wV m, wV o]) XQ ⟨BD, trivial⟩ 5 rfl (fun w' hx => by have cc := hx.cell 1; go_simp; with_reducible rfl) ?_
 refine c_move 6 (by kernel_rfl) (c_op 6 [] (by kernel_rfl) rfl (by kernel_rfl) (fun K hK => ?_))
 go_wp2_with fail
 refine (getV_any lo hi gs n s0 3 a 1 w2 S (by have := HN.out; unfold i64; omega)).mono ?_
 rintro e w3 ⟨v6, rfl, NV, NVn0, E⟩
 rw [HK.out]
 go_simp
 have NVn : Hid (∀ k, v6.ownBlock = some k → b4 < k) := fun k hk => by have := NVn0 k hk; have := BZ.lt; omega
 clear NVn0
 replace XQ := XQ.below E XQ.lt
 replace BZ := BZ.below E BZ.lt
 replace BD := BD.below E BD.lt
 replace S := S.ext E
 replace KP := KP.ext E
 clear E
 obtain ⟨mv, hmv⟩ : ∃ y, getV n s0 3 a 1 = y := ⟨_, rfl⟩
 have hml : mv.length = 1 := by
  rw [← hmv]
  have hk := HK.out
  rw [okV, Bool.and_eq_true] at hk
  exact getV_one (by have := HN.out; omega) S.lens hk.2
 obtain ⟨z, rfl⟩ : ∃ z, mv = [z] := List.length_eq_one_iff.1 hml
 have GV := hidden hmv
 clear hml
 rw [hmv] at NV
 clear hmv
 obtain ⟨b6, o6, c6, rfl, -⟩ := row_one NV
 simp only [List.map_cons, List.map_nil] at NV
 refine hK.out _ _ trivial ?_
 clear K hK
 try simp only [Act.put, PuA, PuB, PuC]
 refine c_P trivial 7 rfl ?_
 refine c_P trivial 8 rfl ?_
 refine c_P trivial 9 rfl ?_
 refine c_P trivial 10 rfl ?_
 refine c_P trivial 11 rfl ?_
 refine c_done (by kernel_rfl) ?_
 go_wp2_with fail
 refine c_begin 20 rfl (by kernel_rfl) ?_
 have EA := (Below.refl w3.heap.size w3).drew
 replace XQ := XQ.below EA XQ.lt
 replace BZ := BZ.below EA BZ.lt
 replace BD := BD.below EA BD.lt
 replace S := S.ext EA
 replace KP := KP.ext EA
 replace NV := NV.below EA
 clear EA
 generalize w3.drew = w4 at *
 obtain ⟨y1, hy1⟩ : ∃ y, z &&& m = y := ⟨_, rfl⟩
 obtain ⟨y2, hy2⟩ : ∃ y, o &&& ~~~m = y := ⟨_, rfl⟩
 obtain ⟨y3, hy3⟩ : ∃ y, y1 ||| y2 = y := ⟨_, rfl⟩
 have e1 := and16 z m
 have e2 := andNot16 o m
 have e3 := or16 y1 y2
 have em : maskW z m o = y3 := by rw [maskW, hy1, hy2, hy3]
 have EM := hidden em
 rw [hy1] at e1
 rw [hy2] at e2
 rw [hy3] at e3
 clear hy1 hy2 hy3 em
 refine c_P trivial 0 rfl ?_
 refine c_P trivial 1 rfl ?_
 refine c_P trivial 2 rfl ?_
 refine c_R (fun w' => Blk w' g tV [ptrG gs, .int .i64 ms, .int .i64 fl, .int .u8 un]) BD trivial 3 rfl (fun w' hx => by have cc := hx.cell 0; go_simp; with_reducible rfl) ?_
 refine c_P ⟨BD, trivial⟩ 4 rfl ?_
 refine c_R (fun w' => Blk w' b3 tQ [.int .i64 22, .int .i64 a, .int .i64 c, .int .i64 p, .int .i64 s, .slice ab bs.length capb, .slice av vs.length capv, wV m, wV o]) XQ ⟨BD, trivial⟩ 5 rfl (fun w' hx => by have cc := hx.cell 1; go_simp; with_reducible rfl) ?_
 refine c_P ⟨XQ, BD, trivial⟩ 6 rfl ?_
 refine c_P ⟨XQ, BD, trivial⟩ 7 rfl ?_
 refine c_R (fun w' => Row w' (.slice (some ⟨b6, o6, none⟩) 1 c6) [wV z]) NV ⟨XQ, BD, trivial⟩ 8 rfl (fun w' hx => by have zc := row_cell hx; go_simp; with_reducible rfl) ?_
 refine c_P ⟨NV, XQ, BD, trivial⟩ 9 rfl ?_
 refine c_R (fun w' => Blk w' b3 tQ [.int .i64 22, .int .i64 a, .int .i64 c, .int .i64 p, .int .i64 s, .slice ab bs.length capb, .slice av vs.length capv, wV m, wV o]) XQ ⟨NV, XQ, BD, trivial⟩ 10 rfl (fun w' hx => by have cc := hx.cell 7; go_simp; with_reducible rfl) ?_
 refine c_P ⟨XQ, NV, XQ, BD, trivial⟩ 11 rfl ?_
 refine c_P ⟨XQ, NV, XQ, BD, trivial⟩ 12 rfl ?_
 refine c_R (fun w' => Blk w' b3 tQ [.int .i64 22, .int .i64 a, .int .i64 c, .int .i64 p, .int .i64 s, .slice ab bs.length capb, .slice av vs.length capv, wV m, wV o]) XQ ⟨XQ, NV, XQ, BD, trivial⟩ 13 rfl (fun w' hx => by have cc := hx.cell 8; go_simp; with_reducible rfl) ?_
 refine c_P ⟨XQ, XQ, NV, XQ, BD, trivial⟩ 14 rfl ?_
 refine c_R (fun w' => Blk w' b3 tQ [.int .i64 22, .int .i64 a, .int .i64 c, .int .i64 p, .int .i64 s, .slice ab bs.length capb, .slice av vs.length capv, wV m, wV o]) XQ ⟨XQ, XQ, NV, XQ, BD, trivial⟩ 15 rfl (fun w' hx => by have cc := hx.cell 7; go_simp; with_reducible rfl) ?_
 refine c_P ⟨XQ, XQ, XQ, NV, XQ, BD, trivial⟩ 16 rfl ?_
 refine c_P ⟨XQ, XQ, XQ, NV, XQ, BD, trivial⟩ 17 rfl ?_
 clear e1 e2 e3
 refine c_move 18 (by kernel_rfl) (c_op 18 [(15, fun w' => Blk w' b3 tQ [.int .i64 22, .int .i64 a, .int .i64 c, .int .i64 p, .int .i64 s, .slice ab bs.length capb, .slice av vs.length capv, wV m, wV o]), (13, fun w' => Blk w' b3 tQ [.int .i64 22, .int .i64 a, .int .i64 c, .int .i64 p, .int .i64 s, .slice ab bs.length capb, .slice av vs.length capv, wV m, wV o]), (10, fun w' => Blk w' b3 tQ [.int .i64 22, .int .i64 a, .int .i64 c, .int .i64 p, .int .i64 s, .slice ab bs.length capb, .slice av vs.length capv, wV m, wV o]), (8, fun w' => Row w' (.slice (some ⟨b6, o6, none⟩) 1 c6) [wV z]), (5, fun w' => Blk w' b3 tQ [.int .i64 22, .int .i64 a, .int .i64 c, .int .i64 p, .int .i64 s, .slice ab bs.length capb, .slice av vs.length capv, wV m, wV o]), (3, fun w' => Blk w' g tV [ptrG gs, .int .i64 ms, .int .i64 fl, .int .u8 un])] (by kernel_rfl) rfl (by kernel_rfl) (fun K hK => ?_))
 go_simp
 have EA := (Below.refl w4.heap.size w4).alloc (Nat.le_refl _) (.cells #[wV y3] 24)
 have RW := row_new w4 [wV y3] 24 1 rfl (by unfold maxLen; omega)
 replace XQ := XQ.below EA XQ.lt
 replace BZ := BZ.below EA BZ.lt
 replace BD := BD.below EA BD.lt
 replace S := S.ext EA
 replace KP := KP.ext EA
 replace NV := NV.below EA
 clear EA
 refine hK.out _ _ ⟨XQ, XQ, XQ, NV, XQ, BD, trivial⟩ ?_
 clear K hK
 try simp only [Act.put, PuA, PuB, PuC]
 generalize hbz : w4.heap.size = bz at *
 clear hbz
 generalize w4.alloc (.cells #[wV y3] 24) = w5 at *
 refine c_move 19 (by kernel_rfl) (c_op 19 [(15, fun w' => Blk w' b3 tQ [.int .i64 22, .int .i64 a, .int .i64 c, .int .i64 p, .int .i64 s, .slice ab bs.length capb, .slice av vs.length capv, wV m, wV o]), (13, fun w' => Blk w' b3 tQ [.int .i64 22, .int .i64 a, .int .i64 c, .int .i64 p, .int .i64 s, .slice ab bs.length capb, .slice av vs.length capv, wV m, wV o]), (10, fun w' => Blk w' b3 tQ [.int .i64 22, .int .i64 a, .int .i64 c, .int .i64 p, .int .i64 s, .slice ab bs.length capb, .slice av vs.length capv, wV m, wV o]), (8, fun w' => Row w' (.slice (some ⟨b6, o6, none⟩) 1 c6) [wV z])] (by kernel_rfl) rfl (by kernel_rfl) (fun K hK => ?_))
 go_wp2_with fail
 refine (setV_any lo hi gs n s0 _ [y3] 3 a w5 S RW (by have := HN.out; unfold i64; omega)).mono ?_
 clear S RW
 rintro e w6 ⟨rfl, S, KK⟩
 go_simp
 replace XQ := XQ.kp KK (fun h => by have h2 := h.2; have := HL.out; omega)
 replace BZ := BZ.kp KK (fun h => by have h2 := h.2; have := HL.out; omega)
 replace BD := BD.kp KK HO.out
 replace NV := NV.kp KK (fun k hk e => by have := NVn.out k hk; have := HL.out; have h2 := e.2; omega)
 replace KP := KP.then KK (fun i _ h => .inr h)
 clear KK
 refine hK.out _ _ ⟨XQ, XQ, XQ, NV, trivial⟩ ?_
 clear K hK
 try simp only [Act.put, PuA, PuB, PuC]
 refine c_done (by kernel_rfl) ?_
 have x0 : w6.cell? ⟨b3, 0, none⟩ = some (.int .i64 22) := XQ.cell 0
 have x1 : w6.cell? ⟨b3, 1, none⟩ = some (.int .i64 a) := XQ.cell 1
 have x7 : w6.cell? ⟨b3, 7, none⟩ = some (wV m) := XQ.cell 7
 have x8 : w6.cell? ⟨b3, 8, none⟩ = some (wV o) := XQ.cell 8
 clear NV
 obtain ⟨z0, z1, z2, z3, z4, z5, z6, z7, z8, z9⟩ := cells10 BZ
 have yz := fun i => BZ.frozen i
 go_wp2
 clear z0 z1 z2 z3 z4 z5 z6 z7 z8 z9 yz
 obtain ⟨wl, hwl, BF, PN, PK⟩ := put10 BZ rfl (.int .i64 22) (.int .i64 0) (.int .i64 a) (.int .i64 0) (.int .i64 0) (.slice none 0 0) (.slice none 0 0) (wV m) (wV o) (.slice none 0 0)
 rw [hwl]
 clear hwl
 have KS := PK _ _ (Kp.refl (· = b4) w6) (fun _ => rfl)
 replace KP := PK _ _ KP (fun h => by have := HL.out; omega)
 replace BD := BD.kp KS (by have := HL.out; omega)
 replace S := S.kp KS (fun i h e => by subst e; exact (fun h => by have h2 := h.2; have := HL.out; omega) h)
 obtain ⟨c0, c1, c2, c3, c4, c5, c6, c7, c8, c9⟩ := cells10 BF
 clear PN PK KS BZ BF
 refine bodyPost_ret (v := _) (by simp [results, Try.results40, go_sem, c0, c1, c2, c3, c4, c5, c6, c7, c8, c9]; with_reducible rfl) rfl ?_
 rw [← EM.out, show z = (getV n s0 3 a 1).getD 0 0 by rw [GV.out]; rfl] at S
 exact ⟨_, rfl, ⟨_, _, _, rfl, ⟨Row.nil _, Row.nil _, Row.nil _⟩, NwV.nil _ _ _, NwV.nil _ _ _, NwV.nil _ _ _⟩, ⟨BD, S, HO.out⟩, KP⟩
set_option maxRecDepth 100000 in
set_option maxHeartbeats 4000000 in
theorem vmask_no (g gs lo hi n : Nat) (dv : Dv) (a c p s : Int) (bs : List Bool) (vs : List UInt16) (m o : UInt16) (v : Value) (w : World) (D : DD w g gs lo hi n dv) (h : IsRqF (Gd g lo hi) w v ⟨22, a, c, p, s, bs, vs, m, o⟩) (hm : 0 ≤ dv.msgs ∧ dv.msgs ≤ 100000000000000001 ∧ 0 ≤ dv.flts ∧ dv.flts ≤ 100000000000000001)
  (hn : (0 ≤ a ∧ a ≤ 65535) ∧ (0 ≤ c ∧ c ≤ 65535) ∧ (0 ≤ p ∧ p ≤ 65535)) (hok : okV n 3 a 1 = false) :
  Calls Try.prog 40 #[ptrG g, v] w fun e w' => ∃ v', e = .returned v' ∧ NRp w.heap.size w' v' (refD dv 22 2).1 ∧ DD w' g gs lo hi n (refD dv 22 2).2 ∧ Kp (Gd g lo hi) w w' := by
 obtain ⟨ab, capb, av, capv, rfl, hl1, hl2, rb, rv⟩ := h.slices
 clear h
 have R1 := hidden rb
 have R2 := hidden rv
 clear rb rv
 simp only at hl1 hl2 R1 R2 ⊢
 have HN := hidden hn
 have HK := hidden hok
 clear hn hok
 unfold refD
 obtain ⟨hb, hs, ho⟩ := D
 obtain ⟨s0, ms, fl, un⟩ := dv
 simp only at hb hs hm ⊢
 obtain ⟨f1, f2, f3, f4⟩ := hm
 have HO := hidden ho
 have XQ := (Blk.new w tQ [.int .i64 22, .int .i64 a, .int .i64 c, .int .i64 p, .int .i64 s, .slice ab bs.length capb, .slice av vs.length capv, wV m, wV o]).alloc (.cells zsP.toArray tP)
 have BZ := Blk.new (w.alloc (.cells #[.int .i64 22, .int .i64 a, .int .i64 c, .int .i64 p, .int .i64 s, .slice ab bs.length capb, .slice av vs.length capv, wV m, wV o] tQ)) tP zsP
 rw [World.size_alloc] at BZ
 have E0 : Below w.heap.size w ((w.alloc (.cells #[.int .i64 22, .int .i64 a, .int .i64 c, .int .i64 p, .int .i64 s, .slice ab bs.length capb, .slice av vs.length capv, wV m, wV o] tQ)).alloc (.cells zsP.toArray tP)) := ((Below.refl w.heap.size w).alloc (Nat.le_refl _) _).alloc (by simp) _
 have HL : Hid (g < w.heap.size ∧ hi ≤ w.heap.size) := ⟨hb.lt, hs.top⟩
 have BD := hb.below E0 hb.lt
 have S := hs.ext E0
 have KP := Kp.of_below (F := Gd g lo hi) E0
 clear E0 hb hs ho
 have XH := hidden XQ
 have ZH := hidden BZ
 have DH := hidden BD
 have SH := hidden S
 have KH := hidden KP
 clear XQ BZ BD S KP
 go_enter Try.func40, Try.ntmps40
 go_wp2_with fail
 have XQ := XH.out
 have BZ := ZH.out
 have BD := DH.out
 have S := SH.out
 have KP := KH.out
 clear XH ZH DH SH KH
 obtain ⟨b3, hb3⟩ : ∃ b, b = w.heap.size := ⟨_, rfl⟩
 rw [← hb3] at XQ BZ HL ⊢
 have HB := hidden hb3
 clear hb3
 obtain ⟨b4, hb4⟩ : ∃ b, b = b3 + 1 := ⟨_, rfl⟩
 rw [← hb4] at BZ ⊢
 replace HL : Hid (g < b3 ∧ hi ≤ b3 ∧ b4 = b3 + 1 ∧ b3 = w.heap.size) := ⟨HL.out.1, HL.out.2, hb4, HB.out⟩
 clear hb4 HB
 generalize (w.alloc (.cells #[.int .i64 22, .int .i64 a, .int .i64 c, .int .i64 p, .int .i64 s, .slice ab bs.length capb, .slice av vs.length capv, wV m, wV o] tQ)).alloc (.cells zsP.toArray tP) = w1 at *
 refine c_begin 12 rfl (by kernel_rfl) ?_
 have EA := (Below.refl w1.heap.size w1).drew
 replace XQ := XQ.below EA XQ.lt
 replace BZ := BZ.below EA BZ.lt
 replace BD := BD.below EA BD.lt
 replace S := S.ext EA
 replace KP := KP.ext EA
 clear EA
 generalize w1.drew = w2 at *
 refine c_P trivial 0 rfl ?_
 refine c_P trivial 1 rfl ?_
 refine c_P trivial 2 rfl ?_
 refine c_R (fun w' => Blk w' g tV [ptrG gs, .int .i64 ms, .int .i64 fl, .int .u8 un]) BD trivial 3 rfl (fun w' hx => by have cc := hx.cell 0; go_simp; with_reducible rfl) ?_
 refine c_P ⟨BD, trivial⟩ 4 rfl ?_
 refine c_R (fun w' => Blk w' b3 tQ [.int .i64 22, .int .i64 a, .int .i64 c, .int .i64 p, .int .i64 s, .slice ab bs.length capb, .slice av vs.length capv, wV m, wV o]) XQ ⟨BD, trivial⟩ 5 rfl (fun w' hx => by have cc := hx.cell 1; go_simp; with_reducible rfl) ?_
 refine c_move 6 (by kernel_rfl) (c_op 6 [] (by kernel_rfl) rfl (by kernel_rfl) (fun K hK => ?_))
 go_wp2_with fail
 refine (getV_any lo hi gs n s0 3 a 1 w2 S (by have := HN.out; unfold i64; omega)).mono ?_
 rintro e w3 ⟨v6, rfl, NV, NVn0, E⟩
 rw [HK.out]
 go_simp
 clear NV NVn0
 replace XQ := XQ.below E XQ.lt
 replace BZ := BZ.below E BZ.lt
 replace BD := BD.below E BD.lt
 replace S := S.ext E
 replace KP := KP.ext E
 clear E
 refine hK.out _ _ trivial ?_
 clear K hK
 try simp only [Act.put, PuA, PuB, PuC]
 refine c_P trivial 7 rfl ?_
 refine c_P trivial 8 rfl ?_
 refine c_P trivial 9 rfl ?_
 refine c_P trivial 10 rfl ?_
 refine c_P trivial 11 rfl ?_
 refine c_done (by kernel_rfl) ?_
 have x0 : w3.cell? ⟨b3, 0, none⟩ = some (.int .i64 22) := XQ.cell 0
 go_wp2_with fail
 clear x0
 refine (vrefuse_any g gs ms fl un 22 2 w3 BD ⟨by omega, by omega⟩).mono ?_
 rintro e wd ⟨rfl, BD2, KK⟩
 replace BZ := BZ.kp KK (by have := HL.out; omega)
 replace S := S.kp KK (fun i h e => by subst e; exact HO.out h)
 replace KP := KP.then KK (fun _ _ h => .inl h)
 clear BD KK XQ
 have BD := BD2
 clear BD2
 obtain ⟨z0, z1, z2, z3, z4, z5, z6, z7, z8, z9⟩ := cells10 BZ
 have yz := fun i => BZ.frozen i
 go_wp2
 clear z0 z1 z2 z3 z4 z5 z6 z7 z8 z9 yz
 obtain ⟨wl, hwl, BF, PN, PK⟩ := put10 BZ rfl (.int .i64 22) (.int .i64 2) (.int .i64 0) (.int .i64 0) (.int .i64 0) (.slice none 0 0) (.slice none 0 0) (.int .u16 0) (.int .u16 0) (.slice none 0 0)
 rw [hwl]
 clear hwl
 have KS := PK _ _ (Kp.refl (· = b4) wd) (fun _ => rfl)
 replace KP := PK _ _ KP (fun h => by have := HL.out; omega)
 replace BD := BD.kp KS (by have := HL.out; omega)
 replace S := S.kp KS (fun i h e => by subst e; exact (fun h => by have h2 := h.2; have := HL.out; omega) h)
 obtain ⟨c0, c1, c2, c3, c4, c5, c6, c7, c8, c9⟩ := cells10 BF
 clear PN PK KS BZ BF
 refine bodyPost_ret (v := _) (by simp [results, Try.results40, go_sem, c0, c1, c2, c3, c4, c5, c6, c7, c8, c9]; with_reducible rfl) rfl ?_
 exact ⟨_, rfl, NRp.ref _ _ _ _, ⟨BD, S, HO.out⟩, KP⟩
end Go.Proofs.Ytdihcdphgiaepaa
