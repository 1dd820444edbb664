/- The developers' readWrite. -/
import Derived.Deep.Cut
import Derived.Test.YtdihcdphgiaepaaZZ27
namespace Go.Proofs.Ytdihcdphgiaepaa
open Go.RowKit
set_option maxRecDepth 100000 in
set_option maxHeartbeats 4000000 in
theorem vrw_0 (g gs lo hi n : Nat) (dv : Dv) (a c p s : Int) (bs : List Bool) (vs : List UInt16) (m o : UInt16) (v : Value) (w : World) (D : DD w g gs lo hi n dv) (h : IsRqF (Gd g lo hi) w v ⟨23, a, c, p, s, bs, vs, m, o⟩) (hm : 0 ≤ dv.msgs ∧ dv.msgs ≤ 100000000000000001 ∧ 0 ≤ dv.flts ∧ dv.flts ≤ 100000000000000001)
  (hn : (0 ≤ a ∧ a ≤ 65535) ∧ (0 ≤ c ∧ c ≤ 65535) ∧ (0 ≤ p ∧ p ≤ 65535)) (hk1 : okV n 3 a c = false) :
  Calls Try.prog 41 #[ptrG g, v] w fun e w' => ∃ v', e = .returned v' ∧ NRp w.heap.size w' v' (refD dv 23 2).1 ∧ DD w' g gs lo hi n (refD dv 23 2).2 ∧ Kp (Gd g lo hi) w w' := by
 obtain ⟨ab, capb, av, capv, rfl, hl1, hl2, rb, rv⟩ := h.slices
 clear h
 have R1 := hidden rb
 have R2 := hidden rv
 clear rb rv
 simp only at hl1 hl2 R1 R2 ⊢
 have HN := hidden hn
 have HK1 := hidden hk1
 clear hn hk1
 unfold refD
 obtain ⟨hb, hs, ho⟩ := D
 obtain ⟨s0, ms, fl, un⟩ := dv
 simp only at hb hs hm ⊢
 obtain ⟨f1, f2, f3, f4⟩ := hm
 have HO := hidden ho
 have XQ := (Blk.new w tQ [.int .i64 23, .int .i64 a, .int .i64 c, .int .i64 p, .int .i64 s, .slice ab bs.length capb, .slice av vs.length capv, wV m, wV o]).alloc (.cells zsP.toArray tP)
 have BZ := Blk.new (w.alloc (.cells #[.int .i64 23, .int .i64 a, .int .i64 c, .int .i64 p, .int .i64 s, .slice ab bs.length capb, .slice av vs.length capv, wV m, wV o] tQ)) tP zsP
 rw [World.size_alloc] at BZ
 have E0 : Below w.heap.size w ((w.alloc (.cells #[.int .i64 23, .int .i64 a, .int .i64 c, .int .i64 p, .int .i64 s, .slice ab bs.length capb, .slice av vs.length capv, wV m, wV o] tQ)).alloc (.cells zsP.toArray tP)) := ((Below.refl w.heap.size w).alloc (Nat.le_refl _) _).alloc (by simp) _
 have HL : Hid (g < w.heap.size ∧ hi ≤ w.heap.size) := ⟨hb.lt, hs.top⟩
 have BD := hb.below E0 hb.lt
 have S := hs.ext E0
 have KP := Kp.of_below (F := Gd g lo hi) E0
 clear E0 hb hs ho
 have XH := hidden XQ
 have ZH := hidden BZ
 have DH := hidden BD
 have SH := hidden S
 have KH := hidden KP
 clear XQ BZ BD S KP
 go_enter Try.func41, Try.ntmps41
 go_wp2_with fail
 have XQ := XH.out
 have BZ := ZH.out
 have BD := DH.out
 have S := SH.out
 have KP := KH.out
 clear XH ZH DH SH KH
 obtain ⟨b3, hb3⟩ : ∃ b, b = w.heap.size := ⟨_, rfl⟩
 rw [← hb3] at XQ BZ HL ⊢
 have HB := hidden hb3
 clear hb3
 obtain ⟨b4, hb4⟩ : ∃ b, b = b3 + 1 := ⟨_, rfl⟩
 rw [← hb4] at BZ ⊢
 replace HL : Hid (g < b3 ∧ hi ≤ b3 ∧ b4 = b3 + 1 ∧ b3 = w.heap.size) := ⟨HL.out.1, HL.out.2, hb4, HB.out⟩
 clear hb4 HB
 generalize (w.alloc (.cells #[.int .i64 23, .int .i64 a, .int .i64 c, .int .i64 p, .int .i64 s, .slice ab bs.length capb, .slice av vs.length capv, wV m, wV o] tQ)).alloc (.cells zsP.toArray tP) = w1 at *
 refine c_begin 14 rfl (by kernel_rfl) ?_
 have EA := (Below.refl w1.heap.size w1).drew
 replace XQ := XQ.below EA XQ.lt
 replace BZ := BZ.below EA BZ.lt
 replace BD := BD.below EA BD.lt
 replace S := S.ext EA
 replace KP := KP.ext EA
 clear EA
 generalize w1.drew = w2 at *
 refine c_P trivial 0 rfl ?_
 refine c_P trivial 1 rfl ?_
 refine c_P trivial 2 rfl ?_
 refine c_R (fun w' => Blk w' g tV [ptrG gs, .int .i64 ms, .int .i64 fl, .int .u8 un]) BD trivial 3 rfl (fun w' hx => by have cc := hx.cell 0; go_simp; with_reducible rfl) ?_
 refine c_P ⟨BD, trivial⟩ 4 rfl ?_
 refine c_R (fun w' => Blk w' b3 tQ [.int .i64 23, .int .i64 a, .int .i64 c, .int .i64 p, .int .i64 s, .slice ab bs.length capb, .slice av vs.length capv, wV m, wV o]) XQ ⟨BD, trivial⟩ 5 rfl (fun w' hx => by have cc := hx.cell 1; go_simp; with_reducible rfl) ?_
 refine c_P ⟨XQ, BD, trivial⟩ 6 rfl ?_
 refine c_R (fun w' => Blk w' b3 tQ [.int .i64 23, .int .i64 a, .int .i64 c, .int .i64 p, .int .i64 s, .slice ab bs.length capb, .slice av vs.length capv, wV m, wV o]) XQ ⟨XQ, BD, trivial⟩ 7 rfl (fun w' hx => by have cc := hx.cell 2; go_simp; with_reducible rfl) ?_
 refine c_move 8 (by kernel_rfl) (c_op 8 [] (by kernel_rfl) rfl (by kernel_rfl) (fun K hK => ?_))
 go_wp2_with fail
 refine (getV_any lo hi gs n s0 3 a c w2 S (by have := HN.out; unfold i64; omega)).mono ?_
 rintro e w3 ⟨v6, rfl, NV, NVn0, E⟩
 rw [HK1.out]
 go_simp
 clear NVn0 NV
 replace XQ := XQ.below E XQ.lt
 replace BZ := BZ.below E BZ.lt
 replace BD := BD.below E BD.lt
 replace S := S.ext E
 replace KP := KP.ext E
 clear E
 refine hK.out _ _ trivial ?_
 clear K hK
 try simp only [Act.put, PuA, PuB, PuC]
 refine c_P trivial 9 rfl ?_
 refine c_P trivial 10 rfl ?_
 refine c_P trivial 11 rfl ?_
 refine c_P trivial 12 rfl ?_
 refine c_P trivial 13 rfl ?_
 refine c_done (by kernel_rfl) ?_
 have x0 : w3.cell? ⟨b3, 0, none⟩ = some (.int .i64 23) := XQ.cell 0
 go_wp2_with fail
 clear x0
 refine (vrefuse_any g gs ms fl un 23 2 w3 BD ⟨by omega, by omega⟩).mono ?_
 rintro e wd ⟨rfl, BD2, KK⟩
 replace BZ := BZ.kp KK (by have := HL.out; omega)
 replace S := S.kp KK (fun i h e => by subst e; exact HO.out h)
 replace KP := KP.then KK (fun _ _ h => .inl h)
 clear BD KK XQ
 have BD := BD2
 clear BD2
 obtain ⟨z0, z1, z2, z3, z4, z5, z6, z7, z8, z9⟩ := cells10 BZ
 have yz := fun i => BZ.frozen i
 go_wp2
 clear z0 z1 z2 z3 z4 z5 z6 z7 z8 z9 yz
 obtain ⟨wl, hwl, BF, PN, PK⟩ := put10 BZ rfl (.int .i64 23) (.int .i64 2) (.int .i64 0) (.int .i64 0) (.int .i64 0) (.slice none 0 0) (.slice none 0 0) (.int .u16 0) (.int .u16 0) (.slice none 0 0)
 rw [hwl]
 clear hwl
 have KS := PK _ _ (Kp.refl (· = b4) wd) (fun _ => rfl)
 replace KP := PK _ _ KP (fun h => by have := HL.out; omega)
 replace BD := BD.kp KS (by have := HL.out; omega)
 replace S := S.kp KS (fun i h e => by subst e; exact (fun h => by have h2 := h.2; have := HL.out; omega) h)
 obtain ⟨c0, c1, c2, c3, c4, c5, c6, c7, c8, c9⟩ := cells10 BF
 clear PN PK KS BZ BF
 refine bodyPost_ret (v := _) (by simp [results, Try.results41, go_sem, c0, c1, c2, c3, c4, c5, c6, c7, c8, c9]; with_reducible rfl) rfl ?_
 exact ⟨_, rfl, NRp.ref _ _ _ _, ⟨BD, S, HO.out⟩, KP⟩
set_option maxRecDepth 100000 in
set_option maxHeartbeats 4000000 in
theorem vrw_1 (g gs lo hi n : Nat) (dv : Dv) (a c p s : Int) (bs : List Bool) (vs : List UInt16) (m o : UInt16) (v : Value) (w : World) (D : DD w g gs lo hi n dv) (h : IsRqF (Gd g lo hi) w v ⟨23, a, c, p, s, bs, vs, m, o⟩) (hm : 0 ≤ dv.msgs ∧ dv.msgs ≤ 100000000000000001 ∧ 0 ≤ dv.flts ∧ dv.flts ≤ 100000000000000001)
  (hn : (0 ≤ a ∧ a ≤ 65535) ∧ (0 ≤ c ∧ c ≤ 65535) ∧ (0 ≤ p ∧ p ≤ 65535)) (hk1 : okV n 3 a c = true) (hk2 : okV n 3 p vs.length = false) :
  Calls Try.prog 41 #[ptrG g, v] w fun e w' => ∃ v', e = .returned v' ∧ NRp w.heap.size w' v' (refD dv 23 2).1 ∧ DD w' g gs lo hi n (refD dv 23 2).2 ∧ Kp (Gd g lo hi) w w' := by
 obtain ⟨ab, capb, av, capv, rfl, hl1, hl2, rb, rv⟩ := h.slices
 clear h
 have R1 := hidden rb
 have R2 := hidden rv
 clear rb rv
 simp only at hl1 hl2 R1 R2 ⊢
 have HN := hidden hn
 have HK1 := hidden hk1
 clear hn hk1
 have HK2 := hidden hk2
 clear hk2
 unfold refD
 obtain ⟨hb, hs, ho⟩ := D
 obtain ⟨s0, ms, fl, un⟩ := dv
 simp only at hb hs hm ⊢
 obtain ⟨f1, f2, f3, f4⟩ := hm
 have HO := hidden ho
 have XQ := (Blk.new w tQ [.int .i64 23, .int .i64 a, .int .i64 c, .int .i64 p, .int .i64 s, .slice ab bs.length capb, .slice av vs.length capv, wV m, wV o]).alloc (.cells zsP.toArray tP)
 have BZ := Blk.new (w.alloc (.cells #[.int .i64 23, .int .i64 a, .int .i64 c, .int .i64 p, .int .i64 s, .slice ab bs.length capb, .slice av vs.length capv, wV m, wV o] tQ)) tP zsP
 rw [World.size_alloc] at BZ
 have E0 : Below w.heap.size w ((w.alloc (.cells #[.int .i64 23, .int .i64 a, .int .i64 c, .int .i64 p, .int .i64 s, .slice ab bs.length capb, .slice av vs.length capv, wV m, wV o] tQ)).alloc (.cells zsP.toArray tP)) := ((Below.refl w.heap.size w).alloc (Nat.le_refl _) _).alloc (by simp) _
 have HL : Hid (g < w.heap.size ∧ hi ≤ w.heap.size) := ⟨hb.lt, hs.top⟩
 have BD := hb.below E0 hb.lt
 have S := hs.ext E0
 have KP := Kp.of_below (F := Gd g lo hi) E0
 clear E0 hb hs ho
 have XH := hidden XQ
 have ZH := hidden BZ
 have DH := hidden BD
 have SH := hidden S
 have KH := hidden KP
 clear XQ BZ BD S KP
 go_enter Try.func41, Try.ntmps41
 go_wp2_with fail
 have XQ := XH.out
 have BZ := ZH.out
 have BD := DH.out
 have S := SH.out
 have KP := KH.out
 clear XH ZH DH SH KH
 obtain ⟨b3, hb3⟩ : ∃ b, b = w.heap.size := ⟨_, rfl⟩
 rw [← hb3] at XQ BZ HL ⊢
 have HB := hidden hb3
 clear hb3
 obtain ⟨b4, hb4⟩ : ∃ b, b = b3 + 1 := ⟨_, rfl⟩
 rw [← hb4] at BZ ⊢
 replace HL : Hid (g < b3 ∧ hi ≤ b3 ∧ b4 = b3 + 1 ∧ b3 = w.heap.size) := ⟨HL.out.1, HL.out.2, hb4, HB.out⟩
 clear hb4 HB
 generalize (w.alloc (.cells #[.int .i64 23, .int .i64 a, .int .i64 c, .int .i64 p, .int .i64 s, .slice ab bs.length capb, .slice av vs.length capv, wV m, wV o] tQ)).alloc (.cells zsP.toArray tP) = w1 at *
 refine c_begin 14 rfl (by kernel_rfl) ?_
 have EA := (Below.refl w1.heap.size w1).drew
 replace XQ := XQ.below EA XQ.lt
 replace BZ := BZ.below EA BZ.lt
 replace BD := BD.below EA BD.lt
 replace S := S.ext EA
 replace KP := KP.ext EA
 clear EA
 generalize w1.drew = w2 at *
 refine c_P trivial 0 rfl ?_
 refine c_P trivial 1 rfl ?_
 refine c_P trivial 2 rfl ?_
 refine c_R (fun w' => Blk w' g tV [ptrG gs, .int .i64 ms, .int .i64 fl, .int .u8 un]) BD trivial 3 rfl (fun w' hx => by have cc := hx.cell 0; go_simp; with_reducible rfl) ?_
 refine c_P ⟨BD, trivial⟩ 4 rfl ?_
 refine c_R (fun w' => Blk w' b3 tQ [.int .i64 23, .int .i64 a, .int .i64 c, .int .i64 p, .int .i64 s, .slice ab bs.length capb, .slice av vs.length capv, wV m, wV o]) XQ ⟨BD, trivial⟩ 5 rfl (fun w' hx => by have cc := hx.cell 1; go_simp; with_reducible rfl) ?_
 refine c_P ⟨XQ, BD, trivial⟩ 6 rfl ?_
 refine c_R (fun w' => Blk w' b3 tQ [.int .i64 23, .int .i64 a, .int .i64 c, .int .i64 p, .int .i64 s, .slice ab bs.length capb, .slice av vs.length capv, wV m, wV o]) XQ ⟨XQ, BD, trivial⟩ 7 rfl (fun w' hx => by have cc := hx.cell 2; go_simp; with_reducible rfl) ?_
 refine c_move 8 (by kernel_rfl) (c_op 8 [] (by kernel_rfl) rfl (by kernel_rfl) (fun K hK => ?_))
 go_wp2_with fail
 refine (getV_any lo hi gs n s0 3 a c w2 S (by have := HN.out; unfold i64; omega)).mono ?_
 rintro e w3 ⟨v6, rfl, NV, NVn0, E⟩
 rw [HK1.out]
 go_simp
 clear NVn0 NV
 replace XQ := XQ.below E XQ.lt
 replace BZ := BZ.below E BZ.lt
 replace BD := BD.below E BD.lt
 replace S := S.ext E
 replace KP := KP.ext E
 clear E
 refine hK.out _ _ trivial ?_
 clear K hK
 try simp only [Act.put, PuA, PuB, PuC]
 refine c_P trivial 9 rfl ?_
 refine c_P trivial 10 rfl ?_
 refine c_P trivial 11 rfl ?_
 refine c_P trivial 12 rfl ?_
 refine c_P trivial 13 rfl ?_
 refine c_done (by kernel_rfl) ?_
 go_wp2_with fail
 refine c_begin 10 rfl (by kernel_rfl) ?_
 have EA := (Below.refl w3.heap.size w3).drew
 replace XQ := XQ.below EA XQ.lt
 replace BZ := BZ.below EA BZ.lt
 replace BD := BD.below EA BD.lt
 replace S := S.ext EA
 replace KP := KP.ext EA
 clear EA
 generalize w3.drew = w4 at *
 refine c_P trivial 0 rfl ?_
 refine c_P trivial 1 rfl ?_
 refine c_P trivial 2 rfl ?_
 refine c_R (fun w' => Blk w' g tV [ptrG gs, .int .i64 ms, .int .i64 fl, .int .u8 un]) BD trivial 3 rfl (fun w' hx => by have cc := hx.cell 0; go_simp; with_reducible rfl) ?_
 refine c_P ⟨BD, trivial⟩ 4 rfl ?_
 refine c_R (fun w' => Blk w' b3 tQ [.int .i64 23, .int .i64 a, .int .i64 c, .int .i64 p, .int .i64 s, .slice ab bs.length capb, .slice av vs.length capv, wV m, wV o]) XQ ⟨BD, trivial⟩ 5 rfl (fun w' hx => by have cc := hx.cell 3; go_simp; with_reducible rfl) ?_
 refine c_P ⟨XQ, BD, trivial⟩ 6 rfl ?_
 refine c_R (fun w' => Blk w' b3 tQ [.int .i64 23, .int .i64 a, .int .i64 c, .int .i64 p, .int .i64 s, .slice ab bs.length capb, .slice av vs.length capv, wV m, wV o]) XQ ⟨XQ, BD, trivial⟩ 7 rfl (fun w' hx => by have cc := hx.cell 6; go_simp; with_reducible rfl) ?_
 refine c_move 8 (by kernel_rfl) (c_op 8 [] (by kernel_rfl) rfl (by kernel_rfl) (fun K hK => ?_))
 go_wp2_with fail
 refine (setV_any lo hi gs n s0 _ vs 3 p w4 S (R2.out.kp KP (fun _ _ h => h)).1 (by have := HN.out; unfold i64; omega)).mono ?_
 clear S
 rintro e w5 ⟨rfl, S, KK⟩
 rw [HK2.out]
 go_simp
 replace XQ := XQ.kp KK (fun h => by have h2 := h.2; have := HL.out; omega)
 replace BZ := BZ.kp KK (fun h => by have h2 := h.2; have := HL.out; omega)
 replace BD := BD.kp KK HO.out
 replace KP := KP.then KK (fun i _ h => .inr h)
 clear KK
 refine hK.out _ _ trivial ?_
 clear K hK
 try simp only [Act.put, PuA, PuB, PuC]
 refine c_P trivial 9 rfl ?_
 refine c_done (by kernel_rfl) ?_
 rw [show setV n s0 3 p vs = s0 by simp [setV, HK2.out]] at S
 have x0 : w5.cell? ⟨b3, 0, none⟩ = some (.int .i64 23) := XQ.cell 0
 go_wp2_with fail
 clear x0
 refine (vrefuse_any g gs ms fl un 23 2 w5 BD ⟨by omega, by omega⟩).mono ?_
 rintro e wd ⟨rfl, BD2, KK⟩
 replace BZ := BZ.kp KK (by have := HL.out; omega)
 replace S := S.kp KK (fun i h e => by subst e; exact HO.out h)
 replace KP := KP.then KK (fun _ _ h => .inl h)
 clear BD KK XQ
 have BD := BD2
 clear BD2
 obtain ⟨z0, z1, z2, z3, z4, z5, z6, z7, z8, z9⟩ := cells10 BZ
 have yz := fun i => BZ.frozen i
 go_wp2
 clear z0 z1 z2 z3 z4 z5 z6 z7 z8 z9 yz
 obtain ⟨wl, hwl, BF, PN, PK⟩ := put10 BZ rfl (.int .i64 23) (.int .i64 2) (.int .i64 0) (.int .i64 0) (.int .i64 0) (.slice none 0 0) (.slice none 0 0) (.int .u16 0) (.int .u16 0) (.slice none 0 0)
 rw [hwl]
 clear hwl
 have KS := PK _ _ (Kp.refl (· = b4) wd) (fun _ => rfl)
 replace KP := PK _ _ KP (fun h => by have := HL.out; omega)
 replace BD := BD.kp KS (by have := HL.out; omega)
 replace S := S.kp KS (fun i h e => by subst e; exact (fun h => by have h2 := h.2; have := HL.out; omega) h)
 obtain ⟨c0, c1, c2, c3, c4, c5, c6, c7, c8, c9⟩ := cells10 BF
 clear PN PK KS BZ BF
 refine bodyPost_ret (v := _) (by simp [results, Try.results41, go_sem, c0, c1, c2, c3, c4, c5, c6, c7, c8, c9]; with_reducible rfl) rfl ?_
 exact ⟨_, rfl, NRp.ref _ _ _ _, ⟨BD, S, HO.out⟩, KP⟩
set_option maxRecDepth 100000 in
set_option maxHeartbeats 4000000 in
theorem vrw_2 (g gs lo hi n : Nat) (dv : Dv) (a c p s : Int) (bs : List Bool) (vs : List UInt16) (m o : UInt16) (v : Value) (w : World) (D : DD w g gs lo hi n dv) (h : IsRqF (Gd g lo hi) w v ⟨23, a, c, p, s, bs, vs, m, o⟩) (hm : 0 ≤ dv.msgs ∧ dv.msgs ≤ 100000000000000001 ∧ 0 ≤ dv.flts ∧ dv.flts ≤ 100000000000000001)
  (hn : (0 ≤ a ∧ a ≤ 65535) ∧ (0 ≤ c ∧ c ≤ 65535) ∧ (0 ≤ p ∧ p ≤ 65535)) (hk1 : okV n 3 a c = true) (hk2 : okV n 3 p vs.length = true) (X : Rp × Dv) (hX : rdV n { dv with s := setV n dv.s 3 p vs } 23 3 a c = X) :
  Calls Try.prog 41 #[ptrG g, v] w fun e w' => ∃ v', e = .returned v' ∧ NRp w.heap.size w' v' (X).1 ∧ DD w' g gs lo hi n (X).2 ∧ Kp (Gd g lo hi) w w' := by
 obtain ⟨ab, capb, av, capv, rfl, hl1, hl2, rb, rv⟩ := h.slices
 clear h
 have R1 := hidden rb
 have R2 := hidden rv
 clear rb rv
 simp only at hl1 hl2 R1 R2 ⊢
 have HN := hidden hn
 have HK1 := hidden hk1
 clear hn hk1
 have HK2 := hidden hk2
 clear hk2
 have HX := hidden hX
 clear hX
 have HM := hidden hm
 obtain ⟨hb, hs, ho⟩ := D
 obtain ⟨s0, ms, fl, un⟩ := dv
 simp only at hb hs hm ⊢
 obtain ⟨f1, f2, f3, f4⟩ := hm
 have HO := hidden ho
 have XQ := (Blk.new w tQ [.int .i64 23, .int .i64 a, .int .i64 c, .int .i64 p, .int .i64 s, .slice ab bs.length capb, .slice av vs.length capv, wV m, wV o]).alloc (.cells zsP.toArray tP)
 have BZ := Blk.new (w.alloc (.cells #[.int .i64 23, .int .i64 a, .int .i64 c, .int .i64 p, .int .i64 s, .slice ab bs.length capb, .slice av vs.length capv, wV m, wV o] tQ)) tP zsP
 rw [World.size_alloc] at BZ
 have E0 : Below w.heap.size w ((w.alloc (.cells #[.int .i64 23, .int .i64 a, .int .i64 c, .int .i64 p, .int .i64 s, .slice ab bs.length capb, .slice av vs.length capv, wV m, wV o] tQ)).alloc (.cells zsP.toArray tP)) := ((Below.refl w.heap.size w).alloc (Nat.le_refl _) _).alloc (by simp) _
 have HL : Hid (g < w.heap.size ∧ hi ≤ w.heap.size) := ⟨hb.lt, hs.top⟩
 have BD := hb.below E0 hb.lt
 have S := hs.ext E0
 have KP := Kp.of_below (F := Gd g lo hi) E0
 clear E0 hb hs ho
 have XH := hidden XQ
 have ZH := hidden BZ
 have DH := hidden BD
 have SH := hidden S
 have KH := hidden KP
 clear XQ BZ BD S KP
 go_enter Try.func41, Try.ntmps41
 go_wp2_with fail
 have XQ := XH.out
 have BZ := ZH.out
 have BD := DH.out
 have S := SH.out
 have KP := KH.out
 clear XH ZH DH SH KH
 obtain ⟨b3, hb3⟩ : ∃ b, b = w.heap.size := ⟨_, rfl⟩
 rw [← hb3] at XQ BZ HL ⊢
 have HB := hidden hb3
 clear hb3
 obtain ⟨b4, hb4⟩ : ∃ b, b = b3 + 1 := ⟨_, rfl⟩
 rw [← hb4] at BZ ⊢
 replace HL : Hid (g < b3 ∧ hi ≤ b3 ∧ b4 = b3 + 1 ∧ b3 = w.heap.size) := ⟨HL.out.1, HL.out.2, hb4, HB.out⟩
 clear hb4 HB
 generalize (w.alloc (.cells #[.int .i64 23, .int .i64 a, .int .i64 c, .int .i64 p, .int .i64 s, .slice ab bs.length capb, .slice av vs.length capv, wV m, wV o] tQ)).alloc (.cells zsP.toArray tP) = w1 at *
 refine c_begin 14 rfl (by kernel_rfl) ?_
 have EA := (Below.refl w1.heap.size w1).drew
 replace XQ := XQ.below EA XQ.lt
 replace BZ := BZ.below EA BZ.lt
 replace BD := BD.below EA BD.lt
 replace S := S.ext EA
 replace KP := KP.ext EA
 clear EA
 generalize w1.drew = w2 at *
 refine c_P trivial 0 rfl ?_
 refine c_P trivial 1 rfl ?_
 refine c_P trivial 2 rfl ?_
 refine c_R (fun w' => Blk w' g tV [ptrG gs, .int .i64 ms, .int .i64 fl, .int .u8 un]) BD trivial 3 rfl (fun w' hx => by have cc := hx.cell 0; go_simp; with_reducible rfl) ?_
 refine c_P ⟨BD, trivial⟩ 4 rfl ?_
 refine c_R (fun w' => Blk w' b3 tQ [.int .i64 23, .int .i64 a, .int .i64 c, .int .i64 p, .int .i64 s, .slice ab bs.length capb, .slice av vs.length capv, wV m, wV o]) XQ ⟨BD, trivial⟩ 5 rfl (fun w' hx => by have cc := hx.cell 1; go_simp; with_reducible rfl) ?_
 refine c_P ⟨XQ, BD, trivial⟩ 6 rfl ?_
 refine c_R (fun w' => Blk w' b3 tQ [.int .i64 23, .int .i64 a, .int .i64 c, .int .i64 p, .int .i64 s, .slice ab bs.length capb, .slice av vs.length capv, wV m, wV o]) XQ ⟨XQ, BD, trivial⟩ 7 rfl (fun w' hx => by have cc := hx.cell 2; go_simp; with_reducible rfl) ?_
 refine c_move 8 (by kernel_rfl) (c_op 8 [] (by kernel_rfl) rfl (by kernel_rfl) (fun K hK => ?_))
 go_wp2_with fail
 refine (getV_any lo hi gs n s0 3 a c w2 S (by have := HN.out; unfold i64; omega)).mono ?_
 rintro e w3 ⟨v6, rfl, NV, NVn0, E⟩
 rw [HK1.out]
 go_simp
 clear NVn0 NV
 replace XQ := XQ.below E XQ.lt
 replace BZ := BZ.below E BZ.lt
 replace BD := BD.below E BD.lt
 replace S := S.ext E
 replace KP := KP.ext E
 clear E
 refine hK.out _ _ trivial ?_
 clear K hK
 try simp only [Act.put, PuA, PuB, PuC]
 refine c_P trivial 9 rfl ?_
 refine c_P trivial 10 rfl ?_
 refine c_P trivial 11 rfl ?_
 refine c_P trivial 12 rfl ?_
 refine c_P trivial 13 rfl ?_
 refine c_done (by kernel_rfl) ?_
 go_wp2_with fail
 refine c_begin 10 rfl (by kernel_rfl) ?_
 have EA := (Below.refl w3.heap.size w3).drew
 replace XQ := XQ.below EA XQ.lt
 replace BZ := BZ.below EA BZ.lt
 replace BD := BD.below EA BD.lt
 replace S := S.ext EA
 replace KP := KP.ext EA
 clear EA
 generalize w3.drew = w4 at *
 refine c_P trivial 0 rfl ?_
 refine c_P trivial 1 rfl ?_
 refine c_P trivial 2 rfl ?_
 refine c_R (fun w' => Blk w' g tV [ptrG gs, .int .i64 ms, .int .i64 fl, .int .u8 un]) BD trivial 3 rfl (fun w' hx => by have cc := hx.cell 0; go_simp; with_reducible rfl) ?_
 refine c_P ⟨BD, trivial⟩ 4 rfl ?_
 refine c_R (fun w' => Blk w' b3 tQ [.int .i64 23, .int .i64 a, .int .i64 c, .int .i64 p, .int .i64 s, .slice ab bs.length capb, .slice av vs.length capv, wV m, wV o]) XQ ⟨BD, trivial⟩ 5 rfl (fun w' hx => by have cc := hx.cell 3; go_simp; with_reducible rfl) ?_
 refine c_P ⟨XQ, BD, trivial⟩ 6 rfl ?_
 refine c_R (fun w' => Blk w' b3 tQ [.int .i64 23, .int .i64 a, .int .i64 c, .int .i64 p, .int .i64 s, .slice ab bs.length capb, .slice av vs.length capv, wV m, wV o]) XQ ⟨XQ, BD, trivial⟩ 7 rfl (fun w' hx => by have cc := hx.cell 6; go_simp; with_reducible rfl) ?_
 refine c_move 8 (by kernel_rfl) (c_op 8 [] (by kernel_rfl) rfl (by kernel_rfl) (fun K hK => ?_))
 go_wp2_with fail
 refine (setV_any lo hi gs n s0 _ vs 3 p w4 S (R2.out.kp KP (fun _ _ h => h)).1 (by have := HN.out; unfold i64; omega)).mono ?_
 clear S
 rintro e w5 ⟨rfl, S, KK⟩
 rw [HK2.out]
 go_simp
 replace XQ := XQ.kp KK (fun h => by have h2 := h.2; have := HL.out; omega)
 replace BZ := BZ.kp KK (fun h => by have h2 := h.2; have := HL.out; omega)
 replace BD := BD.kp KK HO.out
 replace KP := KP.then KK (fun i _ h => .inr h)
 clear KK
 refine hK.out _ _ trivial ?_
 clear K hK
 try simp only [Act.put, PuA, PuB, PuC]
 refine c_P trivial 9 rfl ?_
 refine c_done (by kernel_rfl) ?_
 obtain ⟨x0, x1, x2, x3, x4, x5, x6, x7, x8⟩ := cells9 XQ
 go_wp2_with fail
 clear x0 x1 x2 x3 x4 x5 x6 x7 x8
 have HZ : Hid (b4 < w5.heap.size) := BZ.lt
 refine (vrd_3 g gs lo hi n ⟨setV n s0 3 p vs, ms, fl, un⟩ 23 a c p s bs vs m o _ w5 ⟨BD, S, HO.out⟩ ⟨_, _, rfl, R1.out.kp KP (fun _ _ h => h), R2.out.kp KP (fun _ _ h => h)⟩ HM.out HN.out X HX.out).mono ?_
 clear S BD HX
 rintro e wd ⟨v', rfl, ⟨vb, vv, vd, rfl, ⟨NB, NV, ND⟩, nb, nv, nd⟩, D2, KK⟩
 have BZ := BZ.kp KK (gd_no (by have := HL.out; omega) (by have := HL.out; omega))
 have k5 := KP.size
 have lz5 := BZ.lt
 replace KP := KP.then KK (fun _ _ h => h)
 obtain ⟨⟨rf, rc, ra, rn, rs, rb, rv, rm, ro, rd⟩, dv2⟩ := X
 simp only at NB NV ND D2 ⊢
 have nb' : Hid (∀ k, vb.ownBlock = some k → b4 < k) := fun k hk => by have := nb k hk; have := HL.out; have := HZ.out; omega
 replace nb : Hid (NwV w.heap.size vb) := nb.mono (by have := HL.out; have := HZ.out; omega)
 have nv' : Hid (∀ k, vv.ownBlock = some k → b4 < k) := fun k hk => by have := nv k hk; have := HL.out; have := HZ.out; omega
 replace nv : Hid (NwV w.heap.size vv) := nv.mono (by have := HL.out; have := HZ.out; omega)
 have nd' : Hid (∀ k, vd.ownBlock = some k → b4 < k) := fun k hk => by have := nd k hk; have := HL.out; have := HZ.out; omega
 replace nd : Hid (NwV w.heap.size vd) := nd.mono (by have := HL.out; have := HZ.out; omega)
 clear KK XQ k5 lz5
 obtain ⟨avb, cvb, rfl, -⟩ := id NB
 obtain ⟨avv, cvv, rfl, -⟩ := id NV
 obtain ⟨avd, cvd, rfl, -⟩ := id ND
 simp only [List.length_map] at NB NV ND nb nv nd nb' nv' nd' ⊢
 have HNB := hidden NB
 have HNV := hidden NV
 have HND := hidden ND
 have HD2 := hidden D2
 clear NB NV ND D2
 obtain ⟨z0, z1, z2, z3, z4, z5, z6, z7, z8, z9⟩ := cells10 BZ
 have yz := fun i => BZ.frozen i
 go_wp2
 clear z0 z1 z2 z3 z4 z5 z6 z7 z8 z9 yz
 obtain ⟨wl, hwl, BF, PN, PK⟩ := put10 BZ rfl (.int .i64 rf) (.int .i64 rc) (.int .i64 ra) (.int .i64 rn) (.int .i64 rs) (.slice avb rb.length cvb) (.slice avv rv.length cvv) (wV rm) (wV ro) (.slice avd rd.length cvd)
 rw [hwl]
 clear hwl
 have KS := PK _ _ (Kp.refl (· = b4) wd) (fun _ => rfl)
 replace KP := PK _ _ KP (fun h => by have := HL.out; omega)
 have D2 := HD2.out.kp KS (fun i x e => by subst e; exact gd_no (by have := HL.out; omega) (by have := HL.out; omega) x)
 have NB := HNB.out.kp KS (fun k hk e => by have := nb'.out k hk; omega)
 have NV := HNV.out.kp KS (fun k hk e => by have := nv'.out k hk; omega)
 have ND := HND.out.kp KS (fun k hk e => by have := nd'.out k hk; omega)
 obtain ⟨c0, c1, c2, c3, c4, c5, c6, c7, c8, c9⟩ := cells10 BF
 clear PN PK KS BZ HNB HNV HND HD2
 refine bodyPost_ret (v := _) (by simp [results, Try.results41, go_sem, c0, c1, c2, c3, c4, c5, c6, c7, c8, c9]; with_reducible rfl) rfl ?_
 exact ⟨_, rfl, ⟨_, _, _, rfl, ⟨NB, NV, ND⟩, nb.out, nv.out, nd.out⟩, D2, KP⟩
end Go.Proofs.Ytdihcdphgiaepaa
