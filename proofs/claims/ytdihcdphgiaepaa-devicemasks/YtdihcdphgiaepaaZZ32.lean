/- The developers' writeCoils. -/
import Derived.Deep.Cut
import Derived.Test.YtdihcdphgiaepaaZZ26
namespace Go.Proofs.Ytdihcdphgiaepaa
open Go.RowKit
set_option maxRecDepth 100000 in
set_option maxHeartbeats 4000000 in
theorem vset15_ok (g gs lo hi n : Nat) (dv : Dv) (a c p s : Int) (bs : List Bool) (vs : List UInt16) (m o : UInt16) (v : Value) (w : World) (D : DD w g gs lo hi n dv) (h : IsRqF (Gd g lo hi) w v ⟨15, a, c, p, s, bs, vs, m, o⟩) (hm : 0 ≤ dv.msgs ∧ dv.msgs ≤ 100000000000000001 ∧ 0 ≤ dv.flts ∧ dv.flts ≤ 100000000000000001)
  (hn : (0 ≤ a ∧ a ≤ 65535) ∧ (0 ≤ c ∧ c ≤ 65535) ∧ (0 ≤ p ∧ p ≤ 65535)) (hok : okB n 0 a bs.length = true) :
  Calls Try.prog 37 #[ptrG g, v] w fun e w' => ∃ v', e = .returned v' ∧ NRp w.heap.size w' v' (((⟨15, 0, a, c, 0, [], [], 0, 0, []⟩ : Rp), ({ dv with s := setB n dv.s 0 a bs } : Dv))).1 ∧ DD w' g gs lo hi n (((⟨15, 0, a, c, 0, [], [], 0, 0, []⟩ : Rp), ({ dv with s := setB n dv.s 0 a bs } : Dv))).2 ∧ Kp (Gd g lo hi) w w' := by
 obtain ⟨ab, capb, av, capv, rfl, hl1, hl2, rb, rv⟩ := h.slices
 clear h
 have R1 := hidden rb
 have R2 := hidden rv
 clear rb rv
 simp only at hl1 hl2 R1 R2 ⊢
 have HN := hidden hn
 have HK := hidden hok
 clear hn hok
 obtain ⟨hb, hs, ho⟩ := D
 obtain ⟨s0, ms, fl, un⟩ := dv
 simp only at hb hs hm ⊢
 obtain ⟨f1, f2, f3, f4⟩ := hm
 have HO := hidden ho
 have XQ := (Blk.new w tQ [.int .i64 15, .int .i64 a, .int .i64 c, .int .i64 p, .int .i64 s, .slice ab bs.length capb, .slice av vs.length capv, wV m, wV o]).alloc (.cells zsP.toArray tP)
 have BZ := Blk.new (w.alloc (.cells #[.int .i64 15, .int .i64 a, .int .i64 c, .int .i64 p, .int .i64 s, .slice ab bs.length capb, .slice av vs.length capv, wV m, wV o] tQ)) tP zsP
 rw [World.size_alloc] at BZ
 have E0 : Below w.heap.size w ((w.alloc (.cells #[.int .i64 15, .int .i64 a, .int .i64 c, .int .i64 p, .int .i64 s, .slice ab bs.length capb, .slice av vs.length capv, wV m, wV o] tQ)).alloc (.cells zsP.toArray tP)) := ((Below.refl w.heap.size w).alloc (Nat.le_refl _) _).alloc (by simp) _
 have HL : Hid (g < w.heap.size ∧ hi ≤ w.heap.size) := ⟨hb.lt, hs.top⟩
 have BD := hb.below E0 hb.lt
 have S := hs.ext E0
 have KP := Kp.of_below (F := Gd g lo hi) E0
 clear E0 hb hs ho
 have XH := hidden XQ
 have ZH := hidden BZ
 have DH := hidden BD
 have SH := hidden S
 have KH := hidden KP
 clear XQ BZ BD S KP
 go_enter Try.func37, Try.ntmps37
 go_wp2_with fail
 have XQ := XH.out
 have BZ := ZH.out
 have BD := DH.out
 have S := SH.out
 have KP := KH.out
 clear XH ZH DH SH KH
 obtain ⟨b3, hb3⟩ : ∃ b, b = w.heap.size := ⟨_, rfl⟩
 rw [← hb3] at XQ BZ HL ⊢
 have HB := hidden hb3
 clear hb3
 obtain ⟨b4, hb4⟩ : ∃ b, b = b3 + 1 := ⟨_, rfl⟩
 rw [← hb4] at BZ ⊢
 replace HL : Hid (g < b3 ∧ hi ≤ b3 ∧ b4 = b3 + 1 ∧ b3 = w.heap.size) := ⟨HL.out.1, HL.out.2, hb4, HB.out⟩
 clear hb4 HB
 generalize (w.alloc (.cells #[.int .i64 15, .int .i64 a, .int .i64 c, .int .i64 p, .int .i64 s, .slice ab bs.length capb, .slice av vs.length capv, wV m, wV o] tQ)).alloc (.cells zsP.toArray tP) = w1 at *
 refine c_begin 10 rfl (by kernel_rfl) ?_
 have EA := (Below.refl w1.heap.size w1).drew
 replace XQ := XQ.below EA XQ.lt
 replace BZ := BZ.below EA BZ.lt
 replace BD := BD.below EA BD.lt
 replace S := S.ext EA
 replace KP := KP.ext EA
 clear EA
 generalize w1.drew = w2 at *
 refine c_P trivial 0 rfl ?_
 refine c_P trivial 1 rfl ?_
 refine c_P trivial 2 rfl ?_
 refine c_R (fun w' => Blk w' g tV [ptrG gs, .int .i64 ms, .int .i64 fl, .int .u8 un]) BD trivial 3 rfl (fun w' hx => by have cc := hx.cell 0; go_simp; with_reducible rfl) ?_
 refine c_P ⟨BD, trivial⟩ 4 rfl ?_
 refine c_R (fun w' => Blk w' b3 tQ [.int .i64 15, .int .i64 a, .int .i64 c, .int .i64 p, .int .i64 s, .slice ab bs.length capb, .slice av vs.length capv, wV m, wV o]) XQ ⟨BD, trivial⟩ 5 rfl (fun w' hx => by have cc := hx.cell 1; go_simp; with_reducible rfl) ?_
 refine c_P ⟨XQ, BD, trivial⟩ 6 rfl ?_
 refine c_R (fun w' => Blk w' b3 tQ [.int .i64 15, .int .i64 a, .int .i64 c, .int .i64 p, .int .i64 s, .slice ab bs.length capb, .slice av vs.length capv, wV m, wV o]) XQ ⟨XQ, BD, trivial⟩ 7 rfl (fun w' hx => by have cc := hx.cell 5; go_simp; with_reducible rfl) ?_
 refine c_move 8 (by kernel_rfl) (c_op 8 [] (by kernel_rfl) rfl (by kernel_rfl) (fun K hK => ?_))
 go_wp2_with fail
 refine (setB_any lo hi gs n s0 _ bs 0 a w2 S (R1.out.kp KP (fun _ _ h => h)).1 (by have := HN.out; unfold i64; omega)).mono ?_
 clear S
 rintro e w3 ⟨rfl, S, KK⟩
 rw [HK.out]
 go_simp
 replace XQ := XQ.kp KK (fun h => by have h2 := h.2; have := HL.out; omega)
 replace BZ := BZ.kp KK (fun h => by have h2 := h.2; have := HL.out; omega)
 replace BD := BD.kp KK HO.out
 replace KP := KP.then KK (fun i _ h => .inr h)
 clear KK
 refine hK.out _ _ trivial ?_
 clear K hK
 try simp only [Act.put, PuA, PuB, PuC]
 refine c_P trivial 9 rfl ?_
 refine c_done (by kernel_rfl) ?_
 have x0 : w3.cell? ⟨b3, 0, none⟩ = some (.int .i64 15) := XQ.cell 0
 have x1 : w3.cell? ⟨b3, 1, none⟩ = some (.int .i64 a) := XQ.cell 1
 have x2 : w3.cell? ⟨b3, 2, none⟩ = some (.int .i64 c) := XQ.cell 2
 obtain ⟨z0, z1, z2, z3, z4, z5, z6, z7, z8, z9⟩ := cells10 BZ
 have yz := fun i => BZ.frozen i
 go_wp2
 clear z0 z1 z2 z3 z4 z5 z6 z7 z8 z9 yz
 obtain ⟨wl, hwl, BF, PN, PK⟩ := put10 BZ rfl (.int .i64 15) (.int .i64 0) (.int .i64 a) (.int .i64 c) (.int .i64 0) (.slice none 0 0) (.slice none 0 0) (.int .u16 0) (.int .u16 0) (.slice none 0 0)
 rw [hwl]
 clear hwl
 have KS := PK _ _ (Kp.refl (· = b4) w3) (fun _ => rfl)
 replace KP := PK _ _ KP (fun h => by have := HL.out; omega)
 replace BD := BD.kp KS (by have := HL.out; omega)
 replace S := S.kp KS (fun i h e => by subst e; exact (fun h => by have h2 := h.2; have := HL.out; omega) h)
 obtain ⟨c0, c1, c2, c3, c4, c5, c6, c7, c8, c9⟩ := cells10 BF
 clear PN PK KS BZ BF
 refine bodyPost_ret (v := _) (by simp [results, Try.results37, go_sem, c0, c1, c2, c3, c4, c5, c6, c7, c8, c9]; with_reducible rfl) rfl ?_
 exact ⟨_, rfl, ⟨_, _, _, rfl, ⟨Row.nil _, Row.nil _, Row.nil _⟩, NwV.nil _ _ _, NwV.nil _ _ _, NwV.nil _ _ _⟩, ⟨BD, S, HO.out⟩, KP⟩
set_option maxRecDepth 100000 in
set_option maxHeartbeats 4000000 in
theorem vset15_no (g gs lo hi n : Nat) (dv : Dv) (a c p s : Int) (bs : List Bool) (vs : List UInt16) (m o : UInt16) (v : Value) (w : World) (D : DD w g gs lo hi n dv) (h : IsRqF (Gd g lo hi) w v ⟨15, a, c, p, s, bs, vs, m, o⟩) (hm : 0 ≤ dv.msgs ∧ dv.msgs ≤ 100000000000000001 ∧ 0 ≤ dv.flts ∧ dv.flts ≤ 100000000000000001)
  (hn : (0 ≤ a ∧ a ≤ 65535) ∧ (0 ≤ c ∧ c ≤ 65535) ∧ (0 ≤ p ∧ p ≤ 65535)) (hok : okB n 0 a bs.length = false) :
  Calls Try.prog 37 #[ptrG g, v] w fun e w' => ∃ v', e = .returned v' ∧ NRp w.heap.size w' v' (refD dv 15 2).1 ∧ DD w' g gs lo hi n (refD dv 15 2).2 ∧ Kp (Gd g lo hi) w w' := by
 obtain ⟨ab, capb, av, capv, rfl, hl1, hl2, rb, rv⟩ := h.slices
 clear h
 have R1 := hidden rb
 have R2 := hidden rv
 clear rb rv
 simp only at hl1 hl2 R1 R2 ⊢
 have HN := hidden hn
 have HK := hidden hok
 clear hn hok
 unfold refD
 obtain ⟨hb, hs, ho⟩ := D
 obtain ⟨s0, ms, fl, un⟩ := dv
 simp only at hb hs hm ⊢
 obtain ⟨f1, f2, f3, f4⟩ := hm
 have HO := hidden ho
 have XQ := (Blk.new w tQ [.int .i64 15, .int .i64 a, .int .i64 c, .int .i64 p, .int .i64 s, .slice ab bs.length capb, .slice av vs.length capv, wV m, wV o]).alloc (.cells zsP.toArray tP)
 have BZ := Blk.new (w.alloc (.cells #[.int .i64 15, .int .i64 a, .int .i64 c, .int .i64 p, .int .i64 s, .slice ab bs.length capb, .slice av vs.length capv, wV m, wV o] tQ)) tP zsP
 rw [World.size_alloc] at BZ
 have E0 : Below w.heap.size w ((w.alloc (.cells #[.int .i64 15, .int .i64 a, .int .i64 c, .int .i64 p, .int .i64 s, .slice ab bs.length capb, .slice av vs.length capv, wV m, wV o] tQ)).alloc (.cells zsP.toArray tP)) := ((Below.refl w.heap.size w).alloc (Nat.le_refl _) _).alloc (by simp) _
 have HL : Hid (g < w.heap.size ∧ hi ≤ w.heap.size) := ⟨hb.lt, hs.top⟩
 have BD := hb.below E0 hb.lt
 have S := hs.ext E0
 have KP := Kp.of_below (F := Gd g lo hi) E0
 clear E0 hb hs ho
 have XH := hidden XQ
 have ZH := hidden BZ
 have DH := hidden BD
 have SH := hidden S
 have KH := hidden KP
 clear XQ BZ BD S KP
 go_enter Try.func37, Try.ntmps37
 go_wp2_with fail
 have XQ := XH.out
 have BZ := ZH.out
 have BD := DH.out
 have S := SH.out
 have KP := KH.out
 clear XH ZH DH SH KH
 obtain ⟨b3, hb3⟩ : ∃ b, b = w.heap.size := ⟨_, rfl⟩
 rw [← hb3] at XQ BZ HL ⊢
 have HB := hidden hb3
 clear hb3
 obtain ⟨b4, hb4⟩ : ∃ b, b = b3 + 1 := ⟨_, rfl⟩
 rw [← hb4] at BZ ⊢
 replace HL : Hid (g < b3 ∧ hi ≤ b3 ∧ b4 = b3 + 1 ∧ b3 = w.heap.size) := ⟨HL.out.1, HL.out.2, hb4, HB.out⟩
 clear hb4 HB
 generalize (w.alloc (.cells #[.int .i64 15, .int .i64 a, .int .i64 c, .int .i64 p, .int .i64 s, .slice ab bs.length capb, .slice av vs.length capv, wV m, wV o] tQ)).alloc (.cells zsP.toArray tP) = w1 at *
 refine c_begin 10 rfl (by kernel_rfl) ?_
 have EA := (Below.refl w1.heap.size w1).drew
 replace XQ := XQ.below EA XQ.lt
 replace BZ := BZ.below EA BZ.lt
 replace BD := BD.below EA BD.lt
 replace S := S.ext EA
 replace KP := KP.ext EA
 clear EA
 generalize w1.drew = w2 at *
 refine c_P trivial 0 rfl ?_
 refine c_P trivial 1 rfl ?_
 refine c_P trivial 2 rfl ?_
 refine c_R (fun w' => Blk w' g tV [ptrG gs, .int .i64 ms, .int .i64 fl, .int .u8 un]) BD trivial 3 rfl (fun w' hx => by have cc := hx.cell 0; go_simp; with_reducible rfl) ?_
 refine c_P ⟨BD, trivial⟩ 4 rfl ?_
 refine c_R (fun w' => Blk w' b3 tQ [.int .i64 15, .int .i64 a, .int .i64 c, .int .i64 p, .int .i64 s, .slice ab bs.length capb, .slice av vs.length capv, wV m, wV o]) XQ ⟨BD, trivial⟩ 5 rfl (fun w' hx => by have cc := hx.cell 1; go_simp; with_reducible rfl) ?_
 refine c_P ⟨XQ, BD, trivial⟩ 6 rfl ?_
 refine c_R (fun w' => Blk w' b3 tQ [.int .i64 15, .int .i64 a, .int .i64 c, .int .i64 p, .int .i64 s, .slice ab bs.length capb, .slice av vs.length capv, wV m, wV o]) XQ ⟨XQ, BD, trivial⟩ 7 rfl (fun w' hx => by have cc := hx.cell 5; go_simp; with_reducible rfl) ?_
 refine c_move 8 (by kernel_rfl) (c_op 8 [] (by kernel_rfl) rfl (by kernel_rfl) (fun K hK => ?_))
 go_wp2_with fail
 refine (setB_any lo hi gs n s0 _ bs 0 a w2 S (R1.out.kp KP (fun _ _ h => h)).1 (by have := HN.out; unfold i64; omega)).mono ?_
 clear S
 rintro e w3 ⟨rfl, S, KK⟩
 rw [HK.out]
 go_simp
 replace XQ := XQ.kp KK (fun h => by have h2 := h.2; have := HL.out; omega)
 replace BZ := BZ.kp KK (fun h => by have h2 := h.2; have := HL.out; omega)
 replace BD := BD.kp KK HO.out
 replace KP := KP.then KK (fun i _ h => .inr h)
 clear KK
 refine hK.out _ _ trivial ?_
 clear K hK
 try simp only [Act.put, PuA, PuB, PuC]
 refine c_P trivial 9 rfl ?_
 refine c_done (by kernel_rfl) ?_
 rw [show setB n s0 0 a bs = s0 by simp [setB, HK.out]] at S
 have x0 : w3.cell? ⟨b3, 0, none⟩ = some (.int .i64 15) := XQ.cell 0
 go_wp2_with fail
 clear x0
 refine (vrefuse_any g gs ms fl un 15 2 w3 BD ⟨by omega, by omega⟩).mono ?_
 rintro e wd ⟨rfl, BD2, KK⟩
 replace BZ := BZ.kp KK (by have := HL.out; omega)
 replace S := S.kp KK (fun i h e => by subst e; exact HO.out h)
 replace KP := KP.then KK (fun _ _ h => .inl h)
 clear BD KK XQ
 have BD := BD2
 clear BD2
 obtain ⟨z0, z1, z2, z3, z4, z5, z6, z7, z8, z9⟩ := cells10 BZ
 have yz := fun i => BZ.frozen i
 go_wp2
 clear z0 z1 z2 z3 z4 z5 z6 z7 z8 z9 yz
 obtain ⟨wl, hwl, BF, PN, PK⟩ := put10 BZ rfl (.int .i64 15) (.int .i64 2) (.int .i64 0) (.int .i64 0) (.int .i64 0) (.slice none 0 0) (.slice none 0 0) (.int .u16 0) (.int .u16 0) (.slice none 0 0)
 rw [hwl]
 clear hwl
 have KS := PK _ _ (Kp.refl (· = b4) wd) (fun _ => rfl)
 replace KP := PK _ _ KP (fun h => by have := HL.out; omega)
 replace BD := BD.kp KS (by have := HL.out; omega)
 replace S := S.kp KS (fun i h e => by subst e; exact (fun h => by have h2 := h.2; have := HL.out; omega) h)
 obtain ⟨c0, c1, c2, c3, c4, c5, c6, c7, c8, c9⟩ := cells10 BF
 clear PN PK KS BZ BF
 refine bodyPost_ret (v := _) (by simp [results, Try.results37, go_sem, c0, c1, c2, c3, c4, c5, c6, c7, c8, c9]; with_reducible rfl) rfl ?_
 exact ⟨_, rfl, NRp.ref _ _ _ _, ⟨BD, S, HO.out⟩, KP⟩
end Go.Proofs.Ytdihcdphgiaepaa
