/- The developers' diagnose. -/
import Derived.Deep.Cut
import Derived.Test.YtdihcdphgiaepaaZZ26
namespace Go.Proofs.Ytdihcdphgiaepaa
open Go.RowKit
set_option maxRecDepth 100000 in
set_option maxHeartbeats 4000000 in
theorem vdiag_0 (g gs lo hi n : Nat) (dv : Dv) (a c p s : Int) (bs : List Bool) (x : UInt16) (m o : UInt16) (v : Value) (w : World) (D : DD w g gs lo hi n dv) (h : IsRqF (Gd g lo hi) w v ⟨8, a, c, p, s, bs, [x], m, o⟩) (hm : 0 ≤ dv.msgs ∧ dv.msgs ≤ 100000000000000001 ∧ 0 ≤ dv.flts ∧ dv.flts ≤ 100000000000000001)
  (hs : s = 0) :
  Calls Try.prog 36 #[ptrG g, v] w fun e w' => ∃ v', e = .returned v' ∧ NRp w.heap.size w' v' (((⟨8, 0, 0, 0, s, [], [x], 0, 0, []⟩ : Rp), dv)).1 ∧ DD w' g gs lo hi n (((⟨8, 0, 0, 0, s, [], [x], 0, 0, []⟩ : Rp), dv)).2 ∧ Kp (Gd g lo hi) w w' := by
 obtain ⟨ab, capb, av, capv, rfl, hl1, hl2, rb, rv⟩ := h.slices
 clear h
 simp only [List.map_cons, List.map_nil, List.length_singleton] at hl1 hl2 rb rv ⊢
 obtain ⟨b6, o6, c6, e6, zc⟩ := row_one rv.1
 simp only [Value.slice.injEq] at e6
 obtain ⟨rfl, -, rfl⟩ := e6
 have R2 := hidden rv
 clear rb rv zc
 subst hs
 obtain ⟨hb, hs, ho⟩ := D
 obtain ⟨s0, ms, fl, un⟩ := dv
 simp only at hb hs hm ⊢
 obtain ⟨f1, f2, f3, f4⟩ := hm
 have HO := hidden ho
 have XQ := (Blk.new w tQ [.int .i64 8, .int .i64 a, .int .i64 c, .int .i64 p, .int .i64 0, .slice ab bs.length capb, .slice (some ⟨b6, o6, none⟩) 1 capv, wV m, wV o]).alloc (.cells zsP.toArray tP)
 have BZ := Blk.new (w.alloc (.cells #[.int .i64 8, .int .i64 a, .int .i64 c, .int .i64 p, .int .i64 0, .slice ab bs.length capb, .slice (some ⟨b6, o6, none⟩) 1 capv, wV m, wV o] tQ)) tP zsP
 rw [World.size_alloc] at BZ
 have E0 : Below w.heap.size w ((w.alloc (.cells #[.int .i64 8, .int .i64 a, .int .i64 c, .int .i64 p, .int .i64 0, .slice ab bs.length capb, .slice (some ⟨b6, o6, none⟩) 1 capv, wV m, wV o] tQ)).alloc (.cells zsP.toArray tP)) := ((Below.refl w.heap.size w).alloc (Nat.le_refl _) _).alloc (by simp) _
 have HL : Hid (g < w.heap.size ∧ hi ≤ w.heap.size) := ⟨hb.lt, hs.top⟩
 have BD := hb.below E0 hb.lt
 have S := hs.ext E0
 have KP := Kp.of_below (F := Gd g lo hi) E0
 clear E0 hb hs ho
 have XH := hidden XQ
 have ZH := hidden BZ
 have DH := hidden BD
 have SH := hidden S
 have KH := hidden KP
 clear XQ BZ BD S KP
 go_enter Try.func36, Try.ntmps36
 go_upto_region 1 with fail
 have XQ := XH.out
 have BZ := ZH.out
 have BD := DH.out
 have S := SH.out
 have KP := KH.out
 clear XH ZH DH SH KH
 obtain ⟨b3, hb3⟩ : ∃ b, b = w.heap.size := ⟨_, rfl⟩
 rw [← hb3] at XQ BZ HL ⊢
 have HB := hidden hb3
 clear hb3
 obtain ⟨b4, hb4⟩ : ∃ b, b = b3 + 1 := ⟨_, rfl⟩
 rw [← hb4] at BZ ⊢
 replace HL : Hid (g < b3 ∧ hi ≤ b3 ∧ b4 = b3 + 1 ∧ b3 = w.heap.size) := ⟨HL.out.1, HL.out.2, hb4, HB.out⟩
 clear hb4 HB
 generalize (w.alloc (.cells #[.int .i64 8, .int .i64 a, .int .i64 c, .int .i64 p, .int .i64 0, .slice ab bs.length capb, .slice (some ⟨b6, o6, none⟩) 1 capv, wV m, wV o] tQ)).alloc (.cells zsP.toArray tP) = w1 at *
 have RZ := R2.out.kp KP (fun _ _ h => h)
 have zc := row_cell RZ.1
 clear RZ R2
 obtain ⟨x0, x1, x2, x3, x4, x5, x6, x7, x8⟩ := cells9 XQ
 have u1 : w1.cell? ⟨g, 1, none⟩ = some (.int .i64 ms) := BD.cell 1
 have u2 : w1.cell? ⟨g, 2, none⟩ = some (.int .i64 fl) := BD.cell 2
 have uf := fun i => BD.frozen i
 go_upto_region 12 with fail
 clear x0 x1 x2 x3 x4 x5 x6 x7 x8 u1 u2 uf zc
 have x0 : w1.cell? ⟨b3, 0, none⟩ = some (.int .i64 8) := XQ.cell 0
 have x4 : w1.cell? ⟨b3, 4, none⟩ = some (.int .i64 0) := XQ.cell 4
 have EA := (Below.refl w1.heap.size w1).alloc (Nat.le_refl _) (.cells #[wV x] 24)
 have NV := row_new w1 [wV x] 24 1 rfl (by unfold maxLen; omega)
 have lz := BZ.lt
 have NVn : Hid (∀ k, (.slice (some ⟨w1.heap.size, 0, none⟩) 1 1 : Value).ownBlock = some k → b4 < k) := fun k hk => by simp only [Value.ownBlock, Option.some.injEq] at hk; omega
 replace XQ := XQ.below EA XQ.lt
 replace BZ := BZ.below EA BZ.lt
 replace BD := BD.below EA BD.lt
 replace S := S.ext EA
 replace KP := KP.ext EA
 clear EA
 clear lz
 obtain ⟨z0, z1, z2, z3, z4, z5, z6, z7, z8, z9⟩ := cells10 BZ
 have yz := fun i => BZ.frozen i
 go_wp2
 clear z0 z1 z2 z3 z4 z5 z6 z7 z8 z9 yz
 obtain ⟨wl, hwl, BF, PN, PK⟩ := put10 BZ rfl (.int .i64 8) (.int .i64 0) (.int .i64 0) (.int .i64 0) (.int .i64 0) (.slice none 0 0) (.slice (some ⟨w1.heap.size, 0, none⟩) 1 1) (.int .u16 0) (.int .u16 0) (.slice none 0 0)
 rw [hwl]
 clear hwl
 have KS := PK _ _ (Kp.refl (· = b4) (w1.alloc (.cells #[wV x] 24))) (fun _ => rfl)
 replace KP := PK _ _ KP (fun h => by have := HL.out; omega)
 replace BD := BD.kp KS (by have := HL.out; omega)
 replace S := S.kp KS (fun i h e => by subst e; exact (fun h => by have h2 := h.2; have := HL.out; omega) h)
 replace NV := NV.kp KS (fun k hk e => by have := NVn.out k hk; have := HL.out; omega)
 obtain ⟨c0, c1, c2, c3, c4, c5, c6, c7, c8, c9⟩ := cells10 BF
 clear PN PK KS BZ BF
 refine bodyPost_ret (v := _) (by simp [results, Try.results36, go_sem, c0, c1, c2, c3, c4, c5, c6, c7, c8, c9]; with_reducible rfl) rfl ?_
 exact ⟨_, rfl, ⟨_, _, _, rfl, ⟨Row.nil _, NV, Row.nil _⟩, NwV.nil _ _ _, fun k hk => by have := NVn.out k hk; have := HL.out; omega, NwV.nil _ _ _⟩, ⟨BD, S, HO.out⟩, KP⟩
set_option maxRecDepth 100000 in
set_option maxHeartbeats 4000000 in
theorem vdiag_10 (g gs lo hi n : Nat) (dv : Dv) (a c p s : Int) (bs : List Bool) (x : UInt16) (m o : UInt16) (v : Value) (w : World) (D : DD w g gs lo hi n dv) (h : IsRqF (Gd g lo hi) w v ⟨8, a, c, p, s, bs, [x], m, o⟩) (hm : 0 ≤ dv.msgs ∧ dv.msgs ≤ 100000000000000001 ∧ 0 ≤ dv.flts ∧ dv.flts ≤ 100000000000000001)
  (hs : s = 10) :
  Calls Try.prog 36 #[ptrG g, v] w fun e w' => ∃ v', e = .returned v' ∧ NRp w.heap.size w' v' (((⟨8, 0, 0, 0, s, [], [x], 0, 0, []⟩ : Rp), ({ dv with msgs := 0, flts := 0 } : Dv))).1 ∧ DD w' g gs lo hi n (((⟨8, 0, 0, 0, s, [], [x], 0, 0, []⟩ : Rp), ({ dv with msgs := 0, flts := 0 } : Dv))).2 ∧ Kp (Gd g lo hi) w w' := by
 obtain ⟨ab, capb, av, capv, rfl, hl1, hl2, rb, rv⟩ := h.slices
 clear h
 simp only [List.map_cons, List.map_nil, List.length_singleton] at hl1 hl2 rb rv ⊢
 obtain ⟨b6, o6, c6, e6, zc⟩ := row_one rv.1
 simp only [Value.slice.injEq] at e6
 obtain ⟨rfl, -, rfl⟩ := e6
 have R2 := hidden rv
 clear rb rv zc
 subst hs
 obtain ⟨hb, hs, ho⟩ := D
 obtain ⟨s0, ms, fl, un⟩ := dv
 simp only at hb hs hm ⊢
 obtain ⟨f1, f2, f3, f4⟩ := hm
 have HO := hidden ho
 have XQ := (Blk.new w tQ [.int .i64 8, .int .i64 a, .int .i64 c, .int .i64 p, .int .i64 10, .slice ab bs.length capb, .slice (some ⟨b6, o6, none⟩) 1 capv, wV m, wV o]).alloc (.cells zsP.toArray tP)
 have BZ := Blk.new (w.alloc (.cells #[.int .i64 8, .int .i64 a, .int .i64 c, .int .i64 p, .int .i64 10, .slice ab bs.length capb, .slice (some ⟨b6, o6, none⟩) 1 capv, wV m, wV o] tQ)) tP zsP
 rw [World.size_alloc] at BZ
 have E0 : Below w.heap.size w ((w.alloc (.cells #[.int .i64 8, .int .i64 a, .int .i64 c, .int .i64 p, .int .i64 10, .slice ab bs.length capb, .slice (some ⟨b6, o6, none⟩) 1 capv, wV m, wV o] tQ)).alloc (.cells zsP.toArray tP)) := ((Below.refl w.heap.size w).alloc (Nat.le_refl _) _).alloc (by simp) _
 have HL : Hid (g < w.heap.size ∧ hi ≤ w.heap.size) := ⟨hb.lt, hs.top⟩
 have BD := hb.below E0 hb.lt
 have S := hs.ext E0
 have KP := Kp.of_below (F := Gd g lo hi) E0
 clear E0 hb hs ho
 have XH := hidden XQ
 have ZH := hidden BZ
 have DH := hidden BD
 have SH := hidden S
 have KH := hidden KP
 clear XQ BZ BD S KP
 go_enter Try.func36, Try.ntmps36
 go_upto_region 1 with fail
 have XQ := XH.out
 have BZ := ZH.out
 have BD := DH.out
 have S := SH.out
 have KP := KH.out
 clear XH ZH DH SH KH
 obtain ⟨b3, hb3⟩ : ∃ b, b = w.heap.size := ⟨_, rfl⟩
 rw [← hb3] at XQ BZ HL ⊢
 have HB := hidden hb3
 clear hb3
 obtain ⟨b4, hb4⟩ : ∃ b, b = b3 + 1 := ⟨_, rfl⟩
 rw [← hb4] at BZ ⊢
 replace HL : Hid (g < b3 ∧ hi ≤ b3 ∧ b4 = b3 + 1 ∧ b3 = w.heap.size) := ⟨HL.out.1, HL.out.2, hb4, HB.out⟩
 clear hb4 HB
 generalize (w.alloc (.cells #[.int .i64 8, .int .i64 a, .int .i64 c, .int .i64 p, .int .i64 10, .slice ab bs.length capb, .slice (some ⟨b6, o6, none⟩) 1 capv, wV m, wV o] tQ)).alloc (.cells zsP.toArray tP) = w1 at *
 have RZ := R2.out.kp KP (fun _ _ h => h)
 have zc := row_cell RZ.1
 clear RZ R2
 obtain ⟨x0, x1, x2, x3, x4, x5, x6, x7, x8⟩ := cells9 XQ
 have u1 : w1.cell? ⟨g, 1, none⟩ = some (.int .i64 ms) := BD.cell 1
 have u2 : w1.cell? ⟨g, 2, none⟩ = some (.int .i64 fl) := BD.cell 2
 have uf := fun i => BD.frozen i
 go_upto_region 12 with fail
 clear x0 x1 x2 x3 x4 x5 x6 x7 x8 u1 u2 uf zc
 have KS : Kp (· = g) w1 (w1.setCell ⟨g, 1, none⟩ (.int .i64 0)) := Kp.set (F := (· = g)) (Kp.refl _ w1) (p := ⟨g, 1, none⟩) (fun _ => rfl) (.int .i64 0)
 replace XQ := XQ.kp KS (by have := HL.out; omega)
 replace BZ := BZ.kp KS (by have := HL.out; omega)
 replace BD := BD.set 1 (.int .i64 0)
 replace S := S.kp KS (fun i h e => by subst e; exact HO.out h)
 replace KP := KP.set (p := ⟨g, 1, none⟩) (fun _ => .inl rfl) (.int .i64 0)
 clear KS
 generalize w1.setCell ⟨g, 1, none⟩ (.int .i64 0) = w2 at *
 have KS : Kp (· = g) w2 (w2.setCell ⟨g, 2, none⟩ (.int .i64 0)) := Kp.set (F := (· = g)) (Kp.refl _ w2) (p := ⟨g, 2, none⟩) (fun _ => rfl) (.int .i64 0)
 replace XQ := XQ.kp KS (by have := HL.out; omega)
 replace BZ := BZ.kp KS (by have := HL.out; omega)
 replace BD := BD.set 2 (.int .i64 0)
 replace S := S.kp KS (fun i h e => by subst e; exact HO.out h)
 replace KP := KP.set (p := ⟨g, 2, none⟩) (fun _ => .inl rfl) (.int .i64 0)
 clear KS
 generalize w2.setCell ⟨g, 2, none⟩ (.int .i64 0) = w3 at *
 have x0 : w3.cell? ⟨b3, 0, none⟩ = some (.int .i64 8) := XQ.cell 0
 have x4 : w3.cell? ⟨b3, 4, none⟩ = some (.int .i64 10) := XQ.cell 4
 have EA := (Below.refl w3.heap.size w3).alloc (Nat.le_refl _) (.cells #[wV x] 24)
 have NV := row_new w3 [wV x] 24 1 rfl (by unfold maxLen; omega)
 have lz := BZ.lt
 have NVn : Hid (∀ k, (.slice (some ⟨w3.heap.size, 0, none⟩) 1 1 : Value).ownBlock = some k → b4 < k) := fun k hk => by simp only [Value.ownBlock, Option.some.injEq] at hk; omega
 replace XQ := XQ.below EA XQ.lt
 replace BZ := BZ.below EA BZ.lt
 replace BD := BD.below EA BD.lt
 replace S := S.ext EA
 replace KP := KP.ext EA
 clear EA
 clear lz
 obtain ⟨z0, z1, z2, z3, z4, z5, z6, z7, z8, z9⟩ := cells10 BZ
 have yz := fun i => BZ.frozen i
 go_wp2
 clear z0 z1 z2 z3 z4 z5 z6 z7 z8 z9 yz
 obtain ⟨wl, hwl, BF, PN, PK⟩ := put10 BZ rfl (.int .i64 8) (.int .i64 0) (.int .i64 0) (.int .i64 0) (.int .i64 10) (.slice none 0 0) (.slice (some ⟨w3.heap.size, 0, none⟩) 1 1) (.int .u16 0) (.int .u16 0) (.slice none 0 0)
 rw [hwl]
 clear hwl
 have KS := PK _ _ (Kp.refl (· = b4) (w3.alloc (.cells #[wV x] 24))) (fun _ => rfl)
 replace KP := PK _ _ KP (fun h => by have := HL.out; omega)
 replace BD := BD.kp KS (by have := HL.out; omega)
 replace S := S.kp KS (fun i h e => by subst e; exact (fun h => by have h2 := h.2; have := HL.out; omega) h)
 replace NV := NV.kp KS (fun k hk e => by have := NVn.out k hk; have := HL.out; omega)
 obtain ⟨c0, c1, c2, c3, c4, c5, c6, c7, c8, c9⟩ := cells10 BF
 clear PN PK KS BZ BF
 refine bodyPost_ret (v := _) (by simp [results, Try.results36, go_sem, c0, c1, c2, c3, c4, c5, c6, c7, c8, c9]; with_reducible rfl) rfl ?_
 exact ⟨_, rfl, ⟨_, _, _, rfl, ⟨Row.nil _, NV, Row.nil _⟩, NwV.nil _ _ _, fun k hk => by have := NVn.out k hk; have := HL.out; omega, NwV.nil _ _ _⟩, ⟨BD, S, HO.out⟩, KP⟩
set_option maxRecDepth 100000 in
set_option maxHeartbeats 4000000 in
theorem vdiag_11 (g gs lo hi n : Nat) (dv : Dv) (a c p s : Int) (bs : List Bool) (x : UInt16) (m o : UInt16) (v : Value) (w : World) (D : DD w g gs lo hi n dv) (h : IsRqF (Gd g lo hi) w v ⟨8, a, c, p, s, bs, [x], m, o⟩) (hm : 0 ≤ dv.msgs ∧ dv.msgs ≤ 100000000000000001 ∧ 0 ≤ dv.flts ∧ dv.flts ≤ 100000000000000001)
  (hs : s = 11) (hx : x = 0) :
  Calls Try.prog 36 #[ptrG g, v] w fun e w' => ∃ v', e = .returned v' ∧ NRp w.heap.size w' v' (((⟨8, 0, 0, 0, s, [], [wOf dv.msgs], 0, 0, []⟩ : Rp), dv)).1 ∧ DD w' g gs lo hi n (((⟨8, 0, 0, 0, s, [], [wOf dv.msgs], 0, 0, []⟩ : Rp), dv)).2 ∧ Kp (Gd g lo hi) w w' := by
 obtain ⟨ab, capb, av, capv, rfl, hl1, hl2, rb, rv⟩ := h.slices
 clear h
 simp only [List.map_cons, List.map_nil, List.length_singleton] at hl1 hl2 rb rv ⊢
 obtain ⟨b6, o6, c6, e6, zc⟩ := row_one rv.1
 simp only [Value.slice.injEq] at e6
 obtain ⟨rfl, -, rfl⟩ := e6
 have R2 := hidden rv
 clear rb rv zc
 subst hs
 subst hx
 obtain ⟨hb, hs, ho⟩ := D
 obtain ⟨s0, ms, fl, un⟩ := dv
 simp only at hb hs hm ⊢
 obtain ⟨f1, f2, f3, f4⟩ := hm
 have HO := hidden ho
 have XQ := (Blk.new w tQ [.int .i64 8, .int .i64 a, .int .i64 c, .int .i64 p, .int .i64 11, .slice ab bs.length capb, .slice (some ⟨b6, o6, none⟩) 1 capv, wV m, wV o]).alloc (.cells zsP.toArray tP)
 have BZ := Blk.new (w.alloc (.cells #[.int .i64 8, .int .i64 a, .int .i64 c, .int .i64 p, .int .i64 11, .slice ab bs.length capb, .slice (some ⟨b6, o6, none⟩) 1 capv, wV m, wV o] tQ)) tP zsP
 rw [World.size_alloc] at BZ
 have E0 : Below w.heap.size w ((w.alloc (.cells #[.int .i64 8, .int .i64 a, .int .i64 c, .int .i64 p, .int .i64 11, .slice ab bs.length capb, .slice (some ⟨b6, o6, none⟩) 1 capv, wV m, wV o] tQ)).alloc (.cells zsP.toArray tP)) := ((Below.refl w.heap.size w).alloc (Nat.le_refl _) _).alloc (by simp) _
 have HL : Hid (g < w.heap.size ∧ hi ≤ w.heap.size) := ⟨hb.lt, hs.top⟩
 have BD := hb.below E0 hb.lt
 have S := hs.ext E0
 have KP := Kp.of_below (F := Gd g lo hi) E0
 clear E0 hb hs ho
 have XH := hidden XQ
 have ZH := hidden BZ
 have DH := hidden BD
 have SH := hidden S
 have KH := hidden KP
 clear XQ BZ BD S KP
 go_enter Try.func36, Try.ntmps36
 go_upto_region 1 with fail
 have XQ := XH.out
 have BZ := ZH.out
 have BD := DH.out
 have S := SH.out
 have KP := KH.out
 clear XH ZH DH SH KH
 obtain ⟨b3, hb3⟩ : ∃ b, b = w.heap.size := ⟨_, rfl⟩
 rw [← hb3] at XQ BZ HL ⊢
 have HB := hidden hb3
 clear hb3
 obtain ⟨b4, hb4⟩ : ∃ b, b = b3 + 1 := ⟨_, rfl⟩
 rw [← hb4] at BZ ⊢
 replace HL : Hid (g < b3 ∧ hi ≤ b3 ∧ b4 = b3 + 1 ∧ b3 = w.heap.size) := ⟨HL.out.1, HL.out.2, hb4, HB.out⟩
 clear hb4 HB
 generalize (w.alloc (.cells #[.int .i64 8, .int .i64 a, .int .i64 c, .int .i64 p, .int .i64 11, .slice ab bs.length capb, .slice (some ⟨b6, o6, none⟩) 1 capv, wV m, wV o] tQ)).alloc (.cells zsP.toArray tP) = w1 at *
 have RZ := R2.out.kp KP (fun _ _ h => h)
 have zc := row_cell RZ.1
 clear RZ R2
 obtain ⟨x0, x1, x2, x3, x4, x5, x6, x7, x8⟩ := cells9 XQ
 have u1 : w1.cell? ⟨g, 1, none⟩ = some (.int .i64 ms) := BD.cell 1
 have u2 : w1.cell? ⟨g, 2, none⟩ = some (.int .i64 fl) := BD.cell 2
 have uf := fun i => BD.frozen i
 go_upto_region 12 with fail
 clear x0 x1 x2 x3 x4 x5 x6 x7 x8 u1 u2 uf zc
 have ey : (wV (wOf ms)) = .int .u16 (ms % 65536) := by simp [wV, wOf_wrap]
 try simp only [IntKind.wrap_u16]
 rw [← ey]
 clear ey
 have x0 : w1.cell? ⟨b3, 0, none⟩ = some (.int .i64 8) := XQ.cell 0
 have x4 : w1.cell? ⟨b3, 4, none⟩ = some (.int .i64 11) := XQ.cell 4
 have EA := (Below.refl w1.heap.size w1).alloc (Nat.le_refl _) (.cells #[wV (wOf ms)] 24)
 have NV := row_new w1 [wV (wOf ms)] 24 1 rfl (by unfold maxLen; omega)
 have lz := BZ.lt
 have NVn : Hid (∀ k, (.slice (some ⟨w1.heap.size, 0, none⟩) 1 1 : Value).ownBlock = some k → b4 < k) := fun k hk => by simp only [Value.ownBlock, Option.some.injEq] at hk; omega
 replace XQ := XQ.below EA XQ.lt
 replace BZ := BZ.below EA BZ.lt
 replace BD := BD.below EA BD.lt
 replace S := S.ext EA
 replace KP := KP.ext EA
 clear EA
 clear lz
 obtain ⟨z0, z1, z2, z3, z4, z5, z6, z7, z8, z9⟩ := cells10 BZ
 have yz := fun i => BZ.frozen i
 go_wp2
 clear z0 z1 z2 z3 z4 z5 z6 z7 z8 z9 yz
 obtain ⟨wl, hwl, BF, PN, PK⟩ := put10 BZ rfl (.int .i64 8) (.int .i64 0) (.int .i64 0) (.int .i64 0) (.int .i64 11) (.slice none 0 0) (.slice (some ⟨w1.heap.size, 0, none⟩) 1 1) (.int .u16 0) (.int .u16 0) (.slice none 0 0)
 rw [hwl]
 clear hwl
 have KS := PK _ _ (Kp.refl (· = b4) (w1.alloc (.cells #[wV (wOf ms)] 24))) (fun _ => rfl)
 replace KP := PK _ _ KP (fun h => by have := HL.out; omega)
 replace BD := BD.kp KS (by have := HL.out; omega)
 replace S := S.kp KS (fun i h e => by subst e; exact (fun h => by have h2 := h.2; have := HL.out; omega) h)
 replace NV := NV.kp KS (fun k hk e => by have := NVn.out k hk; have := HL.out; omega)
 obtain ⟨c0, c1, c2, c3, c4, c5, c6, c7, c8, c9⟩ := cells10 BF
 clear PN PK KS BZ BF
 refine bodyPost_ret (v := _) (by simp [results, Try.results36, go_sem, c0, c1, c2, c3, c4, c5, c6, c7, c8, c9]; with_reducible rfl) rfl ?_
 exact ⟨_, rfl, ⟨_, _, _, rfl, ⟨Row.nil _, NV, Row.nil _⟩, NwV.nil _ _ _, fun k hk => by have := NVn.out k hk; have := HL.out; omega, NwV.nil _ _ _⟩, ⟨BD, S, HO.out⟩, KP⟩
set_option maxRecDepth 100000 in
set_option maxHeartbeats 4000000 in
theorem vdiag_14 (g gs lo hi n : Nat) (dv : Dv) (a c p s : Int) (bs : List Bool) (x : UInt16) (m o : UInt16) (v : Value) (w : World) (D : DD w g gs lo hi n dv) (h : IsRqF (Gd g lo hi) w v ⟨8, a, c, p, s, bs, [x], m, o⟩) (hm : 0 ≤ dv.msgs ∧ dv.msgs ≤ 100000000000000001 ∧ 0 ≤ dv.flts ∧ dv.flts ≤ 100000000000000001)
  (hs : s = 14) (hx : x = 0) :
  Calls Try.prog 36 #[ptrG g, v] w fun e w' => ∃ v', e = .returned v' ∧ NRp w.heap.size w' v' (((⟨8, 0, 0, 0, s, [], [wOf dv.msgs], 0, 0, []⟩ : Rp), dv)).1 ∧ DD w' g gs lo hi n (((⟨8, 0, 0, 0, s, [], [wOf dv.msgs], 0, 0, []⟩ : Rp), dv)).2 ∧ Kp (Gd g lo hi) w w' := by
 obtain ⟨ab, capb, av, capv, rfl, hl1, hl2, rb, rv⟩ := h.slices
 clear h
 simp only [List.map_cons, List.map_nil, List.length_singleton] at hl1 hl2 rb rv ⊢
 obtain ⟨b6, o6, c6, e6, zc⟩ := row_one rv.1
 simp only [Value.slice.injEq] at e6
 obtain ⟨rfl, -, rfl⟩ := e6
 have R2 := hidden rv
 clear rb rv zc
 subst hs
 subst hx
 obtain ⟨hb, hs, ho⟩ := D
 obtain ⟨s0, ms, fl, un⟩ := dv
 simp only at hb hs hm ⊢
 obtain ⟨f1, f2, f3, f4⟩ := hm
 have HO := hidden ho
 have XQ := (Blk.new w tQ [.int .i64 8, .int .i64 a, .int .i64 c, .int .i64 p, .int .i64 14, .slice ab bs.length capb, .slice (some ⟨b6, o6, none⟩) 1 capv, wV m, wV o]).alloc (.cells zsP.toArray tP)
 have BZ := Blk.new (w.alloc (.cells #[.int .i64 8, .int .i64 a, .int .i64 c, .int .i64 p, .int .i64 14, .slice ab bs.length capb, .slice (some ⟨b6, o6, none⟩) 1 capv, wV m, wV o] tQ)) tP zsP
 rw [World.size_alloc] at BZ
 have E0 : Below w.heap.size w ((w.alloc (.cells #[.int .i64 8, .int .i64 a, .int .i64 c, .int .i64 p, .int .i64 14, .slice ab bs.length capb, .slice (some ⟨b6, o6, none⟩) 1 capv, wV m, wV o] tQ)).alloc (.cells zsP.toArray tP)) := ((Below.refl w.heap.size w).alloc (Nat.le_refl _) _).alloc (by simp) _
 have HL : Hid (g < w.heap.size ∧ hi ≤ w.heap.size) := ⟨hb.lt, hs.top⟩
 have BD := hb.below E0 hb.lt
 have S := hs.ext E0
 have KP := Kp.of_below (F := Gd g lo hi) E0
 clear E0 hb hs ho
 have XH := hidden XQ
 have ZH := hidden BZ
 have DH := hidden BD
 have SH := hidden S
 have KH := hidden KP
 clear XQ BZ BD S KP
 go_enter Try.func36, Try.ntmps36
 go_upto_region 1 with fail
 have XQ := XH.out
 have BZ := ZH.out
 have BD := DH.out
 have S := SH.out
 have KP := KH.out
 clear XH ZH DH SH KH
 obtain ⟨b3, hb3⟩ : ∃ b, b = w.heap.size := ⟨_, rfl⟩
 rw [← hb3] at XQ BZ HL ⊢
 have HB := hidden hb3
 clear hb3
 obtain ⟨b4, hb4⟩ : ∃ b, b = b3 + 1 := ⟨_, rfl⟩
 rw [← hb4] at BZ ⊢
 replace HL : Hid (g < b3 ∧ hi ≤ b3 ∧ b4 = b3 + 1 ∧ b3 = w.heap.size) := ⟨HL.out.1, HL.out.2, hb4, HB.out⟩
 clear hb4 HB
 generalize (w.alloc (.cells #[.int .i64 8, .int .i64 a, .int .i64 c, .int .i64 p, .int .i64 14, .slice ab bs.length capb, .slice (some ⟨b6, o6, none⟩) 1 capv, wV m, wV o] tQ)).alloc (.cells zsP.toArray tP) = w1 at *
 have RZ := R2.out.kp KP (fun _ _ h => h)
 have zc := row_cell RZ.1
 clear RZ R2
 obtain ⟨x0, x1, x2, x3, x4, x5, x6, x7, x8⟩ := cells9 XQ
 have u1 : w1.cell? ⟨g, 1, none⟩ = some (.int .i64 ms) := BD.cell 1
 have u2 : w1.cell? ⟨g, 2, none⟩ = some (.int .i64 fl) := BD.cell 2
 have uf := fun i => BD.frozen i
 go_upto_region 12 with fail
 clear x0 x1 x2 x3 x4 x5 x6 x7 x8 u1 u2 uf zc
 have ey : (wV (wOf ms)) = .int .u16 (ms % 65536) := by simp [wV, wOf_wrap]
 try simp only [IntKind.wrap_u16]
 rw [← ey]
 clear ey
 have x0 : w1.cell? ⟨b3, 0, none⟩ = some (.int .i64 8) := XQ.cell 0
 have x4 : w1.cell? ⟨b3, 4, none⟩ = some (.int .i64 14) := XQ.cell 4
 have EA := (Below.refl w1.heap.size w1).alloc (Nat.le_refl _) (.cells #[wV (wOf ms)] 24)
 have NV := row_new w1 [wV (wOf ms)] 24 1 rfl (by unfold maxLen; omega)
 have lz := BZ.lt
 have NVn : Hid (∀ k, (.slice (some ⟨w1.heap.size, 0, none⟩) 1 1 : Value).ownBlock = some k → b4 < k) := fun k hk => by simp only [Value.ownBlock, Option.some.injEq] at hk; omega
 replace XQ := XQ.below EA XQ.lt
 replace BZ := BZ.below EA BZ.lt
 replace BD := BD.below EA BD.lt
 replace S := S.ext EA
 replace KP := KP.ext EA
 clear EA
 clear lz
 obtain ⟨z0, z1, z2, z3, z4, z5, z6, z7, z8, z9⟩ := cells10 BZ
 have yz := fun i => BZ.frozen i
 go_wp2
 clear z0 z1 z2 z3 z4 z5 z6 z7 z8 z9 yz
 obtain ⟨wl, hwl, BF, PN, PK⟩ := put10 BZ rfl (.int .i64 8) (.int .i64 0) (.int .i64 0) (.int .i64 0) (.int .i64 14) (.slice none 0 0) (.slice (some ⟨w1.heap.size, 0, none⟩) 1 1) (.int .u16 0) (.int .u16 0) (.slice none 0 0)
 rw [hwl]
 clear hwl
 have KS := PK _ _ (Kp.refl (· = b4) (w1.alloc (.cells #[wV (wOf ms)] 24))) (fun _ => rfl)
 replace KP := PK _ _ KP (fun h => by have := HL.out; omega)
 replace BD := BD.kp KS (by have := HL.out; omega)
 replace S := S.kp KS (fun i h e => by subst e; exact (fun h => by have h2 := h.2; have := HL.out; omega) h)
 replace NV := NV.kp KS (fun k hk e => by have := NVn.out k hk; have := HL.out; omega)
 obtain ⟨c0, c1, c2, c3, c4, c5, c6, c7, c8, c9⟩ := cells10 BF
 clear PN PK KS BZ BF
 refine bodyPost_ret (v := _) (by simp [results, Try.results36, go_sem, c0, c1, c2, c3, c4, c5, c6, c7, c8, c9]; with_reducible rfl) rfl ?_
 exact ⟨_, rfl, ⟨_, _, _, rfl, ⟨Row.nil _, NV, Row.nil _⟩, NwV.nil _ _ _, fun k hk => by have := NVn.out k hk; have := HL.out; omega, NwV.nil _ _ _⟩, ⟨BD, S, HO.out⟩, KP⟩
set_option maxRecDepth 100000 in
set_option maxHeartbeats 4000000 in
theorem vdiag_13 (g gs lo hi n : Nat) (dv : Dv) (a c p s : Int) (bs : List Bool) (x : UInt16) (m o : UInt16) (v : Value) (w : World) (D : DD w g gs lo hi n dv) (h : IsRqF (Gd g lo hi) w v ⟨8, a, c, p, s, bs, [x], m, o⟩) (hm : 0 ≤ dv.msgs ∧ dv.msgs ≤ 100000000000000001 ∧ 0 ≤ dv.flts ∧ dv.flts ≤ 100000000000000001)
  (hs : s = 13) (hx : x = 0) :
  Calls Try.prog 36 #[ptrG g, v] w fun e w' => ∃ v', e = .returned v' ∧ NRp w.heap.size w' v' (((⟨8, 0, 0, 0, s, [], [wOf dv.flts], 0, 0, []⟩ : Rp), dv)).1 ∧ DD w' g gs lo hi n (((⟨8, 0, 0, 0, s, [], [wOf dv.flts], 0, 0, []⟩ : Rp), dv)).2 ∧ Kp (Gd g lo hi) w w' := by
 obtain ⟨ab, capb, av, capv, rfl, hl1, hl2, rb, rv⟩ := h.slices
 clear h
 simp only [List.map_cons, List.map_nil, List.length_singleton] at hl1 hl2 rb rv ⊢
 obtain ⟨b6, o6, c6, e6, zc⟩ := row_one rv.1
 simp only [Value.slice.injEq] at e6
 obtain ⟨rfl, -, rfl⟩ := e6
 have R2 := hidden rv
 clear rb rv zc
 subst hs
 subst hx
 obtain ⟨hb, hs, ho⟩ := D
 obtain ⟨s0, ms, fl, un⟩ := dv
 simp only at hb hs hm ⊢
 obtain ⟨f1, f2, f3, f4⟩ := hm
 have HO := hidden ho
 have XQ := (Blk.new w tQ [.int .i64 8, .int .i64 a, .int .i64 c, .int .i64 p, .int .i64 13, .slice ab bs.length capb, .slice (some ⟨b6, o6, none⟩) 1 capv, wV m, wV o]).alloc (.cells zsP.toArray tP)
 have BZ := Blk.new (w.alloc (.cells #[.int .i64 8, .int .i64 a, .int .i64 c, .int .i64 p, .int .i64 13, .slice ab bs.length capb, .slice (some ⟨b6, o6, none⟩) 1 capv, wV m, wV o] tQ)) tP zsP
 rw [World.size_alloc] at BZ
 have E0 : Below w.heap.size w ((w.alloc (.cells #[.int .i64 8, .int .i64 a, .int .i64 c, .int .i64 p, .int .i64 13, .slice ab bs.length capb, .slice (some ⟨b6, o6, none⟩) 1 capv, wV m, wV o] tQ)).alloc (.cells zsP.toArray tP)) := ((Below.refl w.heap.size w).alloc (Nat.le_refl _) _).alloc (by simp) _
 have HL : Hid (g < w.heap.size ∧ hi ≤ w.heap.size) := ⟨hb.lt, hs.top⟩
 have BD := hb.below E0 hb.lt
 have S := hs.ext E0
 have KP := Kp.of_below (F := Gd g lo hi) E0
 clear E0 hb hs ho
 have XH := hidden XQ
 have ZH := hidden BZ
 have DH := hidden BD
 have SH := hidden S
 have KH := hidden KP
 clear XQ BZ BD S KP
 go_enter Try.func36, Try.ntmps36
 go_upto_region 1 with fail
 have XQ := XH.out
 have BZ := ZH.out
 have BD := DH.out
 have S := SH.out
 have KP := KH.out
 clear XH ZH DH SH KH
 obtain ⟨b3, hb3⟩ : ∃ b, b = w.heap.size := ⟨_, rfl⟩
 rw [← hb3] at XQ BZ HL ⊢
 have HB := hidden hb3
 clear hb3
 obtain ⟨b4, hb4⟩ : ∃ b, b = b3 + 1 := ⟨_, rfl⟩
 rw [← hb4] at BZ ⊢
 replace HL : Hid (g < b3 ∧ hi ≤ b3 ∧ b4 = b3 + 1 ∧ b3 = w.heap.size) := ⟨HL.out.1, HL.out.2, hb4, HB.out⟩
 clear hb4 HB
 generalize (w.alloc (.cells #[.int .i64 8, .int .i64 a, .int .i64 c, .int .i64 p, .int .i64 13, .slice ab bs.length capb, .slice (some ⟨b6, o6, none⟩) 1 capv, wV m, wV o] tQ)).alloc (.cells zsP.toArray tP) = w1 at *
 have RZ := R2.out.kp KP (fun _ _ h => h)
 have zc := row_cell RZ.1
 clear RZ R2
 obtain ⟨x0, x1, x2, x3, x4, x5, x6, x7, x8⟩ := cells9 XQ
 have u1 : w1.cell? ⟨g, 1, none⟩ = some (.int .i64 ms) := BD.cell 1
 have u2 : w1.cell? ⟨g, 2, none⟩ = some (.int .i64 fl) := BD.cell 2
 have uf := fun i => BD.frozen i
 go_upto_region 12 with fail
 clear x0 x1 x2 x3 x4 x5 x6 x7 x8 u1 u2 uf zc
 have ey : (wV (wOf fl)) = .int .u16 (fl % 65536) := by simp [wV, wOf_wrap]
 try simp only [IntKind.wrap_u16]
 rw [← ey]
 clear ey
 have x0 : w1.cell? ⟨b3, 0, none⟩ = some (.int .i64 8) := XQ.cell 0
 have x4 : w1.cell? ⟨b3, 4, none⟩ = some (.int .i64 13) := XQ.cell 4
 have EA := (Below.refl w1.heap.size w1).alloc (Nat.le_refl _) (.cells #[wV (wOf fl)] 24)
 have NV := row_new w1 [wV (wOf fl)] 24 1 rfl (by unfold maxLen; omega)
 have lz := BZ.lt
 have NVn : Hid (∀ k, (.slice (some ⟨w1.heap.size, 0, none⟩) 1 1 : Value).ownBlock = some k → b4 < k) := fun k hk => by simp only [Value.ownBlock, Option.some.injEq] at hk; omega
 replace XQ := XQ.below EA XQ.lt
 replace BZ := BZ.below EA BZ.lt
 replace BD := BD.below EA BD.lt
 replace S := S.ext EA
 replace KP := KP.ext EA
 clear EA
 clear lz
 obtain ⟨z0, z1, z2, z3, z4, z5, z6, z7, z8, z9⟩ := cells10 BZ
 have yz := fun i => BZ.frozen i
 go_wp2
 clear z0 z1 z2 z3 z4 z5 z6 z7 z8 z9 yz
 obtain ⟨wl, hwl, BF, PN, PK⟩ := put10 BZ rfl (.int .i64 8) (.int .i64 0) (.int .i64 0) (.int .i64 0) (.int .i64 13) (.slice none 0 0) (.slice (some ⟨w1.heap.size, 0, none⟩) 1 1) (.int .u16 0) (.int .u16 0) (.slice none 0 0)
 rw [hwl]
 clear hwl
 have KS := PK _ _ (Kp.refl (· = b4) (w1.alloc (.cells #[wV (wOf fl)] 24))) (fun _ => rfl)
 replace KP := PK _ _ KP (fun h => by have := HL.out; omega)
 replace BD := BD.kp KS (by have := HL.out; omega)
 replace S := S.kp KS (fun i h e => by subst e; exact (fun h => by have h2 := h.2; have := HL.out; omega) h)
 replace NV := NV.kp KS (fun k hk e => by have := NVn.out k hk; have := HL.out; omega)
 obtain ⟨c0, c1, c2, c3, c4, c5, c6, c7, c8, c9⟩ := cells10 BF
 clear PN PK KS BZ BF
 refine bodyPost_ret (v := _) (by simp [results, Try.results36, go_sem, c0, c1, c2, c3, c4, c5, c6, c7, c8, c9]; with_reducible rfl) rfl ?_
 exact ⟨_, rfl, ⟨_, _, _, rfl, ⟨Row.nil _, NV, Row.nil _⟩, NwV.nil _ _ _, fun k hk => by have := NVn.out k hk; have := HL.out; omega, NwV.nil _ _ _⟩, ⟨BD, S, HO.out⟩, KP⟩
set_option maxRecDepth 100000 in
set_option maxHeartbeats 4000000 in
theorem vdiag_x (g gs lo hi n : Nat) (dv : Dv) (a c p s : Int) (bs : List Bool) (x : UInt16) (m o : UInt16) (v : Value) (w : World) (D : DD w g gs lo hi n dv) (h : IsRqF (Gd g lo hi) w v ⟨8, a, c, p, s, bs, [x], m, o⟩) (hm : 0 ≤ dv.msgs ∧ dv.msgs ≤ 100000000000000001 ∧ 0 ≤ dv.flts ∧ dv.flts ≤ 100000000000000001)
  (h0 : s ≠ 0) (h10 : s ≠ 10) (hx : x ≠ 0) :
  Calls Try.prog 36 #[ptrG g, v] w fun e w' => ∃ v', e = .returned v' ∧ NRp w.heap.size w' v' (refD dv 8 3).1 ∧ DD w' g gs lo hi n (refD dv 8 3).2 ∧ Kp (Gd g lo hi) w w' := by
 obtain ⟨ab, capb, av, capv, rfl, hl1, hl2, rb, rv⟩ := h.slices
 clear h
 simp only [List.map_cons, List.map_nil, List.length_singleton] at hl1 hl2 rb rv ⊢
 obtain ⟨b6, o6, c6, e6, zc⟩ := row_one rv.1
 simp only [Value.slice.injEq] at e6
 obtain ⟨rfl, -, rfl⟩ := e6
 have R2 := hidden rv
 clear rb rv zc
 unfold refD
 have h0' : (s == 0) = false := by rw [beq_eq_false_iff_ne]; exact h0
 have h10' : (s == 10) = false := by rw [beq_eq_false_iff_ne]; exact h10
 clear h0 h10
 have hx' : ((x.toNat : Int) != 0) = true := by
  rw [bne_iff_ne]; intro e
  exact hx (UInt16.toNat_inj.1 (by show x.toNat = 0; omega))
 clear hx
 obtain ⟨hb, hs, ho⟩ := D
 obtain ⟨s0, ms, fl, un⟩ := dv
 simp only at hb hs hm ⊢
 obtain ⟨f1, f2, f3, f4⟩ := hm
 have HO := hidden ho
 have XQ := (Blk.new w tQ [.int .i64 8, .int .i64 a, .int .i64 c, .int .i64 p, .int .i64 s, .slice ab bs.length capb, .slice (some ⟨b6, o6, none⟩) 1 capv, wV m, wV o]).alloc (.cells zsP.toArray tP)
 have BZ := Blk.new (w.alloc (.cells #[.int .i64 8, .int .i64 a, .int .i64 c, .int .i64 p, .int .i64 s, .slice ab bs.length capb, .slice (some ⟨b6, o6, none⟩) 1 capv, wV m, wV o] tQ)) tP zsP
 rw [World.size_alloc] at BZ
 have E0 : Below w.heap.size w ((w.alloc (.cells #[.int .i64 8, .int .i64 a, .int .i64 c, .int .i64 p, .int .i64 s, .slice ab bs.length capb, .slice (some ⟨b6, o6, none⟩) 1 capv, wV m, wV o] tQ)).alloc (.cells zsP.toArray tP)) := ((Below.refl w.heap.size w).alloc (Nat.le_refl _) _).alloc (by simp) _
 have HL : Hid (g < w.heap.size ∧ hi ≤ w.heap.size) := ⟨hb.lt, hs.top⟩
 have BD := hb.below E0 hb.lt
 have S := hs.ext E0
 have KP := Kp.of_below (F := Gd g lo hi) E0
 clear E0 hb hs ho
 have XH := hidden XQ
 have ZH := hidden BZ
 have DH := hidden BD
 have SH := hidden S
 have KH := hidden KP
 clear XQ BZ BD S KP
 go_enter Try.func36, Try.ntmps36
 go_upto_region 1 with fail
 have XQ := XH.out
 have BZ := ZH.out
 have BD := DH.out
 have S := SH.out
 have KP := KH.out
 clear XH ZH DH SH KH
 obtain ⟨b3, hb3⟩ : ∃ b, b = w.heap.size := ⟨_, rfl⟩
 rw [← hb3] at XQ BZ HL ⊢
 have HB := hidden hb3
 clear hb3
 obtain ⟨b4, hb4⟩ : ∃ b, b = b3 + 1 := ⟨_, rfl⟩
 rw [← hb4] at BZ ⊢
 replace HL : Hid (g < b3 ∧ hi ≤ b3 ∧ b4 = b3 + 1 ∧ b3 = w.heap.size) := ⟨HL.out.1, HL.out.2, hb4, HB.out⟩
 clear hb4 HB
 generalize (w.alloc (.cells #[.int .i64 8, .int .i64 a, .int .i64 c, .int .i64 p, .int .i64 s, .slice ab bs.length capb, .slice (some ⟨b6, o6, none⟩) 1 capv, wV m, wV o] tQ)).alloc (.cells zsP.toArray tP) = w1 at *
 have RZ := R2.out.kp KP (fun _ _ h => h)
 have zc := row_cell RZ.1
 clear RZ R2
 obtain ⟨x0, x1, x2, x3, x4, x5, x6, x7, x8⟩ := cells9 XQ
 have u1 : w1.cell? ⟨g, 1, none⟩ = some (.int .i64 ms) := BD.cell 1
 have u2 : w1.cell? ⟨g, 2, none⟩ = some (.int .i64 fl) := BD.cell 2
 have uf := fun i => BD.frozen i
 go_wp2_with fail
 clear x0 x1 x2 x3 x4 x5 x6 x7 x8 u1 u2 uf zc
 have x0 : w1.cell? ⟨b3, 0, none⟩ = some (.int .i64 8) := XQ.cell 0
 skip
 clear x0
 refine (vrefuse_any g gs ms fl un 8 3 w1 BD ⟨by omega, by omega⟩).mono ?_
 rintro e wd ⟨rfl, BD2, KK⟩
 replace BZ := BZ.kp KK (by have := HL.out; omega)
 replace S := S.kp KK (fun i h e => by subst e; exact HO.out h)
 replace KP := KP.then KK (fun _ _ h => .inl h)
 clear BD KK XQ
 have BD := BD2
 clear BD2
 obtain ⟨z0, z1, z2, z3, z4, z5, z6, z7, z8, z9⟩ := cells10 BZ
 have yz := fun i => BZ.frozen i
 go_wp2
 clear z0 z1 z2 z3 z4 z5 z6 z7 z8 z9 yz
 obtain ⟨wl, hwl, BF, PN, PK⟩ := put10 BZ rfl (.int .i64 8) (.int .i64 3) (.int .i64 0) (.int .i64 0) (.int .i64 0) (.slice none 0 0) (.slice none 0 0) (.int .u16 0) (.int .u16 0) (.slice none 0 0)
 rw [hwl]
 clear hwl
 have KS := PK _ _ (Kp.refl (· = b4) wd) (fun _ => rfl)
 replace KP := PK _ _ KP (fun h => by have := HL.out; omega)
 replace BD := BD.kp KS (by have := HL.out; omega)
 replace S := S.kp KS (fun i h e => by subst e; exact (fun h => by have h2 := h.2; have := HL.out; omega) h)
 obtain ⟨c0, c1, c2, c3, c4, c5, c6, c7, c8, c9⟩ := cells10 BF
 clear PN PK KS BZ BF
 refine bodyPost_ret (v := _) (by simp [results, Try.results36, go_sem, c0, c1, c2, c3, c4, c5, c6, c7, c8, c9]; with_reducible rfl) rfl ?_
 exact ⟨_, rfl, NRp.ref _ _ _ _, ⟨BD, S, HO.out⟩, KP⟩
set_option maxRecDepth 100000 in
set_option maxHeartbeats 4000000 in
theorem vdiag_o (g gs lo hi n : Nat) (dv : Dv) (a c p s : Int) (bs : List Bool) (x : UInt16) (m o : UInt16) (v : Value) (w : World) (D : DD w g gs lo hi n dv) (h : IsRqF (Gd g lo hi) w v ⟨8, a, c, p, s, bs, [x], m, o⟩) (hm : 0 ≤ dv.msgs ∧ dv.msgs ≤ 100000000000000001 ∧ 0 ≤ dv.flts ∧ dv.flts ≤ 100000000000000001)
  (h0 : s ≠ 0) (h10 : s ≠ 10) (h11 : s ≠ 11) (h14 : s ≠ 14) (h13 : s ≠ 13) (hx : x = 0) :
  Calls Try.prog 36 #[ptrG g, v] w fun e w' => ∃ v', e = .returned v' ∧ NRp w.heap.size w' v' (refD dv 8 3).1 ∧ DD w' g gs lo hi n (refD dv 8 3).2 ∧ Kp (Gd g lo hi) w w' := by
 obtain ⟨ab, capb, av, capv, rfl, hl1, hl2, rb, rv⟩ := h.slices
 clear h
 simp only [List.map_cons, List.map_nil, List.length_singleton] at hl1 hl2 rb rv ⊢
 obtain ⟨b6, o6, c6, e6, zc⟩ := row_one rv.1
 simp only [Value.slice.injEq] at e6
 obtain ⟨rfl, -, rfl⟩ := e6
 have R2 := hidden rv
 clear rb rv zc
 unfold refD
 have h0' : (s == 0) = false := by rw [beq_eq_false_iff_ne]; exact h0
 have h10' : (s == 10) = false := by rw [beq_eq_false_iff_ne]; exact h10
 have h11' : (s == 11) = false := by rw [beq_eq_false_iff_ne]; exact h11
 have h14' : (s == 14) = false := by rw [beq_eq_false_iff_ne]; exact h14
 have h13' : (s == 13) = false := by rw [beq_eq_false_iff_ne]; exact h13
 clear h0 h10 h11 h14 h13
 subst hx
 obtain ⟨hb, hs, ho⟩ := D
 obtain ⟨s0, ms, fl, un⟩ := dv
 simp only at hb hs hm ⊢
 obtain ⟨f1, f2, f3, f4⟩ := hm
 have HO := hidden ho
 have XQ := (Blk.new w tQ [.int .i64 8, .int .i64 a, .int .i64 c, .int .i64 p, .int .i64 s, .slice ab bs.length capb, .slice (some ⟨b6, o6, none⟩) 1 capv, wV m, wV o]).alloc (.cells zsP.toArray tP)
 have BZ := Blk.new (w.alloc (.cells #[.int .i64 8, .int .i64 a, .int .i64 c, .int .i64 p, .int .i64 s, .slice ab bs.length capb, .slice (some ⟨b6, o6, none⟩) 1 capv, wV m, wV o] tQ)) tP zsP
 rw [World.size_alloc] at BZ
 have E0 : Below w.heap.size w ((w.alloc (.cells #[.int .i64 8, .int .i64 a, .int .i64 c, .int .i64 p, .int .i64 s, .slice ab bs.length capb, .slice (some ⟨b6, o6, none⟩) 1 capv, wV m, wV o] tQ)).alloc (.cells zsP.toArray tP)) := ((Below.refl w.heap.size w).alloc (Nat.le_refl _) _).alloc (by simp) _
 have HL : Hid (g < w.heap.size ∧ hi ≤ w.heap.size) := ⟨hb.lt, hs.top⟩
 have BD := hb.below E0 hb.lt
 have S := hs.ext E0
 have KP := Kp.of_below (F := Gd g lo hi) E0
 clear E0 hb hs ho
 have XH := hidden XQ
 have ZH := hidden BZ
 have DH := hidden BD
 have SH := hidden S
 have KH := hidden KP
 clear XQ BZ BD S KP
 go_enter Try.func36, Try.ntmps36
 go_upto_region 1 with fail
 have XQ := XH.out
 have BZ := ZH.out
 have BD := DH.out
 have S := SH.out
 have KP := KH.out
 clear XH ZH DH SH KH
 obtain ⟨b3, hb3⟩ : ∃ b, b = w.heap.size := ⟨_, rfl⟩
 rw [← hb3] at XQ BZ HL ⊢
 have HB := hidden hb3
 clear hb3
 obtain ⟨b4, hb4⟩ : ∃ b, b = b3 + 1 := ⟨_, rfl⟩
 rw [← hb4] at BZ ⊢
 replace HL : Hid (g < b3 ∧ hi ≤ b3 ∧ b4 = b3 + 1 ∧ b3 = w.heap.size) := ⟨HL.out.1, HL.out.2, hb4, HB.out⟩
 clear hb4 HB
 generalize (w.alloc (.cells #[.int .i64 8, .int .i64 a, .int .i64 c, .int .i64 p, .int .i64 s, .slice ab bs.length capb, .slice (some ⟨b6, o6, none⟩) 1 capv, wV m, wV o] tQ)).alloc (.cells zsP.toArray tP) = w1 at *
 have RZ := R2.out.kp KP (fun _ _ h => h)
 have zc := row_cell RZ.1
 clear RZ R2
 obtain ⟨x0, x1, x2, x3, x4, x5, x6, x7, x8⟩ := cells9 XQ
 have u1 : w1.cell? ⟨g, 1, none⟩ = some (.int .i64 ms) := BD.cell 1
 have u2 : w1.cell? ⟨g, 2, none⟩ = some (.int .i64 fl) := BD.cell 2
 have uf := fun i => BD.frozen i
 go_wp2_with fail
 clear x0 x1 x2 x3 x4 x5 x6 x7 x8 u1 u2 uf zc
 have x0 : w1.cell? ⟨b3, 0, none⟩ = some (.int .i64 8) := XQ.cell 0
 skip
 clear x0
 refine (vrefuse_any g gs ms fl un 8 3 w1 BD ⟨by omega, by omega⟩).mono ?_
 rintro e wd ⟨rfl, BD2, KK⟩
 replace BZ := BZ.kp KK (by have := HL.out; omega)
 replace S := S.kp KK (fun i h e => by subst e; exact HO.out h)
 replace KP := KP.then KK (fun _ _ h => .inl h)
 clear BD KK XQ
 have BD := BD2
 clear BD2
 obtain ⟨z0, z1, z2, z3, z4, z5, z6, z7, z8, z9⟩ := cells10 BZ
 have yz := fun i => BZ.frozen i
 go_wp2
 clear z0 z1 z2 z3 z4 z5 z6 z7 z8 z9 yz
 obtain ⟨wl, hwl, BF, PN, PK⟩ := put10 BZ rfl (.int .i64 8) (.int .i64 3) (.int .i64 0) (.int .i64 0) (.int .i64 0) (.slice none 0 0) (.slice none 0 0) (.int .u16 0) (.int .u16 0) (.slice none 0 0)
 rw [hwl]
 clear hwl
 have KS := PK _ _ (Kp.refl (· = b4) wd) (fun _ => rfl)
 replace KP := PK _ _ KP (fun h => by have := HL.out; omega)
 replace BD := BD.kp KS (by have := HL.out; omega)
 replace S := S.kp KS (fun i h e => by subst e; exact (fun h => by have h2 := h.2; have := HL.out; omega) h)
 obtain ⟨c0, c1, c2, c3, c4, c5, c6, c7, c8, c9⟩ := cells10 BF
 clear PN PK KS BZ BF
 refine bodyPost_ret (v := _) (by simp [results, Try.results36, go_sem, c0, c1, c2, c3, c4, c5, c6, c7, c8, c9]; with_reducible rfl) rfl ?_
 exact ⟨_, rfl, NRp.ref _ _ _ _, ⟨BD, S, HO.out⟩, KP⟩
end Go.Proofs.Ytdihcdphgiaepaa
