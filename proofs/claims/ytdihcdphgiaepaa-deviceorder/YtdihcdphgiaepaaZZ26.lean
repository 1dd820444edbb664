/- The developers' readCoils. -/
import Derived.Deep.Cut
import Derived.Test.YtdihcdphgiaepaaZZ25
namespace Go.Proofs.Ytdihcdphgiaepaa
open Go.RowKit
theorem DD.kp {F : Nat → Prop} {w w' : World} {g gs lo hi n : Nat} {d : Dv} (h : DD w g gs lo hi n d) (k : Kp F w w') (hF : ∀ i, Gd g lo hi i → ¬ F i) : DD w' g gs lo hi n d :=
 ⟨h.blk.kp k (hF g (.inl rfl)), h.sto.kp k (fun i hi' => hF i (.inr hi')), h.off⟩
def rdB (n : Nat) (d : Dv) (f sp a c : Int) : Rp × Dv := if okB n sp a c = true then (⟨f, 0, 0, 0, 0, getB n d.s sp a c, [], 0, 0, []⟩, d) else refD d f 2
def rdV (n : Nat) (d : Dv) (f sp a c : Int) : Rp × Dv := if okV n sp a c = true then (⟨f, 0, 0, 0, 0, [], getV n d.s sp a c, 0, 0, []⟩, d) else refD d f 2
theorem row_cell {w : World} {b o c : Nat} {x : Value} (h : Row w (.slice (some ⟨b, o, none⟩) 1 c) [x]) : w.cell? ⟨b, o, none⟩ = some x := by
 obtain ⟨b', o', c', e, hc⟩ := row_one h
 simp only [Value.slice.injEq, Option.some.injEq, Addr.mk.injEq] at e
 obtain ⟨⟨rfl, rfl, -⟩, -⟩ := e
 exact hc
theorem gd_no {g lo hi b : Nat} (h1 : g < b) (h2 : hi ≤ b) : ¬ Gd g lo hi b := by
 rintro (x | x)
 ·
  omega
 ·
  have := x.2; omega
theorem fits0 (n : Nat) : fits n 0 0 = true := fits_t (by omega)
theorem vreadB_any (g gs lo hi n : Nat) (dv : Dv) (f sp a c p s : Int) (bs : List Bool) (vs : List UInt16) (m o : UInt16) (v : Value) (w : World) (D : DD w g gs lo hi n dv) (h : IsRqF (Gd g lo hi) w v ⟨f, a, c, p, s, bs, vs, m, o⟩) (hm : 0 ≤ dv.msgs ∧ dv.msgs ≤ 100000000000000001 ∧ 0 ≤ dv.flts ∧ dv.flts ≤ 100000000000000001)
  (hn : (0 ≤ a ∧ a ≤ 65535) ∧ (0 ≤ c ∧ c ≤ 65535)) (X : Rp × Dv) (hX : rdB n dv f sp a c = X) :
  Calls Try.prog 50 #[ptrG g, .int .i64 sp, v] w fun e w' => ∃ v', e = .returned v' ∧ NRp w.heap.size w' v' (X).1 ∧ DD w' g gs lo hi n (X).2 ∧ Kp (Gd g lo hi) w w' := by
 subst hX
 cases hk : okB n sp a c
 ·
  rw [show rdB n dv f sp a c = refD dv f 2 by simp [rdB, hk]]
  exact vreadB_no g gs lo hi n dv sp f a c p s bs vs m o v w D h hm hn hk
 ·
  rw [rdB, if_pos hk]
  exact vreadB_ok g gs lo hi n dv sp f a c p s bs vs m o v w D h hm hn hk
theorem vreadV_any (g gs lo hi n : Nat) (dv : Dv) (f sp a c p s : Int) (bs : List Bool) (vs : List UInt16) (m o : UInt16) (v : Value) (w : World) (D : DD w g gs lo hi n dv) (h : IsRqF (Gd g lo hi) w v ⟨f, a, c, p, s, bs, vs, m, o⟩) (hm : 0 ≤ dv.msgs ∧ dv.msgs ≤ 100000000000000001 ∧ 0 ≤ dv.flts ∧ dv.flts ≤ 100000000000000001)
  (hn : (0 ≤ a ∧ a ≤ 65535) ∧ (0 ≤ c ∧ c ≤ 65535)) (X : Rp × Dv) (hX : rdV n dv f sp a c = X) :
  Calls Try.prog 51 #[ptrG g, .int .i64 sp, v] w fun e w' => ∃ v', e = .returned v' ∧ NRp w.heap.size w' v' (X).1 ∧ DD w' g gs lo hi n (X).2 ∧ Kp (Gd g lo hi) w w' := by
 subst hX
 cases hk : okV n sp a c
 ·
  rw [show rdV n dv f sp a c = refD dv f 2 by simp [rdV, hk]]
  exact vreadV_no g gs lo hi n dv sp f a c p s bs vs m o v w D h hm hn hk
 ·
  rw [rdV, if_pos hk]
  exact vreadV_ok g gs lo hi n dv sp f a c p s bs vs m o v w D h hm hn hk
set_option maxHeartbeats 1000000 in
theorem vcloneB (b o n c : Nat) (l : List Bool) (w : World) (hv : Row w (.slice (some ⟨b, o, none⟩) n c) (l.map Value.bool)) (hl : n ≤ 65536) :
  Calls Try.prog 53 #[.slice (some ⟨b, o, none⟩) n c] w fun e w' => ∃ v', e = .returned v' ∧ Row w' v' (l.map Value.bool) ∧ NwV w.heap.size v' ∧ Below w.heap.size w w' := by
 have hln : l.length = n := by
  obtain ⟨a, c', e, -⟩ := hv
  simp only [Value.slice.injEq, List.length_map] at e
  exact e.2.1.symm
 have R1 := hv.below ((Below.refl w.heap.size w).alloc (Nat.le_refl _) (.cells #[] 4))
 have O1 : (w.alloc (.cells #[] 4)).ownsRow w.heap.size 4 1 (.slice (some ⟨w.heap.size, 0, none⟩) 0 0) 0 [] :=
  ⟨rfl, .inr ⟨w.heap.size, 0, #[], rfl, Nat.le_refl _, heap_alloc_new w _, Nat.zero_le _, by unfold maxLen; omega, by simp, by simp⟩⟩
 have en : (binOp BinOp.eql 23 (.slice (some ⟨b, o, none⟩) n c) (.slice none 0 0)).run Try.prog w = .ok (.bool false) w := by kernel_rfl
 go_enter Try.func53, Try.ntmps53
 go_wp2_with (at_builtin; refine wpList_app rfl (.tmp 5) (.tmp 6) 23 rfl w.heap.size 4 (.bool false) 1 Try.underlying23 info_bool rfl rfl O1 rfl R1 (one_bools l) (by simp [maxLen]; omega) (by simp; omega) (by simp) ?_)
 intro v2 w2 ho2 hg2
 have q := hidden (((Below.refl w.heap.size w).alloc (Nat.le_refl _) (.cells #[] 4)).grown hg2 (by simp) (fun k hk => (O1.lt k hk).1))
 have NR0 : Row w2 v2 (l.map Value.bool) := by simpa using Row.of_owns ho2
 have NR := hidden NR0
 clear NR0
 have NN : Hid (NwV w.heap.size v2) := fun k hk => (ho2.lt k hk).1
 clear ho2
 go_wp2
 go_ret
 exact ⟨_, rfl, NR.out, NN.out, q.out⟩
set_option maxHeartbeats 1000000 in
theorem vcloneV (b o n c : Nat) (l : List UInt16) (w : World) (hv : Row w (.slice (some ⟨b, o, none⟩) n c) (l.map wV)) (hl : n ≤ 65536) :
  Calls Try.prog 55 #[.slice (some ⟨b, o, none⟩) n c] w fun e w' => ∃ v', e = .returned v' ∧ Row w' v' (l.map wV) ∧ NwV w.heap.size v' ∧ Below w.heap.size w w' := by
 have hln : l.length = n := by
  obtain ⟨a, c', e, -⟩ := hv
  simp only [Value.slice.injEq, List.length_map] at e
  exact e.2.1.symm
 have R1 := hv.below ((Below.refl w.heap.size w).alloc (Nat.le_refl _) (.cells #[] 24))
 have O1 : (w.alloc (.cells #[] 24)).ownsRow w.heap.size 24 1 (.slice (some ⟨w.heap.size, 0, none⟩) 0 0) 0 [] :=
  ⟨rfl, .inr ⟨w.heap.size, 0, #[], rfl, Nat.le_refl _, heap_alloc_new w _, Nat.zero_le _, by unfold maxLen; omega, by simp, by simp⟩⟩
 have en : (binOp BinOp.eql 22 (.slice (some ⟨b, o, none⟩) n c) (.slice none 0 0)).run Try.prog w = .ok (.bool false) w := by kernel_rfl
 go_enter Try.func55, Try.ntmps55
 go_wp2_with (at_builtin; refine wpList_app rfl (.tmp 5) (.tmp 6) 22 rfl w.heap.size 24 (.int .u16 0) 2 Try.underlying22 info_w16 rfl rfl O1 rfl R1 (one_words l) (by simp [maxLen]; omega) (by simp; omega) (by simp) ?_)
 intro v2 w2 ho2 hg2
 have q := hidden (((Below.refl w.heap.size w).alloc (Nat.le_refl _) (.cells #[] 24)).grown hg2 (by simp) (fun k hk => (O1.lt k hk).1))
 have NR0 : Row w2 v2 (l.map wV) := by simpa using Row.of_owns ho2
 have NR := hidden NR0
 clear NR0
 have NN : Hid (NwV w.heap.size v2) := fun k hk => (ho2.lt k hk).1
 clear ho2
 go_wp2
 go_ret
 exact ⟨_, rfl, NR.out, NN.out, q.out⟩
theorem act_1 {n : Nat} {d : Dv} {a c p s : Int} {bs : List Bool} {vs : List UInt16} {m o : UInt16} : actD n d ⟨1, a, c, p, s, bs, vs, m, o⟩ = rdB n d 1 0 a c := by
 cases h : fits n a c <;> simp [actD, allThere, askR, goD, rdB, okB, isB, h, fits0]
theorem act_2 {n : Nat} {d : Dv} {a c p s : Int} {bs : List Bool} {vs : List UInt16} {m o : UInt16} : actD n d ⟨2, a, c, p, s, bs, vs, m, o⟩ = rdB n d 2 1 a c := by
 cases h : fits n a c <;> simp [actD, allThere, askR, goD, rdB, okB, isB, h, fits0]
theorem act_3 {n : Nat} {d : Dv} {a c p s : Int} {bs : List Bool} {vs : List UInt16} {m o : UInt16} : actD n d ⟨3, a, c, p, s, bs, vs, m, o⟩ = rdV n d 3 3 a c := by
 cases h : fits n a c <;> simp [actD, allThere, askR, goD, rdV, okV, isV, h, fits0]
theorem act_4 {n : Nat} {d : Dv} {a c p s : Int} {bs : List Bool} {vs : List UInt16} {m o : UInt16} : actD n d ⟨4, a, c, p, s, bs, vs, m, o⟩ = rdV n d 4 2 a c := by
 cases h : fits n a c <;> simp [actD, allThere, askR, goD, rdV, okV, isV, h, fits0]
end Go.Proofs.Ytdihcdphgiaepaa
namespace Go.Proofs.Ytdihcdphgiaepaa
open Go.RowKit
set_option maxRecDepth 100000 in
set_option maxHeartbeats 4000000 in
theorem vrd_1 (g gs lo hi n : Nat) (dv : Dv) (f a c p s : Int) (bs : List Bool) (vs : List UInt16) (m o : UInt16) (v : Value) (w : World) (D : DD w g gs lo hi n dv) (h : IsRqF (Gd g lo hi) w v ⟨f, a, c, p, s, bs, vs, m, o⟩) (hm : 0 ≤ dv.msgs ∧ dv.msgs ≤ 100000000000000001 ∧ 0 ≤ dv.flts ∧ dv.flts ≤ 100000000000000001)
  (hn : (0 ≤ a ∧ a ≤ 65535) ∧ (0 ≤ c ∧ c ≤ 65535) ∧ (0 ≤ p ∧ p ≤ 65535)) (X : Rp × Dv) (hX : rdB n dv f 0 a c = X) :
  Calls Try.prog 30 #[ptrG g, v] w fun e w' => ∃ v', e = .returned v' ∧ NRp w.heap.size w' v' (X).1 ∧ DD w' g gs lo hi n (X).2 ∧ Kp (Gd g lo hi) w w' := by
 obtain ⟨ab, capb, av, capv, rfl, hl1, hl2, rb, rv⟩ := h.slices
 clear h
 have R1 := hidden rb
 have R2 := hidden rv
 clear rb rv
 simp only at hl1 hl2 R1 R2 ⊢
 have HX := hidden hX
 have HN := hidden hn
 clear hn hX
 have HM := hidden hm
 obtain ⟨hb, hs, ho⟩ := D
 obtain ⟨s0, ms, fl, un⟩ := dv
 simp only at hb hs hm ⊢
 obtain ⟨f1, f2, f3, f4⟩ := hm
 have HO := hidden ho
 have XQ := (Blk.new w tQ [.int .i64 f, .int .i64 a, .int .i64 c, .int .i64 p, .int .i64 s, .slice ab bs.length capb, .slice av vs.length capv, wV m, wV o]).alloc (.cells zsP.toArray tP)
 have BZ := Blk.new (w.alloc (.cells #[.int .i64 f, .int .i64 a, .int .i64 c, .int .i64 p, .int .i64 s, .slice ab bs.length capb, .slice av vs.length capv, wV m, wV o] tQ)) tP zsP
 rw [World.size_alloc] at BZ
 have E0 : Below w.heap.size w ((w.alloc (.cells #[.int .i64 f, .int .i64 a, .int .i64 c, .int .i64 p, .int .i64 s, .slice ab bs.length capb, .slice av vs.length capv, wV m, wV o] tQ)).alloc (.cells zsP.toArray tP)) := ((Below.refl w.heap.size w).alloc (Nat.le_refl _) _).alloc (by simp) _
 have HL : Hid (g < w.heap.size ∧ hi ≤ w.heap.size) := ⟨hb.lt, hs.top⟩
 have BD := hb.below E0 hb.lt
 have S := hs.ext E0
 have KP := Kp.of_below (F := Gd g lo hi) E0
 clear E0 hb hs ho
 have XH := hidden XQ
 have ZH := hidden BZ
 have DH := hidden BD
 have SH := hidden S
 have KH := hidden KP
 clear XQ BZ BD S KP
 have y0 : ((w.alloc (.cells #[.int .i64 f, .int .i64 a, .int .i64 c, .int .i64 p, .int .i64 s, .slice ab bs.length capb, .slice av vs.length capv, wV m, wV o] tQ)).alloc (.cells zsP.toArray tP)).cell? ⟨w.heap.size, 0, none⟩ = some (.int .i64 f) := XH.out.cell 0
 have y1 : ((w.alloc (.cells #[.int .i64 f, .int .i64 a, .int .i64 c, .int .i64 p, .int .i64 s, .slice ab bs.length capb, .slice av vs.length capv, wV m, wV o] tQ)).alloc (.cells zsP.toArray tP)).cell? ⟨w.heap.size, 1, none⟩ = some (.int .i64 a) := XH.out.cell 1
 have y2 : ((w.alloc (.cells #[.int .i64 f, .int .i64 a, .int .i64 c, .int .i64 p, .int .i64 s, .slice ab bs.length capb, .slice av vs.length capv, wV m, wV o] tQ)).alloc (.cells zsP.toArray tP)).cell? ⟨w.heap.size, 2, none⟩ = some (.int .i64 c) := XH.out.cell 2
 have y3 : ((w.alloc (.cells #[.int .i64 f, .int .i64 a, .int .i64 c, .int .i64 p, .int .i64 s, .slice ab bs.length capb, .slice av vs.length capv, wV m, wV o] tQ)).alloc (.cells zsP.toArray tP)).cell? ⟨w.heap.size, 3, none⟩ = some (.int .i64 p) := XH.out.cell 3
 have y4 : ((w.alloc (.cells #[.int .i64 f, .int .i64 a, .int .i64 c, .int .i64 p, .int .i64 s, .slice ab bs.length capb, .slice av vs.length capv, wV m, wV o] tQ)).alloc (.cells zsP.toArray tP)).cell? ⟨w.heap.size, 4, none⟩ = some (.int .i64 s) := XH.out.cell 4
 have y5 : ((w.alloc (.cells #[.int .i64 f, .int .i64 a, .int .i64 c, .int .i64 p, .int .i64 s, .slice ab bs.length capb, .slice av vs.length capv, wV m, wV o] tQ)).alloc (.cells zsP.toArray tP)).cell? ⟨w.heap.size, 5, none⟩ = some (.slice ab bs.length capb) := XH.out.cell 5
 have y6 : ((w.alloc (.cells #[.int .i64 f, .int .i64 a, .int .i64 c, .int .i64 p, .int .i64 s, .slice ab bs.length capb, .slice av vs.length capv, wV m, wV o] tQ)).alloc (.cells zsP.toArray tP)).cell? ⟨w.heap.size, 6, none⟩ = some (.slice av vs.length capv) := XH.out.cell 6
 have y7 : ((w.alloc (.cells #[.int .i64 f, .int .i64 a, .int .i64 c, .int .i64 p, .int .i64 s, .slice ab bs.length capb, .slice av vs.length capv, wV m, wV o] tQ)).alloc (.cells zsP.toArray tP)).cell? ⟨w.heap.size, 7, none⟩ = some (wV m) := XH.out.cell 7
 have y8 : ((w.alloc (.cells #[.int .i64 f, .int .i64 a, .int .i64 c, .int .i64 p, .int .i64 s, .slice ab bs.length capb, .slice av vs.length capv, wV m, wV o] tQ)).alloc (.cells zsP.toArray tP)).cell? ⟨w.heap.size, 8, none⟩ = some (wV o) := XH.out.cell 8
 go_enter Try.func30, Try.ntmps30
 go_wp2_with fail
 clear y0 y1 y2 y3 y4 y5 y6 y7 y8
 have XQ := XH.out
 have BZ := ZH.out
 have BD := DH.out
 have S := SH.out
 have KP := KH.out
 clear XH ZH DH SH KH
 obtain ⟨b3, hb3⟩ : ∃ b, b = w.heap.size := ⟨_, rfl⟩
 rw [← hb3] at XQ BZ HL ⊢
 have HB := hidden hb3
 clear hb3
 obtain ⟨b4, hb4⟩ : ∃ b, b = b3 + 1 := ⟨_, rfl⟩
 rw [← hb4] at BZ ⊢
 replace HL : Hid (g < b3 ∧ hi ≤ b3 ∧ b4 = b3 + 1 ∧ b3 = w.heap.size) := ⟨HL.out.1, HL.out.2, hb4, HB.out⟩
 clear hb4 HB
 generalize (w.alloc (.cells #[.int .i64 f, .int .i64 a, .int .i64 c, .int .i64 p, .int .i64 s, .slice ab bs.length capb, .slice av vs.length capv, wV m, wV o] tQ)).alloc (.cells zsP.toArray tP) = w1 at *
 have HZ : Hid (b4 < w1.heap.size) := BZ.lt
 refine (vreadB_any g gs lo hi n ⟨s0, ms, fl, un⟩ f 0 a c p s bs vs m o _ w1 ⟨BD, S, HO.out⟩ ⟨_, _, rfl, R1.out.kp KP (fun _ _ h => h), R2.out.kp KP (fun _ _ h => h)⟩ HM.out ⟨HN.out.1, HN.out.2.1⟩ X HX.out).mono ?_
 clear S BD HX
 rintro e wd ⟨v', rfl, ⟨vb, vv, vd, rfl, ⟨NB, NV, ND⟩, nb, nv, nd⟩, D2, KK⟩
 have BZ := BZ.kp KK (gd_no (by have := HL.out; omega) (by have := HL.out; omega))
 have k5 := KP.size
 have lz5 := BZ.lt
 replace KP := KP.then KK (fun _ _ h => h)
 obtain ⟨⟨rf, rc, ra, rn, rs, rb, rv, rm, ro, rd⟩, dv2⟩ := X
 simp only at NB NV ND D2 ⊢
 have nb' : Hid (∀ k, vb.ownBlock = some k → b4 < k) := fun k hk => by have := nb k hk; have := HL.out; have := HZ.out; omega
 replace nb : Hid (NwV w.heap.size vb) := nb.mono (by have := HL.out; have := HZ.out; omega)
 have nv' : Hid (∀ k, vv.ownBlock = some k → b4 < k) := fun k hk => by have := nv k hk; have := HL.out; have := HZ.out; omega
 replace nv : Hid (NwV w.heap.size vv) := nv.mono (by have := HL.out; have := HZ.out; omega)
 have nd' : Hid (∀ k, vd.ownBlock = some k → b4 < k) := fun k hk => by have := nd k hk; have := HL.out; have := HZ.out; omega
 replace nd : Hid (NwV w.heap.size vd) := nd.mono (by have := HL.out; have := HZ.out; omega)
 clear KK XQ k5 lz5
 obtain ⟨avb, cvb, rfl, -⟩ := id NB
 obtain ⟨avv, cvv, rfl, -⟩ := id NV
 obtain ⟨avd, cvd, rfl, -⟩ := id ND
 simp only [List.length_map] at NB NV ND nb nv nd nb' nv' nd' ⊢
 have HNB := hidden NB
 have HNV := hidden NV
 have HND := hidden ND
 have HD2 := hidden D2
 clear NB NV ND D2
 obtain ⟨z0, z1, z2, z3, z4, z5, z6, z7, z8, z9⟩ := cells10 BZ
 have yz := fun i => BZ.frozen i
 go_wp2
 clear z0 z1 z2 z3 z4 z5 z6 z7 z8 z9 yz
 obtain ⟨wl, hwl, BF, PN, PK⟩ := put10 BZ rfl (.int .i64 rf) (.int .i64 rc) (.int .i64 ra) (.int .i64 rn) (.int .i64 rs) (.slice avb rb.length cvb) (.slice avv rv.length cvv) (wV rm) (wV ro) (.slice avd rd.length cvd)
 rw [hwl]
 clear hwl
 have KS := PK _ _ (Kp.refl (· = b4) wd) (fun _ => rfl)
 replace KP := PK _ _ KP (fun h => by have := HL.out; omega)
 have D2 := HD2.out.kp KS (fun i x e => by subst e; exact gd_no (by have := HL.out; omega) (by have := HL.out; omega) x)
 have NB := HNB.out.kp KS (fun k hk e => by have := nb'.out k hk; omega)
 have NV := HNV.out.kp KS (fun k hk e => by have := nv'.out k hk; omega)
 have ND := HND.out.kp KS (fun k hk e => by have := nd'.out k hk; omega)
 obtain ⟨c0, c1, c2, c3, c4, c5, c6, c7, c8, c9⟩ := cells10 BF
 clear PN PK KS BZ HNB HNV HND HD2
 refine bodyPost_ret (v := _) (by simp [results, Try.results30, go_sem, c0, c1, c2, c3, c4, c5, c6, c7, c8, c9]; with_reducible rfl) rfl ?_
 exact ⟨_, rfl, ⟨_, _, _, rfl, ⟨NB, NV, ND⟩, nb.out, nv.out, nd.out⟩, D2, KP⟩
end Go.Proofs.Ytdihcdphgiaepaa
