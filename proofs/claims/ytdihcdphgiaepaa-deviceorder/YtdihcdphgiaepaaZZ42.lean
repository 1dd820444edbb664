/- Contracts of reply.listed, asked, others, echo, echoed, known, slices.Clone. -/
import Derived.Deep.Cut
import Derived.Test.YtdihcdphgiaepaaZZ36
import Derived.Test.YtdihcdphgiaepaaZZ37
import Derived.Test.YtdihcdphgiaepaaZZ38
import Derived.Test.YtdihcdphgiaepaaZZ39
import Derived.Test.YtdihcdphgiaepaaZZ40
import Derived.Test.YtdihcdphgiaepaaZZ41
import Derived.Test.YtdihcdphgiaepaaZZ13
import Derived.Test.YtdihcdphgiaepaaZZ14
namespace Go.Proofs.Ytdihcdphgiaepaa
open Go.RowKit
set_option maxRecDepth 100000 in
set_option maxHeartbeats 4000000 in
theorem vdo_fn (g gs lo hi n : Nat) (dv : Dv) (f a c p s : Int) (bs : List Bool) (vs : List UInt16) (m o : UInt16) (v : Value) (w : World) (D : DD w g gs lo hi n dv) (h : IsRqF (Gd g lo hi) w v ⟨f, a, c, p, s, bs, vs, m, o⟩) (hm : 0 ≤ dv.msgs ∧ dv.msgs ≤ 100000000000000000 ∧ 0 ≤ dv.flts ∧ dv.flts ≤ 100000000000000000)
  (hk : knownB f = false) :
  Calls Try.prog 8 #[ptrG g, v] w fun e w' => ∃ v', e = .returned v' ∧ NRp w.heap.size w' v' (refD ⟨dv.s, dv.msgs + 1, dv.flts, dv.unit⟩ f 1).1 ∧ DD w' g gs lo hi n (refD ⟨dv.s, dv.msgs + 1, dv.flts, dv.unit⟩ f 1).2 ∧ Kp (Gd g lo hi) w w' := by
 obtain ⟨ab, capb, av, capv, rfl, hl1, hl2, rb, rv⟩ := h.slices
 clear h
 have R1 := hidden rb
 have R2 := hidden rv
 clear rb rv
 simp only at hl1 hl2 R1 R2 ⊢
 have HR : Hid (rightE ⟨f, a, c, p, s, bs, vs, m, o⟩ = 15) := by show _ = _; simp [rightE, hk]
 clear hk
 unfold refD
 have HM := hidden hm
 obtain ⟨hb, hs, ho⟩ := D
 obtain ⟨s0, ms, fl, un⟩ := dv
 simp only at hb hs hm ⊢
 obtain ⟨f1, f2, f3, f4⟩ := hm
 have HO := hidden ho
 have XQ := (Blk.new w tQ [.int .i64 f, .int .i64 a, .int .i64 c, .int .i64 p, .int .i64 s, .slice ab bs.length capb, .slice av vs.length capv, wV m, wV o]).alloc (.cells zsP.toArray tP)
 have BZ := Blk.new (w.alloc (.cells #[.int .i64 f, .int .i64 a, .int .i64 c, .int .i64 p, .int .i64 s, .slice ab bs.length capb, .slice av vs.length capv, wV m, wV o] tQ)) tP zsP
 rw [World.size_alloc] at BZ
 have E0 : Below w.heap.size w ((w.alloc (.cells #[.int .i64 f, .int .i64 a, .int .i64 c, .int .i64 p, .int .i64 s, .slice ab bs.length capb, .slice av vs.length capv, wV m, wV o] tQ)).alloc (.cells zsP.toArray tP)) := ((Below.refl w.heap.size w).alloc (Nat.le_refl _) _).alloc (by simp) _
 have HL : Hid (g < w.heap.size ∧ hi ≤ w.heap.size) := ⟨hb.lt, hs.top⟩
 have BD := hb.below E0 hb.lt
 have S := hs.ext E0
 have KP := Kp.of_below (F := Gd g lo hi) E0
 clear E0 hb hs ho
 have XH := hidden XQ
 have ZH := hidden BZ
 have DH := hidden BD
 have SH := hidden S
 have KH := hidden KP
 clear XQ BZ BD S KP
 go_enter Try.func8, Try.ntmps8
 go_upto_region 1 with fail
 have XQ := XH.out
 have BZ := ZH.out
 have BD := DH.out
 have S := SH.out
 have KP := KH.out
 clear XH ZH DH SH KH
 obtain ⟨b3, hb3⟩ : ∃ b, b = w.heap.size := ⟨_, rfl⟩
 rw [← hb3] at XQ BZ HL ⊢
 have HB := hidden hb3
 clear hb3
 obtain ⟨b4, hb4⟩ : ∃ b, b = b3 + 1 := ⟨_, rfl⟩
 rw [← hb4] at BZ ⊢
 replace HL : Hid (g < b3 ∧ hi ≤ b3 ∧ b4 = b3 + 1 ∧ b3 = w.heap.size) := ⟨HL.out.1, HL.out.2, hb4, HB.out⟩
 clear hb4 HB
 generalize (w.alloc (.cells #[.int .i64 f, .int .i64 a, .int .i64 c, .int .i64 p, .int .i64 s, .slice ab bs.length capb, .slice av vs.length capv, wV m, wV o] tQ)).alloc (.cells zsP.toArray tP) = w1 at *
 have u1 : w1.cell? ⟨g, 1, none⟩ = some (.int .i64 ms) := BD.cell 1
 have uf := BD.frozen 1
 go_upto_region 2 with fail
 clear u1 uf
 have KS : Kp (· = g) w1 (w1.setCell ⟨g, 1, none⟩ (.int .i64 (ms + 1))) := Kp.set (F := (· = g)) (Kp.refl _ w1) (p := ⟨g, 1, none⟩) (fun _ => rfl) (.int .i64 (ms + 1))
 replace XQ := XQ.kp KS (by have := HL.out; omega)
 replace BZ := BZ.kp KS (by have := HL.out; omega)
 replace BD := BD.set 1 (.int .i64 (ms + 1))
 replace S := S.kp KS (fun i h e => by subst e; exact HO.out h)
 replace KP := KP.set (p := ⟨g, 1, none⟩) (fun _ => .inl rfl) (.int .i64 (ms + 1))
 clear KS
 generalize w1.setCell ⟨g, 1, none⟩ (.int .i64 (ms + 1)) = w2 at *
 obtain ⟨x0, x1, x2, x3, x4, x5, x6, x7, x8⟩ := cells9 XQ
 go_wp2_with fail
 clear x0 x1 x2 x3 x4 x5 x6 x7 x8
 refine (right_pdu _ ⟨f, a, c, p, s, bs, vs, m, o⟩ w2 ⟨_, _, rfl, (R1.out.kp KP (fun _ _ h => h)).1, (R2.out.kp KP (fun _ _ h => h)).1⟩).mono ?_
 rintro e w3 ⟨rfl, E⟩
 replace XQ := XQ.below E XQ.lt
 replace BZ := BZ.below E BZ.lt
 replace BD := BD.below E BD.lt
 replace S := S.ext E
 replace KP := KP.ext E
 clear E
 rw [HR.out]
 have x0 : w3.cell? ⟨b3, 0, none⟩ = some (.int .i64 f) := XQ.cell 0
 go_wp2_with fail
 clear x0
 refine (vrefuse_any g gs (ms + 1) fl un f 1 w3 BD ⟨by omega, by omega⟩).mono ?_
 rintro e wd ⟨rfl, BD2, KK⟩
 replace BZ := BZ.kp KK (by have := HL.out; omega)
 replace S := S.kp KK (fun i h e => by subst e; exact HO.out h)
 replace KP := KP.then KK (fun _ _ h => .inl h)
 clear BD KK XQ
 have BD := BD2
 clear BD2
 obtain ⟨z0, z1, z2, z3, z4, z5, z6, z7, z8, z9⟩ := cells10 BZ
 have yz := fun i => BZ.frozen i
 go_wp2
 clear z0 z1 z2 z3 z4 z5 z6 z7 z8 z9 yz
 obtain ⟨wl, hwl, BF, PN, PK⟩ := put10 BZ rfl (.int .i64 (f % 128)) (.int .i64 1) (.int .i64 0) (.int .i64 0) (.int .i64 0) (.slice none 0 0) (.slice none 0 0) (.int .u16 0) (.int .u16 0) (.slice none 0 0)
 rw [hwl]
 clear hwl
 have KS := PK _ _ (Kp.refl (· = b4) wd) (fun _ => rfl)
 replace KP := PK _ _ KP (fun h => by have := HL.out; omega)
 replace BD := BD.kp KS (by have := HL.out; omega)
 replace S := S.kp KS (fun i h e => by subst e; exact (fun h => by have h2 := h.2; have := HL.out; omega) h)
 obtain ⟨c0, c1, c2, c3, c4, c5, c6, c7, c8, c9⟩ := cells10 BF
 clear PN PK KS BZ BF
 refine bodyPost_ret (v := _) (by simp [results, Try.results8, go_sem, c0, c1, c2, c3, c4, c5, c6, c7, c8, c9]; with_reducible rfl) rfl ?_
 exact ⟨_, rfl, NRp.ref _ _ _ _, ⟨BD, S, HO.out⟩, KP⟩
set_option maxRecDepth 100000 in
set_option maxHeartbeats 4000000 in
theorem vdo_cnt (g gs lo hi n : Nat) (dv : Dv) (f a c p s : Int) (bs : List Bool) (vs : List UInt16) (m o : UInt16) (v : Value) (w : World) (D : DD w g gs lo hi n dv) (h : IsRqF (Gd g lo hi) w v ⟨f, a, c, p, s, bs, vs, m, o⟩) (hm : 0 ≤ dv.msgs ∧ dv.msgs ≤ 100000000000000000 ∧ 0 ≤ dv.flts ∧ dv.flts ≤ 100000000000000000)
  (hk : knownB f = true) (hc : countsB ⟨f, a, c, p, s, bs, vs, m, o⟩ = false) :
  Calls Try.prog 8 #[ptrG g, v] w fun e w' => ∃ v', e = .returned v' ∧ NRp w.heap.size w' v' (refD ⟨dv.s, dv.msgs + 1, dv.flts, dv.unit⟩ f 3).1 ∧ DD w' g gs lo hi n (refD ⟨dv.s, dv.msgs + 1, dv.flts, dv.unit⟩ f 3).2 ∧ Kp (Gd g lo hi) w w' := by
 obtain ⟨ab, capb, av, capv, rfl, hl1, hl2, rb, rv⟩ := h.slices
 clear h
 have R1 := hidden rb
 have R2 := hidden rv
 clear rb rv
 simp only at hl1 hl2 R1 R2 ⊢
 have HR : Hid ((rightE ⟨f, a, c, p, s, bs, vs, m, o⟩ == 15) = false) := by
  show _ = _
  rw [beq_eq_false_iff_ne]
  intro e
  unfold rightE at e
  rw [if_neg (by simp [hk])] at e
  (repeat' split at e) <;> simp at e
 have HC := hidden hc
 clear hk hc
 unfold refD
 have HM := hidden hm
 obtain ⟨hb, hs, ho⟩ := D
 obtain ⟨s0, ms, fl, un⟩ := dv
 simp only at hb hs hm ⊢
 obtain ⟨f1, f2, f3, f4⟩ := hm
 have HO := hidden ho
 have XQ := (Blk.new w tQ [.int .i64 f, .int .i64 a, .int .i64 c, .int .i64 p, .int .i64 s, .slice ab bs.length capb, .slice av vs.length capv, wV m, wV o]).alloc (.cells zsP.toArray tP)
 have BZ := Blk.new (w.alloc (.cells #[.int .i64 f, .int .i64 a, .int .i64 c, .int .i64 p, .int .i64 s, .slice ab bs.length capb, .slice av vs.length capv, wV m, wV o] tQ)) tP zsP
 rw [World.size_alloc] at BZ
 have E0 : Below w.heap.size w ((w.alloc (.cells #[.int .i64 f, .int .i64 a, .int .i64 c, .int .i64 p, .int .i64 s, .slice ab bs.length capb, .slice av vs.length capv, wV m, wV o] tQ)).alloc (.cells zsP.toArray tP)) := ((Below.refl w.heap.size w).alloc (Nat.le_refl _) _).alloc (by simp) _
 have HL : Hid (g < w.heap.size ∧ hi ≤ w.heap.size) := ⟨hb.lt, hs.top⟩
 have BD := hb.below E0 hb.lt
 have S := hs.ext E0
 have KP := Kp.of_below (F := Gd g lo hi) E0
 clear E0 hb hs ho
 have XH := hidden XQ
 have ZH := hidden BZ
 have DH := hidden BD
 have SH := hidden S
 have KH := hidden KP
 clear XQ BZ BD S KP
 go_enter Try.func8, Try.ntmps8
 go_upto_region 1 with fail
 have XQ := XH.out
 have BZ := ZH.out
 have BD := DH.out
 have S := SH.out
 have KP := KH.out
 clear XH ZH DH SH KH
 obtain ⟨b3, hb3⟩ : ∃ b, b = w.heap.size := ⟨_, rfl⟩
 rw [← hb3] at XQ BZ HL ⊢
 have HB := hidden hb3
 clear hb3
 obtain ⟨b4, hb4⟩ : ∃ b, b = b3 + 1 := ⟨_, rfl⟩
 rw [← hb4] at BZ ⊢
 replace HL : Hid (g < b3 ∧ hi ≤ b3 ∧ b4 = b3 + 1 ∧ b3 = w.heap.size) := ⟨HL.out.1, HL.out.2, hb4, HB.out⟩
 clear hb4 HB
 generalize (w.alloc (.cells #[.int .i64 f, .int .i64 a, .int .i64 c, .int .i64 p, .int .i64 s, .slice ab bs.length capb, .slice av vs.length capv, wV m, wV o] tQ)).alloc (.cells zsP.toArray tP) = w1 at *
 have u1 : w1.cell? ⟨g, 1, none⟩ = some (.int .i64 ms) := BD.cell 1
 have uf := BD.frozen 1
 go_upto_region 2 with fail
 clear u1 uf
 have KS : Kp (· = g) w1 (w1.setCell ⟨g, 1, none⟩ (.int .i64 (ms + 1))) := Kp.set (F := (· = g)) (Kp.refl _ w1) (p := ⟨g, 1, none⟩) (fun _ => rfl) (.int .i64 (ms + 1))
 replace XQ := XQ.kp KS (by have := HL.out; omega)
 replace BZ := BZ.kp KS (by have := HL.out; omega)
 replace BD := BD.set 1 (.int .i64 (ms + 1))
 replace S := S.kp KS (fun i h e => by subst e; exact HO.out h)
 replace KP := KP.set (p := ⟨g, 1, none⟩) (fun _ => .inl rfl) (.int .i64 (ms + 1))
 clear KS
 generalize w1.setCell ⟨g, 1, none⟩ (.int .i64 (ms + 1)) = w2 at *
 obtain ⟨x0, x1, x2, x3, x4, x5, x6, x7, x8⟩ := cells9 XQ
 go_wp2_with fail
 clear x0 x1 x2 x3 x4 x5 x6 x7 x8
 refine (right_pdu _ ⟨f, a, c, p, s, bs, vs, m, o⟩ w2 ⟨_, _, rfl, (R1.out.kp KP (fun _ _ h => h)).1, (R2.out.kp KP (fun _ _ h => h)).1⟩).mono ?_
 rintro e w3 ⟨rfl, E⟩
 replace XQ := XQ.below E XQ.lt
 replace BZ := BZ.below E BZ.lt
 replace BD := BD.below E BD.lt
 replace S := S.ext E
 replace KP := KP.ext E
 clear E
 generalize rightE ⟨f, a, c, p, s, bs, vs, m, o⟩ = re at HR ⊢
 have hr : (re == 15) = false := HR.out
 obtain ⟨x0, x1, x2, x3, x4, x5, x6, x7, x8⟩ := cells9 XQ
 go_wp2_with fail
 clear x0 x1 x2 x3 x4 x5 x6 x7 x8
 refine (counts_pdu _ ⟨f, a, c, p, s, bs, vs, m, o⟩ w3 ⟨_, _, rfl, (R1.out.kp KP (fun _ _ h => h)).1, (R2.out.kp KP (fun _ _ h => h)).1⟩).mono ?_
 rintro e w4 ⟨rfl, E⟩
 rw [HC.out]
 replace XQ := XQ.below E XQ.lt
 replace BZ := BZ.below E BZ.lt
 replace BD := BD.below E BD.lt
 replace S := S.ext E
 replace KP := KP.ext E
 clear E
 have x0 : w4.cell? ⟨b3, 0, none⟩ = some (.int .i64 f) := XQ.cell 0
 go_wp2_with fail
 clear x0
 refine (vrefuse_any g gs (ms + 1) fl un f 3 w4 BD ⟨by omega, by omega⟩).mono ?_
 rintro e wd ⟨rfl, BD2, KK⟩
 replace BZ := BZ.kp KK (by have := HL.out; omega)
 replace S := S.kp KK (fun i h e => by subst e; exact HO.out h)
 replace KP := KP.then KK (fun _ _ h => .inl h)
 clear BD KK XQ
 have BD := BD2
 clear BD2
 obtain ⟨z0, z1, z2, z3, z4, z5, z6, z7, z8, z9⟩ := cells10 BZ
 have yz := fun i => BZ.frozen i
 go_wp2
 clear z0 z1 z2 z3 z4 z5 z6 z7 z8 z9 yz
 obtain ⟨wl, hwl, BF, PN, PK⟩ := put10 BZ rfl (.int .i64 (f % 128)) (.int .i64 3) (.int .i64 0) (.int .i64 0) (.int .i64 0) (.slice none 0 0) (.slice none 0 0) (.int .u16 0) (.int .u16 0) (.slice none 0 0)
 rw [hwl]
 clear hwl
 have KS := PK _ _ (Kp.refl (· = b4) wd) (fun _ => rfl)
 replace KP := PK _ _ KP (fun h => by have := HL.out; omega)
 replace BD := BD.kp KS (by have := HL.out; omega)
 replace S := S.kp KS (fun i h e => by subst e; exact (fun h => by have h2 := h.2; have := HL.out; omega) h)
 obtain ⟨c0, c1, c2, c3, c4, c5, c6, c7, c8, c9⟩ := cells10 BF
 clear PN PK KS BZ BF
 refine bodyPost_ret (v := _) (by simp [results, Try.results8, go_sem, c0, c1, c2, c3, c4, c5, c6, c7, c8, c9]; with_reducible rfl) rfl ?_
 exact ⟨_, rfl, NRp.ref _ _ _ _, ⟨BD, S, HO.out⟩, KP⟩
end Go.Proofs.Ytdihcdphgiaepaa
namespace Go.Proofs.Ytdihcdphgiaepaa
open Go.RowKit
theorem vdo_any (g gs lo hi n : Nat) (dv : Dv) (q : Rq) (v : Value) (w : World) (D : DD w g gs lo hi n dv) (h : IsRqF (Gd g lo hi) w v q) (hm : 0 ≤ dv.msgs ∧ dv.msgs ≤ 100000000000000000 ∧ 0 ≤ dv.flts ∧ dv.flts ≤ 100000000000000000) (hu : 0 ≤ dv.unit ∧ dv.unit ≤ 255) :
  Calls Try.prog 8 #[ptrG g, v] w fun e w' => ∃ v', e = .returned v' ∧ NRp w.heap.size w' v' (doD n dv q).1 ∧ DD w' g gs lo hi n (doD n dv q).2 ∧ Kp (Gd g lo hi) w w' := by
 obtain ⟨f, a, c, p, s, bs, vs, m, o⟩ := q
 cases hk : knownB f
 ·
  rw [show doD n dv ⟨f, a, c, p, s, bs, vs, m, o⟩ = refD ⟨dv.s, dv.msgs + 1, dv.flts, dv.unit⟩ f 1 by simp [doD, hk]]
  exact vdo_fn g gs lo hi n dv f a c p s bs vs m o v w D h hm hk
 ·
  cases hc : countsB ⟨f, a, c, p, s, bs, vs, m, o⟩
  ·
   rw [show doD n dv ⟨f, a, c, p, s, bs, vs, m, o⟩ = refD ⟨dv.s, dv.msgs + 1, dv.flts, dv.unit⟩ f 3 by simp [doD, hk, hc]]
   exact vdo_cnt g gs lo hi n dv f a c p s bs vs m o v w D h hm hk hc
  ·
   rw [doD_act (q := ⟨f, a, c, p, s, bs, vs, m, o⟩) hk hc]
   rcases known_cases hk with rfl | rfl | rfl | rfl | rfl | rfl | rfl | rfl | rfl | rfl | rfl | rfl
   ·
    exact vdo_1 g gs lo hi n dv a c p s bs vs m o v w D h hm hc _ rfl
   ·
    exact vdo_2 g gs lo hi n dv a c p s bs vs m o v w D h hm hc _ rfl
   ·
    exact vdo_3 g gs lo hi n dv a c p s bs vs m o v w D h hm hc _ rfl
   ·
    exact vdo_4 g gs lo hi n dv a c p s bs vs m o v w D h hm hc _ rfl
   ·
    exact vdo_5 g gs lo hi n dv a c p s bs vs m o v w D h hm hc _ rfl
   ·
    exact vdo_6 g gs lo hi n dv a c p s bs vs m o v w D h hm hc _ rfl
   ·
    exact vdo_8 g gs lo hi n dv a c p s bs vs m o v w D h hm hc _ rfl
   ·
    exact vdo_15 g gs lo hi n dv a c p s bs vs m o v w D h hm hc _ rfl
   ·
    exact vdo_16 g gs lo hi n dv a c p s bs vs m o v w D h hm hc _ rfl
   ·
    exact vdo_17 g gs lo hi n dv a c p s bs vs m o v w D h hm hc hu _ rfl
   ·
    exact vdo_22 g gs lo hi n dv a c p s bs vs m o v w D h hm hc _ rfl
   ·
    exact vdo_23 g gs lo hi n dv a c p s bs vs m o v w D h hm hc _ rfl
end Go.Proofs.Ytdihcdphgiaepaa
namespace Go.Proofs.Ytdihcdphgiaepaa
open Go.RowKit
set_option maxHeartbeats 1000000 in
theorem listed_rep (v : Value) (r : Rp) (w : World) (h : IsRp w v r) (hk : knownB r.fn = true) :
  Calls Try.prog 82 #[v] w fun e w' => e = .returned (.bool (listA r)) ∧ Below w.heap.size w w' := by
 obtain ⟨ab, capb, av, capv, ad, capd, rfl, h1, h2, h3⟩ := h.slices
 obtain ⟨f, k, a, c, s, bs, vs, m, o, ds⟩ := r
 simp only at h1 h2 h3 hk ⊢
 clear h
 have B : Hid (∀ o, Below w.heap.size w (w.alloc o)) := fun o => (Below.refl _ _).alloc (Nat.le_refl _) o
 rcases known_cases hk with rfl | rfl | rfl | rfl | rfl | rfl | rfl | rfl | rfl | rfl | rfl | rfl
 all_goals
  clear hk
  go_enter Try.func82, Try.ntmps82
  go_wp2
  go_ret
  refine ⟨ret_bool ?_, B.out _⟩
  rw [Bool.eq_iff_iff]
  simp [listA]
  try omega
def othersA (r : Rp) : Rp :=
 if r.fn = 1 ∨ r.fn = 2 then ⟨0, r.code, r.loc, r.cnt, r.sub, [], r.vals, r.land, r.lor, r.data⟩
 else if r.fn = 3 ∨ r.fn = 4 ∨ r.fn = 23 then ⟨0, r.code, r.loc, r.cnt, r.sub, r.bits, [], r.land, r.lor, r.data⟩
 else if r.fn = 5 then ⟨0, r.code, 0, r.cnt, r.sub, [], r.vals, r.land, r.lor, r.data⟩
 else if r.fn = 6 then ⟨0, r.code, 0, r.cnt, r.sub, r.bits, [], r.land, r.lor, r.data⟩
 else if r.fn = 8 then ⟨0, r.code, r.loc, r.cnt, 0, r.bits, [], r.land, r.lor, r.data⟩
 else if r.fn = 15 ∨ r.fn = 16 then ⟨0, r.code, 0, 0, r.sub, r.bits, r.vals, r.land, r.lor, r.data⟩
 else if r.fn = 17 then ⟨0, r.code, r.loc, r.cnt, r.sub, r.bits, r.vals, r.land, r.lor, []⟩
 else if r.fn = 22 then ⟨0, r.code, 0, r.cnt, r.sub, r.bits, r.vals, 0, 0, r.data⟩
 else ⟨0, r.code, r.loc, r.cnt, r.sub, r.bits, r.vals, r.land, r.lor, r.data⟩
theorem othersA_form (r : Rp) (hc : r.code = 0) (hk : knownB r.fn = true) : othersA r = zeroP ↔ formA r := by
 obtain ⟨f, k, a, c, s, bs, vs, m, o, ds⟩ := r
 simp only at hk hc
 subst hc
 rcases known_cases hk with rfl | rfl | rfl | rfl | rfl | rfl | rfl | rfl | rfl | rfl | rfl | rfl <;> simp [othersA, zeroP, formA, and_assoc]
set_option maxHeartbeats 1000000 in
theorem others_rep (v : Value) (r : Rp) (w : World) (h : IsRp w v r) (hk : knownB r.fn = true) :
  Calls Try.prog 80 #[v] w fun e w' => ∃ v', e = .returned v' ∧ IsRp w' v' (othersA r) ∧ Below w.heap.size w w' := by
 obtain ⟨f, k, a, c, s, bs, vs, m, o, ds⟩ := r
 obtain ⟨vb, vv, vd, rfl, hb, hv, hd⟩ := h
 obtain ⟨ab, capb, rfl, -⟩ := id hb
 obtain ⟨av, capv, rfl, -⟩ := id hv
 obtain ⟨ad, capd, rfl, -⟩ := id hd
 simp only at hb hv hd hk ⊢
 rcases known_cases hk with rfl | rfl | rfl | rfl | rfl | rfl | rfl | rfl | rfl | rfl | rfl | rfl
 all_goals
  clear hk
  go_enter Try.func80, Try.ntmps80
  go_wp2
 all_goals
  refine bodyPost_ret (v := _) (by simp [results, Try.results80, go_sem]; with_reducible rfl) rfl ?_
  have hB := fun o1 o2 => ((Below.refl w.heap.size w).alloc (Nat.le_refl _) o1).alloc (by simp) o2
  refine ⟨_, rfl, ?_, hB _ _⟩
  simp only [List.length_map] at hb hv hd
  simp [othersA]
  refine ⟨_, _, _, rfl, ?_, ?_, ?_⟩
  ·
   first | exact Row.nil _ | exact hb.below (hB _ _)
  ·
   first | exact Row.nil _ | exact hv.below (hB _ _)
  ·
   first | exact Row.nil _ | exact hd.below (hB _ _)
set_option maxHeartbeats 1000000 in
theorem echoed_rep (v : Value) (r : Rp) (w : World) (h : IsRp w v r) :
  Calls Try.prog 65 #[v] w fun e w' => ∃ v', e = .returned v' ∧ IsRq w' v' (echoQ r) ∧ Below w.heap.size w w' := by
 obtain ⟨f, k, a, c, s, bs, vs, m, o, ds⟩ := r
 obtain ⟨vb, vv, vd, rfl, hb, hv, hd⟩ := h
 obtain ⟨ab, capb, rfl, -⟩ := id hb
 obtain ⟨av, capv, rfl, -⟩ := id hv
 obtain ⟨ad, capd, rfl, -⟩ := id hd
 simp only at hb hv hd ⊢
 go_enter Try.func65, Try.ntmps65
 go_wp2
 refine bodyPost_ret (v := _) (by simp [results, Try.results65, go_sem]; with_reducible rfl) rfl ?_
 have hB := fun o1 o2 => ((Below.refl w.heap.size w).alloc (Nat.le_refl _) o1).alloc (by simp) o2
 refine ⟨_, rfl, ?_, hB _ _⟩
 simp only [List.length_map] at hb hv
 exact ⟨_, _, rfl, hb.below (hB _ _), hv.below (hB _ _)⟩
def NewP (base : Nat) (v : Value) : Prop := ∃ f k a c s vb vv m o vd, v = rpV f k a c s vb vv m o vd ∧ NewV base vb ∧ NewV base vv ∧ NewV base vd
set_option maxHeartbeats 400000 in
theorem known_rep (f : Int) (w : World) : Calls Try.prog 78 #[.int .i64 f] w fun e w' => e = .returned (.bool (knownB f)) ∧ Below w.heap.size w w' := by
 have C := hidden (right_pdu _ ⟨f, 0, 0, 0, 0, [], [], 0, 0⟩ w ⟨_, _, rfl, Row.nil _, Row.nil _⟩)
 have E : Hid ((rightE ⟨f, 0, 0, 0, 0, [], [], 0, 0⟩ != 15) = knownB f) := by
  show _ = _
  cases hk : knownB f
  ·
   simp [rightE, hk]
  ·
   rw [bne_iff_ne]
   unfold rightE
   rw [if_neg (by rw [hk]; simp)]
   split
   ·
    decide
   ·
    split
    ·
     decide
    ·
     split <;> decide
 generalize rightE ⟨f, 0, 0, 0, 0, [], [], 0, 0⟩ = R at *
 go_enter Try.func78, Try.ntmps78
 go_wp2_with fail
 refine C.out.mono ?_
 rintro e w1 ⟨rfl, B1⟩
 go_wp2
 go_ret
 exact ⟨ret_bool E.out, B1⟩
end Go.Proofs.Ytdihcdphgiaepaa
