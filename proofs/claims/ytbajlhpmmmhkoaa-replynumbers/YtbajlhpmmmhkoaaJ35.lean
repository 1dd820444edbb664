/- What burgageref3's Take takes bytes for. -/
import Derived.Test.YtbajlhpmmmhkoaaJ18
import Derived.Test.YtbajlhpmmmhkoaaJ19
import Derived.Test.YtbajlhpmmmhkoaaJ20
import Derived.Test.YtbajlhpmmmhkoaaJ21
import Derived.Test.YtbajlhpmmmhkoaaJ22
import Derived.Test.YtbajlhpmmmhkoaaJ23
import Derived.Test.YtbajlhpmmmhkoaaJ24
import Derived.Test.YtbajlhpmmmhkoaaJ25
import Derived.Test.YtbajlhpmmmhkoaaJ26
import Derived.Test.YtbajlhpmmmhkoaaJ27
import Derived.Test.YtbajlhpmmmhkoaaJ28
import Derived.Test.YtbajlhpmmmhkoaaJ34
import Derived.Test.YtbajlhpmmmhkoaaJ5
namespace Go.Proofs.Ytbajlhpmmmhkoaa
open Go.RowKit
theorem codeB_out {r : Rp} (h : r.code < 1 ∨ 255 < r.code ∨ r.fn < 0 ∨ 127 < r.fn) (hc : r.code ≠ 0) : codeB r = false := by
 unfold codeB
 rw [decide_eq_false_iff_not]
 intro e
 have e1 : r.fn = r.fn % 128 := congrArg Rp.fn e
 have e2 : r.code = r.code % 256 := congrArg Rp.code e
 omega
theorem codeB_in {r : Rp} (h1 : 1 ≤ r.code) (h2 : r.code ≤ 255) (h3 : 0 ≤ r.fn) (h4 : r.fn ≤ 127) : codeB r = decide (r = refP r.fn r.code) := by
 unfold codeB
 rw [show r.fn % 128 = r.fn by omega, show r.code % 256 = r.code by omega]
set_option maxRecDepth 100000 in
set_option maxHeartbeats 2000000 in
theorem good_ref_c (v : Value) (r : Rp) (w : World) (h : IsRp w v r) (hc : r.code ≠ 0) :
  Calls Try.prog 20 #[v] w fun e w' => e = .returned (.int .i64 (goodE r)) ∧ Below w.heap.size w w' := by
 obtain ⟨ab, capb, av, capv, ad, capd, rfl, -, -, -⟩ := h.slices
 have W0 := hidden (fun o => (Below.refl w.heap.size w).alloc (Nat.le_refl _) o)
 have HQ := hidden (fun w' (hb : Below w.heap.size w w') => h.below hb)
 have eg : goodE r = if codeB r then 0 else 12 := by simp [goodE, hc]
 rw [eg]
 have OUT := hidden (fun hh => codeB_out (r := r) hh hc)
 have INN := hidden (fun h1 h2 h3 h4 => codeB_in (r := r) h1 h2 h3 h4)
 clear h eg
 generalize codeB r = CB at *
 have c0 : (r.code != 0) = true := by simpa using hc
 by_cases h1 : r.code < 1
 ·
  rw [OUT.out (.inl h1)]
  obtain ⟨f, k, a, c, s, bs, vs, m, o, ds⟩ := r
  simp only at HQ h1 c0 ⊢
  clear OUT INN hc
  go_enter Try.func20, Try.ntmps20
  go_wp2
  go_ret
  exact ⟨rfl, W0.out _⟩
 ·
  by_cases h2 : 255 < r.code
  ·
   rw [OUT.out (.inr (.inl h2))]
   obtain ⟨f, k, a, c, s, bs, vs, m, o, ds⟩ := r
   simp only at HQ h1 h2 c0 ⊢
   clear OUT INN hc
   go_enter Try.func20, Try.ntmps20
   go_wp2
   go_ret
   exact ⟨rfl, W0.out _⟩
  ·
   by_cases h3 : r.fn < 0
   ·
    rw [OUT.out (.inr (.inr (.inl h3)))]
    obtain ⟨f, k, a, c, s, bs, vs, m, o, ds⟩ := r
    simp only at HQ h1 h2 h3 c0 ⊢
    clear OUT INN hc
    go_enter Try.func20, Try.ntmps20
    go_wp2
    go_ret
    exact ⟨rfl, W0.out _⟩
   ·
    by_cases h4 : 127 < r.fn
    ·
     rw [OUT.out (.inr (.inr (.inr h4)))]
     obtain ⟨f, k, a, c, s, bs, vs, m, o, ds⟩ := r
     simp only at HQ h1 h2 h3 h4 c0 ⊢
     clear OUT INN hc
     go_enter Try.func20, Try.ntmps20
     go_wp2
     go_ret
     exact ⟨rfl, W0.out _⟩
    ·
     have EI := hidden (INN.out (by omega) (by omega) (by omega) (by omega))
     clear OUT INN hc
     obtain ⟨f, k, a, c, s, bs, vs, m, o, ds⟩ := r
     simp only at HQ h1 h2 h3 h4 c0 EI ⊢
     cases CB
     all_goals
      go_enter Try.func20, Try.ntmps20
      go_wp2_with fail
      refine (alike_ref _ _ _ (refP f k) _ (HQ.out _ (W0.out _)) (ref_rp _ _ _)).mono ?_
      rintro e w2 ⟨rfl, B2⟩
      rw [← EI.out]
      replace B2 := below_then (W0.out _) B2
      go_wp2
      go_ret
      exact ⟨rfl, B2⟩
set_option maxRecDepth 100000 in
set_option maxHeartbeats 1000000 in
theorem good_ref (v : Value) (r : Rp) (w : World) (h : IsRp w v r) :
  Calls Try.prog 20 #[v] w fun e w' => e = .returned (.int .i64 (goodE r)) ∧ Below w.heap.size w w' := by
 by_cases hc : r.code = 0
 ·
  cases hk : knownB r.fn
  ·
   obtain ⟨ab, capb, av, capv, ad, capd, rfl, -, -, -⟩ := h.slices
   have W0 := hidden (fun o => (Below.refl w.heap.size w).alloc (Nat.le_refl _) o)
   have e : goodE r = 15 := by simp [goodE, hc, hk]
   rw [e]
   have KK := hidden hk
   obtain ⟨f, k, a, c, s, bs, vs, m, o, ds⟩ := r
   simp only at KK hc ⊢
   subst hc
   clear hk e h
   go_enter Try.func20, Try.ntmps20
   go_wp2_with (go_at_call 29; refine (has_ref _ _).mono ?_; rintro e w1 ⟨rfl, rfl⟩; rw [KK.out])
   go_ret
   exact ⟨rfl, W0.out _⟩
  ·
   rcases known_cases hk with e | e | e | e | e | e | e | e | e | e | e | e
   ·
    exact good_ref_1 v r w h hc e
   ·
    exact good_ref_2 v r w h hc e
   ·
    exact good_ref_3 v r w h hc e
   ·
    exact good_ref_4 v r w h hc e
   ·
    exact good_ref_5 v r w h hc e
   ·
    exact good_ref_6 v r w h hc e
   ·
    exact good_ref_8 v r w h hc e
   ·
    exact good_ref_15 v r w h hc e
   ·
    exact good_ref_16 v r w h hc e
   ·
    exact good_ref_17 v r w h hc e
   ·
    exact good_ref_22 v r w h hc e
   ·
    exact good_ref_23 v r w h hc e
 ·
  exact good_ref_c v r w h hc
set_option maxHeartbeats 1000000 in
theorem rlay_ref (v : Value) (r : Rp) (w : World) (h : IsRp w v r) :
  Calls Try.prog 8 #[v] w fun e w' => ∃ v', e = .returned (.tuple #[v', .int .i64 (goodE r)]) ∧ w'.ownsRow w.heap.size 5 1 v' (layR r).length ((layR r).map bV) ∧ Below w.heap.size w w' := by
 obtain ⟨ab, capb, av, capv, ad, capd, rfl, -, -, -⟩ := h.slices
 have W0 := hidden (fun o => (Below.refl w.heap.size w).alloc (Nat.le_refl _) o)
 have C := hidden (fun w' (hb : Below w.heap.size w w') => good_ref _ _ _ (h.below hb))
 by_cases hr : goodE r = 0
 ·
  rw [layR_0 hr]
  have HQ := hidden (fun w' (hb : Below w.heap.size w w') => lay_ref _ _ _ (h.below hb) hr)
  rw [hr] at C ⊢
  clear hr h
  obtain ⟨f, k, a, c, s, bs, vs, m, o, ds⟩ := r
  simp only at C HQ ⊢
  go_enter Try.func8, Try.ntmps8
  go_wp2_with fail
  refine (C.out _ (W0.out _)).mono ?_
  rintro e w1 ⟨rfl, B1⟩
  have X := (BoxP.new w f k a c s (.slice ab bs.length capb) (.slice av vs.length capv) m o (.slice ad ds.length capd) 35).ext B1
  replace B1 := below_then (W0.out _) B1
  obtain ⟨lt, c0, c1, c2, c3, c4, c5, c6, c7, c8, c9⟩ := X
  have S1 := B1.size
  go_wp2_with fail
  refine (HQ.out _ B1).mono ?_
  rintro e w2 ⟨v2, rfl, o2, B2⟩
  replace B2 := below_then B1 B2
  replace o2 := owns_base o2 (base' := w.heap.size) S1
  go_wp2
  go_ret2
  exact ⟨_, rfl, o2, B2⟩
 ·
  rw [layR_no hr]
  have t : (goodE r != 0) = true := by simpa using hr
  generalize goodE r = E at *
  clear hr h
  go_enter Try.func8, Try.ntmps8
  go_wp2_with fail
  refine (C.out _ (W0.out _)).mono ?_
  rintro e w1 ⟨rfl, B1⟩
  replace B1 := below_then (W0.out _) B1
  go_wp2
  go_ret2
  exact ⟨_, rfl, World.ownsRow_nil _ _ _ _, B1⟩
end Go.Proofs.Ytbajlhpmmmhkoaa
namespace Go.Proofs.Ytbajlhpmmmhkoaa
open Go.RowKit
set_option maxRecDepth 100000 in
set_option maxHeartbeats 4000000 in
theorem same_law4 (v : Value) (r : Rp) (w : World) (h : IsRp w v r) :
  Calls Try.prog 10 #[v] w fun e w' => e = .returned (.bool true) ∧ Below w.heap.size w w' := by
 obtain ⟨ab, capb, av, capv, ad, capd, rfl, -, -, -⟩ := h.slices
 have B := (Below.refl w.heap.size w).alloc (Nat.le_refl _) (.cells #[.int .i64 r.fn, .int .i64 r.code, .int .i64 r.loc, .int .i64 r.cnt, .int .i64 r.sub, .slice ab r.bits.length capb, .slice av r.vals.length capv, .int .u16 r.land.toNat, .int .u16 r.lor.toNat, .slice ad r.data.length capd] 35)
 have h0 := h.below B
 have Y := hidden (BoxP.new w r.fn r.code r.loc r.cnt r.sub (.slice ab r.bits.length capb) (.slice av r.vals.length capv) r.land r.lor (.slice ad r.data.length capd) 35)
 clear h
 go_enter Try.func10, Try.ntmps10
 go_wp2_with fail
 refine (bytes_rep _ r _ h0).mono ?_
 rintro e w1 ⟨v1, rfl, r1, E⟩
 replace B := below_then B E
 replace h0 := h0.below E
 replace Y := hidden (Y.out.ext E)
 clear E
 obtain ⟨lc, c0, c1, c2, c3, c4, c5, c6, c7, c8, c9⟩ := Y.out
 go_wp2_with fail
 clear lc c0 c1 c2 c3 c4 c5 c6 c7 c8 c9
 refine (rlay_ref _ r _ h0).mono ?_
 rintro e w2 ⟨v2, rfl, o2, E⟩
 have r2 := Row.of_owns o2
 clear o2
 replace B := below_then B E
 replace h0 := h0.below E
 replace Y := hidden (Y.out.ext E)
 replace r1 := r1.below E
 clear E
 have tE : (goodE r == goodE r) = true := by simp
 have tB : (layR r == layR r) = true := by simp
 generalize hge : goodE r = ge at *
 have HGE := hidden hge
 clear hge
 go_wp2
 refine wp_region_pi [(0, true), (1, true), (2, true), (3, true), (4, true), (5, true), (6, true), (7, true), (8, true), (9, true), (10, true), (11, true), (13, true), (12, false), (14, false), (15, true), (16, true), (17, true), (18, true), (19, true), (20, false), (21, true), (22, true)] (by kernel_rfl) (by kernel_rfl) (by kernel_rfl) (fun _ _ _ d _ h => by cases d <;> exact h) ?_
 have ED := (Below.refl w2.heap.size w2).drew
 replace B := below_then B ED
 replace h0 := h0.below ED
 replace Y := hidden (Y.out.ext ED)
 replace r1 := r1.below ED
 replace r2 := r2.below ED
 clear ED
 generalize w2.drew = c0 at *
 have x0 := Ext.refl c0
 have BX := hidden (fun w' (hx : Ext c0 w') => (⟨Y.out.ext hx, conv_row (P := Try.prog) (r1.below hx) 33 9 5 Try.underlying33 Try.underlying5 Try.underlying9, conv_row (P := Try.prog) (r2.below hx) 33 9 5 Try.underlying33 Try.underlying5 Try.underlying9⟩ : _ ∧ _ ∧ _))
 iterate 13 (first | (refine pi_P x0 rfl ?_) | (refine pi_R x0 rfl (fun w' hx => by obtain ⟨⟨-, a0, a1, a2, a3, a4, a5, a6, a7, a8, a9⟩, ca, cb⟩ := BX.out w' hx; go_simp; with_reducible rfl) ?_))
 refine pi_move rfl (by kernel_rfl) (fun K hK => ?_)
 go_wp2_with fail
 refine (right_rep _ r _ h0).mono ?_
 rintro e c1 ⟨rfl, E1⟩
 rw [HGE.out]
 go_simp
 refine hK.out _ _ E1 ?_
 clear K hK
 try simp only [Act.put, PuA, PuB, PuC]
 refine pi_move rfl (by kernel_rfl) (fun K hK => ?_)
 go_wp2_with fail
 refine (good_ref _ r _ (h0.below E1)).mono ?_
 rintro e c2 ⟨rfl, E2⟩
 rw [HGE.out]
 go_simp
 refine hK.out _ _ (Ext.trans E1 E2) ?_
 clear K hK
 try simp only [Act.put, PuA, PuB, PuC]
 have F2 := Ext.trans E1 E2
 replace BX := hidden (fun w' (hx : Ext c2 w') => BX.out w' (Ext.trans F2 hx))
 have x2 := Ext.refl c2
 have h2 := h0.below F2
 iterate 5 (first | (refine pi_P F2 rfl ?_) | (refine pi_R F2 rfl (fun w' hx => by obtain ⟨⟨-, a0, a1, a2, a3, a4, a5, a6, a7, a8, a9⟩, ca, cb⟩ := BX.out w' hx; go_simp; with_reducible rfl) ?_) | (refine pi_P x2 rfl ?_) | (refine pi_R x2 rfl (fun w' hx => by obtain ⟨⟨-, a0, a1, a2, a3, a4, a5, a6, a7, a8, a9⟩, ca, cb⟩ := BX.out w' hx; go_simp; with_reducible rfl) ?_))
 refine pi_move rfl (by kernel_rfl) (fun K hK => ?_)
 go_wp2_with fail
 refine (same_rep _ _ r r _ h2 h2).mono ?_
 rintro e c5 ⟨rfl, E5⟩
 rw [show decide (r = r) = true by simp]
 go_simp
 refine hK.out _ _ E5 ?_
 clear K hK
 try simp only [Act.put, PuA, PuB, PuC]
 iterate 2 (refine pi_P E5 rfl ?_)
 refine pi_nil ?_
 replace B := below_then B (Ext.trans F2 E5)
 go_wp2
 go_ret
 exact ⟨rfl, B⟩
end Go.Proofs.Ytbajlhpmmmhkoaa
namespace Go.Proofs.Ytbajlhpmmmhkoaa
def gB (b : List UInt8) (c : Int) : Rp :=
 if 128 ≤ fnOf b then refP (fnOf b - 128) (codeL b)
 else if fnOf b = 1 ∨ fnOf b = 2 then ⟨fnOf b, 0, 0, 0, 0, (if b.length ≤ 1 then [] else openR (b.drop 2) c), [], 0, 0, []⟩
 else if fnOf b = 3 ∨ fnOf b = 4 ∨ fnOf b = 23 then ⟨fnOf b, 0, 0, 0, 0, [], wordsAt b 2, 0, 0, []⟩
 else if fnOf b = 15 ∨ fnOf b = 16 then ⟨fnOf b, 0, getN b 1, getN b 3, 0, [], [], 0, 0, []⟩
 else if fnOf b = 17 then ⟨fnOf b, 0, 0, 0, 0, [], [], 0, 0, (if b.length ≤ 1 then [] else b.drop 2)⟩
 else ⟨fnOf b, 0, (if fnOf b = 8 then 0 else getN b 1), 0, (gR b).sub, (gR b).bits, (gR b).vals, (gR b).land, (gR b).lor, []⟩
theorem drop2 (f n : UInt8) (l : List UInt8) : (f :: n :: l).drop 2 = l := rfl
theorem wordsAt_cnt (f n : UInt8) (vs : List UInt16) : wordsAt (f :: n :: bytesL vs) 2 = vs := by
 cases vs with
 | nil => rfl
 | cons x r =>
  unfold wordsAt
  rw [if_neg (by rw [List.length_cons, List.length_cons, bytesL_len, List.length_cons]; omega), drop2]
  exact wordsR_bytes (x :: r)
theorem echo_gB {b : List UInt8} {q : Rq} (h : rightE q = 0) (hb : bytesQ q = b) : gR b = q := by rw [← hb]; exact gR_bytes q h
theorem gB_lay {b : List UInt8} {c : Int} {r : Rp} (h : isA b c r) : gB b c = r := by
 obtain ⟨-, f1, f2⟩ := fn_lay h
 obtain ⟨hg, hb, ha⟩ := h
 by_cases hc : r.code = 0
 ·
  obtain ⟨e, -⟩ := f2 hc
  obtain ⟨hk, hform, ⟨n1, n2, n3⟩, hl⟩ := good_parts hg hc
  have hecho := echo_right hg hc
  have hlay := hb
  have lay : layA r = b8 r.fn :: bodyA r := by simp [layA, hc]
  rw [lay] at hb
  clear f1 f2 lay hg
  unfold gB
  have m1 := pw_mk r.loc n1
  have m3 := pw_mk r.cnt n3
  obtain ⟨f, k, a, cn, s, bs, vs, m, o, ds⟩ := r
  simp only at hk n1 n2 n3 hc hecho hb hlay e m1 m3 ⊢
  subst hc
  simp only [askB] at ha
  rw [e]
  rcases known_cases hk with rfl | rfl | rfl | rfl | rfl | rfl | rfl | rfl | rfl | rfl | rfl | rfl
  all_goals
   clear hk
   simp [formA] at hform
   simp [listA] at hl
   simp at ha
  ·
   obtain ⟨rfl, rfl, rfl, rfl, ⟨rfl, rfl⟩, rfl⟩ := hform
   subst ha
   simp [bodyA, cntL] at hb
   subst hb
   simp
   rw [openR_yes (openOk_packL bs)]
   simpa using openL_packL bs
  ·
   obtain ⟨rfl, rfl, rfl, rfl, ⟨rfl, rfl⟩, rfl⟩ := hform
   subst ha
   simp [bodyA, cntL] at hb
   subst hb
   simp
   rw [openR_yes (openOk_packL bs)]
   simpa using openL_packL bs
  ·
   obtain ⟨rfl, rfl, rfl, rfl, ⟨rfl, rfl⟩, rfl⟩ := hform
   simp [bodyA, cntL] at hb
   subst hb
   simp [wordsAt_cnt]
  ·
   obtain ⟨rfl, rfl, rfl, rfl, ⟨rfl, rfl⟩, rfl⟩ := hform
   simp [bodyA, cntL] at hb
   subst hb
   simp [wordsAt_cnt]
  ·
   obtain ⟨h1, h2, h3⟩ := hecho (.inl rfl)
   have hq := echo_gB h1 (h2.symm.trans hlay)
   have e2 : getN b 1 = (gR b).loc := by simp [gR, e]
   simp
   rw [e2, hq]
   simpa [echoP, echoQ] using h3
  ·
   obtain ⟨h1, h2, h3⟩ := hecho (.inr (.inl rfl))
   have hq := echo_gB h1 (h2.symm.trans hlay)
   have e2 : getN b 1 = (gR b).loc := by simp [gR, e]
   simp
   rw [e2, hq]
   simpa [echoP, echoQ] using h3
  ·
   obtain ⟨h1, h2, h3⟩ := hecho (.inr (.inr (.inl rfl)))
   have hq := echo_gB h1 (h2.symm.trans hlay)
   simp
   rw [hq]
   simp_all [echoP, echoQ]
  ·
   obtain ⟨rfl, rfl, rfl, ⟨rfl, rfl⟩, rfl⟩ := hform
   simp [bodyA, pw] at hb
   subst hb
   simp [getN1, getN3, m1, m3]
  ·
   obtain ⟨rfl, rfl, rfl, ⟨rfl, rfl⟩, rfl⟩ := hform
   simp [bodyA, pw] at hb
   subst hb
   simp [getN1, getN3, m1, m3]
  ·
   obtain ⟨rfl, rfl, rfl, rfl, rfl, rfl, rfl⟩ := hform
   simp [bodyA, cntL] at hb
   subst hb
   simp
  ·
   obtain ⟨h1, h2, h3⟩ := hecho (.inr (.inr (.inr rfl)))
   have hq := echo_gB h1 (h2.symm.trans hlay)
   have e2 : getN b 1 = (gR b).loc := by simp [gR, e]
   simp
   rw [e2, hq]
   simpa [echoP, echoQ] using h3
  ·
   obtain ⟨rfl, rfl, rfl, rfl, ⟨rfl, rfl⟩, rfl⟩ := hform
   simp [bodyA, cntL] at hb
   subst hb
   simp [wordsAt_cnt]
 ·
  obtain ⟨h1, h2, h3, h4, h5⟩ := good_code hg hc
  obtain ⟨e, eb⟩ := f1 hc
  unfold gB
  rw [e, if_pos (by omega)]
  have : codeL b = r.code := by
   rw [eb]
   show ((b8 r.code).toNat : Int) = _
   rw [b8_nat]; omega
  rw [this, show r.fn + 128 - 128 = r.fn by omega]
  exact h5.symm
theorem noB {b : List UInt8} {c : Int} (h : ¬ isA b c (gB b c)) : ¬ ∃ r, isA b c r := fun ⟨r, hr⟩ => h (by rw [gB_lay hr]; exact hr)
end Go.Proofs.Ytbajlhpmmmhkoaa
