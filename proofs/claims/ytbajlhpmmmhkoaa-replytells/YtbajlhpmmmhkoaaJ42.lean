/- The third statements' own helpers: odd (some request), tape (some numbers). -/
import Derived.Test.YtbajlhpmmmhkoaaJ41
import Derived.Test.YtbajlhpmmmhkoaaJ40
import Derived.Test.YtbajlhpmmmhkoaaJ18
import Derived.Test.YtbajlhpmmmhkoaaJ16
import Derived.Test.YtbajlhpmmmhkoaaJ33
import Derived.Test.YtbajlhpmmmhkoaaJ36
import Derived.Test.YtbajlhpmmmhkoaaJ31
import Derived.Test.YtbajlhpmmmhkoaaJ10
import Derived.Test.YtbajlhpmmmhkoaaJ32
namespace Go.Proofs.Ytbajlhpmmmhkoaa
open Go.RowKit
set_option maxRecDepth 100000 in
set_option maxHeartbeats 2000000 in
theorem read_rep (v u : Value) (bs : List UInt8) (q : Rq) (w : World) (hv : Row w v (bs.map bV)) (hq : IsRq w u q) (hcn : -9223372036854775808 ≤ q.cnt ∧ q.cnt ≤ 9223372036854775807) :
  Calls Try.prog 25 #[v, u] w fun e w' => ∃ v', e = .returned (.tuple #[v', .int .i64 (takeE bs q.fn q.cnt)]) ∧ IsRp w' v' (takeR bs q.fn q.cnt) ∧ Below w.heap.size w w' ∧ NewR w.heap.size v' := by
 obtain ⟨ab, capb, av, capv, rfl, -, -⟩ := hq.slices
 clear hq
 obtain ⟨f, l, c, p, s, bb, vv, m, o⟩ := q
 simp only at hcn ⊢
 generalize bb.length = nb at *
 generalize vv.length = nv at *
 clear bb vv
 have W0 := hidden (fun o1 o2 => ((Below.refl w.heap.size w).alloc (Nat.le_refl _) o1).alloc (by simp) o2)
 by_cases h0 : bs = []
 ·
  subst h0
  rw [takeE_short, takeR_short]
  obtain ⟨a, cap, rfl, -⟩ := id hv
  simp only [List.map_nil, List.length_nil] at hv ⊢
  clear hv
  go_enter Try.func25, Try.ntmps25
  go_wp2
  refine bodyPost_ret (v := _) (by simp [results, Try.results25, go_sem]; with_reducible rfl) rfl ?_
  exact ⟨_, rfl, zero_rp _, W0.out _ _, ⟨_, _, _, _, _, _, _, _, _, _, rfl, NewV.none _ _ _, NewV.none _ _ _, NewV.none _ _ _⟩⟩
 ·
  have hp : 0 < bs.length := List.length_pos_iff.2 h0
  have hp2 : (0 : Int) < (bs.length : Int) := by omega
  have hne : ((bs.length : Int) == 0) = false := by rw [beq_eq_false_iff_ne]; omega
  obtain ⟨a, cap, rfl, -⟩ := id hv
  obtain ⟨hl, hc, hm, hcell⟩ := hv.at
  simp only [List.length_map] at hl hc hv hcell ⊢
  obtain ⟨b, off, rfl, hcl⟩ := hcell 0 0 hp
  have c0 := hcl 0 hp
  simp only [Nat.add_zero] at c0
  have hlt := lt_of_cell c0
  have HF : Hid (fnOf bs = ((bs.getD 0 0).toNat : Int)) := rfl
  have CG := hidden (fun w' (h : Row w' (.slice (some ⟨b, off, none⟩) bs.length cap) (bs.map bV)) => guess_rep _ bs c w' h h0 hcn)
  have EA := hidden (fun h => takeE_ans (b := bs) (f := f) (c := c) h0 h)
  have QA := hidden (fun h => takeR_ans (b := bs) (f := f) (c := c) h)
  have E12 := hidden (fun h => takeE_no (f := f) h0 (noA (b := bs) (c := c) h))
  have Q12 := hidden (fun h => takeR_no (f := f) (noA (b := bs) (c := c) h))
  have E0 := hidden (fun ha h => takeE_is (b := bs) (f := f) (c := c) (r := gA bs c) ha h)
  have Q0 := hidden (fun ha h => takeR_is (b := bs) (f := f) (c := c) (r := gA bs c) ha h)
  rw [HF.out] at EA QA E0 Q0
  have hx := (bs.getD 0 0).toNat_lt
  clear hcl hcell HF hc
  generalize bs.getD 0 0 = x at *
  have wx : IntKind.i64.wrap (x.toNat : Int) = x.toNat := by rw [IntKind.wrap_i64]; omega
  go_enter Try.func25, Try.ntmps25
  go_wp2
  refine wp_region_pi [(0, true), (1, true), (2, true), (3, true), (4, true), (5, true), (6, false), (7, true)] (by kernel_rfl) (by kernel_rfl) (by kernel_rfl) (fun _ _ _ d _ h => by cases d <;> exact h) ?_
  have BQ := ((Blk.new w 26 [.int .i64 f, .int .i64 l, .int .i64 c, .int .i64 p, .int .i64 s, .slice ab nb capb, .slice av nv capv, wV m, wV o]).alloc (.cells #[.int .i64 0, .int .i64 0, .int .i64 0, .int .i64 0, .int .i64 0, .slice none 0 0, .slice none 0 0, .int .u16 0, .int .u16 0, .slice none 0 0] 35)).drew
  have BZ := (Blk.new_at (w.alloc (.cells #[.int .i64 f, .int .i64 l, .int .i64 c, .int .i64 p, .int .i64 s, .slice ab nb capb, .slice av nv capv, wV m, wV o] 26)) 35 [.int .i64 0, .int .i64 0, .int .i64 0, .int .i64 0, .int .i64 0, .slice none 0 0, .slice none 0 0, .int .u16 0, .int .u16 0, .slice none 0 0] (w.heap.size + 1) (by simp)).drew
  have B2 := (W0.out (.cells #[.int .i64 f, .int .i64 l, .int .i64 c, .int .i64 p, .int .i64 s, .slice ab nb capb, .slice av nv capv, wV m, wV o] 26) (.cells #[.int .i64 0, .int .i64 0, .int .i64 0, .int .i64 0, .int .i64 0, .slice none 0 0, .slice none 0 0, .int .u16 0, .int .u16 0, .slice none 0 0] 35)).drew
  have x2 := Ext.refl ((w.alloc (.cells #[.int .i64 f, .int .i64 l, .int .i64 c, .int .i64 p, .int .i64 s, .slice ab nb capb, .slice av nv capv, wV m, wV o] 26)).alloc (.cells #[.int .i64 0, .int .i64 0, .int .i64 0, .int .i64 0, .int .i64 0, .slice none 0 0, .slice none 0 0, .int .u16 0, .int .u16 0, .slice none 0 0] 35)).drew
  have d0 : Hid (∀ w', Ext ((w.alloc (.cells #[.int .i64 f, .int .i64 l, .int .i64 c, .int .i64 p, .int .i64 s, .slice ab nb capb, .slice av nv capv, wV m, wV o] 26)).alloc (.cells #[.int .i64 0, .int .i64 0, .int .i64 0, .int .i64 0, .int .i64 0, .slice none 0 0, .slice none 0 0, .int .u16 0, .int .u16 0, .slice none 0 0] 35)).drew w' → w'.cell? ⟨b, off, none⟩ = some (bV x)) := fun w' h => ((below_then B2 h).cell (p := ⟨b, off, none⟩) hlt).trans c0
  generalize ((w.alloc (.cells #[.int .i64 f, .int .i64 l, .int .i64 c, .int .i64 p, .int .i64 s, .slice ab nb capb, .slice av nv capv, wV m, wV o] 26)).alloc (.cells #[.int .i64 0, .int .i64 0, .int .i64 0, .int .i64 0, .int .i64 0, .slice none 0 0, .slice none 0 0, .int .u16 0, .int .u16 0, .slice none 0 0] 35)).drew = w2 at *
  have e0 : Hid (∀ w', Ext w2 w' → w'.cell? ⟨w.heap.size, 0, none⟩ = some (.int .i64 f)) := fun w' h => (BQ.below h BQ.lt).cell 0
  iterate 6 (first | (refine pi_P x2 rfl ?_) | (refine pi_R x2 rfl (fun w' hx => by have y := d0.out w' hx; have z := e0.out w' hx; go_simp; with_reducible rfl) ?_))
  refine pi_move rfl (by kernel_rfl) (fun K hK => ?_)
  go_wp2_with fail
  refine (answers_rep _ _ _ (by omega) (by omega)).mono ?_
  rintro e w3 ⟨rfl, rfl⟩
  go_simp
  refine hK.out _ _ x2 ?_
  clear K hK
  try simp only [Act.put, PuA, PuB, PuC]
  refine pi_pure x2 rfl (by kernel_rfl) (fun w' => by go_simp; with_reducible rfl) ?_
  try simp only [Act.put, PuA, PuB, PuC]
  refine pi_nil ?_
  clear d0 e0 x2
  have R2 := hv.below B2
  have d0 := BZ.cell 0
  have d1 := BZ.cell 1
  have d2 := BZ.cell 2
  have d3 := BZ.cell 3
  have d4 := BZ.cell 4
  have d5 := BZ.cell 5
  have d6 := BZ.cell 6
  have d7 := BZ.cell 7
  have d8 := BZ.cell 8
  have d9 := BZ.cell 9
  simp at d0 d1 d2 d3 d4 d5 d6 d7 d8 d9
  have fd := BZ.frozen
  have gd := BZ.lt
  have k2 : w2.cell? ⟨w.heap.size, 2, none⟩ = some (.int .i64 c) := BQ.cell 2
  have kl := BQ.lt
  cases ha : ansB (x.toNat : Int) f
  ·
   have E := hidden (EA.out ha)
   have Qq := hidden (QA.out ha)
   clear ha
   go_wp2
   refine bodyPost_ret (v := _) (by simp [results, Try.results25, go_sem, d0, d1, d2, d3, d4, d5, d6, d7, d8, d9]; with_reducible rfl) rfl ?_
   rw [E.out, Qq.out]
   refine ⟨_, rfl, zero_rp _, ?_, ⟨_, _, _, _, _, _, _, _, _, _, rfl, NewV.none _ _ _, NewV.none _ _ _, NewV.none _ _ _⟩⟩
   repeat' (refine Below.setCell ?_ (by simp) _)
   exact B2
  ·
   have AA := hidden ha
   have gz := hidden gd
   clear ha d0 d1 d2 d3 d4 d5 d6 d7 d8 d9 fd gd
   go_wp2_with fail
   refine (CG.out _ R2).mono ?_
   rintro e w3 ⟨v3, rfl, h3, B3, nr3⟩
   replace BQ := BQ.below B3 BQ.lt
   replace BZ := BZ.below B3 BZ.lt
   have sz2 := BZ.lt
   have szb := B2.size
   have nr : NewR (w.heap.size + 1 + 1) v3 := nr3.le (by have := gz.out; omega)
   replace B3 := below_then B2 B3
   obtain ⟨ar, capr, aw, capw, ad, capd, rfl, -, -, -⟩ := h3.slices
   obtain ⟨n1, n2, n3⟩ := nr.parts
   have D3 := B3.alloc B3.size (.cells #[.int .i64 (gA bs c).fn, .int .i64 (gA bs c).code, .int .i64 (gA bs c).loc, .int .i64 (gA bs c).cnt, .int .i64 (gA bs c).sub, .slice ar (gA bs c).bits.length capr, .slice aw (gA bs c).vals.length capw, .int .u16 (gA bs c).land.toNat, .int .u16 (gA bs c).lor.toNat, .slice ad (gA bs c).data.length capd] 35)
   have E3 := (Below.refl w3.heap.size w3).alloc (Nat.le_refl _) (.cells #[.int .i64 (gA bs c).fn, .int .i64 (gA bs c).code, .int .i64 (gA bs c).loc, .int .i64 (gA bs c).cnt, .int .i64 (gA bs c).sub, .slice ar (gA bs c).bits.length capr, .slice aw (gA bs c).vals.length capw, .int .u16 (gA bs c).land.toNat, .int .u16 (gA bs c).lor.toNat, .slice ad (gA bs c).data.length capd] 35)
   have XR := Blk.new w3 35 [.int .i64 (gA bs c).fn, .int .i64 (gA bs c).code, .int .i64 (gA bs c).loc, .int .i64 (gA bs c).cnt, .int .i64 (gA bs c).sub, .slice ar (gA bs c).bits.length capr, .slice aw (gA bs c).vals.length capw, .int .u16 (gA bs c).land.toNat, .int .u16 (gA bs c).lor.toNat, .slice ad (gA bs c).data.length capd]
   replace BQ := BQ.below E3 BQ.lt
   replace BZ := BZ.below E3 BZ.lt
   replace h3 := h3.below E3
   generalize gA bs c = r at *
   have CB := hidden (bytes_rep _ r _ h3)
   clear k2 kl
   go_wp2_with fail
   refine CB.out.mono ?_
   rintro e w4 ⟨v4, rfl, hr4, B4⟩
   replace BQ := BQ.below B4 BQ.lt
   replace BZ := BZ.below B4 BZ.lt
   replace XR := XR.below B4 XR.lt
   replace h3 := h3.below B4
   replace B4 := below_then D3 B4
   clear CB B3 D3 E3 CG EA QA R2 B2
   by_cases hr : goodE r = 0
   ·
    rw [hr]
    have HR := hidden hr
    rw [layR_0 hr] at hr4
    clear hr
    go_wp2_with fail
    refine (eq_u8 _ _ _ bs _ hr4 (hv.below B4)).mono ?_
    rintro e w5 ⟨rfl, B5⟩
    replace BQ := BQ.below B5 BQ.lt
    replace BZ := BZ.below B5 BZ.lt
    replace XR := XR.below B5 XR.lt
    replace h3 := h3.below B5
    replace B5 := below_then B4 B5
    clear B4 hr4
    by_cases hb : layA r = bs
    ·
     have T1 : (layA r == bs) = true := by rw [hb]; simp
     rw [T1]
     have HB := hidden hb
     clear hb T1
     have d0 := BZ.cell 0
     have d1 := BZ.cell 1
     have d2 := BZ.cell 2
     have d3 := BZ.cell 3
     have d4 := BZ.cell 4
     have d5 := BZ.cell 5
     have d6 := BZ.cell 6
     have d7 := BZ.cell 7
     have d8 := BZ.cell 8
     have d9 := BZ.cell 9
     simp at d0 d1 d2 d3 d4 d5 d6 d7 d8 d9
     have fd := BZ.frozen
     have gd := BZ.lt
     have r0 := XR.cell 0
     have r1 := XR.cell 1
     have r2 := XR.cell 2
     have r3 := XR.cell 3
     have r4 := XR.cell 4
     have r5 := XR.cell 5
     have r6 := XR.cell 6
     have r7 := XR.cell 7
     have r8 := XR.cell 8
     have r9 := XR.cell 9
     simp at r0 r1 r2 r3 r4 r5 r6 r7 r8 r9
     have fr := XR.frozen
     have gr := XR.lt
     have k2 := BQ.cell 2
     simp at k2
     have kl := BQ.lt
     go_wp2_with fail
     refine (asked_rep _ r c _ h3).mono ?_
     rintro e w6 ⟨rfl, B6⟩
     replace BZ := BZ.below B6 BZ.lt
     replace XR := XR.below B6 XR.lt
     replace h3 := h3.below B6
     replace B6 := below_then B5 B6
     clear B5 d0 d1 d2 d3 d4 d5 d6 d7 d8 d9 fd gd r0 r1 r2 r3 r4 r5 r6 r7 r8 r9 fr gr k2 kl BQ
     have d0 := BZ.cell 0
     have d1 := BZ.cell 1
     have d2 := BZ.cell 2
     have d3 := BZ.cell 3
     have d4 := BZ.cell 4
     have d5 := BZ.cell 5
     have d6 := BZ.cell 6
     have d7 := BZ.cell 7
     have d8 := BZ.cell 8
     have d9 := BZ.cell 9
     simp at d0 d1 d2 d3 d4 d5 d6 d7 d8 d9
     have fd := BZ.frozen
     have gd := BZ.lt
     have r0 := XR.cell 0
     have r1 := XR.cell 1
     have r2 := XR.cell 2
     have r3 := XR.cell 3
     have r4 := XR.cell 4
     have r5 := XR.cell 5
     have r6 := XR.cell 6
     have r7 := XR.cell 7
     have r8 := XR.cell 8
     have r9 := XR.cell 9
     simp at r0 r1 r2 r3 r4 r5 r6 r7 r8 r9
     have fr := XR.frozen
     have gr := XR.lt
     cases hk : askB r c
     ·
      have E := hidden (E12.out (fun h => by rw [h.2.2] at hk; cases hk))
      have Qq := hidden (Q12.out (fun h => by rw [h.2.2] at hk; cases hk))
      clear hk E12 Q12 E0 Q0 XR BZ
      go_wp2
      refine bodyPost_ret (v := _) (by simp [results, Try.results25, go_sem, d0, d1, d2, d3, d4, d5, d6, d7, d8, d9]; with_reducible rfl) rfl ?_
      rw [E.out, Qq.out]
      refine ⟨_, rfl, zero_rp _, ?_, ⟨_, _, _, _, _, _, _, _, _, _, rfl, NewV.none _ _ _, NewV.none _ _ _, NewV.none _ _ _⟩⟩
      repeat' (refine Below.setCell ?_ (by simp) _)
      exact B6
     ·
      have E := hidden (E0.out AA.out ⟨HR.out, HB.out, hk⟩)
      have Qq := hidden (Q0.out AA.out ⟨HR.out, HB.out, hk⟩)
      have m1 := n1.le (base' := w.heap.size) (by omega)
      have m2 := n2.le (base' := w.heap.size) (by omega)
      have m3 := n3.le (base' := w.heap.size) (by omega)
      clear hk E12 Q12 E0 Q0 XR BZ
      go_wp2
      refine bodyPost_ret (v := _) (by simp [results, Try.results25, go_sem, d0, d1, d2, d3, d4, d5, d6, d7, d8, d9]; with_reducible rfl) rfl ?_
      rw [E.out, Qq.out]
      obtain ⟨vb, vv, vd, hE, hb1, hb2, hb3⟩ := h3
      simp only [rpV, Value.agg.injEq, Array.mk.injEq, List.cons.injEq, and_true, true_and] at hE
      obtain ⟨rfl, rfl, rfl⟩ := hE
      refine ⟨_, rfl, ⟨_, _, _, rfl, ?_, ?_, ?_⟩, ?_, ⟨_, _, _, _, _, _, _, _, _, _, rfl, m1, m2, m3⟩⟩
      ·
       repeat' (refine Row.setCell_new ?_ n1 (by omega))
       exact hb1
      ·
       repeat' (refine Row.setCell_new ?_ n2 (by omega))
       exact hb2
      ·
       repeat' (refine Row.setCell_new ?_ n3 (by omega))
       exact hb3
      ·
       repeat' (refine Below.setCell ?_ (by simp) _)
       exact B6
    ·
     have T1 : (layA r == bs) = false := by rw [beq_eq_false_iff_ne]; exact hb
     rw [T1]
     have E := hidden (E12.out (fun h => hb h.2.1))
     have Qq := hidden (Q12.out (fun h => hb h.2.1))
     clear hb T1 E12 Q12 E0 Q0
     have d0 := BZ.cell 0
     have d1 := BZ.cell 1
     have d2 := BZ.cell 2
     have d3 := BZ.cell 3
     have d4 := BZ.cell 4
     have d5 := BZ.cell 5
     have d6 := BZ.cell 6
     have d7 := BZ.cell 7
     have d8 := BZ.cell 8
     have d9 := BZ.cell 9
     simp at d0 d1 d2 d3 d4 d5 d6 d7 d8 d9
     have fd := BZ.frozen
     have gd := BZ.lt
     have r0 := XR.cell 0
     have r1 := XR.cell 1
     have r2 := XR.cell 2
     have r3 := XR.cell 3
     have r4 := XR.cell 4
     have r5 := XR.cell 5
     have r6 := XR.cell 6
     have r7 := XR.cell 7
     have r8 := XR.cell 8
     have r9 := XR.cell 9
     simp at r0 r1 r2 r3 r4 r5 r6 r7 r8 r9
     have fr := XR.frozen
     have gr := XR.lt
     have k2 := BQ.cell 2
     simp at k2
     have kl := BQ.lt
     clear XR BZ BQ
     go_wp2
     refine bodyPost_ret (v := _) (by simp [results, Try.results25, go_sem, d0, d1, d2, d3, d4, d5, d6, d7, d8, d9]; with_reducible rfl) rfl ?_
     rw [E.out, Qq.out]
     refine ⟨_, rfl, zero_rp _, ?_, ⟨_, _, _, _, _, _, _, _, _, _, rfl, NewV.none _ _ _, NewV.none _ _ _, NewV.none _ _ _⟩⟩
     repeat' (refine Below.setCell ?_ (by simp) _)
     exact B5
   ·
    have T1 : (goodE r != 0) = true := by simpa using hr
    have E := hidden (E12.out (fun h => hr h.1))
    have Qq := hidden (Q12.out (fun h => hr h.1))
    clear hr E12 Q12 E0 Q0 hr4
    have d0 := BZ.cell 0
    have d1 := BZ.cell 1
    have d2 := BZ.cell 2
    have d3 := BZ.cell 3
    have d4 := BZ.cell 4
    have d5 := BZ.cell 5
    have d6 := BZ.cell 6
    have d7 := BZ.cell 7
    have d8 := BZ.cell 8
    have d9 := BZ.cell 9
    simp at d0 d1 d2 d3 d4 d5 d6 d7 d8 d9
    have fd := BZ.frozen
    have gd := BZ.lt
    have r0 := XR.cell 0
    have r1 := XR.cell 1
    have r2 := XR.cell 2
    have r3 := XR.cell 3
    have r4 := XR.cell 4
    have r5 := XR.cell 5
    have r6 := XR.cell 6
    have r7 := XR.cell 7
    have r8 := XR.cell 8
    have r9 := XR.cell 9
    simp at r0 r1 r2 r3 r4 r5 r6 r7 r8 r9
    have fr := XR.frozen
    have gr := XR.lt
    have k2 := BQ.cell 2
    simp at k2
    have kl := BQ.lt
    clear h3
    generalize goodE r = Er at *
    clear XR BZ BQ
    go_wp2
    refine bodyPost_ret (v := _) (by simp [results, Try.results25, go_sem, d0, d1, d2, d3, d4, d5, d6, d7, d8, d9]; with_reducible rfl) rfl ?_
    rw [E.out, Qq.out]
    refine ⟨_, rfl, zero_rp _, ?_, ⟨_, _, _, _, _, _, _, _, _, _, rfl, NewV.none _ _ _, NewV.none _ _ _, NewV.none _ _ _⟩⟩
    repeat' (refine Below.setCell ?_ (by simp) _)
    exact B4
end Go.Proofs.Ytbajlhpmmmhkoaa
namespace Go.Proofs.Ytbajlhpmmmhkoaa
open Go.RowKit
set_option maxRecDepth 100000 in
set_option maxHeartbeats 4000000 in
theorem reads_law4 (v u : Value) (bs : List UInt8) (q : Rq) (w : World) (hv : Row w v (bs.map bV)) (hq : IsRq w u q) (hcn : -9223372036854775808 ≤ q.cnt ∧ q.cnt ≤ 9223372036854775807) (hfn : -9223372036854775808 ≤ q.fn ∧ q.fn ≤ 9223372036854775807) (hbl : bs.length ≤ 140737488351232) (hcl : q.cnt ≤ 140737488355327 ∨ 8 * (bs.length : Int) < q.cnt) :
  Calls Try.prog 11 #[v, u] w fun e w' => e = .returned (.bool true) ∧ Below w.heap.size w w' := by
 obtain ⟨ab, capb, av, capv, rfl, -, -⟩ := hq.slices
 obtain ⟨f, l, c, p, s, bb, vv, m, o⟩ := q
 simp only at hcn hfn hcl ⊢
 have B := (Below.refl w.heap.size w).alloc (Nat.le_refl _) (.cells #[.int .i64 f, .int .i64 l, .int .i64 c, .int .i64 p, .int .i64 s, .slice ab bb.length capb, .slice av vv.length capv, .int .u16 m.toNat, .int .u16 o.toNat] 26)
 have h0 := hq.below B
 replace hv := hv.below B
 have Y := Blk.new w 26 [.int .i64 f, .int .i64 l, .int .i64 c, .int .i64 p, .int .i64 s, .slice ab bb.length capb, .slice av vv.length capv, .int .u16 m.toNat, .int .u16 o.toNat]
 have tE : (takeE bs f c == takeE bs f c) = true := by simp
 generalize hge : takeE bs f c = ge at *
 generalize hgr : takeR bs f c = R at *
 have HGE := hidden hge
 have HGR := hidden hgr
 clear hge hgr hq
 go_enter Try.func11, Try.ntmps11
 go_wp2_with fail
 refine (read_rep _ _ bs _ _ hv h0 hcn).mono ?_
 rintro e w1 ⟨v1, rfl, q1, E, -⟩
 rw [HGE.out]
 rw [HGR.out] at q1
 replace Y := Y.below E Y.lt
 replace B := below_then B E
 replace hv := hv.below E
 replace h0 := h0.below E
 clear E
 obtain ⟨pb, pcb, pv, pcv, pd, pcd, rfl, -, -, -⟩ := q1.slices
 have Y1 := hidden (BoxP.new w1 R.fn R.code R.loc R.cnt R.sub (.slice pb R.bits.length pcb) (.slice pv R.vals.length pcv) R.land R.lor (.slice pd R.data.length pcd) 35)
 replace Y := Y.alloc (.cells #[.int .i64 R.fn, .int .i64 R.code, .int .i64 R.loc, .int .i64 R.cnt, .int .i64 R.sub, .slice pb R.bits.length pcb, .slice pv R.vals.length pcv, .int .u16 R.land.toNat, .int .u16 R.lor.toNat, .slice pd R.data.length pcd] 35)
 have EA := (Below.refl w1.heap.size w1).alloc (Nat.le_refl _) (.cells #[.int .i64 R.fn, .int .i64 R.code, .int .i64 R.loc, .int .i64 R.cnt, .int .i64 R.sub, .slice pb R.bits.length pcb, .slice pv R.vals.length pcv, .int .u16 R.land.toNat, .int .u16 R.lor.toNat, .slice pd R.data.length pcd] 35)
 replace B := below_then B EA
 replace hv := hv.below EA
 replace h0 := h0.below EA
 replace q1 := q1.below EA
 clear EA
 have c0 := Y.cell 0
 have c1 := Y.cell 1
 have c2 := Y.cell 2
 have c3 := Y.cell 3
 have c4 := Y.cell 4
 have c5 := Y.cell 5
 have c6 := Y.cell 6
 have c7 := Y.cell 7
 have c8 := Y.cell 8
 simp at c0 c1 c2 c3 c4 c5 c6 c7 c8
 have fl := Y.lt
 go_wp2_with fail
 clear c0 c1 c2 c3 c4 c5 c6 c7 c8 fl Y
 refine (take_ref _ _ bs _ _ hv h0 hcn hfn hbl hcl).mono ?_
 rintro e w2 ⟨v2, rfl, q2, E⟩
 rw [HGE.out]
 rw [HGR.out] at q2
 replace B := below_then B E
 replace hv := hv.below E
 replace h0 := h0.below E
 replace q1 := q1.below E
 replace Y1 := hidden (Y1.out.ext E)
 clear E
 obtain ⟨rb, rcb, rv, rcv, rd, rcd, rfl, -, -, -⟩ := q2.slices
 have Y2 := hidden (BoxP.new w2 R.fn R.code R.loc R.cnt R.sub (.slice rb R.bits.length rcb) (.slice rv R.vals.length rcv) R.land R.lor (.slice rd R.data.length rcd) 35)
 have EA := (Below.refl w2.heap.size w2).alloc (Nat.le_refl _) (.cells #[.int .i64 R.fn, .int .i64 R.code, .int .i64 R.loc, .int .i64 R.cnt, .int .i64 R.sub, .slice rb R.bits.length rcb, .slice rv R.vals.length rcv, .int .u16 R.land.toNat, .int .u16 R.lor.toNat, .slice rd R.data.length rcd] 35)
 replace B := below_then B EA
 replace hv := hv.below EA
 replace h0 := h0.below EA
 replace q1 := q1.below EA
 replace Y1 := hidden (Y1.out.ext EA)
 replace q2 := q2.below EA
 clear EA
 obtain ⟨l1, c0, c1, c2, c3, c4, c5, c6, c7, c8, c9⟩ := Y1.out
 obtain ⟨l2, d0, d1, d2, d3, d4, d5, d6, d7, d8, d9⟩ := Y2.out
 go_wp2_with fail
 refine (alike_ref _ _ R R _ q1 q2).mono ?_
 rintro e w3 ⟨rfl, E⟩
 rw [show decide (R = R) = true by simp]
 replace B := below_then B E
 go_wp2
 go_ret
 exact ⟨rfl, B⟩
end Go.Proofs.Ytbajlhpmmmhkoaa
namespace Go.Proofs.Ytbajlhpmmmhkoaa
open Go.RowKit
end Go.Proofs.Ytbajlhpmmmhkoaa
namespace Go.Proofs.Ytbajlhpmmmhkoaa
open Go.RowKit
end Go.Proofs.Ytbajlhpmmmhkoaa
namespace Go.Proofs.Ytbajlhpmmmhkoaa
open Go.RowKit
end Go.Proofs.Ytbajlhpmmmhkoaa
namespace Go.Proofs.Ytbajlhpmmmhkoaa
open Go.RowKit
end Go.Proofs.Ytbajlhpmmmhkoaa
namespace Go.Proofs.Ytbajlhpmmmhkoaa
open Go.RowKit
end Go.Proofs.Ytbajlhpmmmhkoaa
namespace Go.Proofs.Ytbajlhpmmmhkoaa
open Go.RowKit
end Go.Proofs.Ytbajlhpmmmhkoaa
namespace Go.Proofs.Ytbajlhpmmmhkoaa
open Go.RowKit
end Go.Proofs.Ytbajlhpmmmhkoaa
namespace Go.Proofs.Ytbajlhpmmmhkoaa
open Go.RowKit
end Go.Proofs.Ytbajlhpmmmhkoaa
namespace Go.Proofs.Ytbajlhpmmmhkoaa
open Go.RowKit
end Go.Proofs.Ytbajlhpmmmhkoaa
namespace Go.Proofs.Ytbajlhpmmmhkoaa
open Go.RowKit
end Go.Proofs.Ytbajlhpmmmhkoaa
namespace Go.Proofs.Ytbajlhpmmmhkoaa
open Go.RowKit
end Go.Proofs.Ytbajlhpmmmhkoaa
namespace Go.Proofs.Ytbajlhpmmmhkoaa
open Go.RowKit
end Go.Proofs.Ytbajlhpmmmhkoaa
namespace Go.Proofs.Ytbajlhpmmmhkoaa
open Go.RowKit
def cntB (q : Rq) : Bool :=
 if q.fn = 1 ∨ q.fn = 2 then decide (1 ≤ q.cnt ∧ q.cnt ≤ 2000)
 else if q.fn = 3 ∨ q.fn = 4 then decide (1 ≤ q.cnt ∧ q.cnt ≤ 125)
 else if q.fn = 15 then decide (1 ≤ q.cnt ∧ q.cnt ≤ 1968)
 else if q.fn = 16 then decide (1 ≤ q.cnt ∧ q.cnt ≤ 123)
 else if q.fn = 23 then decide (1 ≤ q.cnt ∧ q.cnt ≤ 125) && decide (1 ≤ (q.vals.length : Int) ∧ (q.vals.length : Int) ≤ 121)
 else true
def countsB (q : Rq) : Bool := decide (rightE q = 0) && cntB q
end Go.Proofs.Ytbajlhpmmmhkoaa
namespace Go.Proofs.Ytbajlhpmmmhkoaa
open Go.RowKit
end Go.Proofs.Ytbajlhpmmmhkoaa
namespace Go.Proofs.Ytbajlhpmmmhkoaa
open Go.RowKit
end Go.Proofs.Ytbajlhpmmmhkoaa
namespace Go.Proofs.Ytbajlhpmmmhkoaa
open Go.RowKit
end Go.Proofs.Ytbajlhpmmmhkoaa
namespace Go.Proofs.Ytbajlhpmmmhkoaa
open Go.RowKit
end Go.Proofs.Ytbajlhpmmmhkoaa
namespace Go.Proofs.Ytbajlhpmmmhkoaa
open Go.RowKit
theorem and_mask (n : Int) (k : Nat) (M : Int) (hk : k < 62) (hM : M = ((2 ^ k - 1 : Nat) : Int)) : ∃ A : Nat, bits BinOp.and IntKind.i64 n M = (A : Int) ∧ A < 2 ^ k := by
 subst hM
 have hp : 0 < 2 ^ k := Nat.two_pow_pos k
 have h1 : 0 ≤ n % ((2 ^ k : Nat) : Int) := Int.emod_nonneg _ (by omega)
 have h2 : n % ((2 ^ k : Nat) : Int) < ((2 ^ k : Nat) : Int) := Int.emod_lt_of_pos _ (by omega)
 exact ⟨(n % ((2 ^ k : Nat) : Int)).toNat, by rw [i64_and_mask n k hk]; omega, by omega⟩
theorem zrow_b (w : World) (k : Nat) (h : k ≤ 100000) (g : Nat) (hg : g = w.heap.size) : Row (w.alloc (.cells (zer k (.bool false)) 4)) (.slice (some ⟨g, 0, none⟩) k k) ((List.replicate k false).map Value.bool) := by
 subst hg
 have := (zer_blk w k (.bool false) 4).row k (by simp) (by unfold maxLen; omega)
 simpa using this
theorem zrow_w (w : World) (k : Nat) (h : k ≤ 100000) (g : Nat) (hg : g = w.heap.size) : Row (w.alloc (.cells (zer k (.int .u16 0)) 24)) (.slice (some ⟨g, 0, none⟩) k k) ((List.replicate k (0 : UInt16)).map wV) := by
 subst hg
 have := (zer_blk w k (.int .u16 0) 24).row k (by simp) (by unfold maxLen; omega)
 have e : (List.replicate k (0 : UInt16)).map wV = List.replicate k (.int .u16 0) := by rw [List.map_replicate]; rfl
 rw [e]
 simpa using this
theorem info_w16 : (Try.prog.info? 24).map (fun i => (i.zero, i.size, i.bytes)) = some (some (.int .u16 0), 1, 2) := by kernel_rfl
theorem info_int : (Try.prog.info? 3).map (fun i => (i.zero, i.size, i.bytes)) = some (some (.int .i64 0), 1, 8) := by kernel_rfl
end Go.Proofs.Ytbajlhpmmmhkoaa
