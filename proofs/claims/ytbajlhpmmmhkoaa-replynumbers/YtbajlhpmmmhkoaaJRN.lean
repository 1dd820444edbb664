/- ReplyNumbers: the closed sentence of chapter 4. The walk. -/
import Derived.Test.YtbajlhpmmmhkoaaJ50
namespace Go.Proofs.Ytbajlhpmmmhkoaa
open Go.RowKit
set_option maxRecDepth 100000 in
set_option maxHeartbeats 4000000 in
theorem rnumbers_walk (w : World) : Calls Try.prog 3 #[] w fun e w' => e = .returned (.bool true) ∧ Below w.heap.size w w' := by
 have HRQ := hidden req_ok
 go_enter Try.func3, Try.ntmps3
 go_wp2
 go_loopw [1] (fun z1 wr => ∃ k : Nat, k ≤ 50 ∧ z1 = .int .i64 k ∧ Below w.heap.size w wr) (fun z1 _ => 50 - (intOf z1).toNat)
 case atStart => exact ⟨0, by omega, rfl, Below.refl _ _⟩
 case round =>
  obtain ⟨k, hk, rfl, hb⟩ := hrel
  obtain ⟨wo, hwo⟩ : ∃ wo, wo = wr := ⟨_, rfl⟩
  subst hwo
  by_cases hlt : k < 50
  ·
   have hlt' : (k : Int) < 50 := by omega
   go_wp2_with fail
   refine (tape_law4 k _ (by omega)).mono ?_
   rintro e w1 ⟨v1, rfl, l, R1, HL, b1⟩
   replace hb := below_then hb b1
   obtain ⟨ta, tc, rfl, -⟩ := id R1
   simp only [List.length_map] at R1 ⊢
   have T1 := tap_new w1 ta l.length tc l R1 HL
   clear b1
   go_wp2_with fail
   refine (HRQ.out _ _ l _ T1 (by simp)).mono ?_
   rintro e w2 ⟨v2, rfl, q, q2, rq, -, ⟨-, hcn⟩, -, D2⟩
   have E2 : Below w1.heap.size w1 w2 := (((Below.refl w1.heap.size w1).alloc (Nat.le_refl _) (.cells #[.slice ta l.length tc, .int .i64 0] 31))).trans (D2.below (by omega) (Nat.le_refl _))
   replace hb := below_then hb E2
   clear D2 T1 E2 R1 HL
   have hqc : 0 ≤ q.cnt := by have := (right_parts rq).2.2.1.2.2.2; simp [numB] at this; omega
   have hqf : 0 ≤ q.fn ∧ q.fn ≤ 127 := by have := known_cases (right_parts rq).1; omega
   have RQ := hidden rq
   have CN := hidden hcn
   clear rq
   obtain ⟨qb, qcb, qv, qcv, rfl, -, -⟩ := q2.slices
   have XQ := Blk.new w2 26 [.int .i64 q.fn, .int .i64 q.loc, .int .i64 q.cnt, .int .i64 q.wat, .int .i64 q.sub, .slice qb q.bits.length qcb, .slice qv q.vals.length qcv, .int .u16 q.land.toNat, .int .u16 q.lor.toNat]
   have E3 := (Below.refl w2.heap.size w2).alloc (Nat.le_refl _) (.cells #[.int .i64 q.fn, .int .i64 q.loc, .int .i64 q.cnt, .int .i64 q.wat, .int .i64 q.sub, .slice qb q.bits.length qcb, .slice qv q.vals.length qcv, .int .u16 q.land.toNat, .int .u16 q.lor.toNat] 26)
   replace q2 := q2.below E3
   replace hb := below_then hb E3
   clear E3
   go_upto_region 5 with fail
   obtain ⟨w3, hw3⟩ : ∃ w3, w2.alloc (.cells #[.int .i64 q.fn, .int .i64 q.loc, .int .i64 q.cnt, .int .i64 q.wat, .int .i64 q.sub, .slice qb q.bits.length qcb, .slice qv q.vals.length qcv, .int .u16 q.land.toNat, .int .u16 q.lor.toNat] 26) = w3 := ⟨_, rfl⟩
   rw [hw3] at XQ q2 hb
   have hw3' : w2.alloc (.cells #[.int .i64 q.fn, .int .i64 q.loc, .int .i64 q.cnt, .int .i64 q.wat, .int .i64 q.sub, .slice qb q.bits.length qcb, .slice qv q.vals.length qcv, wV q.land, wV q.lor] 26) = w3 := hw3
   first | rw [hw3] | rw [hw3']
   clear hw3 hw3'
   generalize w2.heap.size = gQ at *
   go_cut [3] from 24 to 28 (fun z3 wx => ∃ (g3 : Nat) (r : Rp) (rb rv rd : Option Addr) (rbc rvc rdc : Nat), z3 = .pointer (some ⟨g3, 0, none⟩) ∧ Blk wx g3 35 [.int .i64 r.fn, .int .i64 r.code, .int .i64 r.loc, .int .i64 r.cnt, .int .i64 r.sub, .slice rb r.bits.length rbc, .slice rv r.vals.length rvc, .int .u16 r.land.toNat, .int .u16 r.lor.toNat, .slice rd r.data.length rdc] ∧ IsRp wx (rpV r.fn r.code r.loc r.cnt r.sub (.slice rb r.bits.length rbc) (.slice rv r.vals.length rvc) r.land r.lor (.slice rd r.data.length rdc)) r ∧ Below w3.heap.size w3 wx)
   case first =>
    refine c_begin 7 rfl (by kernel_rfl) ?_
    have ED := (Below.refl w3.heap.size w3).drew
    replace q2 := q2.below ED
    replace XQ := XQ.below ED XQ.lt
    generalize w3.drew = c0 at *
    have oQ := hidden q2.ltv
    obtain ⟨k3, hk3⟩ : ∃ k3 : Nat, (k : Int) + 3 = (k3 : Int) := ⟨k + 3, by omega⟩
    have P3 := hidden (show IntKind.i64.wrap ((k : Int) + 3) = (k3 : Int) by rw [IntWalk.i64_in _ (by omega)]; exact hk3)
    have hk3' : k3 ≤ 1000 := by omega
    clear hk3
    have x0 := Ext.refl c0
    have RQC := hidden (fun w' (hx : Ext c0 w') => (⟨(XQ.below hx XQ.lt).cell 0, (XQ.below hx XQ.lt).cell 1, (XQ.below hx XQ.lt).cell 2, (XQ.below hx XQ.lt).cell 3, (XQ.below hx XQ.lt).cell 4, (XQ.below hx XQ.lt).cell 5, (XQ.below hx XQ.lt).cell 6, (XQ.below hx XQ.lt).cell 7, (XQ.below hx XQ.lt).cell 8⟩ : _ ∧ _ ∧ _ ∧ _ ∧ _ ∧ _ ∧ _ ∧ _ ∧ _))
    simp at RQC
    refine c_P trivial 0 rfl ?_
    refine c_pure (v := .int .i64 (k3 : Int)) trivial (by kernel_rfl) (fun _ _ _ d _ h => by cases d <;> exact h) 1 rfl (by kernel_rfl) (by kernel_rfl) (fun w' => by go_simp; rw [P3.out]) ?_; try simp only [Act.put, PuA, PuB, PuC]
    refine c_R (fun w' => Ext c0 w') x0 trivial 3 rfl (fun w' hx => by obtain ⟨y0, y1, y2, y3, y4, y5, y6, y7, y8⟩ := RQC.out w' hx; go_simp; with_reducible rfl) ?_
    refine c_move2 2 5 (by kernel_rfl) ?_ ?_
    ·
     skip
     refine c_op 2 [(3, fun w' => Ext c0 w')] (by kernel_rfl) rfl (by kernel_rfl) (fun K hK => ?_)
     go_wp2_with fail
     refine (tape_law4 k3 _ hk3').mono ?_
     rintro e c1 ⟨vt, rfl, lt, Rt, HLt, Et⟩
     obtain ⟨tta, ttc, rfl, -⟩ := id Rt
     simp only [List.length_map] at Rt ⊢
     have ext2 := below_then x0 Et
     go_simp
     refine hK.out _ _ ⟨ext2, trivial⟩ ?_
     clear K hK
     try simp only [Act.put, PuA, PuB, PuC]
     refine c_move2 4 5 (by kernel_rfl) ?_ ?_
     ·
      skip
      refine c_op 4 [] (by kernel_rfl) rfl (by kernel_rfl) (fun K hK => ?_)
      go_wp2_with fail
      refine (made_any _ _ lt q _ Rt HLt (q2.below ext2) RQ.out CN.out).mono ?_
      rintro e c2 ⟨vm, rfl, r, hr, -, -, -, Em, Fm⟩
      have extm := below_then ext2 Em
      have FH := Fm.fresh q2 hr
      obtain ⟨rb, rbc, rv, rvc, rd, rdc, rfl, -, -, -⟩ := hr.slices
      go_simp
      refine hK.out _ _ trivial ?_
      clear K hK Fm
      try simp only [Act.put, PuA, PuB, PuC]
      refine c_move 5 (by kernel_rfl) ?_
      refine c_op 5 [] (by kernel_rfl) rfl (by kernel_rfl) (fun K hK => ?_)
      go_simp
      have Ea := (Below.refl c2.heap.size c2).alloc (Nat.le_refl _) (.cells #[.int .i64 0, .int .i64 0, .int .i64 0, .int .i64 0, .int .i64 0, .slice none 0 0, .slice none 0 0, .int .u16 0, .int .u16 0, .slice none 0 0] 35)
      have X3 := Blk.new c2 35 [.int .i64 0, .int .i64 0, .int .i64 0, .int .i64 0, .int .i64 0, .slice none 0 0, .slice none 0 0, .int .u16 0, .int .u16 0, .slice none 0 0]
      have exta := below_then extm Ea
      refine hK.out _ _ trivial ?_
      clear K hK
      try simp only [Act.put, PuA, PuB, PuC]
      obtain ⟨c3, hc3⟩ : ∃ c3, c2.alloc (.cells #[.int .i64 0, .int .i64 0, .int .i64 0, .int .i64 0, .int .i64 0, .slice none 0 0, .slice none 0 0, .int .u16 0, .int .u16 0, .slice none 0 0] 35) = c3 := ⟨_, rfl⟩
      rw [hc3] at Ea X3 exta
      rw [hc3]
      clear hc3
      have hg3c : c0.heap.size ≤ c2.heap.size := extm.size
      have hrl := hr.ltv
      replace hr := hr.below Ea
      have hno : ¬ occ c2.heap.size (rpV r.fn r.code r.loc r.cnt r.sub (.slice rb r.bits.length rbc) (.slice rv r.vals.length rvc) r.land r.lor (.slice rd r.data.length rdc)) := fun h => by have := hrl _ h; omega
      generalize c2.heap.size = g3 at *
      have hoc : ¬ occ g3 (rpV r.fn r.code r.loc r.cnt r.sub (.slice rb r.bits.length rbc) (.slice rv r.vals.length rvc) r.land r.lor (.slice rd r.data.length rdc)) := hno
      have hg3 : c0.heap.size ≤ g3 := hg3c
      have k0 := X3.cell 0
      have k1 := X3.cell 1
      have k2 := X3.cell 2
      have k3 := X3.cell 3
      have k4 := X3.cell 4
      have k5 := X3.cell 5
      have k6 := X3.cell 6
      have k7 := X3.cell 7
      have k8 := X3.cell 8
      have k9 := X3.cell 9
      simp at k0 k1 k2 k3 k4 k5 k6 k7 k8 k9
      have fk := X3.frozen
      have gk := X3.lt
      refine c_move 6 (by kernel_rfl) (c_op 6 [] (by kernel_rfl) rfl (by kernel_rfl) (fun K hK => ?_))
      go_simp
      have DV : Dev c3.heap.size g3 c3 ((((((((((c3.setCell ⟨g3, 0, none⟩ (.int .i64 r.fn)).setCell ⟨g3, 1, none⟩ (.int .i64 r.code)).setCell ⟨g3, 2, none⟩ (.int .i64 r.loc)).setCell ⟨g3, 3, none⟩ (.int .i64 r.cnt)).setCell ⟨g3, 4, none⟩ (.int .i64 r.sub)).setCell ⟨g3, 5, none⟩ (.slice rb r.bits.length rbc)).setCell ⟨g3, 6, none⟩ (.slice rv r.vals.length rvc)).setCell ⟨g3, 7, none⟩ (.int .u16 r.land.toNat)).setCell ⟨g3, 8, none⟩ (.int .u16 r.lor.toNat)).setCell ⟨g3, 9, none⟩ (.slice rd r.data.length rdc)) := by
       repeat' (refine Dev.sets ?_ _)
       exact Dev.refl _ _ _
      have bn := blk_set10 X3 (y0 := (.int .i64 r.fn)) (y1 := (.int .i64 r.code)) (y2 := (.int .i64 r.loc)) (y3 := (.int .i64 r.cnt)) (y4 := (.int .i64 r.sub)) (y5 := (.slice rb r.bits.length rbc)) (y6 := (.slice rv r.vals.length rvc)) (y7 := (.int .u16 r.land.toNat)) (y8 := (.int .u16 r.lor.toNat)) (y9 := (.slice rd r.data.length rdc))
      have ir := hr.dev hoc DV
      have BE := (exta : Below c0.heap.size c0 c3).trans (DV.below (B' := c0.heap.size) (exta : Below c0.heap.size c0 c3).size hg3)
      clear k0 k1 k2 k3 k4 k5 k6 k7 k8 k9 fk gk
      refine hK.out _ _ trivial ?_
      clear K hK DV
      try simp only [Act.put, PuA, PuB, PuC]
      generalize ((((((((((c3.setCell ⟨g3, 0, none⟩ (.int .i64 r.fn)).setCell ⟨g3, 1, none⟩ (.int .i64 r.code)).setCell ⟨g3, 2, none⟩ (.int .i64 r.loc)).setCell ⟨g3, 3, none⟩ (.int .i64 r.cnt)).setCell ⟨g3, 4, none⟩ (.int .i64 r.sub)).setCell ⟨g3, 5, none⟩ (.slice rb r.bits.length rbc)).setCell ⟨g3, 6, none⟩ (.slice rv r.vals.length rvc)).setCell ⟨g3, 7, none⟩ (.int .u16 r.land.toNat)).setCell ⟨g3, 8, none⟩ (.int .u16 r.lor.toNat)).setCell ⟨g3, 9, none⟩ (.slice rd r.data.length rdc)) = w9 at *
      refine c_done (by kernel_rfl) ?_
      first | (go_step; go_meet) | (go_step; go_step; go_meet)
      exact ⟨_, r, rb, rv, rd, rbc, rvc, rdc, rfl, bn, ir, below_then ED BE⟩
     ·
      skip
      refine c_op 5 [(3, fun w' => Ext c0 w')] (by kernel_rfl) rfl (by kernel_rfl) (fun K hK => ?_)
      go_simp
      have Ea := (Below.refl c1.heap.size c1).alloc (Nat.le_refl _) (.cells #[.int .i64 0, .int .i64 0, .int .i64 0, .int .i64 0, .int .i64 0, .slice none 0 0, .slice none 0 0, .int .u16 0, .int .u16 0, .slice none 0 0] 35)
      have X3 := Blk.new c1 35 [.int .i64 0, .int .i64 0, .int .i64 0, .int .i64 0, .int .i64 0, .slice none 0 0, .slice none 0 0, .int .u16 0, .int .u16 0, .slice none 0 0]
      have exta := below_then ext2 Ea
      refine hK.out _ _ ⟨exta, trivial⟩ ?_
      clear K hK
      try simp only [Act.put, PuA, PuB, PuC]
      obtain ⟨c2, hc2⟩ : ∃ c2, c1.alloc (.cells #[.int .i64 0, .int .i64 0, .int .i64 0, .int .i64 0, .int .i64 0, .slice none 0 0, .slice none 0 0, .int .u16 0, .int .u16 0, .slice none 0 0] 35) = c2 := ⟨_, rfl⟩
      rw [hc2] at Ea X3 exta
      rw [hc2]
      clear hc2
      have hg3c : c0.heap.size ≤ c1.heap.size := ext2.size
      have hg3l := X3.lt
      replace Rt := Rt.below Ea
      generalize c1.heap.size = g3 at *
      refine c_move 4 (by kernel_rfl) ?_
      refine c_op 4 [] (by kernel_rfl) rfl (by kernel_rfl) (fun K hK => ?_)
      go_wp2_with fail
      refine (made_any _ _ lt q _ Rt HLt (q2.below exta) RQ.out CN.out).mono ?_
      rintro e c3 ⟨vm, rfl, r, hr, -, -, -, Em, Fm⟩
      have extm := below_then exta Em
      have FH := Fm.fresh q2 hr
      obtain ⟨rb, rbc, rv, rvc, rd, rdc, rfl, -, -, -⟩ := hr.slices
      go_simp
      refine hK.out _ _ trivial ?_
      clear K hK Fm
      try simp only [Act.put, PuA, PuB, PuC]
      replace X3 := X3.below Em X3.lt
      have hno : ¬ occ g3 (rpV r.fn r.code r.loc r.cnt r.sub (.slice rb r.bits.length rbc) (.slice rv r.vals.length rvc) r.land r.lor (.slice rd r.data.length rdc)) := fun h => by have := FH _ hg3c h; omega
      have hoc : ¬ occ g3 (rpV r.fn r.code r.loc r.cnt r.sub (.slice rb r.bits.length rbc) (.slice rv r.vals.length rvc) r.land r.lor (.slice rd r.data.length rdc)) := hno
      have hg3 : c0.heap.size ≤ g3 := hg3c
      have k0 := X3.cell 0
      have k1 := X3.cell 1
      have k2 := X3.cell 2
      have k3 := X3.cell 3
      have k4 := X3.cell 4
      have k5 := X3.cell 5
      have k6 := X3.cell 6
      have k7 := X3.cell 7
      have k8 := X3.cell 8
      have k9 := X3.cell 9
      simp at k0 k1 k2 k3 k4 k5 k6 k7 k8 k9
      have fk := X3.frozen
      have gk := X3.lt
      refine c_move 6 (by kernel_rfl) (c_op 6 [] (by kernel_rfl) rfl (by kernel_rfl) (fun K hK => ?_))
      go_simp
      have DV : Dev c3.heap.size g3 c3 ((((((((((c3.setCell ⟨g3, 0, none⟩ (.int .i64 r.fn)).setCell ⟨g3, 1, none⟩ (.int .i64 r.code)).setCell ⟨g3, 2, none⟩ (.int .i64 r.loc)).setCell ⟨g3, 3, none⟩ (.int .i64 r.cnt)).setCell ⟨g3, 4, none⟩ (.int .i64 r.sub)).setCell ⟨g3, 5, none⟩ (.slice rb r.bits.length rbc)).setCell ⟨g3, 6, none⟩ (.slice rv r.vals.length rvc)).setCell ⟨g3, 7, none⟩ (.int .u16 r.land.toNat)).setCell ⟨g3, 8, none⟩ (.int .u16 r.lor.toNat)).setCell ⟨g3, 9, none⟩ (.slice rd r.data.length rdc)) := by
       repeat' (refine Dev.sets ?_ _)
       exact Dev.refl _ _ _
      have bn := blk_set10 X3 (y0 := (.int .i64 r.fn)) (y1 := (.int .i64 r.code)) (y2 := (.int .i64 r.loc)) (y3 := (.int .i64 r.cnt)) (y4 := (.int .i64 r.sub)) (y5 := (.slice rb r.bits.length rbc)) (y6 := (.slice rv r.vals.length rvc)) (y7 := (.int .u16 r.land.toNat)) (y8 := (.int .u16 r.lor.toNat)) (y9 := (.slice rd r.data.length rdc))
      have ir := hr.dev hoc DV
      have BE := (extm : Below c0.heap.size c0 c3).trans (DV.below (B' := c0.heap.size) (extm : Below c0.heap.size c0 c3).size hg3)
      clear k0 k1 k2 k3 k4 k5 k6 k7 k8 k9 fk gk
      refine hK.out _ _ trivial ?_
      clear K hK DV
      try simp only [Act.put, PuA, PuB, PuC]
      generalize ((((((((((c3.setCell ⟨g3, 0, none⟩ (.int .i64 r.fn)).setCell ⟨g3, 1, none⟩ (.int .i64 r.code)).setCell ⟨g3, 2, none⟩ (.int .i64 r.loc)).setCell ⟨g3, 3, none⟩ (.int .i64 r.cnt)).setCell ⟨g3, 4, none⟩ (.int .i64 r.sub)).setCell ⟨g3, 5, none⟩ (.slice rb r.bits.length rbc)).setCell ⟨g3, 6, none⟩ (.slice rv r.vals.length rvc)).setCell ⟨g3, 7, none⟩ (.int .u16 r.land.toNat)).setCell ⟨g3, 8, none⟩ (.int .u16 r.lor.toNat)).setCell ⟨g3, 9, none⟩ (.slice rd r.data.length rdc)) = w9 at *
      refine c_done (by kernel_rfl) ?_
      first | (go_step; go_meet) | (go_step; go_step; go_meet)
      exact ⟨_, r, rb, rv, rd, rbc, rvc, rdc, rfl, bn, ir, below_then ED BE⟩
    ·
     skip
     refine c_op 5 [(3, fun w' => Ext c0 w')] (by kernel_rfl) rfl (by kernel_rfl) (fun K hK => ?_)
     go_simp
     have Ea := (Below.refl c0.heap.size c0).alloc (Nat.le_refl _) (.cells #[.int .i64 0, .int .i64 0, .int .i64 0, .int .i64 0, .int .i64 0, .slice none 0 0, .slice none 0 0, .int .u16 0, .int .u16 0, .slice none 0 0] 35)
     have X3 := Blk.new c0 35 [.int .i64 0, .int .i64 0, .int .i64 0, .int .i64 0, .int .i64 0, .slice none 0 0, .slice none 0 0, .int .u16 0, .int .u16 0, .slice none 0 0]
     have exta := below_then x0 Ea
     refine hK.out _ _ ⟨exta, trivial⟩ ?_
     clear K hK
     try simp only [Act.put, PuA, PuB, PuC]
     obtain ⟨c1, hc1⟩ : ∃ c1, c0.alloc (.cells #[.int .i64 0, .int .i64 0, .int .i64 0, .int .i64 0, .int .i64 0, .slice none 0 0, .slice none 0 0, .int .u16 0, .int .u16 0, .slice none 0 0] 35) = c1 := ⟨_, rfl⟩
     rw [hc1] at Ea X3 exta
     rw [hc1]
     clear hc1
     have hg3l := X3.lt
     obtain ⟨g3, hg3e⟩ : ∃ g3, c0.heap.size = g3 := ⟨_, rfl⟩
     have hg3c : c0.heap.size ≤ g3 := by omega
     rw [hg3e] at X3 hg3l ⊢
     clear hg3e
     refine c_move 2 (by kernel_rfl) ?_
     refine c_op 2 [(3, fun w' => Ext c0 w')] (by kernel_rfl) rfl (by kernel_rfl) (fun K hK => ?_)
     go_wp2_with fail
     refine (tape_law4 k3 _ hk3').mono ?_
     rintro e c2 ⟨vt, rfl, lt, Rt, HLt, Et⟩
     obtain ⟨tta, ttc, rfl, -⟩ := id Rt
     simp only [List.length_map] at Rt ⊢
     have ext2 := below_then exta Et
     go_simp
     refine hK.out _ _ ⟨ext2, trivial⟩ ?_
     clear K hK
     try simp only [Act.put, PuA, PuB, PuC]
     replace X3 := X3.below Et X3.lt
     have hg3m := X3.lt
     refine c_move 4 (by kernel_rfl) ?_
     refine c_op 4 [] (by kernel_rfl) rfl (by kernel_rfl) (fun K hK => ?_)
     go_wp2_with fail
     refine (made_any _ _ lt q _ Rt HLt (q2.below ext2) RQ.out CN.out).mono ?_
     rintro e c3 ⟨vm, rfl, r, hr, -, -, -, Em, Fm⟩
     have extm := below_then ext2 Em
     have FH := Fm.fresh q2 hr
     obtain ⟨rb, rbc, rv, rvc, rd, rdc, rfl, -, -, -⟩ := hr.slices
     go_simp
     refine hK.out _ _ trivial ?_
     clear K hK Fm
     try simp only [Act.put, PuA, PuB, PuC]
     replace X3 := X3.below Em X3.lt
     have hno : ¬ occ g3 (rpV r.fn r.code r.loc r.cnt r.sub (.slice rb r.bits.length rbc) (.slice rv r.vals.length rvc) r.land r.lor (.slice rd r.data.length rdc)) := fun h => by have := FH _ hg3c h; omega
     have hoc : ¬ occ g3 (rpV r.fn r.code r.loc r.cnt r.sub (.slice rb r.bits.length rbc) (.slice rv r.vals.length rvc) r.land r.lor (.slice rd r.data.length rdc)) := hno
     have hg3 : c0.heap.size ≤ g3 := hg3c
     have k0 := X3.cell 0
     have k1 := X3.cell 1
     have k2 := X3.cell 2
     have k3 := X3.cell 3
     have k4 := X3.cell 4
     have k5 := X3.cell 5
     have k6 := X3.cell 6
     have k7 := X3.cell 7
     have k8 := X3.cell 8
     have k9 := X3.cell 9
     simp at k0 k1 k2 k3 k4 k5 k6 k7 k8 k9
     have fk := X3.frozen
     have gk := X3.lt
     refine c_move 6 (by kernel_rfl) (c_op 6 [] (by kernel_rfl) rfl (by kernel_rfl) (fun K hK => ?_))
     go_simp
     have DV : Dev c3.heap.size g3 c3 ((((((((((c3.setCell ⟨g3, 0, none⟩ (.int .i64 r.fn)).setCell ⟨g3, 1, none⟩ (.int .i64 r.code)).setCell ⟨g3, 2, none⟩ (.int .i64 r.loc)).setCell ⟨g3, 3, none⟩ (.int .i64 r.cnt)).setCell ⟨g3, 4, none⟩ (.int .i64 r.sub)).setCell ⟨g3, 5, none⟩ (.slice rb r.bits.length rbc)).setCell ⟨g3, 6, none⟩ (.slice rv r.vals.length rvc)).setCell ⟨g3, 7, none⟩ (.int .u16 r.land.toNat)).setCell ⟨g3, 8, none⟩ (.int .u16 r.lor.toNat)).setCell ⟨g3, 9, none⟩ (.slice rd r.data.length rdc)) := by
      repeat' (refine Dev.sets ?_ _)
      exact Dev.refl _ _ _
     have bn := blk_set10 X3 (y0 := (.int .i64 r.fn)) (y1 := (.int .i64 r.code)) (y2 := (.int .i64 r.loc)) (y3 := (.int .i64 r.cnt)) (y4 := (.int .i64 r.sub)) (y5 := (.slice rb r.bits.length rbc)) (y6 := (.slice rv r.vals.length rvc)) (y7 := (.int .u16 r.land.toNat)) (y8 := (.int .u16 r.lor.toNat)) (y9 := (.slice rd r.data.length rdc))
     have ir := hr.dev hoc DV
     have BE := (extm : Below c0.heap.size c0 c3).trans (DV.below (B' := c0.heap.size) (extm : Below c0.heap.size c0 c3).size hg3)
     clear k0 k1 k2 k3 k4 k5 k6 k7 k8 k9 fk gk
     refine hK.out _ _ trivial ?_
     clear K hK DV
     try simp only [Act.put, PuA, PuB, PuC]
     generalize ((((((((((c3.setCell ⟨g3, 0, none⟩ (.int .i64 r.fn)).setCell ⟨g3, 1, none⟩ (.int .i64 r.code)).setCell ⟨g3, 2, none⟩ (.int .i64 r.loc)).setCell ⟨g3, 3, none⟩ (.int .i64 r.cnt)).setCell ⟨g3, 4, none⟩ (.int .i64 r.sub)).setCell ⟨g3, 5, none⟩ (.slice rb r.bits.length rbc)).setCell ⟨g3, 6, none⟩ (.slice rv r.vals.length rvc)).setCell ⟨g3, 7, none⟩ (.int .u16 r.land.toNat)).setCell ⟨g3, 8, none⟩ (.int .u16 r.lor.toNat)).setCell ⟨g3, 9, none⟩ (.slice rd r.data.length rdc)) = w9 at *
     refine c_done (by kernel_rfl) ?_
     first | (go_step; go_meet) | (go_step; go_step; go_meet)
     exact ⟨_, r, rb, rv, rd, rbc, rvc, rdc, rfl, bn, ir, below_then ED BE⟩
   case rest =>
    obtain ⟨g3, r, rb, rv, rd, rbc, rvc, rdc, rfl, X3, ir, E4⟩ := hcut
    obtain ⟨w4, hw4⟩ : ∃ w4, w4 = wc := ⟨_, rfl⟩
    subst hw4
    replace hb := below_then hb E4
    replace XQ := XQ.below E4 XQ.lt
    replace q2 := q2.below E4
    clear E4
    have d0 := X3.cell 0
    have d1 := X3.cell 1
    have d2 := X3.cell 2
    have d3 := X3.cell 3
    have d4 := X3.cell 4
    have d5 := X3.cell 5
    have d6 := X3.cell 6
    have d7 := X3.cell 7
    have d8 := X3.cell 8
    have d9 := X3.cell 9
    simp at d0 d1 d2 d3 d4 d5 d6 d7 d8 d9
    have df := X3.frozen
    have dl := X3.lt
    go_wp2_with fail
    clear d0 d1 d2 d3 d4 d5 d6 d7 d8 d9 df dl
    refine (rlay_ref _ r _ ir).mono ?_
    rintro e w5 ⟨v5, rfl, o5, b5⟩
    have LB := layR_short r
    generalize layR r = B at *
    generalize goodE r = eB at *
    replace hb := below_then hb b5
    replace XQ := XQ.below b5 XQ.lt
    replace X3 := X3.below b5 X3.lt
    replace q2 := q2.below b5
    replace ir := ir.below b5
    have R5 := Row.of_owns o5
    have lQ := XQ.lt
    have l3 := X3.lt
    clear b5 o5
    go_wp2
    go_loopw [6] (fun z6 wr => ∃ u : Nat, u ≤ 9 ∧ z6 = .int .i64 u ∧ Below w5.heap.size w5 wr) (fun z _ => 9 - (intOf z).toNat)
    case atStart => exact ⟨0, by omega, rfl, Below.refl _ _⟩
    case round =>
     obtain ⟨u, hu, rfl, hbu⟩ := hrel
     obtain ⟨wu, hwu⟩ : ∃ wu, wu = wr := ⟨_, rfl⟩
     subst hwu
     by_cases hlu : u < 9
     ·
      have hlu' : (u : Int) < 9 := by omega
      have G16 : Blk (wu.alloc (.cells (nl16.map iV).toArray 3)) wu.heap.size 3 (nl16.map iV) := Blk.new wu 3 (nl16.map iV)
      have b16 : Below w5.heap.size w5 (wu.alloc (.cells (nl16.map iV).toArray 3)) := hbu.alloc hbu.size _
      obtain ⟨w9, hw9⟩ : ∃ w9, wu.alloc (.cells (nl16.map iV).toArray 3) = w9 := ⟨_, rfl⟩
      have hs9 : wu.heap.size < w9.heap.size := by rw [← hw9]; simp
      rw [hw9] at G16 b16
      have hw9' : wu.alloc (.cells #[.int .i64 (-1), .int .i64 0, .int .i64 1, .int .i64 2, .int .i64 17, .int .i64 127, .int .i64 128, .int .i64 250, .int .i64 251, .int .i64 255, .int .i64 256, .int .i64 2040, .int .i64 2041, .int .i64 65535, .int .i64 65536, .int .i64 4611686018427387904] 3) = w9 := hw9
      clear hw9
      go_wp2
      clear hw9'
      go_loopw [40] (fun z wr => ∃ j : Nat, j ≤ 16 ∧ z = .int .i64 j ∧ Below w9.heap.size w9 wr) (fun z _ => 16 - (intOf z).toNat)
      case atStart => exact ⟨0, by omega, rfl, Below.refl _ _⟩
      case round =>
       obtain ⟨j, hj, rfl, hbj⟩ := hrel
       by_cases hlj : j < 16
       ·
        have hlj' : (j : Int) < 16 := by omega
        have c0 : wr.cell? ⟨wu.heap.size, j, none⟩ = some (iV (nl16.getD j 0)) := by
         rw [(G16.below hbj hs9).cell j]
         have : j < nl16.length := by simpa [nl16] using hlj
         simp [List.getD_eq_getElem?_getD, this]
        have nb := nl16_in j hlj
        generalize nl16.getD j 0 = n at *
        have b6 := below_then b16 hbj
        have X6 := X3.below b6 l3
        have Q6 := XQ.below b6 lQ
        have i6 := ir.below b6
        have q6 := q2.below b6
        have d0 := X6.cell 0
        have d1 := X6.cell 1
        have d2 := X6.cell 2
        have d3 := X6.cell 3
        have d4 := X6.cell 4
        have d5 := X6.cell 5
        have d6 := X6.cell 6
        have d7 := X6.cell 7
        have d8 := X6.cell 8
        have d9 := X6.cell 9
        simp at d0 d1 d2 d3 d4 d5 d6 d7 d8 d9
        have df := X6.frozen
        have dl := X6.lt
        clear X6 G16
        go_wp2_with fail
        refine (odd_law4 _ r (u : Int) n _ i6 (by omega)).mono ?_
        rintro e w7 ⟨v7, rfl, ⟨x, i7⟩, b7⟩
        replace hbj := below_then hbj b7
        replace Q6 := Q6.below b7 Q6.lt
        replace q6 := q6.below b7
        obtain ⟨xb, xbc, xv, xvc, xd, xdc, rfl, -, -, -⟩ := i7.slices
        have Y0 := Blk.new w7 35 [.int .i64 x.fn, .int .i64 x.code, .int .i64 x.loc, .int .i64 x.cnt, .int .i64 x.sub, .slice xb x.bits.length xbc, .slice xv x.vals.length xvc, .int .u16 x.land.toNat, .int .u16 x.lor.toNat, .slice xd x.data.length xdc]
        have b8 := (Below.refl w7.heap.size w7).alloc (Nat.le_refl _) (.cells #[.int .i64 x.fn, .int .i64 x.code, .int .i64 x.loc, .int .i64 x.cnt, .int .i64 x.sub, .slice xb x.bits.length xbc, .slice xv x.vals.length xvc, .int .u16 x.land.toNat, .int .u16 x.lor.toNat, .slice xd x.data.length xdc] 35)
        have i8 := i7.below b8
        replace hbj := below_then hbj b8
        replace Q6 := Q6.below b8 Q6.lt
        replace q6 := q6.below b8
        clear i6 i7 b6 b7 b8 c0
        clear d0 d1 d2 d3 d4 d5 d6 d7 d8 d9 df dl
        go_wp2_with fail
        refine (rlay_ref _ x _ i8).mono ?_
        rintro e w8 ⟨v8, rfl, o8, b8⟩
        have LX := layR_short x
        generalize layR x = BX at *
        generalize goodE x = eX at *
        replace Y0 := Y0.below b8 Y0.lt
        replace i8 := i8.below b8
        replace Q6 := Q6.below b8 Q6.lt
        replace q6 := q6.below b8
        replace hbj := below_then hbj b8
        have R8 := Row.of_owns o8
        clear b8 o8
        have d0 := Y0.cell 0
        have d1 := Y0.cell 1
        have d2 := Y0.cell 2
        have d3 := Y0.cell 3
        have d4 := Y0.cell 4
        have d5 := Y0.cell 5
        have d6 := Y0.cell 6
        have d7 := Y0.cell 7
        have d8 := Y0.cell 8
        have d9 := Y0.cell 9
        simp at d0 d1 d2 d3 d4 d5 d6 d7 d8 d9
        have df := Y0.frozen
        have dl := Y0.lt
        go_wp2_with fail
        refine (same_law4 _ x _ i8).mono ?_
        rintro e w10 ⟨rfl, b10⟩
        replace hbj := below_then hbj b10
        replace R8 := R8.below b10
        replace Q6 := Q6.below b10 Q6.lt
        replace q6 := q6.below b10
        clear b10 i8 Y0
        clear d0 d1 d2 d3 d4 d5 d6 d7 d8 d9 df dl
        have d0 := Q6.cell 0
        have d1 := Q6.cell 1
        have d2 := Q6.cell 2
        have d3 := Q6.cell 3
        have d4 := Q6.cell 4
        have d5 := Q6.cell 5
        have d6 := Q6.cell 6
        have d7 := Q6.cell 7
        have d8 := Q6.cell 8
        simp at d0 d1 d2 d3 d4 d5 d6 d7 d8
        have df := Q6.frozen
        have dl := Q6.lt
        go_wp2_with fail
        refine (reads_law4 _ _ BX q _ R8 q6 (by omega) (by omega) (by omega) (.inl (by omega))).mono ?_
        rintro e w11 ⟨rfl, b11⟩
        replace hbj := below_then hbj b11
        clear b11 R8 Q6 q6
        clear d0 d1 d2 d3 d4 d5 d6 d7 d8 df dl
        have tu : ((u : Int) % 256) = (u : Int) := by omega
        have t127 := and127 n
        have tne : (((n % 128 : Int)) != n % 128) = false := by simp
        go_wp2_with fail
        refine (refuse_rep n (u : Int) _).mono ?_
        rintro e w12 ⟨rfl, b12⟩
        rw [tu]
        unfold rpV
        replace hbj := below_then hbj b12
        clear b12
        have f1 := rep_code (n % 128) (u : Int) w12
        go_wp2_with fail
        try rw [f1]
        go_wp2_with fail
        clear f1
        refine (refuse_rep n (u : Int) _).mono ?_
        rintro e w13 ⟨rfl, b13⟩
        rw [tu]
        unfold rpV
        replace hbj := below_then hbj b13
        clear b13
        have f1 := rep_fn (n % 128) (u : Int) w13
        go_wp2_with fail
        try rw [f1]
        go_wp2
        go_roundw
        case rel => exact ⟨j + 1, by omega, by go_num, hbj⟩
        case measure => simp [intOf]; omega
       ·
        have hlj' : ¬ (j : Int) < 16 := by omega
        have b6 := below_then b16 hbj
        clear G16
        go_wp2
        go_roundw
        case rel => exact ⟨u + 1, by omega, by go_num, b6⟩
        case measure => simp [intOf]; omega
     ·
      have hlu' : ¬ (u : Int) < 9 := by omega
      have R6 := R5.below hbu
      have hb6 := below_then hb hbu
      have XQ6 := XQ.below hbu lQ
      have q6 := q2.below hbu
      have lQ6 := XQ6.lt
      obtain ⟨ba, bc, rfl, -⟩ := id R6
      obtain ⟨-, h1, h2, h3⟩ := R6.at
      unfold maxLen at h2
      simp only [List.length_map] at R6 h1 ⊢
      have H3 := hidden h3
      clear XQ X3 q2 ir R5 lQ l3 hbu h3
      obtain ⟨N, hN⟩ : ∃ N, B.length = N := ⟨_, rfl⟩
      have HN := hidden hN
      rw [hN] at R6 h1 LB ⊢
      clear hN
      go_wp2
      go_loopw [82] (fun z wr => ∃ i : Nat, i ≤ N ∧ z = .int .i64 i ∧ Below wu.heap.size wu wr) (fun z _ => N - (intOf z).toNat)
      case atStart => exact ⟨0, by omega, rfl, Below.refl _ _⟩
      case round =>
       obtain ⟨i, hi, rfl, hbi⟩ := hrel
       by_cases hli : i < N
       ·
        have hli' : (i : Int) < (N : Int) := by omega
        obtain ⟨bb, bo, rfl, -⟩ := H3.out i 0 (by rw [List.length_map, HN.out]; exact hli)
        have R7 := R6.below hbi
        have X7 := XQ6.below hbi lQ6
        have q7 := q6.below hbi
        have ho0 := World.ownsRow_made (base := wr.heap.size) (e := 5) (size := 1) wr #[] 0 (Nat.le_refl _) (Nat.zero_le _) (by simp)
        have hb0 : Below wr.heap.size wr (wr.alloc (.cells #[] 5)) := (Below.refl _ _).alloc (Nat.le_refl _) _
        have hv0 := R7.below hb0
        go_wp2_with (at_builtin; refine wpList_app rfl (.tmp 85) (.tmp 86) 33 rfl wr.heap.size 5 (.int .u8 0) 1 Try.underlying33 info_u8 rfl rfl ho0 rfl hv0 (one_bytes B) (by have := HN.out; simp [maxLen]; omega) (by have := HN.out; simp; omega) (by simp) ?_)
        intro v4 w6 ho4 hg4
        simp only [HN.out] at ho4
        have q4 : Below wr.heap.size wr w6 := hb0.grown hg4 (by simp) (fun k hk => (ho0.lt k hk).1)
        obtain ⟨g, cap4, rfl, hgb⟩ := owns_some ho4 (by omega)
        clear hb0 hv0 hg4 ho0
        have hiB : i < B.length := by rw [HN.out]; exact hli
        have c0 : w6.cell? ⟨g, i, none⟩ = some (bV (B.getD i 0)) := by rw [ho4.cellAt _ (by omega)]; simp [hiB]
        have f0 := ho4.frozenAt i
        generalize B.getD i 0 = x at *
        obtain ⟨y, hy⟩ := xor_pow4 x ((i + k) % 8) (by omega)
        have HY := hidden hy
        clear hy hiB
        have st := ho4.stored i (.int .u8 (y.toNat : Int))
        rw [← List.map_set (f := bV) (a := y)] at st
        have q5 := q4.grown st.2 q4.size (fun k hk => by cases hk; exact hgb)
        have R9 := Row.of_owns st.1
        have hZ : (B.set i y).length ≤ 1000 := by simp [HN.out]; omega
        have hZ2 : (B.set i y).length = N := by simp [HN.out]
        generalize B.set i y = Zs at *
        obtain ⟨wz, hwz⟩ : ∃ wz, w6.setCell ⟨g, i, none⟩ (.int .u8 (y.toNat : Int)) = wz := ⟨_, rfl⟩
        rw [hwz] at R9 q5
        have hwz' : w6.setCell ⟨g, i, none⟩ (.int .u8 (bits BinOp.xor IntKind.u8 (x.toNat : Int) ((2 : Int) ^ ((i + k) % 8) % 256))) = wz := by rw [HY.out]; exact hwz
        replace hbi := below_then hbi q5
        replace R7 := R7.below q5
        replace X7 := X7.below q5 X7.lt
        replace q7 := q7.below q5
        have RT := R7.take i (by omega)
        rw [← List.map_take] at RT
        have HT : (B.take i).length ≤ 1000 := by simp [HN.out]; omega
        generalize B.take i = BT at *
        have hic : i ≤ bc := by omega
        clear st q4 q5 ho4 hwz HY
        have d0 := X7.cell 0
        have d1 := X7.cell 1
        have d2 := X7.cell 2
        have d3 := X7.cell 3
        have d4 := X7.cell 4
        have d5 := X7.cell 5
        have d6 := X7.cell 6
        have d7 := X7.cell 7
        have d8 := X7.cell 8
        simp at d0 d1 d2 d3 d4 d5 d6 d7 d8
        have df := X7.frozen
        have dl := X7.lt
        obtain ⟨m3, hm3⟩ : ∃ m3 : Nat, (i : Int) % 3 = (m3 : Int) := ⟨i % 3, by omega⟩
        have hm3' : m3 ≤ 2 := by omega
        obtain ⟨pc, hpc⟩ : ∃ pc : Int, q.cnt + (m3 : Int) - 1 = pc := ⟨_, rfl⟩
        have hp0 : -1 ≤ pc ∧ pc ≤ 31 := by have := CN.out; omega
        have XP := Blk.new wz 26 [.int .i64 q.fn, .int .i64 q.loc, .int .i64 pc, .int .i64 q.wat, .int .i64 q.sub, .slice qb q.bits.length qcb, .slice qv q.vals.length qcv, .int .u16 q.land.toNat, .int .u16 q.lor.toNat]
        have E5 := (Below.refl wz.heap.size wz).alloc (Nat.le_refl _) (.cells #[.int .i64 q.fn, .int .i64 q.loc, .int .i64 pc, .int .i64 q.wat, .int .i64 q.sub, .slice qb q.bits.length qcb, .slice qv q.vals.length qcv, .int .u16 q.land.toNat, .int .u16 q.lor.toNat] 26)
        have HX := hidden (⟨XP, E5.drew, X7.below E5 X7.lt, q7.below E5, R9.below E5, RT.below E5, R7.below E5, below_then hbi E5⟩ : _ ∧ _ ∧ _ ∧ _ ∧ _ ∧ _ ∧ _ ∧ _)
        have hi3 : (i : Int) % 3 = (m3 : Int) := hm3
        clear XP E5 X7 q7 R9 RT R7
        go_upto_region 25 with fail
        obtain ⟨XP, E5, X7, q7, R9, RT, R7, hbi⟩ := HX.out
        clear HX
        clear d0 d1 d2 d3 d4 d5 d6 d7 d8 df dl
        clear c0 f0 hwz'
        generalize wz.heap.size = gP at *
        obtain ⟨w8, hw8⟩ : ∃ w8, wz.alloc (.cells #[.int .i64 q.fn, .int .i64 q.loc, .int .i64 pc, .int .i64 q.wat, .int .i64 q.sub, .slice qb q.bits.length qcb, .slice qv q.vals.length qcv, .int .u16 q.land.toNat, .int .u16 q.lor.toNat] 26) = w8 := ⟨_, rfl⟩
        rw [hw8] at XP E5 X7 q7 R9 RT R7 hbi
        have hw8' : wz.alloc (.cells #[.int .i64 q.fn, .int .i64 q.loc, .int .i64 pc, .int .i64 q.wat, .int .i64 q.sub, .slice qb q.bits.length qcb, .slice qv q.vals.length qcv, wV q.land, wV q.lor] 26) = w8 := hw8
        first | rw [hw8] | rw [hw8']
        clear hw8 hw8'
        refine wp_region_pi [(0, true), (1, true), (2, false), (3, true), (4, true), (5, true), (6, true), (7, true), (8, true), (9, false), (10, true), (11, true), (12, true), (13, true), (14, true), (15, false), (16, true), (17, true), (18, true), (19, true), (20, true), (21, true), (22, true), (23, true), (24, false), (25, true), (26, true)] (by kernel_rfl) (by kernel_rfl) (by kernel_rfl) (fun _ _ _ d _ h => by cases d <;> exact h) ?_
        have E8 := (Below.refl w8.heap.size w8).drew
        replace XP := XP.below E8 XP.lt
        replace X7 := X7.below E8 X7.lt
        replace q7 := q7.below E8
        replace R9 := R9.below E8
        replace RT := RT.below E8
        replace R7 := R7.below E8
        replace hbi := below_then hbi E8
        generalize w8.drew = c0 at *
        have x0 := Ext.refl c0
        have RDQ := hidden (fun w' (hx : Ext c0 w') => (⟨(X7.below hx X7.lt).cell 0, (X7.below hx X7.lt).cell 1, (X7.below hx X7.lt).cell 2, (X7.below hx X7.lt).cell 3, (X7.below hx X7.lt).cell 4, (X7.below hx X7.lt).cell 5, (X7.below hx X7.lt).cell 6, (X7.below hx X7.lt).cell 7, (X7.below hx X7.lt).cell 8⟩ : _ ∧ _ ∧ _ ∧ _ ∧ _ ∧ _ ∧ _ ∧ _ ∧ _))
        have RDP := hidden (fun w' (hx : Ext c0 w') => (⟨(XP.below hx XP.lt).cell 0, (XP.below hx XP.lt).cell 1, (XP.below hx XP.lt).cell 2, (XP.below hx XP.lt).cell 3, (XP.below hx XP.lt).cell 4, (XP.below hx XP.lt).cell 5, (XP.below hx XP.lt).cell 6, (XP.below hx XP.lt).cell 7, (XP.below hx XP.lt).cell 8⟩ : _ ∧ _ ∧ _ ∧ _ ∧ _ ∧ _ ∧ _ ∧ _ ∧ _))
        simp at RDQ RDP
        have qp : IsRq c0 (rqV q.fn q.loc pc q.wat q.sub (.slice qb q.bits.length qcb) (.slice qv q.vals.length qcv) q.land q.lor) ⟨q.fn, q.loc, pc, q.wat, q.sub, q.bits, q.vals, q.land, q.lor⟩ := by
         obtain ⟨vb, vv, hE, h1, h2⟩ := q7
         simp only [rqV, Value.agg.injEq, Array.mk.injEq, List.cons.injEq, and_true, true_and] at hE
         obtain ⟨rfl, rfl⟩ := hE
         exact ⟨_, _, rfl, h1, h2⟩
        have CNQ := CN.out
        have hlB : B.length ≤ 1000 := by rw [HN.out]; exact LB
        refine pi_P x0 rfl ?_
        refine pi_R x0 rfl (fun w' hx => by obtain ⟨y0, y1, y2, y3, y4, y5, y6, y7, y8⟩ := RDQ.out w' hx; go_simp; with_reducible rfl) ?_
        refine pi_move rfl (by kernel_rfl) (fun K hK => ?_)
        go_wp2_with fail
        refine (reads_law4 _ _ Zs q _ R9 q7 (by omega) (by omega) (by omega) (.inl (by omega))).mono ?_
        rintro e c1 ⟨rfl, F1⟩
        go_simp
        refine hK.out _ _ F1 ?_
        clear K hK R9
        try simp only [Act.put, PuA, PuB, PuC]
        iterate 2 (refine pi_P F1 rfl ?_)
        iterate 3 (refine pi_P F1 rfl ?_)
        refine pi_R F1 rfl (fun w' hx => by obtain ⟨y0, y1, y2, y3, y4, y5, y6, y7, y8⟩ := RDQ.out w' (Ext.trans F1 hx); go_simp; with_reducible rfl) ?_
        refine pi_move rfl (by kernel_rfl) (fun K hK => ?_)
        go_wp2_with fail
        refine (reads_law4 _ _ BT q _ (RT.below F1) (q7.below F1) (by omega) (by omega) (by omega) (.inl (by omega))).mono ?_
        rintro e c2 ⟨rfl, F2⟩
        go_simp
        refine hK.out _ _ F2 ?_
        clear K hK RT
        try simp only [Act.put, PuA, PuB, PuC]
        have G2 := Ext.trans F1 F2
        iterate 4 (refine pi_P F2 rfl ?_)
        refine pi_R F2 rfl (fun w' hx => by obtain ⟨y0, y1, y2, y3, y4, y5, y6, y7, y8⟩ := RDP.out w' (Ext.trans G2 hx); go_simp; with_reducible rfl) ?_
        refine pi_move rfl (by kernel_rfl) (fun K hK => ?_)
        go_wp2_with fail
        refine (reads_law4 _ _ B _ _ (R7.below G2) (qp.below G2) (by simp only; omega) (by simp only; omega) (by omega) (.inl (by simp only; omega))).mono ?_
        rintro e c3 ⟨rfl, F3⟩
        go_simp
        refine hK.out _ _ F3 ?_
        clear K hK
        try simp only [Act.put, PuA, PuB, PuC]
        have x3 := Ext.refl c3
        have G3 := Ext.trans G2 F3
        iterate 6 (refine pi_P F3 rfl ?_)
        refine pi_R F3 rfl (fun w' hx => by obtain ⟨y0, y1, y2, y3, y4, y5, y6, y7, y8⟩ := RDQ.out w' (Ext.trans G3 hx); go_simp; with_reducible rfl) ?_
        refine pi_P x3 rfl ?_
        refine pi_move rfl (by kernel_rfl) (fun K hK => ?_)
        go_wp2_with fail
        refine (reads_law4 _ _ B ⟨(i : Int), 0, q.cnt, 0, 0, [], [], 0, 0⟩ _ (R7.below G3) ⟨_, _, rfl, Row.nil _, Row.nil _⟩ (by simp only; omega) (by simp only; omega) (by omega) (.inl (by simp only; omega))).mono ?_
        rintro e c4 ⟨rfl, F4⟩
        go_simp
        refine hK.out _ _ F4 ?_
        clear K hK
        try simp only [Act.put, PuA, PuB, PuC]
        iterate 2 (refine pi_P F4 rfl ?_)
        refine pi_nil ?_
        replace hbi := below_then hbi (Ext.trans G3 F4)
        clear RDQ RDP qp q7 XP X7 R7 hpc hi3 hm3
        go_wp2
        go_roundw
        case rel => exact ⟨i + 1, by omega, by go_num, hbi⟩
        case measure => simp [intOf]; omega
       ·
        have hli' : ¬ (i : Int) < (N : Int) := by omega
        have b7 := below_then hb6 hbi
        go_wp2
        go_roundw
        case rel => exact ⟨k + 1, by omega, by go_num, b7⟩
        case measure => simp [intOf]; omega
  ·
   have hlt' : ¬ (k : Int) < 50 := by omega
   clear HRQ
   go_wp2_with fail
   refine (known_law4 _).mono ?_
   rintro e wa ⟨rfl, b1⟩
   go_wp2
   go_ret
   exact ⟨rfl, below_then hb b1⟩
end Go.Proofs.Ytbajlhpmmmhkoaa
