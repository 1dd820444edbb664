/- Contract of burgageref3.Read. -/
import Derived.Test.YtaoimlcgifihiaaRD
namespace Go.Proofs.Ytaoimlcgifihiaa
open Go.RowKit

set_option maxRecDepth 100000 in
set_option maxHeartbeats 1000000 in
theorem read_ref (v : Value) (bs : List UInt8) (w : World) (hv : Row w v (bs.map bV)) (hbl : bs.length ≤ 140737488351232) :
    Calls Try.prog 35 #[v] w fun e w' => ∃ v', e = .returned (.tuple #[v', .int .i64 (readE bs)]) ∧ IsRq w' v' (readQ bs) ∧ Below w.heap.size w w' := by
  have W0 := hidden (fun o => (Below.refl w.heap.size w).alloc (Nat.le_refl _) o)
  by_cases h0 : bs = []
  · subst h0
    rw [readE_short, readQ_short]
    obtain ⟨a, cap, rfl, -⟩ := id hv
    simp only [List.map_nil, List.length_nil] at hv ⊢
    clear hv
    go_enter Try.func35, Try.ntmps35
    go_wp2
    refine bodyPost_ret (v := _) (by simp [results, Try.results35, go_sem]; with_reducible rfl) rfl ?_
    refine ⟨_, rfl, zero_is _, ?_⟩
    exact W0.out _
  · have hp : 0 < bs.length := List.length_pos_iff.2 h0
    have hp2 : (0 : Int) < (bs.length : Int) := by omega
    have hne : ((bs.length : Int) == 0) = false := by rw [beq_eq_false_iff_ne]; omega
    obtain ⟨a, cap, rfl, -⟩ := id hv
    obtain ⟨hl, hc, hm, hcell⟩ := hv.at
    simp only [List.length_map] at hl hc hv hcell ⊢
    obtain ⟨b, off, rfl, hcl⟩ := hcell 0 0 hp
    have c0 := hcl 0 hp
    simp only [Nat.add_zero] at c0
    have hlt := lt_of_cell c0
    have HF : Hid (fnOf bs = ((bs.getD 0 0).toNat : Int)) := rfl
    clear hcl hcell
    cases hk : knownB (fnOf bs)
    · rw [readE_fn h0 hk, readQ_fn hk]
      rw [HF.out] at hk
      have KK := hidden hk
      clear hk
      generalize bs.getD 0 0 = x at *
      have hx := x.toNat_lt
      go_enter Try.func35, Try.ntmps35
      go_wp2_with (go_at_call 47; refine (has_ref _ _).mono ?_; rintro e w1 ⟨rfl, rfl⟩; rw [KK.out])
      refine bodyPost_ret (v := _) (by simp [results, Try.results35, go_sem]; with_reducible rfl) rfl ?_
      refine ⟨_, rfl, zero_is _, ?_⟩
      exact W0.out _
    · have CG := hidden (fun w' (h : Row w' (.slice (some ⟨b, off, none⟩) bs.length cap) (bs.map bV)) => guess_ref _ bs w' h h0 hbl)
      have E12 := hidden (fun h => readE_form h0 hk (noR (b := bs) h))
      have Q12 := hidden (fun h => readQ_no (noR (b := bs) h))
      have E0 := hidden (fun h => readE_is (b := bs) (q := gR bs) h)
      have Q0 := hidden (fun h => readQ_is (b := bs) (q := gR bs) h)
      rw [HF.out] at hk
      have KK := hidden hk
      clear hk HF
      generalize bs.getD 0 0 = x at *
      have hx := x.toNat_lt
      go_enter Try.func35, Try.ntmps35
      go_wp2_with (go_at_call 47; refine (has_ref _ _).mono ?_; rintro e w1 ⟨rfl, rfl⟩; rw [KK.out])
      refine (CG.out _ (hv.below (W0.out _))).mono ?_
      rintro e w1 ⟨v1, rfl, h1, B1, nq1⟩
      have X0 := (Blk.new w 26 [.int .i64 0, .int .i64 0, .int .i64 0, .int .i64 0, .int .i64 0, .slice none 0 0, .slice none 0 0, .int .u16 0, .int .u16 0]).below B1 (by simp)
      replace B1 := below_then (W0.out _) B1
      obtain ⟨ab, capb, av, capv, rfl, -, -⟩ := h1.slices
      obtain ⟨nb, nv⟩ := nq1.parts
      simp at nb nv
      have X1 := Blk.new w1 26 [.int .i64 (gR bs).fn, .int .i64 (gR bs).loc, .int .i64 (gR bs).cnt, .int .i64 (gR bs).wat, .int .i64 (gR bs).sub, .slice ab (gR bs).bits.length capb, .slice av (gR bs).vals.length capv, .int .u16 (gR bs).land.toNat, .int .u16 (gR bs).lor.toNat]
      have E1 := (Below.refl w1.heap.size w1).alloc (Nat.le_refl _) (.cells #[.int .i64 (gR bs).fn, .int .i64 (gR bs).loc, .int .i64 (gR bs).cnt, .int .i64 (gR bs).wat, .int .i64 (gR bs).sub, .slice ab (gR bs).bits.length capb, .slice av (gR bs).vals.length capv, .int .u16 (gR bs).land.toNat, .int .u16 (gR bs).lor.toNat] 26)
      replace X0 := X0.below E1 X0.lt
      have h1' := h1.below E1
      have B2 := below_then B1 E1
      go_wp2
      refine wp_region_pi [(0, true), (1, false), (2, true), (3, true), (4, true), (7, true), (8, true), (5, false), (6, true), (9, true), (10, true)] (by kernel_rfl) (by kernel_rfl) (by kernel_rfl) (fun _ _ _ d _ h => by cases d <;> exact h) ?_
      replace X0 := X0.drew
      replace X1 := X1.drew
      replace h1' := h1'.below (Below.refl _ _).drew
      replace B2 := B2.drew
      have S1 : w1.heap.size + 1 ≤ (w1.alloc (.cells #[.int .i64 (gR bs).fn, .int .i64 (gR bs).loc, .int .i64 (gR bs).cnt, .int .i64 (gR bs).wat, .int .i64 (gR bs).sub, .slice ab (gR bs).bits.length capb, .slice av (gR bs).vals.length capv, .int .u16 (gR bs).land.toNat, .int .u16 (gR bs).lor.toNat] 26)).drew.heap.size := by simp [World.drew]
      have szw := B1.size
      clear E1 h1 CG
      generalize hwq : (w1.alloc (.cells #[.int .i64 (gR bs).fn, .int .i64 (gR bs).loc, .int .i64 (gR bs).cnt, .int .i64 (gR bs).wat, .int .i64 (gR bs).sub, .slice ab (gR bs).bits.length capb, .slice av (gR bs).vals.length capv, .int .u16 (gR bs).land.toNat, .int .u16 (gR bs).lor.toNat] 26)).drew = w2 at *
      clear hwq
      have RV := hidden (hv.below B2)
      have HX : Hid (∀ w', Ext w2 w' → Blk w' w1.heap.size 26 [.int .i64 (gR bs).fn, .int .i64 (gR bs).loc, .int .i64 (gR bs).cnt, .int .i64 (gR bs).wat, .int .i64 (gR bs).sub, .slice ab (gR bs).bits.length capb, .slice av (gR bs).vals.length capv, .int .u16 (gR bs).land.toNat, .int .u16 (gR bs).lor.toNat]) := fun w' hx => X1.below hx X1.lt
      generalize w1.heap.size = gr at *
      have x2 := Ext.refl w2

      refine pi_read x2 rfl (by kernel_rfl) (fun w' hx => by have X9 := HX.out w' hx; have r0 := X9.cell 0; have r1 := X9.cell 1; have r2 := X9.cell 2; have r3 := X9.cell 3; have r4 := X9.cell 4; have r5 := X9.cell 5; have r6 := X9.cell 6; have r7 := X9.cell 7; have r8 := X9.cell 8; simp at r0 r1 r2 r3 r4 r5 r6 r7 r8; clear X9; go_simp; with_reducible rfl) ?_; try simp only [Act.put, List.setIfInBounds_toArray, List.set_cons_zero, List.set_cons_succ]
      refine pi_move rfl (by kernel_rfl) (fun K hK => ?_)
      go_wp2_with fail
      refine (right_ref _ (gR bs) _ h1').mono ?_
      rintro e w3 ⟨rfl, E3⟩
      go_simp
      refine hK.out _ _ E3 ?_
      clear K hK
      try simp only [Act.put, List.setIfInBounds_toArray, List.set_cons_zero, List.set_cons_succ]
      have x3 := Ext.refl w3
      by_cases hr : rightE (gR bs) = 0
      · have HR := hidden hr
        have WR := hidden (fun w' (h : Ext w2 w') => write_ref _ _ _ (h1'.below h) hr)
        rw [hr]
        clear hr
        iterate 2 (refine pi_pure E3 rfl (by kernel_rfl) (fun w' => by go_simp; with_reducible rfl) ?_; try simp only [Act.put, List.setIfInBounds_toArray, List.set_cons_zero, List.set_cons_succ])
        refine pi_read E3 rfl (by kernel_rfl) (fun w' hx => by have hx := Ext.trans E3 hx; have X9 := HX.out w' hx; have r0 := X9.cell 0; have r1 := X9.cell 1; have r2 := X9.cell 2; have r3 := X9.cell 3; have r4 := X9.cell 4; have r5 := X9.cell 5; have r6 := X9.cell 6; have r7 := X9.cell 7; have r8 := X9.cell 8; simp at r0 r1 r2 r3 r4 r5 r6 r7 r8; clear X9; go_simp; with_reducible rfl) ?_; try simp only [Act.put, List.setIfInBounds_toArray, List.set_cons_zero, List.set_cons_succ]
        refine pi_pure x3 rfl (by kernel_rfl) (fun w' => by go_simp; with_reducible rfl) ?_; try simp only [Act.put, List.setIfInBounds_toArray, List.set_cons_zero, List.set_cons_succ]
        refine pi_read x3 rfl (by kernel_rfl) (fun w' hx => by have cv := conv_row (P := Try.prog) (RV.out.below (Ext.trans E3 hx)) 34 9 5 Try.underlying34 Try.underlying5 Try.underlying9; go_simp; with_reducible rfl) ?_; try simp only [Act.put, List.setIfInBounds_toArray, List.set_cons_zero, List.set_cons_succ]
        refine pi_move rfl (by kernel_rfl) (fun K hK => ?_)
        go_wp2_with fail
        refine (WR.out _ E3).mono ?_
        rintro e w4 ⟨v4, rfl, o4, E4⟩
        have R4 := hidden (Row.of_owns o4)
        clear o4
        go_simp
        refine hK.out _ _ E4 ?_
        clear K hK
        try simp only [Act.put, List.setIfInBounds_toArray, List.set_cons_zero, List.set_cons_succ]
        have x4 := Ext.refl w4
        refine pi_read E4 rfl (by kernel_rfl) (fun w' hx => by have cv := conv_row (P := Try.prog) (R4.out.below hx) 34 9 5 Try.underlying34 Try.underlying5 Try.underlying9; go_simp; with_reducible rfl) ?_; try simp only [Act.put, List.setIfInBounds_toArray, List.set_cons_zero, List.set_cons_succ]
        obtain ⟨tq, htq⟩ : ∃ t, (!(bytesQ (gR bs) == bs)) = t := ⟨_, rfl⟩
        have HT := hidden htq
        clear htq
        iterate 2 (refine pi_pure x4 rfl (by kernel_rfl) (fun w' => by have ht := HT.out; go_simp; with_reducible rfl) ?_; try simp only [Act.put, List.setIfInBounds_toArray, List.set_cons_zero, List.set_cons_succ])
        refine pi_nil ?_
        have E34 := Ext.trans E3 E4
        replace X0 := X0.below E34 X0.lt
        replace X1 := X1.below E34 X1.lt
        replace h1' := h1'.below E34
        replace B2 := below_then B2 E34
        clear HX RV R4 WR
        have d0 := X0.cell 0
        have d1 := X0.cell 1
        have d2 := X0.cell 2
        have d3 := X0.cell 3
        have d4 := X0.cell 4
        have d5 := X0.cell 5
        have d6 := X0.cell 6
        have d7 := X0.cell 7
        have d8 := X0.cell 8
        simp at d0 d1 d2 d3 d4 d5 d6 d7 d8
        have fd := X0.frozen
        have gd := X0.lt
        have r0 := X1.cell 0
        have r1 := X1.cell 1
        have r2 := X1.cell 2
        have r3 := X1.cell 3
        have r4 := X1.cell 4
        have r5 := X1.cell 5
        have r6 := X1.cell 6
        have r7 := X1.cell 7
        have r8 := X1.cell 8
        simp at r0 r1 r2 r3 r4 r5 r6 r7 r8
        have fr := X1.frozen
        have gr := X1.lt
        by_cases hq : bytesQ (gR bs) = bs
        · have t : tq = false := by rw [← HT.out, hq]; simp
          subst t
          have E := hidden (E0.out ⟨HR.out, hq⟩)
          have Qq := hidden (Q0.out ⟨HR.out, hq⟩)
          clear hq E12 Q12 E0 Q0 X0 X1 HT
          generalize gR bs = q at *
          go_wp2
          refine bodyPost_ret (v := _) (by simp [results, Try.results35, go_sem, d0, d1, d2, d3, d4, d5, d6, d7, d8]; with_reducible rfl) rfl ?_
          rw [E.out, Qq.out]
          obtain ⟨vb, vv, hE, hb1, hb2⟩ := h1'
          simp only [rqV, Value.agg.injEq, Array.mk.injEq, List.cons.injEq, and_true, true_and] at hE
          obtain ⟨rfl, rfl⟩ := hE
          refine ⟨_, rfl, ⟨_, _, rfl, ?_, ?_⟩, ?_⟩
          · repeat' (refine Row.setCell_new ?_ nb (by omega))
            exact hb1
          · repeat' (refine Row.setCell_new ?_ nv (by omega))
            exact hb2
          · repeat' (refine Below.setCell ?_ (by simp) _)
            exact B2
        · have t : tq = true := by rw [← HT.out]; simpa using hq
          subst t
          have E := hidden (E12.out (fun h => hq h.2))
          have Qq := hidden (Q12.out (fun h => hq h.2))
          clear hq E12 Q12 E0 Q0 X0 X1 HT
          generalize gR bs = q at *
          go_wp2
          refine bodyPost_ret (v := _) (by simp [results, Try.results35, go_sem, d0, d1, d2, d3, d4, d5, d6, d7, d8]; with_reducible rfl) rfl ?_
          rw [E.out, Qq.out]
          refine ⟨_, rfl, zero_is _, ?_⟩
          repeat' (refine Below.setCell ?_ (by simp) _)
          exact B2
      · have tr : (rightE (gR bs) != 0) = true := by simpa using hr
        have E := hidden (E12.out (fun h => hr h.1))
        have Qq := hidden (Q12.out (fun h => hr h.1))
        clear hr E12 Q12 E0 Q0
        generalize rightE (gR bs) = Er at *
        iterate 2 (refine pi_pure E3 rfl (by kernel_rfl) (fun w' => by go_simp; with_reducible rfl) ?_; try simp only [Act.put, List.setIfInBounds_toArray, List.set_cons_zero, List.set_cons_succ])
        iterate 3 (refine pi_skip E3 rfl (by kernel_rfl) ?_; try simp only [Act.put, List.setIfInBounds_toArray, List.set_cons_zero, List.set_cons_succ])
        refine pi_pass E3 rfl (by kernel_rfl) ?_; try simp only [Act.put, List.setIfInBounds_toArray, List.set_cons_zero, List.set_cons_succ]
        iterate 2 (refine pi_skip E3 rfl (by kernel_rfl) ?_; try simp only [Act.put, List.setIfInBounds_toArray, List.set_cons_zero, List.set_cons_succ])
        refine pi_pure E3 rfl (by kernel_rfl) (fun w' => by go_simp; with_reducible rfl) ?_; try simp only [Act.put, List.setIfInBounds_toArray, List.set_cons_zero, List.set_cons_succ]
        refine pi_nil ?_
        replace X0 := X0.below E3 X0.lt
        replace B2 := below_then B2 E3
        clear X1 HX RV
        have d0 := X0.cell 0
        have d1 := X0.cell 1
        have d2 := X0.cell 2
        have d3 := X0.cell 3
        have d4 := X0.cell 4
        have d5 := X0.cell 5
        have d6 := X0.cell 6
        have d7 := X0.cell 7
        have d8 := X0.cell 8
        simp at d0 d1 d2 d3 d4 d5 d6 d7 d8
        have fd := X0.frozen
        have gd := X0.lt
        clear X0
        go_wp2
        refine bodyPost_ret (v := _) (by simp [results, Try.results35, go_sem, d0, d1, d2, d3, d4, d5, d6, d7, d8]; with_reducible rfl) rfl ?_
        rw [E.out, Qq.out]
        refine ⟨_, rfl, zero_is _, ?_⟩
        repeat' (refine Below.setCell ?_ (by simp) _)
        exact B2

end Go.Proofs.Ytaoimlcgifihiaa
