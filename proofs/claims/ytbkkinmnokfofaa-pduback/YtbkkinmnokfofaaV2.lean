/- PduBack: the walk. -/
import Derived.Test.YtbkkinmnokfofaaV0
namespace Go.Proofs.Ytbkkinmnokfofaa
open Go.RowKit

theorem bytesQ_inj {p q : Rq} (hp : rightE p = 0) (hq : rightE q = 0) (h : bytesQ p = bytesQ q) : p = q := isQ_one (b := bytesQ p) ⟨hp, rfl⟩ ⟨hq, h.symm⟩
theorem bytes_same {p q : Rq} (hp : rightE p = 0) (hq : rightE q = 0) : ((bytesQ p == bytesQ q) == decide (p = q)) = true := by
  by_cases h : p = q
  · subst h; simp
  · have : bytesQ p ≠ bytesQ q := fun e => h (bytesQ_inj hp hq e)
    simp [h, this]
theorem bytes_head (q : Rq) (hr : rightE q = 0) : ((UInt8.ofNat (q.fn % 256).toNat).toNat : Int) = q.fn := by
  have := known_cases (right_parts hr).1
  rw [UInt8.toNat_ofNat']
  omega
theorem bytes_pos (q : Rq) : (0 : Int) < ((bytesQ q).length : Int) := by simp [bytesQ]

set_option maxRecDepth 100000 in
set_option maxHeartbeats 8000000 in
theorem back_walk (HR : ReqOk) (t u : Value) (x y : List Int) (w : World) (ht : Row w t (x.map iV)) (hu : Row w u (y.map iV)) (bx : ∀ n ∈ x, -9223372036854775808 ≤ n ∧ n ≤ 9223372036854775807) (by_ : ∀ n ∈ y, -9223372036854775808 ≤ n ∧ n ≤ 9223372036854775807) :
    Calls Try.prog 5 #[t, u] w fun e w' => e = .returned (.bool true) ∧ Below w.heap.size w w' := by
  obtain ⟨ta, tc, rfl, -⟩ := id ht
  obtain ⟨ua, uc, rfl, -⟩ := id hu
  simp only [List.length_map] at ht hu ⊢
  have T1 := hidden (tap_new w ta x.length tc x ht bx)
  have HU := hidden hu
  have BY := hidden by_
  have HRR := hidden HR
  clear ht hu bx by_ HR
  go_enter Try.func5, Try.ntmps5
  go_wp2_with fail
  refine (HRR.out _ _ x _ T1.out (by simp)).mono ?_
  rintro e w1 ⟨v1, rfl, p, q1, rp, -, -, -, D1⟩
  have B1 : Below w.heap.size w w1 := (((Below.refl w.heap.size w).alloc (Nat.le_refl _) (.cells #[.slice ta x.length tc, .int .i64 0] 31))).trans (D1.below (by omega) (Nat.le_refl _))
  have RP := hidden rp
  clear D1 T1 rp
  go_wp2_with fail
  have T2 := tap_new w1 ua y.length uc y (HU.out.below B1) BY.out
  refine (HRR.out _ _ y _ T2 (by simp)).mono ?_
  rintro e w2 ⟨v2, rfl, q, q2, rq, -, -, -, D2⟩
  have E2 : Below w1.heap.size w1 w2 := (((Below.refl w1.heap.size w1).alloc (Nat.le_refl _) (.cells #[.slice ua y.length uc, .int .i64 0] 31))).trans (D2.below (by omega) (Nat.le_refl _))
  have RQ := hidden rq
  replace q1 := q1.below E2
  replace B1 := below_then B1 E2
  clear D2 T2 rq E2 HU BY HRR
  obtain ⟨pb, pcb, pv, pcv, rfl, -, -⟩ := q1.slices
  obtain ⟨qb, qcb, qv, qcv, rfl, -, -⟩ := q2.slices

  have E3 := ((Below.refl w2.heap.size w2).alloc (Nat.le_refl _) (.cells #[.int .i64 p.fn, .int .i64 p.loc, .int .i64 p.cnt, .int .i64 p.wat, .int .i64 p.sub, .slice pb p.bits.length pcb, .slice pv p.vals.length pcv, .int .u16 p.land.toNat, .int .u16 p.lor.toNat] 26)).alloc (by simp) (.cells #[.int .i64 q.fn, .int .i64 q.loc, .int .i64 q.cnt, .int .i64 q.wat, .int .i64 q.sub, .slice qb q.bits.length qcb, .slice qv q.vals.length qcv, .int .u16 q.land.toNat, .int .u16 q.lor.toNat] 26)
  have X1 := (Box.new w2 p.fn p.loc p.cnt p.wat p.sub (.slice pb p.bits.length pcb) (.slice pv p.vals.length pcv) p.land p.lor 26).ext ((Below.refl _ _).alloc (Nat.le_refl _) (.cells #[.int .i64 q.fn, .int .i64 q.loc, .int .i64 q.cnt, .int .i64 q.wat, .int .i64 q.sub, .slice qb q.bits.length qcb, .slice qv q.vals.length qcv, .int .u16 q.land.toNat, .int .u16 q.lor.toNat] 26))
  have X2 := Box.new (w2.alloc (.cells #[.int .i64 p.fn, .int .i64 p.loc, .int .i64 p.cnt, .int .i64 p.wat, .int .i64 p.sub, .slice pb p.bits.length pcb, .slice pv p.vals.length pcv, .int .u16 p.land.toNat, .int .u16 p.lor.toNat] 26)) q.fn q.loc q.cnt q.wat q.sub (.slice qb q.bits.length qcb) (.slice qv q.vals.length qcv) q.land q.lor 26
  simp only [World.size_alloc] at X2
  replace q1 := q1.below E3
  replace q2 := q2.below E3
  replace B1 := below_then B1 E3
  have HX1 := hidden X1
  have HX2 := hidden X2
  clear E3 X1 X2
  go_wp2_with fail
  refine (bytes_pdu _ p _ q1).mono ?_
  rintro e w3 ⟨va, rfl, ra, E4⟩
  rw [RP.out]
  rw [bytesR_0 RP.out] at ra
  replace HX1 := hidden (HX1.out.ext E4)
  replace HX2 := hidden (HX2.out.ext E4)
  replace q1 := q1.below E4
  replace q2 := q2.below E4
  replace B1 := below_then B1 E4
  clear E4
  obtain ⟨-, z0, z1, z2, z3, z4, z5, z6, z7, z8⟩ := HX2.out
  go_wp2_with fail
  clear z0 z1 z2 z3 z4 z5 z6 z7 z8
  refine (bytes_pdu _ q _ q2).mono ?_
  rintro e w4 ⟨vb, rfl, rb, E4⟩
  rw [RQ.out]
  rw [bytesR_0 RQ.out] at rb
  replace HX1 := hidden (HX1.out.ext E4)
  replace HX2 := hidden (HX2.out.ext E4)
  replace q1 := q1.below E4
  replace q2 := q2.below E4
  replace ra := ra.below E4
  replace B1 := below_then B1 E4
  clear E4
  go_wp2_with fail
  refine (read_pdu _ (bytesQ p) _ ra).mono ?_
  rintro e w5 ⟨v5, rfl, q5, E4⟩
  rw [readE_is (q := p) ⟨RP.out, rfl⟩]
  rw [readQ_is (q := p) ⟨RP.out, rfl⟩] at q5
  replace HX1 := hidden (HX1.out.ext E4)
  replace HX2 := hidden (HX2.out.ext E4)
  replace q1 := q1.below E4
  replace q2 := q2.below E4
  replace ra := ra.below E4
  replace rb := rb.below E4
  replace B1 := below_then B1 E4
  clear E4
  obtain ⟨sb, scb, sv, scv, rfl, -, -⟩ := q5.slices
  have E4 := (Below.refl w5.heap.size w5).alloc (Nat.le_refl _) (.cells #[.int .i64 p.fn, .int .i64 p.loc, .int .i64 p.cnt, .int .i64 p.wat, .int .i64 p.sub, .slice sb p.bits.length scb, .slice sv p.vals.length scv, .int .u16 p.land.toNat, .int .u16 p.lor.toNat] 26)
  have X5 := Box.new w5 p.fn p.loc p.cnt p.wat p.sub (.slice sb p.bits.length scb) (.slice sv p.vals.length scv) p.land p.lor 26
  replace HX1 := hidden ((HX1.out.ext E4).ext (Below.refl _ _).drew)
  replace HX2 := hidden ((HX2.out.ext E4).ext (Below.refl _ _).drew)
  have HX5 := hidden (X5.ext (Below.refl _ _).drew)
  replace q1 := (q1.below E4).below (Below.refl _ _).drew
  replace q2 := (q2.below E4).below (Below.refl _ _).drew
  replace q5 := (q5.below E4).below (Below.refl _ _).drew
  replace ra := (ra.below E4).drew
  replace rb := (rb.below E4).drew
  replace B1 := (below_then B1 E4).drew
  clear E4 X5
  have hpos := bytes_pos p
  have hfn := known_cases (right_parts RP.out).1
  have wfn : IntKind.i64.wrap p.fn = p.fn := by rw [IntKind.wrap_i64]; omega
  have WF := hidden wfn
  clear hfn
  obtain ⟨aa, ac, rfl, -⟩ := id ra
  obtain ⟨-, hcap, hmx, hcell⟩ := ra.at
  simp only [List.length_map] at ra hcap hcell ⊢
  obtain ⟨ab, ao, rfl, hcl⟩ := hcell 0 0 (by omega)
  have ca0 := hcl 0 (by omega)
  simp only [Nat.add_zero] at ca0
  rw [show (bytesQ p).getD 0 0 = UInt8.ofNat (p.fn % 256).toNat from rfl, bV, bytes_head p RP.out] at ca0
  obtain ⟨Dd, hD⟩ : ∃ D, decide (p = q) = D := ⟨_, rfl⟩
  have hSS : (bytesQ p == bytesQ q) = Dd := by
    rw [← hD]
    have := bytes_same RP.out RQ.out
    rw [beq_iff_eq] at this
    exact this
  have HCA := hidden (fun w' (h : Row w' (.slice (some ⟨ab, ao, none⟩) (bytesQ p).length ac) ((bytesQ p).map bV)) => conv_row (P := Try.prog) h 34 9 5 Try.underlying34 Try.underlying5 Try.underlying9)
  have HCB := hidden (fun w' (h : Row w' vb ((bytesQ q).map bV)) => conv_row (P := Try.prog) h 34 9 5 Try.underlying34 Try.underlying5 Try.underlying9)
  have HD := hidden hD
  have HSS := hidden hSS
  clear hcl hcell hD hSS
  go_wp2
  refine wp_region_pi [(0, true), (1, true), (2, true), (3, true), (4, true), (5, true), (6, true), (7, true), (8, true), (9, true), (10, true), (11, true), (12, true), (13, false), (14, true), (15, true), (16, true), (17, true), (18, true), (19, true), (20, true), (21, true), (22, true), (23, false), (24, true), (25, true), (26, true), (27, true), (28, true), (30, true), (31, true), (29, false), (32, false), (33, true), (34, true), (35, true), (36, true), (37, true), (38, true), (39, true), (40, true), (41, true), (42, true), (43, true), (44, true), (45, true), (46, true), (47, true), (48, true), (49, true), (50, false), (51, true), (52, true)] (by kernel_rfl) (by kernel_rfl) (by kernel_rfl) (fun _ _ _ d _ h => by cases d <;> exact h) ?_
  have CA0 := hidden ca0
  clear ca0
  generalize (w5.alloc (.cells #[.int .i64 p.fn, .int .i64 p.loc, .int .i64 p.cnt, .int .i64 p.wat, .int .i64 p.sub, .slice sb p.bits.length scb, .slice sv p.vals.length scv, .int .u16 p.land.toNat, .int .u16 p.lor.toNat] 26)).drew = c0 at *
  have x0 := Ext.refl c0
  have BX := hidden (fun w' (hx : Ext c0 w') => (⟨HX1.out.ext hx, HX2.out.ext hx, HX5.out.ext hx⟩ : _ ∧ _ ∧ _))
  iterate 13 (first | (refine pi_pure x0 rfl (by kernel_rfl) (fun w' => by go_simp; with_reducible rfl) ?_; try simp only [Act.put, List.setIfInBounds_toArray, List.set_cons_zero, List.set_cons_succ]) | (refine pi_read x0 rfl (by kernel_rfl) (fun w' hx => by obtain ⟨⟨-, a0, a1, a2, a3, a4, a5, a6, a7, a8⟩, ⟨-, b0, b1, b2, b3, b4, b5, b6, b7, b8⟩, ⟨-, e0, e1, e2, e3, e4, e5, e6, e7, e8⟩⟩ := BX.out w' hx; go_simp; with_reducible rfl) ?_; try simp only [Act.put, List.setIfInBounds_toArray, List.set_cons_zero, List.set_cons_succ]))
  refine pi_move rfl (by kernel_rfl) (fun K hK => ?_)
  go_wp2_with fail
  refine (rsame_any _ _ p p _ q1 q5).mono ?_
  rintro e c1 ⟨rfl, E1⟩
  rw [show decide (p = p) = true by simp]
  go_simp
  refine hK.out _ _ E1 ?_
  clear K hK
  try simp only [Act.put, List.setIfInBounds_toArray, List.set_cons_zero, List.set_cons_succ]
  have hca := fun w' (hx : Ext c1 w') => HCA.out w' (ra.below (Ext.trans E1 hx))
  have hcb := fun w' (hx : Ext c1 w') => HCB.out w' (rb.below (Ext.trans E1 hx))
  replace BX := hidden (fun w' (hx : Ext c1 w') => BX.out w' (Ext.trans E1 hx))
  have HCA1 := hidden hca
  have HCB1 := hidden hcb
  clear hca hcb HCA HCB
  iterate 3 (refine pi_pure E1 rfl (by kernel_rfl) (fun w' => by go_simp; with_reducible rfl) ?_; try simp only [Act.put, List.setIfInBounds_toArray, List.set_cons_zero, List.set_cons_succ])
  refine pi_read E1 rfl (by kernel_rfl) (fun w' hx => by have h := HCA1.out w' hx; go_simp; with_reducible rfl) ?_
  try simp only [Act.put, List.setIfInBounds_toArray, List.set_cons_zero, List.set_cons_succ]
  have x1 := Ext.refl c1
  iterate 1 (refine pi_pure x1 rfl (by kernel_rfl) (fun w' => by go_simp; with_reducible rfl) ?_; try simp only [Act.put, List.setIfInBounds_toArray, List.set_cons_zero, List.set_cons_succ])
  refine pi_read x1 rfl (by kernel_rfl) (fun w' hx => by have h := HCB1.out w' hx; go_simp; with_reducible rfl) ?_
  try simp only [Act.put, List.setIfInBounds_toArray, List.set_cons_zero, List.set_cons_succ]
  have hss := HSS.out
  iterate 3 (first | (refine pi_pure x1 rfl (by kernel_rfl) (fun w' => by go_simp; with_reducible rfl) ?_; try simp only [Act.put, List.setIfInBounds_toArray, List.set_cons_zero, List.set_cons_succ]) | (refine pi_read x1 rfl (by kernel_rfl) (fun w' hx => by obtain ⟨⟨-, a0, a1, a2, a3, a4, a5, a6, a7, a8⟩, ⟨-, b0, b1, b2, b3, b4, b5, b6, b7, b8⟩, ⟨-, e0, e1, e2, e3, e4, e5, e6, e7, e8⟩⟩ := BX.out w' hx; go_simp; with_reducible rfl) ?_; try simp only [Act.put, List.setIfInBounds_toArray, List.set_cons_zero, List.set_cons_succ]))
  clear hss
  refine pi_move rfl (by kernel_rfl) (fun K hK => ?_)
  go_wp2_with fail
  refine (rsame_any _ _ p q _ (q1.below E1) (q2.below E1)).mono ?_
  rintro e c2 ⟨rfl, E2⟩
  rw [HD.out]
  go_simp
  refine hK.out _ _ E2 ?_
  clear K hK
  try simp only [Act.put, List.setIfInBounds_toArray, List.set_cons_zero, List.set_cons_succ]
  replace BX := hidden (fun w' (hx : Ext c2 w') => BX.out w' (Ext.trans E2 hx))
  iterate 1 (refine pi_pure E2 rfl (by kernel_rfl) (fun w' => by go_simp; with_reducible rfl) ?_; try simp only [Act.put, List.setIfInBounds_toArray, List.set_cons_zero, List.set_cons_succ])
  have x2 := Ext.refl c2
  iterate 6 (first | (refine pi_pure E2 rfl (by kernel_rfl) (fun w' => by have wf := WF.out; go_simp; with_reducible rfl) ?_; try simp only [Act.put, List.setIfInBounds_toArray, List.set_cons_zero, List.set_cons_succ]) | (refine pi_read E2 rfl (by kernel_rfl) (fun w' hx => by obtain ⟨⟨-, a0, a1, a2, a3, a4, a5, a6, a7, a8⟩, ⟨-, b0, b1, b2, b3, b4, b5, b6, b7, b8⟩, ⟨-, e0, e1, e2, e3, e4, e5, e6, e7, e8⟩⟩ := BX.out w' hx; go_simp; with_reducible rfl) ?_; try simp only [Act.put, List.setIfInBounds_toArray, List.set_cons_zero, List.set_cons_succ]) | (refine pi_pure x2 rfl (by kernel_rfl) (fun w' => by have wf := WF.out; go_simp; with_reducible rfl) ?_; try simp only [Act.put, List.setIfInBounds_toArray, List.set_cons_zero, List.set_cons_succ]) | (refine pi_read x2 rfl (by kernel_rfl) (fun w' hx => by obtain ⟨⟨-, a0, a1, a2, a3, a4, a5, a6, a7, a8⟩, ⟨-, b0, b1, b2, b3, b4, b5, b6, b7, b8⟩, ⟨-, e0, e1, e2, e3, e4, e5, e6, e7, e8⟩⟩ := BX.out w' hx; go_simp; with_reducible rfl) ?_; try simp only [Act.put, List.setIfInBounds_toArray, List.set_cons_zero, List.set_cons_succ]))
  refine pi_move rfl (by kernel_rfl) (fun K hK => ?_)
  go_wp2_with fail
  refine (same_pdu _ _ p q _ ((q1.below E1).below E2) ((q2.below E1).below E2)).mono ?_
  rintro e c3 ⟨rfl, E3⟩
  rw [HD.out]
  go_simp
  refine hK.out _ _ E3 ?_
  clear K hK
  try simp only [Act.put, List.setIfInBounds_toArray, List.set_cons_zero, List.set_cons_succ]
  refine pi_move rfl (by kernel_rfl) (fun K hK => ?_)
  go_wp2_with fail
  refine (rsame_any _ _ p q _ (((q1.below E1).below E2).below E3) (((q2.below E1).below E2).below E3)).mono ?_
  rintro e c4 ⟨rfl, E4⟩
  rw [HD.out]
  go_simp
  refine hK.out _ _ (Ext.trans E3 E4) ?_
  clear K hK
  try simp only [Act.put, List.setIfInBounds_toArray, List.set_cons_zero, List.set_cons_succ]
  have x4 := Ext.refl c4
  have hposN : 0 < (bytesQ p).length := by simp [bytesQ]
  have E34 := Ext.trans E3 E4
  have E14 := Ext.trans (Ext.trans E1 E2) E34
  replace BX := hidden (fun w' (hx : Ext c4 w') => BX.out w' (Ext.trans E34 hx))
  have CA4 := hidden (fun w' (hx : Ext c4 w') => (World.cell?_of_block (a := ⟨ab, ao, none⟩) ((Ext.trans E14 hx).block ab (lt_of_cell CA0.out))).trans CA0.out)
  iterate 17 (first | (refine pi_pure E34 rfl (by kernel_rfl) (fun w' => by have wf := WF.out; go_simp; with_reducible rfl) ?_; try simp only [Act.put, List.setIfInBounds_toArray, List.set_cons_zero, List.set_cons_succ]) | (refine pi_read E34 rfl (by kernel_rfl) (fun w' hx => by obtain ⟨⟨-, a0, a1, a2, a3, a4, a5, a6, a7, a8⟩, ⟨-, b0, b1, b2, b3, b4, b5, b6, b7, b8⟩, ⟨-, e0, e1, e2, e3, e4, e5, e6, e7, e8⟩⟩ := BX.out w' hx; have ca := CA4.out w' hx; have wf := WF.out; go_simp; with_reducible rfl) ?_; try simp only [Act.put, List.setIfInBounds_toArray, List.set_cons_zero, List.set_cons_succ]) | (refine pi_pure x4 rfl (by kernel_rfl) (fun w' => by have wf := WF.out; go_simp; with_reducible rfl) ?_; try simp only [Act.put, List.setIfInBounds_toArray, List.set_cons_zero, List.set_cons_succ]) | (refine pi_read x4 rfl (by kernel_rfl) (fun w' hx => by obtain ⟨⟨-, a0, a1, a2, a3, a4, a5, a6, a7, a8⟩, ⟨-, b0, b1, b2, b3, b4, b5, b6, b7, b8⟩, ⟨-, e0, e1, e2, e3, e4, e5, e6, e7, e8⟩⟩ := BX.out w' hx; have ca := CA4.out w' hx; have wf := WF.out; go_simp; with_reducible rfl) ?_; try simp only [Act.put, List.setIfInBounds_toArray, List.set_cons_zero, List.set_cons_succ]))
  refine pi_move rfl (by kernel_rfl) (fun K hK => ?_)
  go_wp2_with fail
  refine (known_law _).mono ?_
  rintro e c5 ⟨rfl, E5⟩
  go_simp
  refine hK.out _ _ E5 ?_
  clear K hK
  try simp only [Act.put, List.setIfInBounds_toArray, List.set_cons_zero, List.set_cons_succ]
  iterate 2 (refine pi_pure E5 rfl (by kernel_rfl) (fun w' => by go_simp; with_reducible rfl) ?_; try simp only [Act.put, List.setIfInBounds_toArray, List.set_cons_zero, List.set_cons_succ])
  refine pi_nil ?_
  replace B1 := below_then (below_then B1 E14) E5
  go_wp2
  go_ret
  exact ⟨rfl, B1⟩

end Go.Proofs.Ytbkkinmnokfofaa
