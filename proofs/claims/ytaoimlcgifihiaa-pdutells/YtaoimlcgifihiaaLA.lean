/- The statements' own helpers: same, reads, odd (chapter 3). -/
import Derived.Test.YtaoimlcgifihiaaRDc
import Derived.Test.YtaoimlcgifihiaaRDr
namespace Go.Proofs.Ytaoimlcgifihiaa
open Go.RowKit

set_option maxRecDepth 100000 in
set_option maxHeartbeats 4000000 in
theorem same_law3 (v : Value) (q : Rq) (w : World) (h : IsRq w v q) :
    Calls Try.prog 12 #[v] w fun e w' => e = .returned (.bool true) ∧ Below w.heap.size w w' := by
  obtain ⟨ab, capb, av, capv, rfl, -, -⟩ := h.slices
  have B := (Below.refl w.heap.size w).alloc (Nat.le_refl _) (.cells #[.int .i64 q.fn, .int .i64 q.loc, .int .i64 q.cnt, .int .i64 q.wat, .int .i64 q.sub, .slice ab q.bits.length capb, .slice av q.vals.length capv, .int .u16 q.land.toNat, .int .u16 q.lor.toNat] 26)
  have h0 := h.below B
  have Y := hidden (Box.new w q.fn q.loc q.cnt q.wat q.sub (.slice ab q.bits.length capb) (.slice av q.vals.length capv) q.land q.lor 26)
  clear h
  go_enter Try.func12, Try.ntmps12
  go_wp2_with fail
  refine (bytes_pdu _ q _ h0).mono ?_
  rintro e w1 ⟨v1, rfl, r1, E⟩
  replace B := below_then B E
  replace h0 := h0.below E
  replace Y := hidden (Y.out.ext E)
  clear E
  obtain ⟨lc, c0, c1, c2, c3, c4, c5, c6, c7, c8⟩ := Y.out
  go_wp2_with fail
  clear lc c0 c1 c2 c3 c4 c5 c6 c7 c8
  refine (bytes_ref _ q _ h0).mono ?_
  rintro e w2 ⟨v2, rfl, o2, E⟩
  have r2 := Row.of_owns o2
  clear o2
  replace B := below_then B E
  replace h0 := h0.below E
  replace Y := hidden (Y.out.ext E)
  replace r1 := r1.below E
  clear E
  have tE : (rightE q == rightE q) = true := by simp
  have tC : (countsB q == countsB q) = true := by simp
  have tB : (bytesR q == bytesR q) = true := by simp
  go_wp2
  refine wp_region_pi [(0, true), (1, true), (2, true), (3, true), (4, true), (5, true), (6, true), (7, true), (8, true), (9, true), (10, true), (11, true), (13, true), (12, false), (14, false), (15, true), (16, true), (17, true), (18, true), (20, true), (19, false), (21, false), (22, true), (23, true), (24, true), (25, true), (26, true), (27, false), (28, true), (29, true)] (by kernel_rfl) (by kernel_rfl) (by kernel_rfl) (fun _ _ _ d _ h => by cases d <;> exact h) ?_
  have ED := (Below.refl w2.heap.size w2).drew
  replace B := below_then B ED
  replace h0 := h0.below ED
  replace Y := hidden (Y.out.ext ED)
  replace r1 := r1.below ED
  replace r2 := r2.below ED
  clear ED
  generalize w2.drew = c0 at *
  have x0 := Ext.refl c0
  have BX := hidden (fun w' (hx : Ext c0 w') => (⟨Y.out.ext hx, conv_row (P := Try.prog) (r1.below hx) 34 9 5 Try.underlying34 Try.underlying5 Try.underlying9, conv_row (P := Try.prog) (r2.below hx) 34 9 5 Try.underlying34 Try.underlying5 Try.underlying9⟩ : _ ∧ _ ∧ _))
  iterate 13 (first | (refine pi_pure x0 rfl (by kernel_rfl) (fun w' => by go_simp; with_reducible rfl) ?_; try simp only [Act.put, List.setIfInBounds_toArray, List.set_cons_zero, List.set_cons_succ]) | (refine pi_read x0 rfl (by kernel_rfl) (fun w' hx => by obtain ⟨⟨-, a0, a1, a2, a3, a4, a5, a6, a7, a8⟩, ca, cb⟩ := BX.out w' hx; go_simp; with_reducible rfl) ?_; try simp only [Act.put, List.setIfInBounds_toArray, List.set_cons_zero, List.set_cons_succ]))
  refine pi_move rfl (by kernel_rfl) (fun K hK => ?_)
  go_wp2_with fail
  refine (right_pdu _ q _ h0).mono ?_
  rintro e c1 ⟨rfl, E1⟩
  go_simp
  refine hK.out _ _ E1 ?_
  clear K hK
  try simp only [Act.put, List.setIfInBounds_toArray, List.set_cons_zero, List.set_cons_succ]
  refine pi_move rfl (by kernel_rfl) (fun K hK => ?_)
  go_wp2_with fail
  refine (right_ref _ q _ (h0.below E1)).mono ?_
  rintro e c2 ⟨rfl, E2⟩
  go_simp
  refine hK.out _ _ (Ext.trans E1 E2) ?_
  clear K hK
  try simp only [Act.put, List.setIfInBounds_toArray, List.set_cons_zero, List.set_cons_succ]
  have F2 := Ext.trans E1 E2
  replace BX := hidden (fun w' (hx : Ext c2 w') => BX.out w' (Ext.trans F2 hx))
  have x2 := Ext.refl c2
  have h2 := h0.below F2
  iterate 5 (first | (refine pi_pure F2 rfl (by kernel_rfl) (fun w' => by go_simp; with_reducible rfl) ?_; try simp only [Act.put, List.setIfInBounds_toArray, List.set_cons_zero, List.set_cons_succ]) | (refine pi_read F2 rfl (by kernel_rfl) (fun w' hx => by obtain ⟨⟨-, a0, a1, a2, a3, a4, a5, a6, a7, a8⟩, ca, cb⟩ := BX.out w' hx; go_simp; with_reducible rfl) ?_; try simp only [Act.put, List.setIfInBounds_toArray, List.set_cons_zero, List.set_cons_succ]) | (refine pi_pure x2 rfl (by kernel_rfl) (fun w' => by go_simp; with_reducible rfl) ?_; try simp only [Act.put, List.setIfInBounds_toArray, List.set_cons_zero, List.set_cons_succ]) | (refine pi_read x2 rfl (by kernel_rfl) (fun w' hx => by obtain ⟨⟨-, a0, a1, a2, a3, a4, a5, a6, a7, a8⟩, ca, cb⟩ := BX.out w' hx; go_simp; with_reducible rfl) ?_; try simp only [Act.put, List.setIfInBounds_toArray, List.set_cons_zero, List.set_cons_succ]))
  refine pi_move rfl (by kernel_rfl) (fun K hK => ?_)
  go_wp2_with fail
  refine (counts_pdu _ q _ h2).mono ?_
  rintro e c3 ⟨rfl, E3⟩
  go_simp
  refine hK.out _ _ E3 ?_
  clear K hK
  try simp only [Act.put, List.setIfInBounds_toArray, List.set_cons_zero, List.set_cons_succ]
  refine pi_move rfl (by kernel_rfl) (fun K hK => ?_)
  go_wp2_with fail
  refine (counts_ref _ q _ (h2.below E3)).mono ?_
  rintro e c4 ⟨rfl, E4⟩
  go_simp
  refine hK.out _ _ (Ext.trans E3 E4) ?_
  clear K hK
  try simp only [Act.put, List.setIfInBounds_toArray, List.set_cons_zero, List.set_cons_succ]
  have F4 := Ext.trans E3 E4
  replace BX := hidden (fun w' (hx : Ext c4 w') => BX.out w' (Ext.trans F4 hx))
  have x4 := Ext.refl c4
  have h4 := h2.below F4
  iterate 5 (first | (refine pi_pure F4 rfl (by kernel_rfl) (fun w' => by go_simp; with_reducible rfl) ?_; try simp only [Act.put, List.setIfInBounds_toArray, List.set_cons_zero, List.set_cons_succ]) | (refine pi_read F4 rfl (by kernel_rfl) (fun w' hx => by obtain ⟨⟨-, a0, a1, a2, a3, a4, a5, a6, a7, a8⟩, ca, cb⟩ := BX.out w' hx; go_simp; with_reducible rfl) ?_; try simp only [Act.put, List.setIfInBounds_toArray, List.set_cons_zero, List.set_cons_succ]) | (refine pi_pure x4 rfl (by kernel_rfl) (fun w' => by go_simp; with_reducible rfl) ?_; try simp only [Act.put, List.setIfInBounds_toArray, List.set_cons_zero, List.set_cons_succ]) | (refine pi_read x4 rfl (by kernel_rfl) (fun w' hx => by obtain ⟨⟨-, a0, a1, a2, a3, a4, a5, a6, a7, a8⟩, ca, cb⟩ := BX.out w' hx; go_simp; with_reducible rfl) ?_; try simp only [Act.put, List.setIfInBounds_toArray, List.set_cons_zero, List.set_cons_succ]))
  refine pi_move rfl (by kernel_rfl) (fun K hK => ?_)
  go_wp2_with fail
  refine (same_pdu _ _ q q _ h4 h4).mono ?_
  rintro e c5 ⟨rfl, E5⟩
  go_simp
  refine hK.out _ _ E5 ?_
  clear K hK
  try simp only [Act.put, List.setIfInBounds_toArray, List.set_cons_zero, List.set_cons_succ]
  have tS : decide (q = q) = true := by simp
  iterate 2 (refine pi_pure E5 rfl (by kernel_rfl) (fun w' => by go_simp; with_reducible rfl) ?_; try simp only [Act.put, List.setIfInBounds_toArray, List.set_cons_zero, List.set_cons_succ])
  refine pi_nil ?_
  replace B := below_then B (Ext.trans (Ext.trans F2 F4) E5)
  go_wp2
  go_ret
  exact ⟨rfl, B⟩

set_option maxRecDepth 100000 in
set_option maxHeartbeats 4000000 in
theorem reads_law3 (v : Value) (bs : List UInt8) (w : World) (hv : Row w v (bs.map bV)) (hbl : bs.length ≤ 140737488351232) :
    Calls Try.prog 13 #[v] w fun e w' => e = .returned (.bool true) ∧ Below w.heap.size w w' := by
  have B := Below.refl w.heap.size w
  have tE : (readE bs == readE bs) = true := by simp
  generalize hE : readE bs = E at *
  have HE := hidden hE
  clear hE
  go_enter Try.func13, Try.ntmps13
  go_wp2_with fail
  refine (read_pdu _ bs _ hv).mono ?_
  rintro e w1 ⟨v1, rfl, q1, E⟩
  rw [HE.out]
  replace B := below_then B E
  replace hv := hv.below E
  clear E
  obtain ⟨pb, pcb, pv, pcv, rfl, -, -⟩ := q1.slices
  have Y1 := hidden (Box.new w1 (readQ bs).fn (readQ bs).loc (readQ bs).cnt (readQ bs).wat (readQ bs).sub (.slice pb (readQ bs).bits.length pcb) (.slice pv (readQ bs).vals.length pcv) (readQ bs).land (readQ bs).lor 26)
  have EA := (Below.refl w1.heap.size w1).alloc (Nat.le_refl _) (.cells #[.int .i64 (readQ bs).fn, .int .i64 (readQ bs).loc, .int .i64 (readQ bs).cnt, .int .i64 (readQ bs).wat, .int .i64 (readQ bs).sub, .slice pb (readQ bs).bits.length pcb, .slice pv (readQ bs).vals.length pcv, .int .u16 (readQ bs).land.toNat, .int .u16 (readQ bs).lor.toNat] 26)
  replace B := below_then B EA
  replace hv := hv.below EA
  replace q1 := q1.below EA
  clear EA
  go_wp2_with fail
  refine (read_ref _ bs _ hv hbl).mono ?_
  rintro e w2 ⟨v2, rfl, q2, E⟩
  rw [HE.out]
  replace B := below_then B E
  replace hv := hv.below E
  replace q1 := q1.below E
  replace Y1 := hidden (Y1.out.ext E)
  clear E
  obtain ⟨rb, rcb, rv, rcv, rfl, -, -⟩ := q2.slices
  have Y2 := hidden (Box.new w2 (readQ bs).fn (readQ bs).loc (readQ bs).cnt (readQ bs).wat (readQ bs).sub (.slice rb (readQ bs).bits.length rcb) (.slice rv (readQ bs).vals.length rcv) (readQ bs).land (readQ bs).lor 26)
  have EA := (Below.refl w2.heap.size w2).alloc (Nat.le_refl _) (.cells #[.int .i64 (readQ bs).fn, .int .i64 (readQ bs).loc, .int .i64 (readQ bs).cnt, .int .i64 (readQ bs).wat, .int .i64 (readQ bs).sub, .slice rb (readQ bs).bits.length rcb, .slice rv (readQ bs).vals.length rcv, .int .u16 (readQ bs).land.toNat, .int .u16 (readQ bs).lor.toNat] 26)
  replace B := below_then B EA
  replace hv := hv.below EA
  replace q1 := q1.below EA
  replace Y1 := hidden (Y1.out.ext EA)
  replace q2 := q2.below EA
  clear EA
  obtain ⟨l, c0, c1, c2, c3, c4, c5, c6, c7, c8⟩ := Y1.out
  obtain ⟨l', d0, d1, d2, d3, d4, d5, d6, d7, d8⟩ := Y2.out
  go_wp2_with fail
  refine (rsame_any _ _ (readQ bs) (readQ bs) _ q1 q2).mono ?_
  rintro e w3 ⟨rfl, E⟩
  rw [show decide (readQ bs = readQ bs) = true by simp]
  replace B := below_then B E
  go_wp2
  go_ret
  exact ⟨rfl, B⟩

end Go.Proofs.Ytaoimlcgifihiaa
