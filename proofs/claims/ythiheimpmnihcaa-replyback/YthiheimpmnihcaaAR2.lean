/- ReplyBack: the walk. -/
import Derived.Test.YthiheimpmnihcaaA9r
import Derived.Test.YthiheimpmnihcaaV4
namespace Go.Proofs.Ythiheimpmnihcaa
open Go.RowKit

theorem blk_set10 {w : World} {g : Nat} {t : TypeId} {x0 x1 x2 x3 x4 x5 x6 x7 x8 x9 y0 y1 y2 y3 y4 y5 y6 y7 y8 y9 : Value} (h : Blk w g t [x0, x1, x2, x3, x4, x5, x6, x7, x8, x9]) : Blk ((((((((((w.setCell ⟨g, 0, none⟩ y0).setCell ⟨g, 1, none⟩ y1).setCell ⟨g, 2, none⟩ y2).setCell ⟨g, 3, none⟩ y3).setCell ⟨g, 4, none⟩ y4).setCell ⟨g, 5, none⟩ y5).setCell ⟨g, 6, none⟩ y6).setCell ⟨g, 7, none⟩ y7).setCell ⟨g, 8, none⟩ y8).setCell ⟨g, 9, none⟩ y9) g t [y0, y1, y2, y3, y4, y5, y6, y7, y8, y9] := by
  simpa using ((((((((((h.set 0 y0).set 1 y1).set 2 y2).set 3 y3).set 4 y4).set 5 y5).set 6 y6).set 7 y7).set 8 y8).set 9 y9)

def phaseP (q : Rq) (base : Nat) (i : Nat) (v : Value) (w : World) : Prop := if i = 2 ∨ i = 5 then MadeR q v w else NewBox base 46 [.int .i64 0, .int .i64 0, .int .i64 0, .int .i64 0, .int .i64 0, .slice none 0 0, .slice none 0 0, .int .u16 0, .int .u16 0, .slice none 0 0] v w

set_option maxRecDepth 100000 in
set_option maxHeartbeats 8000000 in
theorem rback_walk (t u v : Value) (x y z : List Int) (w : World) (ht : Row w t (x.map iV)) (hu : Row w u (y.map iV)) (hv : Row w v (z.map iV)) (bx : ∀ n ∈ x, -9223372036854775808 ≤ n ∧ n ≤ 9223372036854775807) (by_ : ∀ n ∈ y, -9223372036854775808 ≤ n ∧ n ≤ 9223372036854775807) (bz : ∀ n ∈ z, -9223372036854775808 ≤ n ∧ n ≤ 9223372036854775807) :
    Calls Try.prog 7 #[t, u, v] w fun e w' => e = .returned (.bool true) ∧ Below w.heap.size w w' := by
  obtain ⟨ta, tc, rfl, -⟩ := id ht
  obtain ⟨ua, uc, rfl, -⟩ := id hu
  obtain ⟨va, vc, rfl, -⟩ := id hv
  simp only [List.length_map] at ht hu hv ⊢
  have T1 := hidden (tap_new w ta x.length tc x ht bx)
  have BY := hidden by_
  have BZ := hidden bz
  clear ht bx by_ bz
  go_enter Try.func7, Try.ntmps7
  go_wp2_with fail
  refine (req_ok _ _ x _ T1.out (by simp)).mono ?_
  rintro e w1 ⟨v1, rfl, q, q1, rq, -, ⟨-, hcn⟩, -, D1⟩
  have B : Below w.heap.size w w1 := (((Below.refl w.heap.size w).alloc (Nat.le_refl _) (.cells #[.slice ta x.length tc, .int .i64 0] 31))).trans (D1.below (by omega) (Nat.le_refl _))
  have RQ := hidden rq
  have CN := hidden hcn
  have KN := hidden (right_parts rq).1
  have hcb := (right_parts rq).2.2.1.2.2.2
  simp [numB] at hcb
  clear D1 T1 rq hcn
  obtain ⟨qb, qcb, qv, qcv, rfl, -, -⟩ := q1.slices
  have EA := (Below.refl w1.heap.size w1).alloc (Nat.le_refl _) (.cells #[.int .i64 q.fn, .int .i64 q.loc, .int .i64 q.cnt, .int .i64 q.wat, .int .i64 q.sub, .slice qb q.bits.length qcb, .slice qv q.vals.length qcv, .int .u16 q.land.toNat, .int .u16 q.lor.toNat] 26)
  have X1 := Box.new w1 q.fn q.loc q.cnt q.wat q.sub (.slice qb q.bits.length qcb) (.slice qv q.vals.length qcv) q.land q.lor 26
  go_wp2
  refine c_begin 10 rfl (by kernel_rfl) ?_
  replace q1 := (q1.below EA).below (Below.refl _ _).drew
  replace X1 := X1.ext (Below.refl _ _).drew
  replace B := (below_then B EA).drew
  clear EA
  have oQ := hidden q1.ltv
  replace hu := hu.below B
  replace hv := hv.below B
  have gq : w1.heap.size < (w1.alloc (.cells #[.int .i64 q.fn, .int .i64 q.loc, .int .i64 q.cnt, .int .i64 q.wat, .int .i64 q.sub, .slice qb q.bits.length qcb, .slice qv q.vals.length qcv, .int .u16 q.land.toNat, .int .u16 q.lor.toNat] 26)).drew.heap.size := X1.lt
  generalize (w1.alloc (.cells #[.int .i64 q.fn, .int .i64 q.loc, .int .i64 q.cnt, .int .i64 q.wat, .int .i64 q.sub, .slice qb q.bits.length qcb, .slice qv q.vals.length qcv, .int .u16 q.land.toNat, .int .u16 q.lor.toNat] 26)).drew = w2 at *
  generalize w1.heap.size = gQ at *
  refine c_pure trivial (by kernel_rfl) (fun _ _ _ d _ h => by cases d <;> exact h) 0 rfl (by kernel_rfl) (by kernel_rfl) (fun w' => by go_simp; with_reducible rfl) ?_; try simp only [Act.put, List.setIfInBounds_toArray, List.set_cons_zero, List.set_cons_succ]
  refine c_read (fun w' => Box w' gQ q.fn q.loc q.cnt q.wat q.sub (.slice qb q.bits.length qcb) (.slice qv q.vals.length qcv) q.land q.lor) X1 trivial (by kernel_rfl) (fun _ _ _ d _ h => by cases d <;> exact h) 1 rfl (by kernel_rfl) (by kernel_rfl) (fun w' hx => by obtain ⟨-, c0, c1, c2, c3, c4, c5, c6, c7, c8⟩ := hx; go_simp; with_reducible rfl) ?_; try simp only [Act.put, List.setIfInBounds_toArray, List.set_cons_zero, List.set_cons_succ]
  refine c_pure ⟨X1, trivial⟩ (by kernel_rfl) (fun _ _ _ d _ h => by cases d <;> exact h) 3 rfl (by kernel_rfl) (by kernel_rfl) (fun w' => by go_simp; with_reducible rfl) ?_; try simp only [Act.put, List.setIfInBounds_toArray, List.set_cons_zero, List.set_cons_succ]
  refine c_read (fun w' => Box w' gQ q.fn q.loc q.cnt q.wat q.sub (.slice qb q.bits.length qcb) (.slice qv q.vals.length qcv) q.land q.lor) X1 ⟨X1, trivial⟩ (by kernel_rfl) (fun _ _ _ d _ h => by cases d <;> exact h) 4 rfl (by kernel_rfl) (by kernel_rfl) (fun w' hx => by obtain ⟨-, c0, c1, c2, c3, c4, c5, c6, c7, c8⟩ := hx; go_simp; with_reducible rfl) ?_; try simp only [Act.put, List.setIfInBounds_toArray, List.set_cons_zero, List.set_cons_succ]
  refine c_phase (n := 2) [2, 5, 6, 7] [(some 22, 2), (some 25, 5), (some 8, 6), (some 9, 7)] (phaseP q w2.heap.size) (RelO w2.heap.size) RelO.symm (by kernel_rfl) (by kernel_rfl) ?mono ?hC ?hops ?hend
  case mono =>
    intro i v w w' h hx
    unfold phaseP at h ⊢
    split at h
    · rename_i hi; rw [if_pos hi]; exact h.ext hx
    · rename_i hi; rw [if_neg hi]; exact h.ext hx
  case hC => exact fun w' hx => ⟨X1.ext hx, X1.ext hx, trivial⟩
  case hops =>
    intro i hi vs w3 hx hd
    simp only [List.mem_cons, List.not_mem_nil, or_false] at hi
    rcases hi with rfl | rfl | rfl | rfl
    · refine phase_op 2 [] (by kernel_rfl) rfl (fun K hK => ?_)
      simp only [putsD]
      try simp only [Act.put, List.setIfInBounds_toArray, List.set_cons_zero, List.set_cons_succ]
      go_wp2_with fail
      refine (made_any _ _ y q _ (hu.below hx) BY.out (q1.below hx) RQ.out CN.out).mono ?_
      rintro e w4 ⟨v4, rfl, r, h4, f4, g4, a4, E4, F4⟩
      go_simp
      refine hK.out _ _ E4 ?_ ?_
      · unfold phaseP; rw [if_pos (by simp)]; exact ⟨r, h4, f4, g4, a4⟩
      · intro j _ _ u hu
        refine RelO.of (w := w3) (FromQ.fresh F4 q1 h4) ?_
        unfold phaseP at hu
        split at hu
        · exact hu.ltv
        · exact hu.ltv
    · refine phase_op 5 [(some 22, 2)] (by kernel_rfl) rfl (fun K hK => ?_)
      simp only [putsD]
      try simp only [Act.put, List.setIfInBounds_toArray, List.set_cons_zero, List.set_cons_succ]
      go_wp2_with fail
      refine (made_any _ _ z q _ (hv.below hx) BZ.out (q1.below hx) RQ.out CN.out).mono ?_
      rintro e w4 ⟨v4, rfl, r, h4, f4, g4, a4, E4, F4⟩
      go_simp
      refine hK.out _ _ E4 ?_ ?_
      · unfold phaseP; rw [if_pos (by simp)]; exact ⟨r, h4, f4, g4, a4⟩
      · intro j _ _ u hu
        refine RelO.of (w := w3) (FromQ.fresh F4 q1 h4) ?_
        unfold phaseP at hu
        split at hu
        · exact hu.ltv
        · exact hu.ltv
    · refine phase_op 6 [] (by kernel_rfl) rfl (fun K hK => ?_)
      simp only [putsD]
      go_simp
      refine hK.out _ _ ((Below.refl _ _).alloc (Nat.le_refl _) _) ?_ ?_
      · unfold phaseP; rw [if_neg (by simp)]; exact ⟨w3.heap.size, rfl, hx.size, Blk.new w3 46 [.int .i64 0, .int .i64 0, .int .i64 0, .int .i64 0, .int .i64 0, .slice none 0 0, .slice none 0 0, .int .u16 0, .int .u16 0, .slice none 0 0]⟩
      · intro j _ _ u hu
        refine RelO.of (w := w3) (FreshV.ptr (Nat.le_refl _)) ?_
        unfold phaseP at hu
        split at hu
        · exact hu.ltv
        · exact hu.ltv
    · refine phase_op 7 [] (by kernel_rfl) rfl (fun K hK => ?_)
      simp only [putsD]
      go_simp
      refine hK.out _ _ ((Below.refl _ _).alloc (Nat.le_refl _) _) ?_ ?_
      · unfold phaseP; rw [if_neg (by simp)]; exact ⟨w3.heap.size, rfl, hx.size, Blk.new w3 46 [.int .i64 0, .int .i64 0, .int .i64 0, .int .i64 0, .int .i64 0, .slice none 0 0, .slice none 0 0, .int .u16 0, .int .u16 0, .slice none 0 0]⟩
      · intro j _ _ u hu
        refine RelO.of (w := w3) (FreshV.ptr (Nat.le_refl _)) ?_
        unfold phaseP at hu
        split at hu
        · exact hu.ltv
        · exact hu.ltv
  case hend =>
    intro vs w3 hx hP hR
    have p2 := hP 2 (by simp)
    have p5 := hP 5 (by simp)
    have p6 := hP 6 (by simp)
    have p7 := hP 7 (by simp)
    have r67 := hR 6 (by simp) 7 (by simp) (by decide)
    have r62 := hR 6 (by simp) 2 (by simp) (by decide)
    have r65 := hR 6 (by simp) 5 (by simp) (by decide)
    have r72 := hR 7 (by simp) 2 (by simp) (by decide)
    have r75 := hR 7 (by simp) 5 (by simp) (by decide)
    unfold phaseP at p2 p5 p6 p7
    rw [if_pos (by simp)] at p2 p5
    rw [if_neg (by simp)] at p6 p7
    obtain ⟨r, i2, fr, gr, ar⟩ := p2
    obtain ⟨s, i5, fs, gs, as'⟩ := p5
    obtain ⟨g6, e6, l6, b6⟩ := p6
    obtain ⟨g7, e7, l7, b7⟩ := p7
    rw [e6, e7] at r67
    rw [e6] at r62 r65
    rw [e7] at r72 r75
    have n67 : g6 ≠ g7 := fun e => r67 g6 l6 (occ_ptr_self g6) (e ▸ occ_ptr_self g7)
    have o62 := hidden (r62 g6 l6 (occ_ptr_self g6))
    have o65 := hidden (r65 g6 l6 (occ_ptr_self g6))
    have o72 := hidden (r72 g7 l7 (occ_ptr_self g7))
    have o75 := hidden (r75 g7 l7 (occ_ptr_self g7))
    obtain ⟨r5, rc5, r6, rc6, r9, rc9, e2, -, -, -⟩ := i2.slices
    obtain ⟨s5, sc5, s6, sc6, s9, sc9, e5, -, -, -⟩ := i5.slices
    rw [e2] at i2 o62 o72
    rw [e5] at i5 o65 o75
    simp only [putsD]
    rw [e2, e5, e6, e7]
    try simp only [Act.put, List.setIfInBounds_toArray, List.set_cons_zero, List.set_cons_succ]
    have X3 := X1.ext hx
    have BB := below_then B hx
    have sz2 := hx.size
    replace q1 := q1.below hx
    have oq6 : Hid (¬ occ g6 (rqV q.fn q.loc q.cnt q.wat q.sub (.slice qb q.bits.length qcb) (.slice qv q.vals.length qcv) q.land q.lor)) := fun h => by have := oQ.out g6 h; omega
    have oq7 : Hid (¬ occ g7 (rqV q.fn q.loc q.cnt q.wat q.sub (.slice qb q.bits.length qcb) (.slice qv q.vals.length qcv) q.land q.lor)) := fun h => by have := oQ.out g7 h; omega
    clear hP hR r67 r62 r65 r72 r75 e2 e5 e6 e7 oQ X1 hx
    have FR := hidden fr
    have GR := hidden gr
    have AR := hidden ar
    have GS := hidden gs
    have AS := hidden as'
    clear fr gr ar fs gs as' hu hv BY BZ
    have szw : w.heap.size ≤ w2.heap.size := B.size
    have k0 := b6.cell 0
    have k1 := b6.cell 1
    have k2 := b6.cell 2
    have k3 := b6.cell 3
    have k4 := b6.cell 4
    have k5 := b6.cell 5
    have k6 := b6.cell 6
    have k7 := b6.cell 7
    have k8 := b6.cell 8
    have k9 := b6.cell 9
    simp at k0 k1 k2 k3 k4 k5 k6 k7 k8 k9
    have fk := b6.frozen
    have gk := b6.lt
    refine c_move 8 (by kernel_rfl) (c_op 8 [(4, (fun w' => Box w' gQ q.fn q.loc q.cnt q.wat q.sub (.slice qb q.bits.length qcb) (.slice qv q.vals.length qcv) q.land q.lor))] (by kernel_rfl) rfl (by kernel_rfl) (fun K hK => ?_))
    go_simp
    have DV : Dev w3.heap.size g6 w3 ((((((((((w3.setCell ⟨g6, 0, none⟩ (.int .i64 r.fn)).setCell ⟨g6, 1, none⟩ (.int .i64 r.code)).setCell ⟨g6, 2, none⟩ (.int .i64 r.loc)).setCell ⟨g6, 3, none⟩ (.int .i64 r.cnt)).setCell ⟨g6, 4, none⟩ (.int .i64 r.sub)).setCell ⟨g6, 5, none⟩ (.slice r5 r.bits.length rc5)).setCell ⟨g6, 6, none⟩ (.slice r6 r.vals.length rc6)).setCell ⟨g6, 7, none⟩ (.int .u16 r.land.toNat)).setCell ⟨g6, 8, none⟩ (.int .u16 r.lor.toNat)).setCell ⟨g6, 9, none⟩ (.slice r9 r.data.length rc9)) := by
      repeat' (refine Dev.sets ?_ _)
      exact Dev.refl _ _ _
    have SZ : ((((((((((w3.setCell ⟨g6, 0, none⟩ (.int .i64 r.fn)).setCell ⟨g6, 1, none⟩ (.int .i64 r.code)).setCell ⟨g6, 2, none⟩ (.int .i64 r.loc)).setCell ⟨g6, 3, none⟩ (.int .i64 r.cnt)).setCell ⟨g6, 4, none⟩ (.int .i64 r.sub)).setCell ⟨g6, 5, none⟩ (.slice r5 r.bits.length rc5)).setCell ⟨g6, 6, none⟩ (.slice r6 r.vals.length rc6)).setCell ⟨g6, 7, none⟩ (.int .u16 r.land.toNat)).setCell ⟨g6, 8, none⟩ (.int .u16 r.lor.toNat)).setCell ⟨g6, 9, none⟩ (.slice r9 r.data.length rc9)).heap.size = w3.heap.size := by simp
    have bn := blk_set10 b6 (y0 := (.int .i64 r.fn)) (y1 := (.int .i64 r.code)) (y2 := (.int .i64 r.loc)) (y3 := (.int .i64 r.cnt)) (y4 := (.int .i64 r.sub)) (y5 := (.slice r5 r.bits.length rc5)) (y6 := (.slice r6 r.vals.length rc6)) (y7 := (.int .u16 r.land.toNat)) (y8 := (.int .u16 r.lor.toNat)) (y9 := (.slice r9 r.data.length rc9))
    clear k0 k1 k2 k3 k4 k5 k6 k7 k8 k9 fk gk
    have X4 := X3.below (DV.below (B' := w2.heap.size) (by omega) (by omega)) gq
    refine hK.out _ _ ⟨X4, trivial⟩ ?_
    clear K hK
    try simp only [Act.put, List.setIfInBounds_toArray, List.set_cons_zero, List.set_cons_succ]
    generalize ((((((((((w3.setCell ⟨g6, 0, none⟩ (.int .i64 r.fn)).setCell ⟨g6, 1, none⟩ (.int .i64 r.code)).setCell ⟨g6, 2, none⟩ (.int .i64 r.loc)).setCell ⟨g6, 3, none⟩ (.int .i64 r.cnt)).setCell ⟨g6, 4, none⟩ (.int .i64 r.sub)).setCell ⟨g6, 5, none⟩ (.slice r5 r.bits.length rc5)).setCell ⟨g6, 6, none⟩ (.slice r6 r.vals.length rc6)).setCell ⟨g6, 7, none⟩ (.int .u16 r.land.toNat)).setCell ⟨g6, 8, none⟩ (.int .u16 r.lor.toNat)).setCell ⟨g6, 9, none⟩ (.slice r9 r.data.length rc9)) = w4 at *
    replace b7 := b7.dev DV b7.lt (by omega)
    replace b6 := bn
    replace X3 := X4
    replace i2 := i2.dev o62.out DV
    replace i5 := i5.dev o65.out DV
    replace q1 := q1.dev oq6.out DV
    replace BB := BB.trans (DV.below (B' := w.heap.size) (by omega) (by omega))
    have szw4 : w2.heap.size ≤ w4.heap.size := by omega
    clear DV bn X4 SZ
    have k0 := b7.cell 0
    have k1 := b7.cell 1
    have k2 := b7.cell 2
    have k3 := b7.cell 3
    have k4 := b7.cell 4
    have k5 := b7.cell 5
    have k6 := b7.cell 6
    have k7 := b7.cell 7
    have k8 := b7.cell 8
    have k9 := b7.cell 9
    simp at k0 k1 k2 k3 k4 k5 k6 k7 k8 k9
    have fk := b7.frozen
    have gk := b7.lt
    refine c_move 9 (by kernel_rfl) (c_op 9 [] (by kernel_rfl) rfl (by kernel_rfl) (fun K hK => ?_))
    go_simp
    have DV : Dev w4.heap.size g7 w4 ((((((((((w4.setCell ⟨g7, 0, none⟩ (.int .i64 s.fn)).setCell ⟨g7, 1, none⟩ (.int .i64 s.code)).setCell ⟨g7, 2, none⟩ (.int .i64 s.loc)).setCell ⟨g7, 3, none⟩ (.int .i64 s.cnt)).setCell ⟨g7, 4, none⟩ (.int .i64 s.sub)).setCell ⟨g7, 5, none⟩ (.slice s5 s.bits.length sc5)).setCell ⟨g7, 6, none⟩ (.slice s6 s.vals.length sc6)).setCell ⟨g7, 7, none⟩ (.int .u16 s.land.toNat)).setCell ⟨g7, 8, none⟩ (.int .u16 s.lor.toNat)).setCell ⟨g7, 9, none⟩ (.slice s9 s.data.length sc9)) := by
      repeat' (refine Dev.sets ?_ _)
      exact Dev.refl _ _ _
    have SZ : ((((((((((w4.setCell ⟨g7, 0, none⟩ (.int .i64 s.fn)).setCell ⟨g7, 1, none⟩ (.int .i64 s.code)).setCell ⟨g7, 2, none⟩ (.int .i64 s.loc)).setCell ⟨g7, 3, none⟩ (.int .i64 s.cnt)).setCell ⟨g7, 4, none⟩ (.int .i64 s.sub)).setCell ⟨g7, 5, none⟩ (.slice s5 s.bits.length sc5)).setCell ⟨g7, 6, none⟩ (.slice s6 s.vals.length sc6)).setCell ⟨g7, 7, none⟩ (.int .u16 s.land.toNat)).setCell ⟨g7, 8, none⟩ (.int .u16 s.lor.toNat)).setCell ⟨g7, 9, none⟩ (.slice s9 s.data.length sc9)).heap.size = w4.heap.size := by simp
    have bn := blk_set10 b7 (y0 := (.int .i64 s.fn)) (y1 := (.int .i64 s.code)) (y2 := (.int .i64 s.loc)) (y3 := (.int .i64 s.cnt)) (y4 := (.int .i64 s.sub)) (y5 := (.slice s5 s.bits.length sc5)) (y6 := (.slice s6 s.vals.length sc6)) (y7 := (.int .u16 s.land.toNat)) (y8 := (.int .u16 s.lor.toNat)) (y9 := (.slice s9 s.data.length sc9))
    clear k0 k1 k2 k3 k4 k5 k6 k7 k8 k9 fk gk
    have X4 := X3.below (DV.below (B' := w2.heap.size) (by omega) (by omega)) gq
    refine hK.out _ _ trivial ?_
    clear K hK
    try simp only [Act.put, List.setIfInBounds_toArray, List.set_cons_zero, List.set_cons_succ]
    generalize ((((((((((w4.setCell ⟨g7, 0, none⟩ (.int .i64 s.fn)).setCell ⟨g7, 1, none⟩ (.int .i64 s.code)).setCell ⟨g7, 2, none⟩ (.int .i64 s.loc)).setCell ⟨g7, 3, none⟩ (.int .i64 s.cnt)).setCell ⟨g7, 4, none⟩ (.int .i64 s.sub)).setCell ⟨g7, 5, none⟩ (.slice s5 s.bits.length sc5)).setCell ⟨g7, 6, none⟩ (.slice s6 s.vals.length sc6)).setCell ⟨g7, 7, none⟩ (.int .u16 s.land.toNat)).setCell ⟨g7, 8, none⟩ (.int .u16 s.lor.toNat)).setCell ⟨g7, 9, none⟩ (.slice s9 s.data.length sc9)) = w5 at *
    replace b6 := b6.dev DV b6.lt (by omega)
    replace b7 := bn
    replace X3 := X4
    replace i2 := i2.dev o72.out DV
    replace i5 := i5.dev o75.out DV
    replace q1 := q1.dev oq7.out DV
    replace BB := BB.trans (DV.below (B' := w.heap.size) (by omega) (by omega))
    have szw5 : w2.heap.size ≤ w5.heap.size := by omega
    clear DV bn X4 SZ
    refine c_done (by kernel_rfl) ?_
    have Y6 : Hid (BoxP w5 g6 r.fn r.code r.loc r.cnt r.sub (.slice r5 r.bits.length rc5) (.slice r6 r.vals.length rc6) r.land r.lor (.slice r9 r.data.length rc9)) := ⟨b6.lt, b6.cell 0, b6.cell 1, b6.cell 2, b6.cell 3, b6.cell 4, b6.cell 5, b6.cell 6, b6.cell 7, b6.cell 8, b6.cell 9⟩
    have Y7 : Hid (BoxP w5 g7 s.fn s.code s.loc s.cnt s.sub (.slice s5 s.bits.length sc5) (.slice s6 s.vals.length sc6) s.land s.lor (.slice s9 s.data.length sc9)) := ⟨b7.lt, b7.cell 0, b7.cell 1, b7.cell 2, b7.cell 3, b7.cell 4, b7.cell 5, b7.cell 6, b7.cell 7, b7.cell 8, b7.cell 9⟩
    have YQ := hidden X3
    clear b6 b7 X3 o62 o65 o72 o75 oq6 oq7 szw4 szw5 sz2 l6 l7
    generalize w2.heap.size = s2 at *
    obtain ⟨lc, c0, c1, c2, c3, c4, c5, c6, c7, c8, c9⟩ := Y6.out
    go_wp2_with fail
    clear lc c0 c1 c2 c3 c4 c5 c6 c7 c8 c9
    refine (bytes_rep _ r _ i2).mono ?_
    rintro e w6 ⟨va, rfl, ra, E⟩
    rw [GR.out]
    rw [layR_0 GR.out] at ra
    replace BB := below_then BB E
    replace Y6 := hidden (Y6.out.ext E)
    replace Y7 := hidden (Y7.out.ext E)
    replace YQ := hidden (YQ.out.ext E)
    replace i2 := i2.below E
    replace i5 := i5.below E
    replace q1 := q1.below E
    clear E
    obtain ⟨lc, c0, c1, c2, c3, c4, c5, c6, c7, c8, c9⟩ := Y7.out
    go_wp2_with fail
    clear lc c0 c1 c2 c3 c4 c5 c6 c7 c8 c9
    refine (bytes_rep _ s _ i5).mono ?_
    rintro e w7 ⟨vb, rfl, rb, E⟩
    rw [GS.out]
    rw [layR_0 GS.out] at rb
    replace BB := below_then BB E
    replace Y6 := hidden (Y6.out.ext E)
    replace Y7 := hidden (Y7.out.ext E)
    replace YQ := hidden (YQ.out.ext E)
    replace i2 := i2.below E
    replace i5 := i5.below E
    replace q1 := q1.below E
    replace ra := ra.below E
    clear E
    obtain ⟨lc, c0, c1, c2, c3, c4, c5, c6, c7, c8⟩ := YQ.out
    go_wp2_with fail
    clear lc c0 c1 c2 c3 c4 c5 c6 c7 c8
    refine (read_rep _ _ (layA r) q _ ra q1 (by omega)).mono ?_
    rintro e w8 ⟨v8, rfl, i8, E, -⟩
    have MT := made_take FR.out GR.out AR.out KN.out
    rw [MT.1]
    rw [MT.2] at i8
    clear MT
    replace BB := below_then BB E
    replace Y6 := hidden (Y6.out.ext E)
    replace Y7 := hidden (Y7.out.ext E)
    replace YQ := hidden (YQ.out.ext E)
    replace i2 := i2.below E
    replace i5 := i5.below E
    replace q1 := q1.below E
    replace ra := ra.below E
    replace rb := rb.below E
    clear E
    obtain ⟨x5, xc5, x6, xc6, x9, xc9, rfl, -, -, -⟩ := i8.slices
    have Y8 := hidden (BoxP.new w8 r.fn r.code r.loc r.cnt r.sub (.slice x5 r.bits.length xc5) (.slice x6 r.vals.length xc6) r.land r.lor (.slice x9 r.data.length xc9) 46)
    have EA := (Below.refl w8.heap.size w8).alloc (Nat.le_refl _) (.cells #[.int .i64 r.fn, .int .i64 r.code, .int .i64 r.loc, .int .i64 r.cnt, .int .i64 r.sub, .slice x5 r.bits.length xc5, .slice x6 r.vals.length xc6, .int .u16 r.land.toNat, .int .u16 r.lor.toNat, .slice x9 r.data.length xc9] 46)
    replace BB := below_then BB EA
    replace Y6 := hidden (Y6.out.ext EA)
    replace Y7 := hidden (Y7.out.ext EA)
    replace YQ := hidden (YQ.out.ext EA)
    replace i2 := i2.below EA
    replace i5 := i5.below EA
    replace q1 := q1.below EA
    replace ra := ra.below EA
    replace rb := rb.below EA
    replace i8 := i8.below EA
    clear EA
    clear YQ q1
    obtain ⟨Dd, hD⟩ : ∃ D, decide (r = s) = D := ⟨_, rfl⟩
    have hSS : (layA r == layA s) = Dd := by rw [← hD]; exact layA_same GR.out GS.out AR.out AS.out
    have HD := hidden hD
    have HSS := hidden hSS
    clear hD hSS
    have HCA := hidden (fun w' (h : Row w' va ((layA r).map bV)) => conv_row (P := Try.prog) h 34 9 5 Try.underlying34 Try.underlying5 Try.underlying9)
    have HCB := hidden (fun w' (h : Row w' vb ((layA s).map bV)) => conv_row (P := Try.prog) h 34 9 5 Try.underlying34 Try.underlying5 Try.underlying9)
    go_wp2
    refine wp_region_pi [(0, true), (1, true), (2, true), (3, true), (4, true), (5, true), (6, true), (7, true), (8, true), (9, true), (10, true), (11, true), (12, true), (13, false), (14, true), (15, true), (16, true), (17, true), (18, true), (19, true), (20, true), (21, true), (22, true), (23, false), (24, true), (25, true), (26, true), (27, true), (28, true), (30, true), (31, true), (29, false), (32, false), (33, true), (34, true), (35, true), (36, false), (37, true), (38, true)] (by kernel_rfl) (by kernel_rfl) (by kernel_rfl) (fun _ _ _ d _ h => by cases d <;> exact h) ?_
    have ED := (Below.refl (w8.alloc (.cells #[.int .i64 r.fn, .int .i64 r.code, .int .i64 r.loc, .int .i64 r.cnt, .int .i64 r.sub, .slice x5 r.bits.length xc5, .slice x6 r.vals.length xc6, .int .u16 r.land.toNat, .int .u16 r.lor.toNat, .slice x9 r.data.length xc9] 46)).heap.size (w8.alloc (.cells #[.int .i64 r.fn, .int .i64 r.code, .int .i64 r.loc, .int .i64 r.cnt, .int .i64 r.sub, .slice x5 r.bits.length xc5, .slice x6 r.vals.length xc6, .int .u16 r.land.toNat, .int .u16 r.lor.toNat, .slice x9 r.data.length xc9] 46))).drew
    replace BB := below_then BB ED
    replace Y6 := hidden (Y6.out.ext ED)
    replace Y7 := hidden (Y7.out.ext ED)
    replace i2 := i2.below ED
    replace i5 := i5.below ED
    replace ra := ra.below ED
    replace rb := rb.below ED
    replace i8 := i8.below ED
    replace Y8 := hidden (Y8.out.ext ED)
    clear ED
    generalize (w8.alloc (.cells #[.int .i64 r.fn, .int .i64 r.code, .int .i64 r.loc, .int .i64 r.cnt, .int .i64 r.sub, .slice x5 r.bits.length xc5, .slice x6 r.vals.length xc6, .int .u16 r.land.toNat, .int .u16 r.lor.toNat, .slice x9 r.data.length xc9] 46)).drew = c0 at *
    have x0 := Ext.refl c0
    have BX := hidden (fun w' (hx : Ext c0 w') => (⟨Y6.out.ext hx, Y7.out.ext hx, Y8.out.ext hx, HCA.out w' (ra.below hx), HCB.out w' (rb.below hx)⟩ : _ ∧ _ ∧ _ ∧ _ ∧ _))
    iterate 13 (first | (refine pi_pure x0 rfl (by kernel_rfl) (fun w' => by have hss := HSS.out; go_simp; with_reducible rfl) ?_; try simp only [Act.put, List.setIfInBounds_toArray, List.set_cons_zero, List.set_cons_succ]) | (refine pi_read x0 rfl (by kernel_rfl) (fun w' hx => by obtain ⟨⟨-, a0, a1, a2, a3, a4, a5, a6, a7, a8, a9⟩, ⟨-, b0, b1, b2, b3, b4, b5, b6, b7, b8, b9⟩, ⟨-, e0, e1, e2, e3, e4, e5, e6, e7, e8, e9⟩, ca, cb⟩ := BX.out w' hx; go_simp; with_reducible rfl) ?_; try simp only [Act.put, List.setIfInBounds_toArray, List.set_cons_zero, List.set_cons_succ]))
    refine pi_move rfl (by kernel_rfl) (fun K hK => ?_)
    go_wp2_with fail
    refine (alike_ref _ _ r r _ i8 i2).mono ?_
    rintro e c1 ⟨rfl, E1⟩
    rw [show decide (r = r) = true by simp]
    go_simp
    refine hK.out _ _ E1 ?_
    clear K hK
    try simp only [Act.put, List.setIfInBounds_toArray, List.set_cons_zero, List.set_cons_succ]
    replace BX := hidden (fun w' (hx : Ext c1 w') => BX.out w' (Ext.trans E1 hx))
    have x1 := Ext.refl c1
    iterate 9 (first | (refine pi_pure E1 rfl (by kernel_rfl) (fun w' => by have hss := HSS.out; go_simp; with_reducible rfl) ?_; try simp only [Act.put, List.setIfInBounds_toArray, List.set_cons_zero, List.set_cons_succ]) | (refine pi_read E1 rfl (by kernel_rfl) (fun w' hx => by obtain ⟨⟨-, a0, a1, a2, a3, a4, a5, a6, a7, a8, a9⟩, ⟨-, b0, b1, b2, b3, b4, b5, b6, b7, b8, b9⟩, ⟨-, e0, e1, e2, e3, e4, e5, e6, e7, e8, e9⟩, ca, cb⟩ := BX.out w' hx; go_simp; with_reducible rfl) ?_; try simp only [Act.put, List.setIfInBounds_toArray, List.set_cons_zero, List.set_cons_succ]) | (refine pi_pure x1 rfl (by kernel_rfl) (fun w' => by have hss := HSS.out; go_simp; with_reducible rfl) ?_; try simp only [Act.put, List.setIfInBounds_toArray, List.set_cons_zero, List.set_cons_succ]) | (refine pi_read x1 rfl (by kernel_rfl) (fun w' hx => by obtain ⟨⟨-, a0, a1, a2, a3, a4, a5, a6, a7, a8, a9⟩, ⟨-, b0, b1, b2, b3, b4, b5, b6, b7, b8, b9⟩, ⟨-, e0, e1, e2, e3, e4, e5, e6, e7, e8, e9⟩, ca, cb⟩ := BX.out w' hx; go_simp; with_reducible rfl) ?_; try simp only [Act.put, List.setIfInBounds_toArray, List.set_cons_zero, List.set_cons_succ]))
    refine pi_move rfl (by kernel_rfl) (fun K hK => ?_)
    go_wp2_with fail
    refine (alike_ref _ _ r s _ (i2.below E1) (i5.below E1)).mono ?_
    rintro e c2 ⟨rfl, E2⟩
    rw [HD.out]
    go_simp
    refine hK.out _ _ E2 ?_
    clear K hK
    try simp only [Act.put, List.setIfInBounds_toArray, List.set_cons_zero, List.set_cons_succ]
    replace BX := hidden (fun w' (hx : Ext c2 w') => BX.out w' (Ext.trans E2 hx))
    have x2 := Ext.refl c2
    have hbb : (Dd == Dd) = true := by simp
    iterate 7 (first | (refine pi_pure E2 rfl (by kernel_rfl) (fun w' => by have hss := HSS.out; go_simp; with_reducible rfl) ?_; try simp only [Act.put, List.setIfInBounds_toArray, List.set_cons_zero, List.set_cons_succ]) | (refine pi_read E2 rfl (by kernel_rfl) (fun w' hx => by obtain ⟨⟨-, a0, a1, a2, a3, a4, a5, a6, a7, a8, a9⟩, ⟨-, b0, b1, b2, b3, b4, b5, b6, b7, b8, b9⟩, ⟨-, e0, e1, e2, e3, e4, e5, e6, e7, e8, e9⟩, ca, cb⟩ := BX.out w' hx; go_simp; with_reducible rfl) ?_; try simp only [Act.put, List.setIfInBounds_toArray, List.set_cons_zero, List.set_cons_succ]) | (refine pi_pure x2 rfl (by kernel_rfl) (fun w' => by have hss := HSS.out; go_simp; with_reducible rfl) ?_; try simp only [Act.put, List.setIfInBounds_toArray, List.set_cons_zero, List.set_cons_succ]) | (refine pi_read x2 rfl (by kernel_rfl) (fun w' hx => by obtain ⟨⟨-, a0, a1, a2, a3, a4, a5, a6, a7, a8, a9⟩, ⟨-, b0, b1, b2, b3, b4, b5, b6, b7, b8, b9⟩, ⟨-, e0, e1, e2, e3, e4, e5, e6, e7, e8, e9⟩, ca, cb⟩ := BX.out w' hx; go_simp; with_reducible rfl) ?_; try simp only [Act.put, List.setIfInBounds_toArray, List.set_cons_zero, List.set_cons_succ]))
    refine pi_move rfl (by kernel_rfl) (fun K hK => ?_)
    go_wp2_with fail
    refine (same_rep _ _ r s _ ((i2.below E1).below E2) ((i5.below E1).below E2)).mono ?_
    rintro e c3 ⟨rfl, E3⟩
    rw [HD.out]
    go_simp
    refine hK.out _ _ E3 ?_
    clear K hK
    try simp only [Act.put, List.setIfInBounds_toArray, List.set_cons_zero, List.set_cons_succ]
    refine pi_move rfl (by kernel_rfl) (fun K hK => ?_)
    go_wp2_with fail
    refine (alike_ref _ _ r s _ (((i2.below E1).below E2).below E3) (((i5.below E1).below E2).below E3)).mono ?_
    rintro e c4 ⟨rfl, E4⟩
    rw [HD.out]
    go_simp
    refine hK.out _ _ (Ext.trans E3 E4) ?_
    clear K hK
    try simp only [Act.put, List.setIfInBounds_toArray, List.set_cons_zero, List.set_cons_succ]
    have E34 := Ext.trans E3 E4
    replace BX := hidden (fun w' (hx : Ext c4 w') => BX.out w' (Ext.trans E34 hx))
    have x4 := Ext.refl c4
    iterate 3 (first | (refine pi_pure E34 rfl (by kernel_rfl) (fun w' => by have hss := HSS.out; go_simp; with_reducible rfl) ?_; try simp only [Act.put, List.setIfInBounds_toArray, List.set_cons_zero, List.set_cons_succ]) | (refine pi_read E34 rfl (by kernel_rfl) (fun w' hx => by obtain ⟨⟨-, a0, a1, a2, a3, a4, a5, a6, a7, a8, a9⟩, ⟨-, b0, b1, b2, b3, b4, b5, b6, b7, b8, b9⟩, ⟨-, e0, e1, e2, e3, e4, e5, e6, e7, e8, e9⟩, ca, cb⟩ := BX.out w' hx; go_simp; with_reducible rfl) ?_; try simp only [Act.put, List.setIfInBounds_toArray, List.set_cons_zero, List.set_cons_succ]) | (refine pi_pure x4 rfl (by kernel_rfl) (fun w' => by have hss := HSS.out; go_simp; with_reducible rfl) ?_; try simp only [Act.put, List.setIfInBounds_toArray, List.set_cons_zero, List.set_cons_succ]) | (refine pi_read x4 rfl (by kernel_rfl) (fun w' hx => by obtain ⟨⟨-, a0, a1, a2, a3, a4, a5, a6, a7, a8, a9⟩, ⟨-, b0, b1, b2, b3, b4, b5, b6, b7, b8, b9⟩, ⟨-, e0, e1, e2, e3, e4, e5, e6, e7, e8, e9⟩, ca, cb⟩ := BX.out w' hx; go_simp; with_reducible rfl) ?_; try simp only [Act.put, List.setIfInBounds_toArray, List.set_cons_zero, List.set_cons_succ]))
    refine pi_move rfl (by kernel_rfl) (fun K hK => ?_)
    go_wp2_with fail
    refine (known_law4 _).mono ?_
    rintro e c5 ⟨rfl, E5⟩
    go_simp
    refine hK.out _ _ (Ext.trans E34 E5) ?_
    clear K hK
    try simp only [Act.put, List.setIfInBounds_toArray, List.set_cons_zero, List.set_cons_succ]
    have E35 := Ext.trans E34 E5
    iterate 2 (refine pi_pure E35 rfl (by kernel_rfl) (fun w' => by go_simp; with_reducible rfl) ?_; try simp only [Act.put, List.setIfInBounds_toArray, List.set_cons_zero, List.set_cons_succ])
    refine pi_nil ?_
    replace BB := below_then BB (Ext.trans (Ext.trans E1 E2) E35)
    go_wp2
    go_ret
    exact ⟨rfl, BB⟩

end Go.Proofs.Ythiheimpmnihcaa
