/- PduCounts: the walk. -/
import Derived.Test.YtbkkinmnokfofaaV0
import Derived.Deep.CutBlock
namespace Go.Proofs.Ytbkkinmnokfofaa
open Go.RowKit

theorem count_len (q : Rq) (h : countsB q = true) : ((bytesQ q).length : Int) ≤ 253 := by
  simp only [countsB, Bool.and_eq_true, decide_eq_true_eq] at h
  obtain ⟨hr, hc⟩ := h
  obtain ⟨hk, -, -, hl⟩ := right_parts hr
  obtain ⟨f, a, c, p, s, bs, vs, m, o⟩ := q
  simp only at hk
  rcases known_cases hk with rfl | rfl | rfl | rfl | rfl | rfl | rfl | rfl | rfl | rfl | rfl | rfl
  all_goals
    simp [cntB] at hc
    simp [listB] at hl
    simp [bytesQ, bodyQ, pw, cntL, packL_len, bytesL_len]
    try omega
theorem blk_box {w : World} {g : Nat} {e : TypeId} {f a c p s : Int} {vb vv : Value} {m o : UInt16} (h : Blk w g e [.int .i64 f, .int .i64 a, .int .i64 c, .int .i64 p, .int .i64 s, vb, vv, .int .u16 m.toNat, .int .u16 o.toNat]) : Box w g f a c p s vb vv m o :=
  ⟨h.lt, h.cell 0, h.cell 1, h.cell 2, h.cell 3, h.cell 4, h.cell 5, h.cell 6, h.cell 7, h.cell 8⟩
theorem zer_row_b (w : World) (k : Nat) (h : k ≤ 100000) (g : Nat) (hg : g = w.heap.size) : Row (w.alloc (.cells (zer k (.bool false)) 4)) (.slice (some ⟨g, 0, none⟩) k k) ((List.replicate k false).map Value.bool) := by
  subst hg
  have := (zer_blk w k (.bool false) 4).row k (by simp) (by unfold maxLen; omega)
  simpa using this
theorem zer_row_w (w : World) (k : Nat) (h : k ≤ 100000) (g : Nat) (hg : g = w.heap.size) : Row (w.alloc (.cells (zer k (.int .u16 0)) 24)) (.slice (some ⟨g, 0, none⟩) k k) ((List.replicate k (0 : UInt16)).map wV) := by
  subst hg
  have := (zer_blk w k (.int .u16 0) 24).row k (by simp) (by unfold maxLen; omega)
  have e : (List.replicate k (0 : UInt16)).map wV = List.replicate k (.int .u16 0) := by rw [List.map_replicate]; rfl
  rw [e]
  simpa using this

set_option maxRecDepth 100000 in
set_option maxHeartbeats 8000000 in
theorem counts_walk (HR : ReqOk) (t : Value) (x : List Int) (n : Int) (w : World) (ht : Row w t (x.map iV)) (bx : ∀ n ∈ x, -9223372036854775808 ≤ n ∧ n ≤ 9223372036854775807) :
    Calls Try.prog 6 #[t, .int .i64 n] w fun e w' => e = .returned (.bool true) ∧ Below w.heap.size w w' := by
  obtain ⟨ta, tc, rfl, -⟩ := id ht
  simp only [List.length_map] at ht ⊢
  have T1 := hidden (tap_new w ta x.length tc x ht bx)
  have HRR := hidden HR
  have hk : bits .and .i64 n 2047 = n % 2048 := i64_and_mask n 11 (by decide)
  obtain ⟨k, hkn⟩ : ∃ k : Nat, n % 2048 = (k : Int) := ⟨(n % 2048).toNat, by omega⟩
  have hk3 : k < 2048 := by omega
  rw [hkn] at hk
  clear ht bx HR hkn
  go_enter Try.func6, Try.ntmps6
  go_wp2_with fail
  refine (HRR.out _ _ x _ T1.out (by simp)).mono ?_
  rintro e w1 ⟨v1, rfl, q, q1, rp, -, -, nq, D1⟩
  have B1 : Below w.heap.size w w1 := (((Below.refl w.heap.size w).alloc (Nat.le_refl _) (.cells #[.slice ta x.length tc, .int .i64 0] 31))).trans (D1.below (by omega) (Nat.le_refl _))
  have KN := (right_parts rp).1
  clear D1 T1 rp HRR nq
  obtain ⟨qb, qcb, qv, qcv, rfl, -, -⟩ := q1.slices
  obtain ⟨f, a, c, p, s, bs, vs, mm, oo⟩ := q
  obtain ⟨vb', vv', hE, hbr, hvr⟩ := q1
  simp only [rqV, Value.agg.injEq, Array.mk.injEq, List.cons.injEq, and_true, true_and] at hE
  obtain ⟨rfl, rfl⟩ := hE
  simp only at KN hbr hvr
  have hb1 := B1.size
  have E1 := (Below.refl w1.heap.size w1).alloc (Nat.le_refl _) (.cells #[.int .i64 f, .int .i64 a, .int .i64 c, .int .i64 p, .int .i64 s, .slice qb bs.length qcb, .slice qv vs.length qcv, .int .u16 mm.toNat, .int .u16 oo.toNat] 26)
  have X1 := Blk.new w1 26 [.int .i64 f, .int .i64 a, .int .i64 c, .int .i64 p, .int .i64 s, .slice qb bs.length qcb, .slice qv vs.length qcv, .int .u16 mm.toNat, .int .u16 oo.toNat]
  have HBR := hidden hbr
  have HVR := hidden hvr
  clear hbr hvr
  have HE1 := hidden E1
  clear E1
  go_upto_block 0 with fail
  go_cut [] from 18 to 49 (fun wx => ∃ (q' : Rq) (xb xv : Value), Blk wx w1.heap.size 26 [.int .i64 q'.fn, .int .i64 q'.loc, .int .i64 q'.cnt, .int .i64 q'.wat, .int .i64 q'.sub, xb, xv, .int .u16 q'.land.toNat, .int .u16 q'.lor.toNat] ∧ Row wx xb (q'.bits.map Value.bool) ∧ Row wx xv (q'.vals.map wV) ∧ Below w1.heap.size w1 wx)
  case first =>
    have K0 := known_cases KN
    clear KN
    rcases K0 with rfl | rfl | rfl | rfl | rfl | rfl | rfl | rfl | rfl | rfl | rfl | rfl
    · go_wp2_with fail
      go_meet
      have E := (Below.refl w1.heap.size w1).alloc (Nat.le_refl _) (.cells #[.int .i64 1, .int .i64 a, .int .i64 k, .int .i64 p, .int .i64 s, .slice qb bs.length qcb, .slice qv vs.length qcv, .int .u16 mm.toNat, .int .u16 oo.toNat] 26)
      exact ⟨⟨1, a, k, p, s, bs, vs, mm, oo⟩, .slice qb bs.length qcb, .slice qv vs.length qcv, Blk.new w1 26 [.int .i64 1, .int .i64 a, .int .i64 k, .int .i64 p, .int .i64 s, .slice qb bs.length qcb, .slice qv vs.length qcv, .int .u16 mm.toNat, .int .u16 oo.toNat], HBR.out.below E, HVR.out.below E, E⟩
    · go_wp2_with fail
      go_meet
      have E := (Below.refl w1.heap.size w1).alloc (Nat.le_refl _) (.cells #[.int .i64 2, .int .i64 a, .int .i64 k, .int .i64 p, .int .i64 s, .slice qb bs.length qcb, .slice qv vs.length qcv, .int .u16 mm.toNat, .int .u16 oo.toNat] 26)
      exact ⟨⟨2, a, k, p, s, bs, vs, mm, oo⟩, .slice qb bs.length qcb, .slice qv vs.length qcv, Blk.new w1 26 [.int .i64 2, .int .i64 a, .int .i64 k, .int .i64 p, .int .i64 s, .slice qb bs.length qcb, .slice qv vs.length qcv, .int .u16 mm.toNat, .int .u16 oo.toNat], HBR.out.below E, HVR.out.below E, E⟩
    · go_wp2_with fail
      go_meet
      have E := (Below.refl w1.heap.size w1).alloc (Nat.le_refl _) (.cells #[.int .i64 3, .int .i64 a, .int .i64 k, .int .i64 p, .int .i64 s, .slice qb bs.length qcb, .slice qv vs.length qcv, .int .u16 mm.toNat, .int .u16 oo.toNat] 26)
      exact ⟨⟨3, a, k, p, s, bs, vs, mm, oo⟩, .slice qb bs.length qcb, .slice qv vs.length qcv, Blk.new w1 26 [.int .i64 3, .int .i64 a, .int .i64 k, .int .i64 p, .int .i64 s, .slice qb bs.length qcb, .slice qv vs.length qcv, .int .u16 mm.toNat, .int .u16 oo.toNat], HBR.out.below E, HVR.out.below E, E⟩
    · go_wp2_with fail
      go_meet
      have E := (Below.refl w1.heap.size w1).alloc (Nat.le_refl _) (.cells #[.int .i64 4, .int .i64 a, .int .i64 k, .int .i64 p, .int .i64 s, .slice qb bs.length qcb, .slice qv vs.length qcv, .int .u16 mm.toNat, .int .u16 oo.toNat] 26)
      exact ⟨⟨4, a, k, p, s, bs, vs, mm, oo⟩, .slice qb bs.length qcb, .slice qv vs.length qcv, Blk.new w1 26 [.int .i64 4, .int .i64 a, .int .i64 k, .int .i64 p, .int .i64 s, .slice qb bs.length qcb, .slice qv vs.length qcv, .int .u16 mm.toNat, .int .u16 oo.toNat], HBR.out.below E, HVR.out.below E, E⟩
    · go_wp2_with fail
      go_meet
      have E := (Below.refl w1.heap.size w1).alloc (Nat.le_refl _) (.cells #[.int .i64 5, .int .i64 a, .int .i64 c, .int .i64 p, .int .i64 s, .slice qb bs.length qcb, .slice qv vs.length qcv, .int .u16 mm.toNat, .int .u16 oo.toNat] 26)
      exact ⟨⟨5, a, c, p, s, bs, vs, mm, oo⟩, .slice qb bs.length qcb, .slice qv vs.length qcv, Blk.new w1 26 [.int .i64 5, .int .i64 a, .int .i64 c, .int .i64 p, .int .i64 s, .slice qb bs.length qcb, .slice qv vs.length qcv, .int .u16 mm.toNat, .int .u16 oo.toNat], HBR.out.below E, HVR.out.below E, E⟩
    · go_wp2_with fail
      go_meet
      have E := (Below.refl w1.heap.size w1).alloc (Nat.le_refl _) (.cells #[.int .i64 6, .int .i64 a, .int .i64 c, .int .i64 p, .int .i64 s, .slice qb bs.length qcb, .slice qv vs.length qcv, .int .u16 mm.toNat, .int .u16 oo.toNat] 26)
      exact ⟨⟨6, a, c, p, s, bs, vs, mm, oo⟩, .slice qb bs.length qcb, .slice qv vs.length qcv, Blk.new w1 26 [.int .i64 6, .int .i64 a, .int .i64 c, .int .i64 p, .int .i64 s, .slice qb bs.length qcb, .slice qv vs.length qcv, .int .u16 mm.toNat, .int .u16 oo.toNat], HBR.out.below E, HVR.out.below E, E⟩
    · go_wp2_with fail
      go_meet
      have E := (Below.refl w1.heap.size w1).alloc (Nat.le_refl _) (.cells #[.int .i64 8, .int .i64 a, .int .i64 c, .int .i64 p, .int .i64 s, .slice qb bs.length qcb, .slice qv vs.length qcv, .int .u16 mm.toNat, .int .u16 oo.toNat] 26)
      exact ⟨⟨8, a, c, p, s, bs, vs, mm, oo⟩, .slice qb bs.length qcb, .slice qv vs.length qcv, Blk.new w1 26 [.int .i64 8, .int .i64 a, .int .i64 c, .int .i64 p, .int .i64 s, .slice qb bs.length qcb, .slice qv vs.length qcv, .int .u16 mm.toNat, .int .u16 oo.toNat], HBR.out.below E, HVR.out.below E, E⟩
    · have hmk := mk_zer 22 4 (.bool false) 1 Try.underlying22 info_bool rfl (k : Int) k rfl (by omega) (by omega)
      go_wp2
      refine h_begin 7 rfl (by kernel_rfl) ?_
      replace X1 := X1.drew
      have E := HE1.out.drew
      have lt := X1.lt
      generalize (w1.alloc (.cells #[.int .i64 15, .int .i64 a, .int .i64 c, .int .i64 p, .int .i64 s, .slice qb bs.length qcb, .slice qv vs.length qcv, .int .u16 mm.toNat, .int .u16 oo.toNat] 26)).drew = y0 at *
      refine h_pure trivial (by kernel_rfl) (fun _ _ _ d _ h => by cases d <;> exact h) 0 rfl (by kernel_rfl) (by kernel_rfl) (fun w' => by go_simp; with_reducible rfl) ?_; try simp only [Act.put, List.setIfInBounds_toArray, List.set_cons_zero, List.set_cons_succ]
      refine h_pure trivial (by kernel_rfl) (fun _ _ _ d _ h => by cases d <;> exact h) 1 rfl (by kernel_rfl) (by kernel_rfl) (fun w' => by go_simp; with_reducible rfl) ?_; try simp only [Act.put, List.setIfInBounds_toArray, List.set_cons_zero, List.set_cons_succ]
      refine h_pure trivial (by kernel_rfl) (fun _ _ _ d _ h => by cases d <;> exact h) 3 rfl (by kernel_rfl) (by kernel_rfl) (fun w' => by go_simp; with_reducible rfl) ?_; try simp only [Act.put, List.setIfInBounds_toArray, List.set_cons_zero, List.set_cons_succ]
      refine h_move2 2 4 (by kernel_rfl) (h_op 2 rfl (by kernel_rfl) (fun K hK => ?_)) (h_op 4 rfl (by kernel_rfl) (fun K hK => ?_))
      · skip
        go_simp
        have R := zer_row_b y0 k (by omega) _ rfl
        have Bl := (Below.refl y0.heap.size y0).alloc (Nat.le_refl _) (.cells (zer k (.bool false)) 4)
        have nv : NewV (w1.heap.size + 1) (.slice (some ⟨y0.heap.size, 0, none⟩) k k) := NewV.some _ _ _ _ _ (by omega)
        replace X1 := X1.below Bl lt
        replace E := E.trans (Bl.mono (by omega))
        replace lt := X1.lt
        refine hK.out _ _ trivial ?_
        clear K hK Bl
        try simp only [Act.put, List.setIfInBounds_toArray, List.set_cons_zero, List.set_cons_succ]
        generalize y0.alloc (.cells (zer k (.bool false)) 4) = y1 at *
        generalize y0.heap.size = bn at *
        refine h_move 4 (by kernel_rfl) (h_op 4 rfl (by kernel_rfl) (fun K hK => ?_))
        have e4 := X1.cell 2
        simp at e4
        have f4 := X1.frozen
        go_simp
        clear e4 f4
        replace X1 := X1.set 2 (.int .i64 k)
        simp at X1
        replace R := R.setCell_new (g := w1.heap.size) (o := 2) (u := (.int .i64 k)) nv (by omega)
        replace E := E.setCell (p := ⟨w1.heap.size, 2, none⟩) (Nat.le_refl _) (.int .i64 k)
        replace lt := X1.lt
        refine hK.out _ _ trivial ?_
        clear K hK
        try simp only [Act.put, List.setIfInBounds_toArray, List.set_cons_zero, List.set_cons_succ]
        generalize y1.setCell ⟨w1.heap.size, 2, none⟩ (.int .i64 k) = y2 at *
        refine h_pure trivial (by kernel_rfl) (fun _ _ _ d _ h => by cases d <;> exact h) 5 rfl (by kernel_rfl) (by kernel_rfl) (fun w' => by go_simp; with_reducible rfl) ?_; try simp only [Act.put, List.setIfInBounds_toArray, List.set_cons_zero, List.set_cons_succ]
        refine h_move 6 (by kernel_rfl) (h_op 6 rfl (by kernel_rfl) (fun K hK => ?_))
        have e4 := X1.cell 5
        simp at e4
        have f4 := X1.frozen
        go_simp
        clear e4 f4
        replace X1 := X1.set 5 (.slice (some ⟨bn, 0, none⟩) k k)
        simp at X1
        replace R := R.setCell_new (g := w1.heap.size) (o := 5) (u := (.slice (some ⟨bn, 0, none⟩) k k)) nv (by omega)
        replace E := E.setCell (p := ⟨w1.heap.size, 5, none⟩) (Nat.le_refl _) (.slice (some ⟨bn, 0, none⟩) k k)
        replace lt := X1.lt
        refine hK.out _ _ trivial ?_
        clear K hK
        try simp only [Act.put, List.setIfInBounds_toArray, List.set_cons_zero, List.set_cons_succ]
        generalize y2.setCell ⟨w1.heap.size, 5, none⟩ (.slice (some ⟨bn, 0, none⟩) k k) = y3 at *
        refine h_done (by kernel_rfl) ?_
        go_wp2_with fail
        go_meet
        exact ⟨⟨15, a, k, p, s, List.replicate k false, vs, mm, oo⟩, _, .slice qv vs.length qcv, X1, R, HVR.out.below E, E⟩
      · skip
        have e4 := X1.cell 2
        simp at e4
        have f4 := X1.frozen
        go_simp
        clear e4 f4
        replace X1 := X1.set 2 (.int .i64 k)
        simp at X1
        replace E := E.setCell (p := ⟨w1.heap.size, 2, none⟩) (Nat.le_refl _) (.int .i64 k)
        replace lt := X1.lt
        refine hK.out _ _ trivial ?_
        clear K hK
        try simp only [Act.put, List.setIfInBounds_toArray, List.set_cons_zero, List.set_cons_succ]
        generalize y0.setCell ⟨w1.heap.size, 2, none⟩ (.int .i64 k) = y1 at *
        refine h_move 2 (by kernel_rfl) (h_op 2 rfl (by kernel_rfl) (fun K hK => ?_))
        go_simp
        have R := zer_row_b y1 k (by omega) _ rfl
        have Bl := (Below.refl y1.heap.size y1).alloc (Nat.le_refl _) (.cells (zer k (.bool false)) 4)
        have nv : NewV (w1.heap.size + 1) (.slice (some ⟨y1.heap.size, 0, none⟩) k k) := NewV.some _ _ _ _ _ (by omega)
        replace X1 := X1.below Bl lt
        replace E := E.trans (Bl.mono (by omega))
        replace lt := X1.lt
        refine hK.out _ _ trivial ?_
        clear K hK Bl
        try simp only [Act.put, List.setIfInBounds_toArray, List.set_cons_zero, List.set_cons_succ]
        generalize y1.alloc (.cells (zer k (.bool false)) 4) = y2 at *
        generalize y1.heap.size = bn at *
        refine h_pure trivial (by kernel_rfl) (fun _ _ _ d _ h => by cases d <;> exact h) 5 rfl (by kernel_rfl) (by kernel_rfl) (fun w' => by go_simp; with_reducible rfl) ?_; try simp only [Act.put, List.setIfInBounds_toArray, List.set_cons_zero, List.set_cons_succ]
        refine h_move 6 (by kernel_rfl) (h_op 6 rfl (by kernel_rfl) (fun K hK => ?_))
        have e4 := X1.cell 5
        simp at e4
        have f4 := X1.frozen
        go_simp
        clear e4 f4
        replace X1 := X1.set 5 (.slice (some ⟨bn, 0, none⟩) k k)
        simp at X1
        replace R := R.setCell_new (g := w1.heap.size) (o := 5) (u := (.slice (some ⟨bn, 0, none⟩) k k)) nv (by omega)
        replace E := E.setCell (p := ⟨w1.heap.size, 5, none⟩) (Nat.le_refl _) (.slice (some ⟨bn, 0, none⟩) k k)
        replace lt := X1.lt
        refine hK.out _ _ trivial ?_
        clear K hK
        try simp only [Act.put, List.setIfInBounds_toArray, List.set_cons_zero, List.set_cons_succ]
        generalize y2.setCell ⟨w1.heap.size, 5, none⟩ (.slice (some ⟨bn, 0, none⟩) k k) = y3 at *
        refine h_done (by kernel_rfl) ?_
        go_wp2_with fail
        go_meet
        exact ⟨⟨15, a, k, p, s, List.replicate k false, vs, mm, oo⟩, _, .slice qv vs.length qcv, X1, R, HVR.out.below E, E⟩
    · obtain ⟨k1, hk1⟩ : ∃ j : Nat, (k : Int) % 128 = (j : Int) := ⟨k % 128, by omega⟩
      have hm1 : bits .and .i64 (k : Int) 127 = (k1 : Int) := (i64_and_mask k 7 (by decide)).trans hk1
      have hl1 : k1 < 128 := by omega
      clear hk1
      have hmk := mk_zer 23 24 (.int .u16 0) 2 Try.underlying23 info_u16 rfl (k1 : Int) k1 rfl (by omega) (by omega)
      go_wp2
      refine h_begin 9 rfl (by kernel_rfl) ?_
      replace X1 := X1.drew
      have E := HE1.out.drew
      have lt := X1.lt
      generalize (w1.alloc (.cells #[.int .i64 16, .int .i64 a, .int .i64 c, .int .i64 p, .int .i64 s, .slice qb bs.length qcb, .slice qv vs.length qcv, .int .u16 mm.toNat, .int .u16 oo.toNat] 26)).drew = y0 at *
      refine h_pure trivial (by kernel_rfl) (fun _ _ _ d _ h => by cases d <;> exact h) 0 rfl (by kernel_rfl) (by kernel_rfl) (fun w' => by go_simp; with_reducible rfl) ?_; try simp only [Act.put, List.setIfInBounds_toArray, List.set_cons_zero, List.set_cons_succ]
      refine h_pure trivial (by kernel_rfl) (fun _ _ _ d _ h => by cases d <;> exact h) 1 rfl (by kernel_rfl) (by kernel_rfl) (fun w' => by go_simp; with_reducible rfl) ?_; try simp only [Act.put, List.setIfInBounds_toArray, List.set_cons_zero, List.set_cons_succ]
      refine h_pure trivial (by kernel_rfl) (fun _ _ _ d _ h => by cases d <;> exact h) 2 rfl (by kernel_rfl) (by kernel_rfl) (fun w' => by go_simp; with_reducible rfl) ?_; try simp only [Act.put, List.setIfInBounds_toArray, List.set_cons_zero, List.set_cons_succ]
      refine h_pure trivial (by kernel_rfl) (fun _ _ _ d _ h => by cases d <;> exact h) 3 rfl (by kernel_rfl) (by kernel_rfl) (fun w' => by go_simp; with_reducible rfl) ?_; try simp only [Act.put, List.setIfInBounds_toArray, List.set_cons_zero, List.set_cons_succ]
      refine h_pure trivial (by kernel_rfl) (fun _ _ _ d _ h => by cases d <;> exact h) 5 rfl (by kernel_rfl) (by kernel_rfl) (fun w' => by go_simp; with_reducible rfl) ?_; try simp only [Act.put, List.setIfInBounds_toArray, List.set_cons_zero, List.set_cons_succ]
      refine h_move2 4 6 (by kernel_rfl) (h_op 4 rfl (by kernel_rfl) (fun K hK => ?_)) (h_op 6 rfl (by kernel_rfl) (fun K hK => ?_))
      · skip
        go_simp
        have R := zer_row_w y0 k1 (by omega) _ rfl
        have Bl := (Below.refl y0.heap.size y0).alloc (Nat.le_refl _) (.cells (zer k1 (.int .u16 0)) 24)
        have nv : NewV (w1.heap.size + 1) (.slice (some ⟨y0.heap.size, 0, none⟩) k1 k1) := NewV.some _ _ _ _ _ (by omega)
        replace X1 := X1.below Bl lt
        replace E := E.trans (Bl.mono (by omega))
        replace lt := X1.lt
        refine hK.out _ _ trivial ?_
        clear K hK Bl
        try simp only [Act.put, List.setIfInBounds_toArray, List.set_cons_zero, List.set_cons_succ]
        generalize y0.alloc (.cells (zer k1 (.int .u16 0)) 24) = y1 at *
        generalize y0.heap.size = bn at *
        refine h_move 6 (by kernel_rfl) (h_op 6 rfl (by kernel_rfl) (fun K hK => ?_))
        have e4 := X1.cell 2
        simp at e4
        have f4 := X1.frozen
        go_simp
        clear e4 f4
        replace X1 := X1.set 2 (.int .i64 k1)
        simp at X1
        replace R := R.setCell_new (g := w1.heap.size) (o := 2) (u := (.int .i64 k1)) nv (by omega)
        replace E := E.setCell (p := ⟨w1.heap.size, 2, none⟩) (Nat.le_refl _) (.int .i64 k1)
        replace lt := X1.lt
        refine hK.out _ _ trivial ?_
        clear K hK
        try simp only [Act.put, List.setIfInBounds_toArray, List.set_cons_zero, List.set_cons_succ]
        generalize y1.setCell ⟨w1.heap.size, 2, none⟩ (.int .i64 k1) = y2 at *
        refine h_pure trivial (by kernel_rfl) (fun _ _ _ d _ h => by cases d <;> exact h) 7 rfl (by kernel_rfl) (by kernel_rfl) (fun w' => by go_simp; with_reducible rfl) ?_; try simp only [Act.put, List.setIfInBounds_toArray, List.set_cons_zero, List.set_cons_succ]
        refine h_move 8 (by kernel_rfl) (h_op 8 rfl (by kernel_rfl) (fun K hK => ?_))
        have e4 := X1.cell 6
        simp at e4
        have f4 := X1.frozen
        go_simp
        clear e4 f4
        replace X1 := X1.set 6 (.slice (some ⟨bn, 0, none⟩) k1 k1)
        simp at X1
        replace R := R.setCell_new (g := w1.heap.size) (o := 6) (u := (.slice (some ⟨bn, 0, none⟩) k1 k1)) nv (by omega)
        replace E := E.setCell (p := ⟨w1.heap.size, 6, none⟩) (Nat.le_refl _) (.slice (some ⟨bn, 0, none⟩) k1 k1)
        replace lt := X1.lt
        refine hK.out _ _ trivial ?_
        clear K hK
        try simp only [Act.put, List.setIfInBounds_toArray, List.set_cons_zero, List.set_cons_succ]
        generalize y2.setCell ⟨w1.heap.size, 6, none⟩ (.slice (some ⟨bn, 0, none⟩) k1 k1) = y3 at *
        refine h_done (by kernel_rfl) ?_
        go_wp2_with fail
        go_meet
        exact ⟨⟨16, a, k1, p, s, bs, List.replicate k1 0, mm, oo⟩, .slice qb bs.length qcb, _, X1, HBR.out.below E, R, E⟩
      · skip
        have e4 := X1.cell 2
        simp at e4
        have f4 := X1.frozen
        go_simp
        clear e4 f4
        replace X1 := X1.set 2 (.int .i64 k1)
        simp at X1
        replace E := E.setCell (p := ⟨w1.heap.size, 2, none⟩) (Nat.le_refl _) (.int .i64 k1)
        replace lt := X1.lt
        refine hK.out _ _ trivial ?_
        clear K hK
        try simp only [Act.put, List.setIfInBounds_toArray, List.set_cons_zero, List.set_cons_succ]
        generalize y0.setCell ⟨w1.heap.size, 2, none⟩ (.int .i64 k1) = y1 at *
        refine h_move 4 (by kernel_rfl) (h_op 4 rfl (by kernel_rfl) (fun K hK => ?_))
        go_simp
        have R := zer_row_w y1 k1 (by omega) _ rfl
        have Bl := (Below.refl y1.heap.size y1).alloc (Nat.le_refl _) (.cells (zer k1 (.int .u16 0)) 24)
        have nv : NewV (w1.heap.size + 1) (.slice (some ⟨y1.heap.size, 0, none⟩) k1 k1) := NewV.some _ _ _ _ _ (by omega)
        replace X1 := X1.below Bl lt
        replace E := E.trans (Bl.mono (by omega))
        replace lt := X1.lt
        refine hK.out _ _ trivial ?_
        clear K hK Bl
        try simp only [Act.put, List.setIfInBounds_toArray, List.set_cons_zero, List.set_cons_succ]
        generalize y1.alloc (.cells (zer k1 (.int .u16 0)) 24) = y2 at *
        generalize y1.heap.size = bn at *
        refine h_pure trivial (by kernel_rfl) (fun _ _ _ d _ h => by cases d <;> exact h) 7 rfl (by kernel_rfl) (by kernel_rfl) (fun w' => by go_simp; with_reducible rfl) ?_; try simp only [Act.put, List.setIfInBounds_toArray, List.set_cons_zero, List.set_cons_succ]
        refine h_move 8 (by kernel_rfl) (h_op 8 rfl (by kernel_rfl) (fun K hK => ?_))
        have e4 := X1.cell 6
        simp at e4
        have f4 := X1.frozen
        go_simp
        clear e4 f4
        replace X1 := X1.set 6 (.slice (some ⟨bn, 0, none⟩) k1 k1)
        simp at X1
        replace R := R.setCell_new (g := w1.heap.size) (o := 6) (u := (.slice (some ⟨bn, 0, none⟩) k1 k1)) nv (by omega)
        replace E := E.setCell (p := ⟨w1.heap.size, 6, none⟩) (Nat.le_refl _) (.slice (some ⟨bn, 0, none⟩) k1 k1)
        replace lt := X1.lt
        refine hK.out _ _ trivial ?_
        clear K hK
        try simp only [Act.put, List.setIfInBounds_toArray, List.set_cons_zero, List.set_cons_succ]
        generalize y2.setCell ⟨w1.heap.size, 6, none⟩ (.slice (some ⟨bn, 0, none⟩) k1 k1) = y3 at *
        refine h_done (by kernel_rfl) ?_
        go_wp2_with fail
        go_meet
        exact ⟨⟨16, a, k1, p, s, bs, List.replicate k1 0, mm, oo⟩, .slice qb bs.length qcb, _, X1, HBR.out.below E, R, E⟩
    · go_wp2_with fail
      go_meet
      have E := (Below.refl w1.heap.size w1).alloc (Nat.le_refl _) (.cells #[.int .i64 17, .int .i64 a, .int .i64 c, .int .i64 p, .int .i64 s, .slice qb bs.length qcb, .slice qv vs.length qcv, .int .u16 mm.toNat, .int .u16 oo.toNat] 26)
      exact ⟨⟨17, a, c, p, s, bs, vs, mm, oo⟩, .slice qb bs.length qcb, .slice qv vs.length qcv, Blk.new w1 26 [.int .i64 17, .int .i64 a, .int .i64 c, .int .i64 p, .int .i64 s, .slice qb bs.length qcb, .slice qv vs.length qcv, .int .u16 mm.toNat, .int .u16 oo.toNat], HBR.out.below E, HVR.out.below E, E⟩
    · go_wp2_with fail
      go_meet
      have E := (Below.refl w1.heap.size w1).alloc (Nat.le_refl _) (.cells #[.int .i64 22, .int .i64 a, .int .i64 c, .int .i64 p, .int .i64 s, .slice qb bs.length qcb, .slice qv vs.length qcv, .int .u16 mm.toNat, .int .u16 oo.toNat] 26)
      exact ⟨⟨22, a, c, p, s, bs, vs, mm, oo⟩, .slice qb bs.length qcb, .slice qv vs.length qcv, Blk.new w1 26 [.int .i64 22, .int .i64 a, .int .i64 c, .int .i64 p, .int .i64 s, .slice qb bs.length qcb, .slice qv vs.length qcv, .int .u16 mm.toNat, .int .u16 oo.toNat], HBR.out.below E, HVR.out.below E, E⟩
    · obtain ⟨k1, hk1⟩ : ∃ j : Nat, (k : Int) % 128 = (j : Int) := ⟨k % 128, by omega⟩
      have hm1 : bits .and .i64 (k : Int) 127 = (k1 : Int) := (i64_and_mask k 7 (by decide)).trans hk1
      have hl1 : k1 < 128 := by omega
      obtain ⟨k2, hk2⟩ : ∃ j : Nat, (k : Int) % 256 = (j : Int) := ⟨k % 256, by omega⟩
      have hm2 : bits .and .i64 (k : Int) 255 = (k2 : Int) := (i64_and_mask k 8 (by decide)).trans hk2
      clear hk2
      clear hk1
      have hmk := mk_zer 23 24 (.int .u16 0) 2 Try.underlying23 info_u16 rfl (k1 : Int) k1 rfl (by omega) (by omega)
      go_wp2
      refine h_begin 9 rfl (by kernel_rfl) ?_
      replace X1 := X1.drew
      have E := HE1.out.drew
      have lt := X1.lt
      generalize (w1.alloc (.cells #[.int .i64 23, .int .i64 a, .int .i64 c, .int .i64 p, .int .i64 s, .slice qb bs.length qcb, .slice qv vs.length qcv, .int .u16 mm.toNat, .int .u16 oo.toNat] 26)).drew = y0 at *
      refine h_pure trivial (by kernel_rfl) (fun _ _ _ d _ h => by cases d <;> exact h) 0 rfl (by kernel_rfl) (by kernel_rfl) (fun w' => by go_simp; with_reducible rfl) ?_; try simp only [Act.put, List.setIfInBounds_toArray, List.set_cons_zero, List.set_cons_succ]
      refine h_pure trivial (by kernel_rfl) (fun _ _ _ d _ h => by cases d <;> exact h) 1 rfl (by kernel_rfl) (by kernel_rfl) (fun w' => by go_simp; with_reducible rfl) ?_; try simp only [Act.put, List.setIfInBounds_toArray, List.set_cons_zero, List.set_cons_succ]
      refine h_pure trivial (by kernel_rfl) (fun _ _ _ d _ h => by cases d <;> exact h) 2 rfl (by kernel_rfl) (by kernel_rfl) (fun w' => by go_simp; with_reducible rfl) ?_; try simp only [Act.put, List.setIfInBounds_toArray, List.set_cons_zero, List.set_cons_succ]
      refine h_pure trivial (by kernel_rfl) (fun _ _ _ d _ h => by cases d <;> exact h) 3 rfl (by kernel_rfl) (by kernel_rfl) (fun w' => by go_simp; with_reducible rfl) ?_; try simp only [Act.put, List.setIfInBounds_toArray, List.set_cons_zero, List.set_cons_succ]
      refine h_pure trivial (by kernel_rfl) (fun _ _ _ d _ h => by cases d <;> exact h) 5 rfl (by kernel_rfl) (by kernel_rfl) (fun w' => by go_simp; with_reducible rfl) ?_; try simp only [Act.put, List.setIfInBounds_toArray, List.set_cons_zero, List.set_cons_succ]
      refine h_move2 4 6 (by kernel_rfl) (h_op 4 rfl (by kernel_rfl) (fun K hK => ?_)) (h_op 6 rfl (by kernel_rfl) (fun K hK => ?_))
      · skip
        go_simp
        have R := zer_row_w y0 k1 (by omega) _ rfl
        have Bl := (Below.refl y0.heap.size y0).alloc (Nat.le_refl _) (.cells (zer k1 (.int .u16 0)) 24)
        have nv : NewV (w1.heap.size + 1) (.slice (some ⟨y0.heap.size, 0, none⟩) k1 k1) := NewV.some _ _ _ _ _ (by omega)
        replace X1 := X1.below Bl lt
        replace E := E.trans (Bl.mono (by omega))
        replace lt := X1.lt
        refine hK.out _ _ trivial ?_
        clear K hK Bl
        try simp only [Act.put, List.setIfInBounds_toArray, List.set_cons_zero, List.set_cons_succ]
        generalize y0.alloc (.cells (zer k1 (.int .u16 0)) 24) = y1 at *
        generalize y0.heap.size = bn at *
        refine h_move 6 (by kernel_rfl) (h_op 6 rfl (by kernel_rfl) (fun K hK => ?_))
        have e4 := X1.cell 2
        simp at e4
        have f4 := X1.frozen
        go_simp
        clear e4 f4
        replace X1 := X1.set 2 (.int .i64 k2)
        simp at X1
        replace R := R.setCell_new (g := w1.heap.size) (o := 2) (u := (.int .i64 k2)) nv (by omega)
        replace E := E.setCell (p := ⟨w1.heap.size, 2, none⟩) (Nat.le_refl _) (.int .i64 k2)
        replace lt := X1.lt
        refine hK.out _ _ trivial ?_
        clear K hK
        try simp only [Act.put, List.setIfInBounds_toArray, List.set_cons_zero, List.set_cons_succ]
        generalize y1.setCell ⟨w1.heap.size, 2, none⟩ (.int .i64 k2) = y2 at *
        refine h_pure trivial (by kernel_rfl) (fun _ _ _ d _ h => by cases d <;> exact h) 7 rfl (by kernel_rfl) (by kernel_rfl) (fun w' => by go_simp; with_reducible rfl) ?_; try simp only [Act.put, List.setIfInBounds_toArray, List.set_cons_zero, List.set_cons_succ]
        refine h_move 8 (by kernel_rfl) (h_op 8 rfl (by kernel_rfl) (fun K hK => ?_))
        have e4 := X1.cell 6
        simp at e4
        have f4 := X1.frozen
        go_simp
        clear e4 f4
        replace X1 := X1.set 6 (.slice (some ⟨bn, 0, none⟩) k1 k1)
        simp at X1
        replace R := R.setCell_new (g := w1.heap.size) (o := 6) (u := (.slice (some ⟨bn, 0, none⟩) k1 k1)) nv (by omega)
        replace E := E.setCell (p := ⟨w1.heap.size, 6, none⟩) (Nat.le_refl _) (.slice (some ⟨bn, 0, none⟩) k1 k1)
        replace lt := X1.lt
        refine hK.out _ _ trivial ?_
        clear K hK
        try simp only [Act.put, List.setIfInBounds_toArray, List.set_cons_zero, List.set_cons_succ]
        generalize y2.setCell ⟨w1.heap.size, 6, none⟩ (.slice (some ⟨bn, 0, none⟩) k1 k1) = y3 at *
        refine h_done (by kernel_rfl) ?_
        go_wp2_with fail
        go_meet
        exact ⟨⟨23, a, k2, p, s, bs, List.replicate k1 0, mm, oo⟩, .slice qb bs.length qcb, _, X1, HBR.out.below E, R, E⟩
      · skip
        have e4 := X1.cell 2
        simp at e4
        have f4 := X1.frozen
        go_simp
        clear e4 f4
        replace X1 := X1.set 2 (.int .i64 k2)
        simp at X1
        replace E := E.setCell (p := ⟨w1.heap.size, 2, none⟩) (Nat.le_refl _) (.int .i64 k2)
        replace lt := X1.lt
        refine hK.out _ _ trivial ?_
        clear K hK
        try simp only [Act.put, List.setIfInBounds_toArray, List.set_cons_zero, List.set_cons_succ]
        generalize y0.setCell ⟨w1.heap.size, 2, none⟩ (.int .i64 k2) = y1 at *
        refine h_move 4 (by kernel_rfl) (h_op 4 rfl (by kernel_rfl) (fun K hK => ?_))
        go_simp
        have R := zer_row_w y1 k1 (by omega) _ rfl
        have Bl := (Below.refl y1.heap.size y1).alloc (Nat.le_refl _) (.cells (zer k1 (.int .u16 0)) 24)
        have nv : NewV (w1.heap.size + 1) (.slice (some ⟨y1.heap.size, 0, none⟩) k1 k1) := NewV.some _ _ _ _ _ (by omega)
        replace X1 := X1.below Bl lt
        replace E := E.trans (Bl.mono (by omega))
        replace lt := X1.lt
        refine hK.out _ _ trivial ?_
        clear K hK Bl
        try simp only [Act.put, List.setIfInBounds_toArray, List.set_cons_zero, List.set_cons_succ]
        generalize y1.alloc (.cells (zer k1 (.int .u16 0)) 24) = y2 at *
        generalize y1.heap.size = bn at *
        refine h_pure trivial (by kernel_rfl) (fun _ _ _ d _ h => by cases d <;> exact h) 7 rfl (by kernel_rfl) (by kernel_rfl) (fun w' => by go_simp; with_reducible rfl) ?_; try simp only [Act.put, List.setIfInBounds_toArray, List.set_cons_zero, List.set_cons_succ]
        refine h_move 8 (by kernel_rfl) (h_op 8 rfl (by kernel_rfl) (fun K hK => ?_))
        have e4 := X1.cell 6
        simp at e4
        have f4 := X1.frozen
        go_simp
        clear e4 f4
        replace X1 := X1.set 6 (.slice (some ⟨bn, 0, none⟩) k1 k1)
        simp at X1
        replace R := R.setCell_new (g := w1.heap.size) (o := 6) (u := (.slice (some ⟨bn, 0, none⟩) k1 k1)) nv (by omega)
        replace E := E.setCell (p := ⟨w1.heap.size, 6, none⟩) (Nat.le_refl _) (.slice (some ⟨bn, 0, none⟩) k1 k1)
        replace lt := X1.lt
        refine hK.out _ _ trivial ?_
        clear K hK
        try simp only [Act.put, List.setIfInBounds_toArray, List.set_cons_zero, List.set_cons_succ]
        generalize y2.setCell ⟨w1.heap.size, 6, none⟩ (.slice (some ⟨bn, 0, none⟩) k1 k1) = y3 at *
        refine h_done (by kernel_rfl) ?_
        go_wp2_with fail
        go_meet
        exact ⟨⟨23, a, k2, p, s, bs, List.replicate k1 0, mm, oo⟩, .slice qb bs.length qcb, _, X1, HBR.out.below E, R, E⟩
  case rest =>
    clear X1 HBR HVR HE1 KN hk hk3
    obtain ⟨q, xb, xv, X, rb, rv, E⟩ := hcut
    obtain ⟨ab, capb, rfl, -⟩ := id rb
    obtain ⟨av, capv, rfl, -⟩ := id rv
    simp only [List.length_map] at rb rv X
    have BX := hidden (blk_box X)
    have Q1 : IsRq wc (rqV q.fn q.loc q.cnt q.wat q.sub (.slice ab q.bits.length capb) (.slice av q.vals.length capv) q.land q.lor) q := ⟨_, _, rfl, rb, rv⟩
    replace B1 := below_then B1 E
    clear X E rb rv hb1
    obtain ⟨-, x0, x1, x2, x3, x4, x5, x6, x7, x8⟩ := BX.out
    go_wp2_with fail
    clear x0 x1 x2 x3 x4 x5 x6 x7 x8
    refine (counts_pdu _ q _ Q1).mono ?_
    rintro e w2 ⟨rfl, E2⟩
    cases hc : countsB q
    · replace B1 := below_then B1 E2
      clear hc
      go_wp2_with fail
      refine (known_law _).mono ?_
      rintro e w3 ⟨rfl, E3⟩
      replace B1 := below_then B1 E3
      go_wp2
      go_ret
      exact ⟨rfl, B1⟩
    · have hlen := count_len q hc
      have hr0 : rightE q = 0 := by simp only [countsB, Bool.and_eq_true, decide_eq_true_eq] at hc; exact hc.1
      have hcb : cntB q = true := by simp only [countsB, Bool.and_eq_true, decide_eq_true_eq] at hc; exact hc.2
      have KN := known_cases (right_parts hr0).1
      have HR0 := hidden hr0
      have HCB := hidden hcb
      have HL := hidden hlen
      replace BX := hidden (BX.out.ext E2)
      replace Q1 := Q1.below E2
      replace B1 := below_then B1 E2
      have KK := hidden KN
      clear hc hr0 hcb hlen KN E2
      obtain ⟨-, x0, x1, x2, x3, x4, x5, x6, x7, x8⟩ := BX.out
      go_wp2_with fail
      clear x0 x1 x2 x3 x4 x5 x6 x7 x8
      refine (bytes_pdu _ q _ Q1).mono ?_
      rintro e w3 ⟨vb, rfl, hrb, E3⟩
      rw [HR0.out]
      rw [bytesR_0 HR0.out] at hrb
      replace BX := hidden (BX.out.ext E3)
      replace B1 := below_then B1 E3
      obtain ⟨aa, ac, rfl, -⟩ := id hrb
      simp only [List.length_map]
      clear hrb E3 Q1
      have hlen := HL.out
      generalize (bytesQ q).length = L at *
      clear HL HR0
      obtain ⟨f, a, c, p, s, bs, vs, mm, oo⟩ := q
      simp only at BX KK HCB ⊢
      have KN := KK.out
      clear KK
      rcases KN with rfl | rfl | rfl | rfl | rfl | rfl | rfl | rfl | rfl | rfl | rfl | rfl
      all_goals
        have hcb := HCB.out
        simp [cntB] at hcb
        clear HCB
        obtain ⟨-, x0, x1, x2, x3, x4, x5, x6, x7, x8⟩ := BX.out
        go_wp2_with fail
        refine (known_law _).mono ?_
        rintro e w4 ⟨rfl, E4⟩
        replace B1 := below_then B1 E4
        go_wp2
        go_ret
        exact ⟨rfl, B1⟩

end Go.Proofs.Ytbkkinmnokfofaa
