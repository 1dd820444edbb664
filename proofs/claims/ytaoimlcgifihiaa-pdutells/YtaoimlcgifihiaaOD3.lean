/- The third statements' own helpers: odd (some request), tape (some numbers). -/
import Derived.Test.YtaoimlcgifihiaaLA
import Derived.Test.YtaoimlcgifihiaaW1
import Derived.Test.YtaoimlcgifihiaaK3
import Derived.Test.YtaoimlcgifihiaaT1
namespace Go.Proofs.Ytaoimlcgifihiaa
open Go.RowKit

theorem and_mask (n : Int) (k : Nat) (M : Int) (hk : k < 62) (hM : M = ((2 ^ k - 1 : Nat) : Int)) : ∃ A : Nat, bits BinOp.and IntKind.i64 n M = (A : Int) ∧ A < 2 ^ k := by
  subst hM
  have hp : 0 < 2 ^ k := Nat.two_pow_pos k
  have h1 : 0 ≤ n % ((2 ^ k : Nat) : Int) := Int.emod_nonneg _ (by omega)
  have h2 : n % ((2 ^ k : Nat) : Int) < ((2 ^ k : Nat) : Int) := Int.emod_lt_of_pos _ (by omega)
  exact ⟨(n % ((2 ^ k : Nat) : Int)).toNat, by rw [i64_and_mask n k hk]; omega, by omega⟩
theorem zrow_b (w : World) (k : Nat) (h : k ≤ 100000) (g : Nat) (hg : g = w.heap.size) : Row (w.alloc (.cells (zer k (.bool false)) 4)) (.slice (some ⟨g, 0, none⟩) k k) ((List.replicate k false).map Value.bool) := by
  subst hg
  have := (zer_blk w k (.bool false) 4).row k (by simp) (by unfold maxLen; omega)
  simpa using this
theorem zrow_w (w : World) (k : Nat) (h : k ≤ 100000) (g : Nat) (hg : g = w.heap.size) : Row (w.alloc (.cells (zer k (.int .u16 0)) 24)) (.slice (some ⟨g, 0, none⟩) k k) ((List.replicate k (0 : UInt16)).map wV) := by
  subst hg
  have := (zer_blk w k (.int .u16 0) 24).row k (by simp) (by unfold maxLen; omega)
  have e : (List.replicate k (0 : UInt16)).map wV = List.replicate k (.int .u16 0) := by rw [List.map_replicate]; rfl
  rw [e]
  simpa using this
theorem info_w16 : (Try.prog.info? 24).map (fun i => (i.zero, i.size, i.bytes)) = some (some (.int .u16 0), 1, 2) := by kernel_rfl

set_option maxRecDepth 100000 in
set_option maxHeartbeats 1000000 in
theorem odd_0 (v : Value) (q : Rq) (what n : Int) (w : World) (h : IsRq w v q) (_hw : -9223372036854775808 ≤ what ∧ what ≤ 9223372036854775807) (_hn : -9223372036854775808 ≤ n ∧ n ≤ 9223372036854775807)
    (CW : Hid (∀ w, Calls Try.prog 15 #[.int .i64 what, .int .i64 0, .int .i64 9] w fun e w' => e = .returned (.int .i64 0) ∧ w = w')) :
    Calls Try.prog 11 #[v, .int .i64 what, .int .i64 n] w fun e w' => ∃ v', e = .returned v' ∧ (∃ q', IsRq w' v' q') ∧ Below w.heap.size w w' := by
  obtain ⟨ab, capb, av, capv, rfl, -, -⟩ := h.slices
  obtain ⟨vb, vv, hE, hb, hv⟩ := h
  obtain ⟨f, a, c, p, s, bs, vs, m, o⟩ := q
  simp only [rqV, Value.agg.injEq, Array.mk.injEq, List.cons.injEq, and_true, true_and] at hE
  obtain ⟨rfl, rfl⟩ := hE
  simp only at hb hv ⊢
  have B0 : Below w.heap.size w ((w.alloc (.cells #[.int .i64 f, .int .i64 a, .int .i64 c, .int .i64 p, .int .i64 s, .slice ab bs.length capb, .slice av vs.length capv, .int .u16 m.toNat, .int .u16 o.toNat] 26)).alloc (.cells #[.int .i64 0, .int .i64 0, .int .i64 0, .int .i64 0, .int .i64 0, .slice none 0 0, .slice none 0 0, .int .u16 0, .int .u16 0] 26)) := ((Below.refl _ _).alloc (Nat.le_refl _) _).alloc (by simp) _
  have X0 := (Blk.new w 26 [.int .i64 f, .int .i64 a, .int .i64 c, .int .i64 p, .int .i64 s, .slice ab bs.length capb, .slice av vs.length capv, .int .u16 m.toNat, .int .u16 o.toNat]).alloc (.cells #[.int .i64 0, .int .i64 0, .int .i64 0, .int .i64 0, .int .i64 0, .slice none 0 0, .slice none 0 0, .int .u16 0, .int .u16 0] 26)
  have X1 := Blk.new (w.alloc (.cells #[.int .i64 f, .int .i64 a, .int .i64 c, .int .i64 p, .int .i64 s, .slice ab bs.length capb, .slice av vs.length capv, .int .u16 m.toNat, .int .u16 o.toNat] 26)) 26 [.int .i64 0, .int .i64 0, .int .i64 0, .int .i64 0, .int .i64 0, .slice none 0 0, .slice none 0 0, .int .u16 0, .int .u16 0]
  simp only [World.size_alloc] at X1
  go_enter Try.func11, Try.ntmps11
  go_wp2_with fail
  refine (CW.out _).mono ?_
  rintro e wz ⟨rfl, rfl⟩
  have hzs : w.heap.size + 1 + 1 ≤ ((w.alloc (.cells #[.int .i64 f, .int .i64 a, .int .i64 c, .int .i64 p, .int .i64 s, .slice ab bs.length capb, .slice av vs.length capv, .int .u16 m.toNat, .int .u16 o.toNat] 26)).alloc (.cells #[.int .i64 0, .int .i64 0, .int .i64 0, .int .i64 0, .int .i64 0, .slice none 0 0, .slice none 0 0, .int .u16 0, .int .u16 0] 26)).heap.size := by simp
  generalize (w.alloc (.cells #[.int .i64 f, .int .i64 a, .int .i64 c, .int .i64 p, .int .i64 s, .slice ab bs.length capb, .slice av vs.length capv, .int .u16 m.toNat, .int .u16 o.toNat] 26)).alloc (.cells #[.int .i64 0, .int .i64 0, .int .i64 0, .int .i64 0, .int .i64 0, .slice none 0 0, .slice none 0 0, .int .u16 0, .int .u16 0] 26) = wz at *
  have d0 := X0.cell 0
  have d1 := X0.cell 1
  have d2 := X0.cell 2
  have d3 := X0.cell 3
  have d4 := X0.cell 4
  have d5 := X0.cell 5
  have d6 := X0.cell 6
  have d7 := X0.cell 7
  have d8 := X0.cell 8
  simp at d0 d1 d2 d3 d4 d5 d6 d7 d8
  have fd := X0.frozen
  have gd := X0.lt
  have r0 := X1.cell 0
  have r1 := X1.cell 1
  have r2 := X1.cell 2
  have r3 := X1.cell 3
  have r4 := X1.cell 4
  have r5 := X1.cell 5
  have r6 := X1.cell 6
  have r7 := X1.cell 7
  have r8 := X1.cell 8
  simp at r0 r1 r2 r3 r4 r5 r6 r7 r8
  have fr := X1.frozen
  have gr := X1.lt
  go_wp2
  refine bodyPost_ret (v := _) (by simp [results, Try.results11, go_sem, r0, r1, r2, r3, r4, r5, r6, r7, r8]; with_reducible rfl) rfl ?_
  refine ⟨_, rfl, ⟨⟨f, n, c, p, s, bs, vs, m, o⟩, _, _, rfl, hb.below ?_, hv.below ?_⟩, ?_⟩
  all_goals
    repeat' (refine Below.setCell ?_ (by simp) _)
    exact B0

set_option maxRecDepth 100000 in
set_option maxHeartbeats 1000000 in
theorem odd_1 (v : Value) (q : Rq) (what n : Int) (w : World) (h : IsRq w v q) (_hw : -9223372036854775808 ≤ what ∧ what ≤ 9223372036854775807) (_hn : -9223372036854775808 ≤ n ∧ n ≤ 9223372036854775807)
    (CW : Hid (∀ w, Calls Try.prog 15 #[.int .i64 what, .int .i64 0, .int .i64 9] w fun e w' => e = .returned (.int .i64 1) ∧ w = w')) :
    Calls Try.prog 11 #[v, .int .i64 what, .int .i64 n] w fun e w' => ∃ v', e = .returned v' ∧ (∃ q', IsRq w' v' q') ∧ Below w.heap.size w w' := by
  obtain ⟨ab, capb, av, capv, rfl, -, -⟩ := h.slices
  obtain ⟨vb, vv, hE, hb, hv⟩ := h
  obtain ⟨f, a, c, p, s, bs, vs, m, o⟩ := q
  simp only [rqV, Value.agg.injEq, Array.mk.injEq, List.cons.injEq, and_true, true_and] at hE
  obtain ⟨rfl, rfl⟩ := hE
  simp only at hb hv ⊢
  have B0 : Below w.heap.size w ((w.alloc (.cells #[.int .i64 f, .int .i64 a, .int .i64 c, .int .i64 p, .int .i64 s, .slice ab bs.length capb, .slice av vs.length capv, .int .u16 m.toNat, .int .u16 o.toNat] 26)).alloc (.cells #[.int .i64 0, .int .i64 0, .int .i64 0, .int .i64 0, .int .i64 0, .slice none 0 0, .slice none 0 0, .int .u16 0, .int .u16 0] 26)) := ((Below.refl _ _).alloc (Nat.le_refl _) _).alloc (by simp) _
  have X0 := (Blk.new w 26 [.int .i64 f, .int .i64 a, .int .i64 c, .int .i64 p, .int .i64 s, .slice ab bs.length capb, .slice av vs.length capv, .int .u16 m.toNat, .int .u16 o.toNat]).alloc (.cells #[.int .i64 0, .int .i64 0, .int .i64 0, .int .i64 0, .int .i64 0, .slice none 0 0, .slice none 0 0, .int .u16 0, .int .u16 0] 26)
  have X1 := Blk.new (w.alloc (.cells #[.int .i64 f, .int .i64 a, .int .i64 c, .int .i64 p, .int .i64 s, .slice ab bs.length capb, .slice av vs.length capv, .int .u16 m.toNat, .int .u16 o.toNat] 26)) 26 [.int .i64 0, .int .i64 0, .int .i64 0, .int .i64 0, .int .i64 0, .slice none 0 0, .slice none 0 0, .int .u16 0, .int .u16 0]
  simp only [World.size_alloc] at X1
  go_enter Try.func11, Try.ntmps11
  go_wp2_with fail
  refine (CW.out _).mono ?_
  rintro e wz ⟨rfl, rfl⟩
  have hzs : w.heap.size + 1 + 1 ≤ ((w.alloc (.cells #[.int .i64 f, .int .i64 a, .int .i64 c, .int .i64 p, .int .i64 s, .slice ab bs.length capb, .slice av vs.length capv, .int .u16 m.toNat, .int .u16 o.toNat] 26)).alloc (.cells #[.int .i64 0, .int .i64 0, .int .i64 0, .int .i64 0, .int .i64 0, .slice none 0 0, .slice none 0 0, .int .u16 0, .int .u16 0] 26)).heap.size := by simp
  generalize (w.alloc (.cells #[.int .i64 f, .int .i64 a, .int .i64 c, .int .i64 p, .int .i64 s, .slice ab bs.length capb, .slice av vs.length capv, .int .u16 m.toNat, .int .u16 o.toNat] 26)).alloc (.cells #[.int .i64 0, .int .i64 0, .int .i64 0, .int .i64 0, .int .i64 0, .slice none 0 0, .slice none 0 0, .int .u16 0, .int .u16 0] 26) = wz at *
  have d0 := X0.cell 0
  have d1 := X0.cell 1
  have d2 := X0.cell 2
  have d3 := X0.cell 3
  have d4 := X0.cell 4
  have d5 := X0.cell 5
  have d6 := X0.cell 6
  have d7 := X0.cell 7
  have d8 := X0.cell 8
  simp at d0 d1 d2 d3 d4 d5 d6 d7 d8
  have fd := X0.frozen
  have gd := X0.lt
  have r0 := X1.cell 0
  have r1 := X1.cell 1
  have r2 := X1.cell 2
  have r3 := X1.cell 3
  have r4 := X1.cell 4
  have r5 := X1.cell 5
  have r6 := X1.cell 6
  have r7 := X1.cell 7
  have r8 := X1.cell 8
  simp at r0 r1 r2 r3 r4 r5 r6 r7 r8
  have fr := X1.frozen
  have gr := X1.lt
  go_wp2
  refine bodyPost_ret (v := _) (by simp [results, Try.results11, go_sem, r0, r1, r2, r3, r4, r5, r6, r7, r8]; with_reducible rfl) rfl ?_
  refine ⟨_, rfl, ⟨⟨f, a, n, p, s, bs, vs, m, o⟩, _, _, rfl, hb.below ?_, hv.below ?_⟩, ?_⟩
  all_goals
    repeat' (refine Below.setCell ?_ (by simp) _)
    exact B0

set_option maxRecDepth 100000 in
set_option maxHeartbeats 1000000 in
theorem odd_2 (v : Value) (q : Rq) (what n : Int) (w : World) (h : IsRq w v q) (_hw : -9223372036854775808 ≤ what ∧ what ≤ 9223372036854775807) (_hn : -9223372036854775808 ≤ n ∧ n ≤ 9223372036854775807)
    (CW : Hid (∀ w, Calls Try.prog 15 #[.int .i64 what, .int .i64 0, .int .i64 9] w fun e w' => e = .returned (.int .i64 2) ∧ w = w')) :
    Calls Try.prog 11 #[v, .int .i64 what, .int .i64 n] w fun e w' => ∃ v', e = .returned v' ∧ (∃ q', IsRq w' v' q') ∧ Below w.heap.size w w' := by
  obtain ⟨ab, capb, av, capv, rfl, -, -⟩ := h.slices
  obtain ⟨vb, vv, hE, hb, hv⟩ := h
  obtain ⟨f, a, c, p, s, bs, vs, m, o⟩ := q
  simp only [rqV, Value.agg.injEq, Array.mk.injEq, List.cons.injEq, and_true, true_and] at hE
  obtain ⟨rfl, rfl⟩ := hE
  simp only at hb hv ⊢
  have B0 : Below w.heap.size w ((w.alloc (.cells #[.int .i64 f, .int .i64 a, .int .i64 c, .int .i64 p, .int .i64 s, .slice ab bs.length capb, .slice av vs.length capv, .int .u16 m.toNat, .int .u16 o.toNat] 26)).alloc (.cells #[.int .i64 0, .int .i64 0, .int .i64 0, .int .i64 0, .int .i64 0, .slice none 0 0, .slice none 0 0, .int .u16 0, .int .u16 0] 26)) := ((Below.refl _ _).alloc (Nat.le_refl _) _).alloc (by simp) _
  have X0 := (Blk.new w 26 [.int .i64 f, .int .i64 a, .int .i64 c, .int .i64 p, .int .i64 s, .slice ab bs.length capb, .slice av vs.length capv, .int .u16 m.toNat, .int .u16 o.toNat]).alloc (.cells #[.int .i64 0, .int .i64 0, .int .i64 0, .int .i64 0, .int .i64 0, .slice none 0 0, .slice none 0 0, .int .u16 0, .int .u16 0] 26)
  have X1 := Blk.new (w.alloc (.cells #[.int .i64 f, .int .i64 a, .int .i64 c, .int .i64 p, .int .i64 s, .slice ab bs.length capb, .slice av vs.length capv, .int .u16 m.toNat, .int .u16 o.toNat] 26)) 26 [.int .i64 0, .int .i64 0, .int .i64 0, .int .i64 0, .int .i64 0, .slice none 0 0, .slice none 0 0, .int .u16 0, .int .u16 0]
  simp only [World.size_alloc] at X1
  go_enter Try.func11, Try.ntmps11
  go_wp2_with fail
  refine (CW.out _).mono ?_
  rintro e wz ⟨rfl, rfl⟩
  have hzs : w.heap.size + 1 + 1 ≤ ((w.alloc (.cells #[.int .i64 f, .int .i64 a, .int .i64 c, .int .i64 p, .int .i64 s, .slice ab bs.length capb, .slice av vs.length capv, .int .u16 m.toNat, .int .u16 o.toNat] 26)).alloc (.cells #[.int .i64 0, .int .i64 0, .int .i64 0, .int .i64 0, .int .i64 0, .slice none 0 0, .slice none 0 0, .int .u16 0, .int .u16 0] 26)).heap.size := by simp
  generalize (w.alloc (.cells #[.int .i64 f, .int .i64 a, .int .i64 c, .int .i64 p, .int .i64 s, .slice ab bs.length capb, .slice av vs.length capv, .int .u16 m.toNat, .int .u16 o.toNat] 26)).alloc (.cells #[.int .i64 0, .int .i64 0, .int .i64 0, .int .i64 0, .int .i64 0, .slice none 0 0, .slice none 0 0, .int .u16 0, .int .u16 0] 26) = wz at *
  have d0 := X0.cell 0
  have d1 := X0.cell 1
  have d2 := X0.cell 2
  have d3 := X0.cell 3
  have d4 := X0.cell 4
  have d5 := X0.cell 5
  have d6 := X0.cell 6
  have d7 := X0.cell 7
  have d8 := X0.cell 8
  simp at d0 d1 d2 d3 d4 d5 d6 d7 d8
  have fd := X0.frozen
  have gd := X0.lt
  have r0 := X1.cell 0
  have r1 := X1.cell 1
  have r2 := X1.cell 2
  have r3 := X1.cell 3
  have r4 := X1.cell 4
  have r5 := X1.cell 5
  have r6 := X1.cell 6
  have r7 := X1.cell 7
  have r8 := X1.cell 8
  simp at r0 r1 r2 r3 r4 r5 r6 r7 r8
  have fr := X1.frozen
  have gr := X1.lt
  go_wp2
  refine bodyPost_ret (v := _) (by simp [results, Try.results11, go_sem, r0, r1, r2, r3, r4, r5, r6, r7, r8]; with_reducible rfl) rfl ?_
  refine ⟨_, rfl, ⟨⟨f, a, c, n, s, bs, vs, m, o⟩, _, _, rfl, hb.below ?_, hv.below ?_⟩, ?_⟩
  all_goals
    repeat' (refine Below.setCell ?_ (by simp) _)
    exact B0

set_option maxRecDepth 100000 in
set_option maxHeartbeats 1000000 in
theorem odd_3 (v : Value) (q : Rq) (what n : Int) (w : World) (h : IsRq w v q) (_hw : -9223372036854775808 ≤ what ∧ what ≤ 9223372036854775807) (_hn : -9223372036854775808 ≤ n ∧ n ≤ 9223372036854775807)
    (CW : Hid (∀ w, Calls Try.prog 15 #[.int .i64 what, .int .i64 0, .int .i64 9] w fun e w' => e = .returned (.int .i64 3) ∧ w = w')) :
    Calls Try.prog 11 #[v, .int .i64 what, .int .i64 n] w fun e w' => ∃ v', e = .returned v' ∧ (∃ q', IsRq w' v' q') ∧ Below w.heap.size w w' := by
  obtain ⟨ab, capb, av, capv, rfl, -, -⟩ := h.slices
  obtain ⟨vb, vv, hE, hb, hv⟩ := h
  obtain ⟨f, a, c, p, s, bs, vs, m, o⟩ := q
  simp only [rqV, Value.agg.injEq, Array.mk.injEq, List.cons.injEq, and_true, true_and] at hE
  obtain ⟨rfl, rfl⟩ := hE
  simp only at hb hv ⊢
  have B0 : Below w.heap.size w ((w.alloc (.cells #[.int .i64 f, .int .i64 a, .int .i64 c, .int .i64 p, .int .i64 s, .slice ab bs.length capb, .slice av vs.length capv, .int .u16 m.toNat, .int .u16 o.toNat] 26)).alloc (.cells #[.int .i64 0, .int .i64 0, .int .i64 0, .int .i64 0, .int .i64 0, .slice none 0 0, .slice none 0 0, .int .u16 0, .int .u16 0] 26)) := ((Below.refl _ _).alloc (Nat.le_refl _) _).alloc (by simp) _
  have X0 := (Blk.new w 26 [.int .i64 f, .int .i64 a, .int .i64 c, .int .i64 p, .int .i64 s, .slice ab bs.length capb, .slice av vs.length capv, .int .u16 m.toNat, .int .u16 o.toNat]).alloc (.cells #[.int .i64 0, .int .i64 0, .int .i64 0, .int .i64 0, .int .i64 0, .slice none 0 0, .slice none 0 0, .int .u16 0, .int .u16 0] 26)
  have X1 := Blk.new (w.alloc (.cells #[.int .i64 f, .int .i64 a, .int .i64 c, .int .i64 p, .int .i64 s, .slice ab bs.length capb, .slice av vs.length capv, .int .u16 m.toNat, .int .u16 o.toNat] 26)) 26 [.int .i64 0, .int .i64 0, .int .i64 0, .int .i64 0, .int .i64 0, .slice none 0 0, .slice none 0 0, .int .u16 0, .int .u16 0]
  simp only [World.size_alloc] at X1
  go_enter Try.func11, Try.ntmps11
  go_wp2_with fail
  refine (CW.out _).mono ?_
  rintro e wz ⟨rfl, rfl⟩
  have hzs : w.heap.size + 1 + 1 ≤ ((w.alloc (.cells #[.int .i64 f, .int .i64 a, .int .i64 c, .int .i64 p, .int .i64 s, .slice ab bs.length capb, .slice av vs.length capv, .int .u16 m.toNat, .int .u16 o.toNat] 26)).alloc (.cells #[.int .i64 0, .int .i64 0, .int .i64 0, .int .i64 0, .int .i64 0, .slice none 0 0, .slice none 0 0, .int .u16 0, .int .u16 0] 26)).heap.size := by simp
  generalize (w.alloc (.cells #[.int .i64 f, .int .i64 a, .int .i64 c, .int .i64 p, .int .i64 s, .slice ab bs.length capb, .slice av vs.length capv, .int .u16 m.toNat, .int .u16 o.toNat] 26)).alloc (.cells #[.int .i64 0, .int .i64 0, .int .i64 0, .int .i64 0, .int .i64 0, .slice none 0 0, .slice none 0 0, .int .u16 0, .int .u16 0] 26) = wz at *
  have d0 := X0.cell 0
  have d1 := X0.cell 1
  have d2 := X0.cell 2
  have d3 := X0.cell 3
  have d4 := X0.cell 4
  have d5 := X0.cell 5
  have d6 := X0.cell 6
  have d7 := X0.cell 7
  have d8 := X0.cell 8
  simp at d0 d1 d2 d3 d4 d5 d6 d7 d8
  have fd := X0.frozen
  have gd := X0.lt
  have r0 := X1.cell 0
  have r1 := X1.cell 1
  have r2 := X1.cell 2
  have r3 := X1.cell 3
  have r4 := X1.cell 4
  have r5 := X1.cell 5
  have r6 := X1.cell 6
  have r7 := X1.cell 7
  have r8 := X1.cell 8
  simp at r0 r1 r2 r3 r4 r5 r6 r7 r8
  have fr := X1.frozen
  have gr := X1.lt
  go_wp2
  refine bodyPost_ret (v := _) (by simp [results, Try.results11, go_sem, r0, r1, r2, r3, r4, r5, r6, r7, r8]; with_reducible rfl) rfl ?_
  refine ⟨_, rfl, ⟨⟨f, a, c, p, n, bs, vs, m, o⟩, _, _, rfl, hb.below ?_, hv.below ?_⟩, ?_⟩
  all_goals
    repeat' (refine Below.setCell ?_ (by simp) _)
    exact B0

set_option maxRecDepth 100000 in
set_option maxHeartbeats 1000000 in
theorem odd_4 (v : Value) (q : Rq) (what n : Int) (w : World) (h : IsRq w v q) (_hw : -9223372036854775808 ≤ what ∧ what ≤ 9223372036854775807) (_hn : -9223372036854775808 ≤ n ∧ n ≤ 9223372036854775807)
    (CW : Hid (∀ w, Calls Try.prog 15 #[.int .i64 what, .int .i64 0, .int .i64 9] w fun e w' => e = .returned (.int .i64 4) ∧ w = w')) :
    Calls Try.prog 11 #[v, .int .i64 what, .int .i64 n] w fun e w' => ∃ v', e = .returned v' ∧ (∃ q', IsRq w' v' q') ∧ Below w.heap.size w w' := by
  obtain ⟨ab, capb, av, capv, rfl, -, -⟩ := h.slices
  obtain ⟨vb, vv, hE, hb, hv⟩ := h
  obtain ⟨f, a, c, p, s, bs, vs, m, o⟩ := q
  simp only [rqV, Value.agg.injEq, Array.mk.injEq, List.cons.injEq, and_true, true_and] at hE
  obtain ⟨rfl, rfl⟩ := hE
  simp only at hb hv ⊢
  have B0 : Below w.heap.size w ((w.alloc (.cells #[.int .i64 f, .int .i64 a, .int .i64 c, .int .i64 p, .int .i64 s, .slice ab bs.length capb, .slice av vs.length capv, .int .u16 m.toNat, .int .u16 o.toNat] 26)).alloc (.cells #[.int .i64 0, .int .i64 0, .int .i64 0, .int .i64 0, .int .i64 0, .slice none 0 0, .slice none 0 0, .int .u16 0, .int .u16 0] 26)) := ((Below.refl _ _).alloc (Nat.le_refl _) _).alloc (by simp) _
  have X0 := (Blk.new w 26 [.int .i64 f, .int .i64 a, .int .i64 c, .int .i64 p, .int .i64 s, .slice ab bs.length capb, .slice av vs.length capv, .int .u16 m.toNat, .int .u16 o.toNat]).alloc (.cells #[.int .i64 0, .int .i64 0, .int .i64 0, .int .i64 0, .int .i64 0, .slice none 0 0, .slice none 0 0, .int .u16 0, .int .u16 0] 26)
  have X1 := Blk.new (w.alloc (.cells #[.int .i64 f, .int .i64 a, .int .i64 c, .int .i64 p, .int .i64 s, .slice ab bs.length capb, .slice av vs.length capv, .int .u16 m.toNat, .int .u16 o.toNat] 26)) 26 [.int .i64 0, .int .i64 0, .int .i64 0, .int .i64 0, .int .i64 0, .slice none 0 0, .slice none 0 0, .int .u16 0, .int .u16 0]
  simp only [World.size_alloc] at X1
  go_enter Try.func11, Try.ntmps11
  go_wp2_with fail
  refine (CW.out _).mono ?_
  rintro e wz ⟨rfl, rfl⟩
  have hzs : w.heap.size + 1 + 1 ≤ ((w.alloc (.cells #[.int .i64 f, .int .i64 a, .int .i64 c, .int .i64 p, .int .i64 s, .slice ab bs.length capb, .slice av vs.length capv, .int .u16 m.toNat, .int .u16 o.toNat] 26)).alloc (.cells #[.int .i64 0, .int .i64 0, .int .i64 0, .int .i64 0, .int .i64 0, .slice none 0 0, .slice none 0 0, .int .u16 0, .int .u16 0] 26)).heap.size := by simp
  generalize (w.alloc (.cells #[.int .i64 f, .int .i64 a, .int .i64 c, .int .i64 p, .int .i64 s, .slice ab bs.length capb, .slice av vs.length capv, .int .u16 m.toNat, .int .u16 o.toNat] 26)).alloc (.cells #[.int .i64 0, .int .i64 0, .int .i64 0, .int .i64 0, .int .i64 0, .slice none 0 0, .slice none 0 0, .int .u16 0, .int .u16 0] 26) = wz at *
  obtain ⟨k, hA, hAl⟩ := and_mask n 12 4095 (by decide) (by decide)
  have hmk := mk_zer 22 4 (.bool false) 1 Try.underlying22 info_bool rfl (k : Int) k rfl (by omega) (by omega) wz
  have R := zrow_b wz k (by omega) _ rfl
  have Bl := (Below.refl wz.heap.size wz).alloc (Nat.le_refl _) (.cells (zer k (.bool false)) 4)
  have nv : NewV (w.heap.size + 1 + 1) (.slice (some ⟨wz.heap.size, 0, none⟩) k k) := NewV.some _ _ _ _ _ (by omega)
  replace X0 := X0.below Bl X0.lt
  replace X1 := X1.below Bl X1.lt
  replace B0 := B0.trans (Bl.mono (by omega))
  have d0 := X0.cell 0
  have d1 := X0.cell 1
  have d2 := X0.cell 2
  have d3 := X0.cell 3
  have d4 := X0.cell 4
  have d5 := X0.cell 5
  have d6 := X0.cell 6
  have d7 := X0.cell 7
  have d8 := X0.cell 8
  simp at d0 d1 d2 d3 d4 d5 d6 d7 d8
  have fd := X0.frozen
  have gd := X0.lt
  have r0 := X1.cell 0
  have r1 := X1.cell 1
  have r2 := X1.cell 2
  have r3 := X1.cell 3
  have r4 := X1.cell 4
  have r5 := X1.cell 5
  have r6 := X1.cell 6
  have r7 := X1.cell 7
  have r8 := X1.cell 8
  simp at r0 r1 r2 r3 r4 r5 r6 r7 r8
  have fr := X1.frozen
  have gr := X1.lt
  go_wp2
  refine bodyPost_ret (v := _) (by simp [results, Try.results11, go_sem, r0, r1, r2, r3, r4, r5, r6, r7, r8]; with_reducible rfl) rfl ?_
  refine ⟨_, rfl, ⟨⟨f, a, c, p, s, List.replicate k false, vs, m, o⟩, _, _, rfl, ?row, hv.below ?_⟩, ?_⟩
  case row =>
    repeat' (refine Row.setCell_new ?_ nv (by omega))
    exact R
  all_goals
    repeat' (refine Below.setCell ?_ (by simp) _)
    exact B0

set_option maxRecDepth 100000 in
set_option maxHeartbeats 1000000 in
theorem odd_5 (v : Value) (q : Rq) (what n : Int) (w : World) (h : IsRq w v q) (_hw : -9223372036854775808 ≤ what ∧ what ≤ 9223372036854775807) (_hn : -9223372036854775808 ≤ n ∧ n ≤ 9223372036854775807)
    (CW : Hid (∀ w, Calls Try.prog 15 #[.int .i64 what, .int .i64 0, .int .i64 9] w fun e w' => e = .returned (.int .i64 5) ∧ w = w')) :
    Calls Try.prog 11 #[v, .int .i64 what, .int .i64 n] w fun e w' => ∃ v', e = .returned v' ∧ (∃ q', IsRq w' v' q') ∧ Below w.heap.size w w' := by
  obtain ⟨ab, capb, av, capv, rfl, -, -⟩ := h.slices
  obtain ⟨vb, vv, hE, hb, hv⟩ := h
  obtain ⟨f, a, c, p, s, bs, vs, m, o⟩ := q
  simp only [rqV, Value.agg.injEq, Array.mk.injEq, List.cons.injEq, and_true, true_and] at hE
  obtain ⟨rfl, rfl⟩ := hE
  simp only at hb hv ⊢
  have B0 : Below w.heap.size w ((w.alloc (.cells #[.int .i64 f, .int .i64 a, .int .i64 c, .int .i64 p, .int .i64 s, .slice ab bs.length capb, .slice av vs.length capv, .int .u16 m.toNat, .int .u16 o.toNat] 26)).alloc (.cells #[.int .i64 0, .int .i64 0, .int .i64 0, .int .i64 0, .int .i64 0, .slice none 0 0, .slice none 0 0, .int .u16 0, .int .u16 0] 26)) := ((Below.refl _ _).alloc (Nat.le_refl _) _).alloc (by simp) _
  have X0 := (Blk.new w 26 [.int .i64 f, .int .i64 a, .int .i64 c, .int .i64 p, .int .i64 s, .slice ab bs.length capb, .slice av vs.length capv, .int .u16 m.toNat, .int .u16 o.toNat]).alloc (.cells #[.int .i64 0, .int .i64 0, .int .i64 0, .int .i64 0, .int .i64 0, .slice none 0 0, .slice none 0 0, .int .u16 0, .int .u16 0] 26)
  have X1 := Blk.new (w.alloc (.cells #[.int .i64 f, .int .i64 a, .int .i64 c, .int .i64 p, .int .i64 s, .slice ab bs.length capb, .slice av vs.length capv, .int .u16 m.toNat, .int .u16 o.toNat] 26)) 26 [.int .i64 0, .int .i64 0, .int .i64 0, .int .i64 0, .int .i64 0, .slice none 0 0, .slice none 0 0, .int .u16 0, .int .u16 0]
  simp only [World.size_alloc] at X1
  go_enter Try.func11, Try.ntmps11
  go_wp2_with fail
  refine (CW.out _).mono ?_
  rintro e wz ⟨rfl, rfl⟩
  have hzs : w.heap.size + 1 + 1 ≤ ((w.alloc (.cells #[.int .i64 f, .int .i64 a, .int .i64 c, .int .i64 p, .int .i64 s, .slice ab bs.length capb, .slice av vs.length capv, .int .u16 m.toNat, .int .u16 o.toNat] 26)).alloc (.cells #[.int .i64 0, .int .i64 0, .int .i64 0, .int .i64 0, .int .i64 0, .slice none 0 0, .slice none 0 0, .int .u16 0, .int .u16 0] 26)).heap.size := by simp
  generalize (w.alloc (.cells #[.int .i64 f, .int .i64 a, .int .i64 c, .int .i64 p, .int .i64 s, .slice ab bs.length capb, .slice av vs.length capv, .int .u16 m.toNat, .int .u16 o.toNat] 26)).alloc (.cells #[.int .i64 0, .int .i64 0, .int .i64 0, .int .i64 0, .int .i64 0, .slice none 0 0, .slice none 0 0, .int .u16 0, .int .u16 0] 26) = wz at *
  obtain ⟨k, hA, hAl⟩ := and_mask n 8 255 (by decide) (by decide)
  have hmk := mk_zer 23 24 (.int .u16 0) 2 Try.underlying23 info_w16 rfl (k : Int) k rfl (by omega) (by omega) wz
  have R := zrow_w wz k (by omega) _ rfl
  have Bl := (Below.refl wz.heap.size wz).alloc (Nat.le_refl _) (.cells (zer k (.int .u16 0)) 24)
  have nv : NewV (w.heap.size + 1 + 1) (.slice (some ⟨wz.heap.size, 0, none⟩) k k) := NewV.some _ _ _ _ _ (by omega)
  replace X0 := X0.below Bl X0.lt
  replace X1 := X1.below Bl X1.lt
  replace B0 := B0.trans (Bl.mono (by omega))
  have d0 := X0.cell 0
  have d1 := X0.cell 1
  have d2 := X0.cell 2
  have d3 := X0.cell 3
  have d4 := X0.cell 4
  have d5 := X0.cell 5
  have d6 := X0.cell 6
  have d7 := X0.cell 7
  have d8 := X0.cell 8
  simp at d0 d1 d2 d3 d4 d5 d6 d7 d8
  have fd := X0.frozen
  have gd := X0.lt
  have r0 := X1.cell 0
  have r1 := X1.cell 1
  have r2 := X1.cell 2
  have r3 := X1.cell 3
  have r4 := X1.cell 4
  have r5 := X1.cell 5
  have r6 := X1.cell 6
  have r7 := X1.cell 7
  have r8 := X1.cell 8
  simp at r0 r1 r2 r3 r4 r5 r6 r7 r8
  have fr := X1.frozen
  have gr := X1.lt
  go_wp2
  refine bodyPost_ret (v := _) (by simp [results, Try.results11, go_sem, r0, r1, r2, r3, r4, r5, r6, r7, r8]; with_reducible rfl) rfl ?_
  refine ⟨_, rfl, ⟨⟨f, a, c, p, s, bs, List.replicate k 0, m, o⟩, _, _, rfl, hb.below ?_, ?row⟩, ?_⟩
  case row =>
    repeat' (refine Row.setCell_new ?_ nv (by omega))
    exact R
  all_goals
    repeat' (refine Below.setCell ?_ (by simp) _)
    exact B0

set_option maxRecDepth 100000 in
set_option maxHeartbeats 1000000 in
theorem odd_6 (v : Value) (q : Rq) (what n : Int) (w : World) (h : IsRq w v q) (_hw : -9223372036854775808 ≤ what ∧ what ≤ 9223372036854775807) (_hn : -9223372036854775808 ≤ n ∧ n ≤ 9223372036854775807)
    (CW : Hid (∀ w, Calls Try.prog 15 #[.int .i64 what, .int .i64 0, .int .i64 9] w fun e w' => e = .returned (.int .i64 6) ∧ w = w')) :
    Calls Try.prog 11 #[v, .int .i64 what, .int .i64 n] w fun e w' => ∃ v', e = .returned v' ∧ (∃ q', IsRq w' v' q') ∧ Below w.heap.size w w' := by
  obtain ⟨ab, capb, av, capv, rfl, -, -⟩ := h.slices
  obtain ⟨vb, vv, hE, hb, hv⟩ := h
  obtain ⟨f, a, c, p, s, bs, vs, m, o⟩ := q
  simp only [rqV, Value.agg.injEq, Array.mk.injEq, List.cons.injEq, and_true, true_and] at hE
  obtain ⟨rfl, rfl⟩ := hE
  simp only at hb hv ⊢
  have B0 : Below w.heap.size w ((w.alloc (.cells #[.int .i64 f, .int .i64 a, .int .i64 c, .int .i64 p, .int .i64 s, .slice ab bs.length capb, .slice av vs.length capv, .int .u16 m.toNat, .int .u16 o.toNat] 26)).alloc (.cells #[.int .i64 0, .int .i64 0, .int .i64 0, .int .i64 0, .int .i64 0, .slice none 0 0, .slice none 0 0, .int .u16 0, .int .u16 0] 26)) := ((Below.refl _ _).alloc (Nat.le_refl _) _).alloc (by simp) _
  have X0 := (Blk.new w 26 [.int .i64 f, .int .i64 a, .int .i64 c, .int .i64 p, .int .i64 s, .slice ab bs.length capb, .slice av vs.length capv, .int .u16 m.toNat, .int .u16 o.toNat]).alloc (.cells #[.int .i64 0, .int .i64 0, .int .i64 0, .int .i64 0, .int .i64 0, .slice none 0 0, .slice none 0 0, .int .u16 0, .int .u16 0] 26)
  have X1 := Blk.new (w.alloc (.cells #[.int .i64 f, .int .i64 a, .int .i64 c, .int .i64 p, .int .i64 s, .slice ab bs.length capb, .slice av vs.length capv, .int .u16 m.toNat, .int .u16 o.toNat] 26)) 26 [.int .i64 0, .int .i64 0, .int .i64 0, .int .i64 0, .int .i64 0, .slice none 0 0, .slice none 0 0, .int .u16 0, .int .u16 0]
  simp only [World.size_alloc] at X1
  go_enter Try.func11, Try.ntmps11
  go_wp2_with fail
  refine (CW.out _).mono ?_
  rintro e wz ⟨rfl, rfl⟩
  have hzs : w.heap.size + 1 + 1 ≤ ((w.alloc (.cells #[.int .i64 f, .int .i64 a, .int .i64 c, .int .i64 p, .int .i64 s, .slice ab bs.length capb, .slice av vs.length capv, .int .u16 m.toNat, .int .u16 o.toNat] 26)).alloc (.cells #[.int .i64 0, .int .i64 0, .int .i64 0, .int .i64 0, .int .i64 0, .slice none 0 0, .slice none 0 0, .int .u16 0, .int .u16 0] 26)).heap.size := by simp
  generalize (w.alloc (.cells #[.int .i64 f, .int .i64 a, .int .i64 c, .int .i64 p, .int .i64 s, .slice ab bs.length capb, .slice av vs.length capv, .int .u16 m.toNat, .int .u16 o.toNat] 26)).alloc (.cells #[.int .i64 0, .int .i64 0, .int .i64 0, .int .i64 0, .int .i64 0, .slice none 0 0, .slice none 0 0, .int .u16 0, .int .u16 0] 26) = wz at *
  have d0 := X0.cell 0
  have d1 := X0.cell 1
  have d2 := X0.cell 2
  have d3 := X0.cell 3
  have d4 := X0.cell 4
  have d5 := X0.cell 5
  have d6 := X0.cell 6
  have d7 := X0.cell 7
  have d8 := X0.cell 8
  simp at d0 d1 d2 d3 d4 d5 d6 d7 d8
  have fd := X0.frozen
  have gd := X0.lt
  have r0 := X1.cell 0
  have r1 := X1.cell 1
  have r2 := X1.cell 2
  have r3 := X1.cell 3
  have r4 := X1.cell 4
  have r5 := X1.cell 5
  have r6 := X1.cell 6
  have r7 := X1.cell 7
  have r8 := X1.cell 8
  simp at r0 r1 r2 r3 r4 r5 r6 r7 r8
  have fr := X1.frozen
  have gr := X1.lt
  obtain ⟨x, hx⟩ : ∃ x : UInt16, IntKind.u16.wrap n = (x.toNat : Int) := ⟨UInt16.ofNat (n % 65536).toNat, by rw [IntKind.wrap_u16, UInt16.toNat_ofNat']; omega⟩
  go_wp2
  refine bodyPost_ret (v := _) (by simp [results, Try.results11, go_sem, r0, r1, r2, r3, r4, r5, r6, r7, r8]; with_reducible rfl) rfl ?_
  refine ⟨_, rfl, ⟨⟨f, a, c, p, s, bs, vs, x, o⟩, _, _, rfl, hb.below ?_, hv.below ?_⟩, ?_⟩
  all_goals
    repeat' (refine Below.setCell ?_ (by simp) _)
    exact B0

set_option maxRecDepth 100000 in
set_option maxHeartbeats 1000000 in
theorem odd_7 (v : Value) (q : Rq) (what n : Int) (w : World) (h : IsRq w v q) (_hw : -9223372036854775808 ≤ what ∧ what ≤ 9223372036854775807) (_hn : -9223372036854775808 ≤ n ∧ n ≤ 9223372036854775807)
    (CW : Hid (∀ w, Calls Try.prog 15 #[.int .i64 what, .int .i64 0, .int .i64 9] w fun e w' => e = .returned (.int .i64 7) ∧ w = w')) :
    Calls Try.prog 11 #[v, .int .i64 what, .int .i64 n] w fun e w' => ∃ v', e = .returned v' ∧ (∃ q', IsRq w' v' q') ∧ Below w.heap.size w w' := by
  obtain ⟨ab, capb, av, capv, rfl, -, -⟩ := h.slices
  obtain ⟨vb, vv, hE, hb, hv⟩ := h
  obtain ⟨f, a, c, p, s, bs, vs, m, o⟩ := q
  simp only [rqV, Value.agg.injEq, Array.mk.injEq, List.cons.injEq, and_true, true_and] at hE
  obtain ⟨rfl, rfl⟩ := hE
  simp only at hb hv ⊢
  have B0 : Below w.heap.size w ((w.alloc (.cells #[.int .i64 f, .int .i64 a, .int .i64 c, .int .i64 p, .int .i64 s, .slice ab bs.length capb, .slice av vs.length capv, .int .u16 m.toNat, .int .u16 o.toNat] 26)).alloc (.cells #[.int .i64 0, .int .i64 0, .int .i64 0, .int .i64 0, .int .i64 0, .slice none 0 0, .slice none 0 0, .int .u16 0, .int .u16 0] 26)) := ((Below.refl _ _).alloc (Nat.le_refl _) _).alloc (by simp) _
  have X0 := (Blk.new w 26 [.int .i64 f, .int .i64 a, .int .i64 c, .int .i64 p, .int .i64 s, .slice ab bs.length capb, .slice av vs.length capv, .int .u16 m.toNat, .int .u16 o.toNat]).alloc (.cells #[.int .i64 0, .int .i64 0, .int .i64 0, .int .i64 0, .int .i64 0, .slice none 0 0, .slice none 0 0, .int .u16 0, .int .u16 0] 26)
  have X1 := Blk.new (w.alloc (.cells #[.int .i64 f, .int .i64 a, .int .i64 c, .int .i64 p, .int .i64 s, .slice ab bs.length capb, .slice av vs.length capv, .int .u16 m.toNat, .int .u16 o.toNat] 26)) 26 [.int .i64 0, .int .i64 0, .int .i64 0, .int .i64 0, .int .i64 0, .slice none 0 0, .slice none 0 0, .int .u16 0, .int .u16 0]
  simp only [World.size_alloc] at X1
  go_enter Try.func11, Try.ntmps11
  go_wp2_with fail
  refine (CW.out _).mono ?_
  rintro e wz ⟨rfl, rfl⟩
  have hzs : w.heap.size + 1 + 1 ≤ ((w.alloc (.cells #[.int .i64 f, .int .i64 a, .int .i64 c, .int .i64 p, .int .i64 s, .slice ab bs.length capb, .slice av vs.length capv, .int .u16 m.toNat, .int .u16 o.toNat] 26)).alloc (.cells #[.int .i64 0, .int .i64 0, .int .i64 0, .int .i64 0, .int .i64 0, .slice none 0 0, .slice none 0 0, .int .u16 0, .int .u16 0] 26)).heap.size := by simp
  generalize (w.alloc (.cells #[.int .i64 f, .int .i64 a, .int .i64 c, .int .i64 p, .int .i64 s, .slice ab bs.length capb, .slice av vs.length capv, .int .u16 m.toNat, .int .u16 o.toNat] 26)).alloc (.cells #[.int .i64 0, .int .i64 0, .int .i64 0, .int .i64 0, .int .i64 0, .slice none 0 0, .slice none 0 0, .int .u16 0, .int .u16 0] 26) = wz at *
  have d0 := X0.cell 0
  have d1 := X0.cell 1
  have d2 := X0.cell 2
  have d3 := X0.cell 3
  have d4 := X0.cell 4
  have d5 := X0.cell 5
  have d6 := X0.cell 6
  have d7 := X0.cell 7
  have d8 := X0.cell 8
  simp at d0 d1 d2 d3 d4 d5 d6 d7 d8
  have fd := X0.frozen
  have gd := X0.lt
  have r0 := X1.cell 0
  have r1 := X1.cell 1
  have r2 := X1.cell 2
  have r3 := X1.cell 3
  have r4 := X1.cell 4
  have r5 := X1.cell 5
  have r6 := X1.cell 6
  have r7 := X1.cell 7
  have r8 := X1.cell 8
  simp at r0 r1 r2 r3 r4 r5 r6 r7 r8
  have fr := X1.frozen
  have gr := X1.lt
  go_wp2
  refine bodyPost_ret (v := _) (by simp [results, Try.results11, go_sem, r0, r1, r2, r3, r4, r5, r6, r7, r8]; with_reducible rfl) rfl ?_
  refine ⟨_, rfl, ⟨⟨n, a, c, p, s, bs, vs, m, o⟩, _, _, rfl, hb.below ?_, hv.below ?_⟩, ?_⟩
  all_goals
    repeat' (refine Below.setCell ?_ (by simp) _)
    exact B0

set_option maxRecDepth 100000 in
set_option maxHeartbeats 1000000 in
theorem odd_8 (v : Value) (q : Rq) (what n : Int) (w : World) (h : IsRq w v q) (_hw : -9223372036854775808 ≤ what ∧ what ≤ 9223372036854775807) (_hn : -9223372036854775808 ≤ n ∧ n ≤ 9223372036854775807)
    (CW : Hid (∀ w, Calls Try.prog 15 #[.int .i64 what, .int .i64 0, .int .i64 9] w fun e w' => e = .returned (.int .i64 8) ∧ w = w')) :
    Calls Try.prog 11 #[v, .int .i64 what, .int .i64 n] w fun e w' => ∃ v', e = .returned v' ∧ (∃ q', IsRq w' v' q') ∧ Below w.heap.size w w' := by
  obtain ⟨ab, capb, av, capv, rfl, -, -⟩ := h.slices
  obtain ⟨vb, vv, hE, hb, hv⟩ := h
  obtain ⟨f, a, c, p, s, bs, vs, m, o⟩ := q
  simp only [rqV, Value.agg.injEq, Array.mk.injEq, List.cons.injEq, and_true, true_and] at hE
  obtain ⟨rfl, rfl⟩ := hE
  simp only at hb hv ⊢
  have B0 : Below w.heap.size w ((w.alloc (.cells #[.int .i64 f, .int .i64 a, .int .i64 c, .int .i64 p, .int .i64 s, .slice ab bs.length capb, .slice av vs.length capv, .int .u16 m.toNat, .int .u16 o.toNat] 26)).alloc (.cells #[.int .i64 0, .int .i64 0, .int .i64 0, .int .i64 0, .int .i64 0, .slice none 0 0, .slice none 0 0, .int .u16 0, .int .u16 0] 26)) := ((Below.refl _ _).alloc (Nat.le_refl _) _).alloc (by simp) _
  have X0 := (Blk.new w 26 [.int .i64 f, .int .i64 a, .int .i64 c, .int .i64 p, .int .i64 s, .slice ab bs.length capb, .slice av vs.length capv, .int .u16 m.toNat, .int .u16 o.toNat]).alloc (.cells #[.int .i64 0, .int .i64 0, .int .i64 0, .int .i64 0, .int .i64 0, .slice none 0 0, .slice none 0 0, .int .u16 0, .int .u16 0] 26)
  have X1 := Blk.new (w.alloc (.cells #[.int .i64 f, .int .i64 a, .int .i64 c, .int .i64 p, .int .i64 s, .slice ab bs.length capb, .slice av vs.length capv, .int .u16 m.toNat, .int .u16 o.toNat] 26)) 26 [.int .i64 0, .int .i64 0, .int .i64 0, .int .i64 0, .int .i64 0, .slice none 0 0, .slice none 0 0, .int .u16 0, .int .u16 0]
  simp only [World.size_alloc] at X1
  go_enter Try.func11, Try.ntmps11
  go_wp2_with fail
  refine (CW.out _).mono ?_
  rintro e wz ⟨rfl, rfl⟩
  have hzs : w.heap.size + 1 + 1 ≤ ((w.alloc (.cells #[.int .i64 f, .int .i64 a, .int .i64 c, .int .i64 p, .int .i64 s, .slice ab bs.length capb, .slice av vs.length capv, .int .u16 m.toNat, .int .u16 o.toNat] 26)).alloc (.cells #[.int .i64 0, .int .i64 0, .int .i64 0, .int .i64 0, .int .i64 0, .slice none 0 0, .slice none 0 0, .int .u16 0, .int .u16 0] 26)).heap.size := by simp
  generalize (w.alloc (.cells #[.int .i64 f, .int .i64 a, .int .i64 c, .int .i64 p, .int .i64 s, .slice ab bs.length capb, .slice av vs.length capv, .int .u16 m.toNat, .int .u16 o.toNat] 26)).alloc (.cells #[.int .i64 0, .int .i64 0, .int .i64 0, .int .i64 0, .int .i64 0, .slice none 0 0, .slice none 0 0, .int .u16 0, .int .u16 0] 26) = wz at *
  obtain ⟨k, hA, hAl⟩ := and_mask n 11 2047 (by decide) (by decide)
  have hmk := mk_zer 22 4 (.bool false) 1 Try.underlying22 info_bool rfl (k : Int) k rfl (by omega) (by omega)
  go_wp2
  refine h_begin 9 rfl (by kernel_rfl) ?_
  replace X0 := X0.drew
  replace X1 := X1.drew
  replace B0 := B0.drew
  replace hzs : w.heap.size + 1 + 1 ≤ wz.drew.heap.size := hzs
  generalize wz.drew = y0 at *
  refine h_pure trivial (by kernel_rfl) (fun _ _ _ d _ h => by cases d <;> exact h) 0 rfl (by kernel_rfl) (by kernel_rfl) (fun w' => by go_simp; with_reducible rfl) ?_; try simp only [Act.put, List.setIfInBounds_toArray, List.set_cons_zero, List.set_cons_succ]
  refine h_pure trivial (by kernel_rfl) (fun _ _ _ d _ h => by cases d <;> exact h) 1 rfl (by kernel_rfl) (by kernel_rfl) (fun w' => by go_simp; with_reducible rfl) ?_; try simp only [Act.put, List.setIfInBounds_toArray, List.set_cons_zero, List.set_cons_succ]
  refine h_pure trivial (by kernel_rfl) (fun _ _ _ d _ h => by cases d <;> exact h) 2 rfl (by kernel_rfl) (by kernel_rfl) (fun w' => by go_simp; with_reducible rfl) ?_; try simp only [Act.put, List.setIfInBounds_toArray, List.set_cons_zero, List.set_cons_succ]
  refine h_pure trivial (by kernel_rfl) (fun _ _ _ d _ h => by cases d <;> exact h) 3 rfl (by kernel_rfl) (by kernel_rfl) (fun w' => by go_simp; with_reducible rfl) ?_; try simp only [Act.put, List.setIfInBounds_toArray, List.set_cons_zero, List.set_cons_succ]
  refine h_pure trivial (by kernel_rfl) (fun _ _ _ d _ h => by cases d <;> exact h) 5 rfl (by kernel_rfl) (by kernel_rfl) (fun w' => by go_simp; with_reducible rfl) ?_; try simp only [Act.put, List.setIfInBounds_toArray, List.set_cons_zero, List.set_cons_succ]
  refine h_move2 4 6 (by kernel_rfl) (h_op 4 rfl (by kernel_rfl) (fun K hK => ?_)) (h_op 6 rfl (by kernel_rfl) (fun K hK => ?_))
  · skip
    go_simp
    have R := zrow_b y0 k (by omega) _ rfl
    have Bl := (Below.refl y0.heap.size y0).alloc (Nat.le_refl _) (.cells (zer k (.bool false)) 4)
    have nv : NewV (w.heap.size + 1 + 1) (.slice (some ⟨y0.heap.size, 0, none⟩) k k) := NewV.some _ _ _ _ _ (by omega)
    replace X0 := X0.below Bl X0.lt
    replace X1 := X1.below Bl X1.lt
    replace B0 := B0.trans (Bl.mono (by omega))
    replace hzs : w.heap.size + 1 + 1 ≤ (y0.alloc (.cells (zer k (.bool false)) 4)).heap.size := Nat.le_trans hzs Bl.size
    refine hK.out _ _ trivial ?_
    clear K hK Bl
    try simp only [Act.put, List.setIfInBounds_toArray, List.set_cons_zero, List.set_cons_succ]
    generalize y0.alloc (.cells (zer k (.bool false)) 4) = y1 at *
    generalize y0.heap.size = bn at *
    refine h_move 6 (by kernel_rfl) (h_op 6 rfl (by kernel_rfl) (fun K hK => ?_))
    have e4 := X0.cell 2
    simp at e4
    have f4 := X0.frozen
    have l4 := X0.lt
    go_simp
    clear e4 f4 l4
    replace X0 := X0.set 2 (.int .i64 k)
    simp at X0
    replace X1 := X1.set_ne (g := w.heap.size) (by omega) 2 (.int .i64 k)
    replace R := R.setCell_new (g := w.heap.size) (o := 2) (u := (.int .i64 k)) nv (by omega)
    replace B0 := B0.setCell (p := ⟨w.heap.size, 2, none⟩) (Nat.le_refl _) (.int .i64 k)
    replace hzs : w.heap.size + 1 + 1 ≤ (y1.setCell ⟨w.heap.size, 2, none⟩ (.int .i64 k)).heap.size := by simpa [World.setCell] using hzs
    refine hK.out _ _ trivial ?_
    clear K hK
    try simp only [Act.put, List.setIfInBounds_toArray, List.set_cons_zero, List.set_cons_succ]
    generalize y1.setCell ⟨w.heap.size, 2, none⟩ (.int .i64 k) = y2 at *
    refine h_pure trivial (by kernel_rfl) (fun _ _ _ d _ h => by cases d <;> exact h) 7 rfl (by kernel_rfl) (by kernel_rfl) (fun w' => by go_simp; with_reducible rfl) ?_; try simp only [Act.put, List.setIfInBounds_toArray, List.set_cons_zero, List.set_cons_succ]
    refine h_move 8 (by kernel_rfl) (h_op 8 rfl (by kernel_rfl) (fun K hK => ?_))
    have e4 := X0.cell 5
    simp at e4
    have f4 := X0.frozen
    have l4 := X0.lt
    go_simp
    clear e4 f4 l4
    replace X0 := X0.set 5 (.slice (some ⟨bn, 0, none⟩) k k)
    simp at X0
    replace X1 := X1.set_ne (g := w.heap.size) (by omega) 5 (.slice (some ⟨bn, 0, none⟩) k k)
    replace R := R.setCell_new (g := w.heap.size) (o := 5) (u := (.slice (some ⟨bn, 0, none⟩) k k)) nv (by omega)
    replace B0 := B0.setCell (p := ⟨w.heap.size, 5, none⟩) (Nat.le_refl _) (.slice (some ⟨bn, 0, none⟩) k k)
    replace hzs : w.heap.size + 1 + 1 ≤ (y2.setCell ⟨w.heap.size, 5, none⟩ (.slice (some ⟨bn, 0, none⟩) k k)).heap.size := by simpa [World.setCell] using hzs
    refine hK.out _ _ trivial ?_
    clear K hK
    try simp only [Act.put, List.setIfInBounds_toArray, List.set_cons_zero, List.set_cons_succ]
    generalize y2.setCell ⟨w.heap.size, 5, none⟩ (.slice (some ⟨bn, 0, none⟩) k k) = y3 at *
    refine h_done (by kernel_rfl) ?_
    have d0 := X0.cell 0
    have d1 := X0.cell 1
    have d2 := X0.cell 2
    have d3 := X0.cell 3
    have d4 := X0.cell 4
    have d5 := X0.cell 5
    have d6 := X0.cell 6
    have d7 := X0.cell 7
    have d8 := X0.cell 8
    simp at d0 d1 d2 d3 d4 d5 d6 d7 d8
    have fd := X0.frozen
    have gd := X0.lt
    have r0 := X1.cell 0
    have r1 := X1.cell 1
    have r2 := X1.cell 2
    have r3 := X1.cell 3
    have r4 := X1.cell 4
    have r5 := X1.cell 5
    have r6 := X1.cell 6
    have r7 := X1.cell 7
    have r8 := X1.cell 8
    simp at r0 r1 r2 r3 r4 r5 r6 r7 r8
    have fr := X1.frozen
    have gr := X1.lt
    go_wp2
    refine bodyPost_ret (v := _) (by simp [results, Try.results11, go_sem, r0, r1, r2, r3, r4, r5, r6, r7, r8]; with_reducible rfl) rfl ?_
    refine ⟨_, rfl, ⟨⟨f, a, k, p, s, List.replicate k false, vs, m, o⟩, _, _, rfl, ?row, hv.below ?_⟩, ?_⟩
    case row =>
      repeat' (refine Row.setCell_new ?_ nv (by omega))
      exact R
    all_goals
      repeat' (refine Below.setCell ?_ (by simp) _)
      exact B0
  · skip
    have e4 := X0.cell 2
    simp at e4
    have f4 := X0.frozen
    have l4 := X0.lt
    go_simp
    clear e4 f4 l4
    replace X0 := X0.set 2 (.int .i64 k)
    simp at X0
    replace X1 := X1.set_ne (g := w.heap.size) (by omega) 2 (.int .i64 k)
    replace B0 := B0.setCell (p := ⟨w.heap.size, 2, none⟩) (Nat.le_refl _) (.int .i64 k)
    replace hzs : w.heap.size + 1 + 1 ≤ (y0.setCell ⟨w.heap.size, 2, none⟩ (.int .i64 k)).heap.size := by simpa [World.setCell] using hzs
    refine hK.out _ _ trivial ?_
    clear K hK
    try simp only [Act.put, List.setIfInBounds_toArray, List.set_cons_zero, List.set_cons_succ]
    generalize y0.setCell ⟨w.heap.size, 2, none⟩ (.int .i64 k) = y1 at *
    refine h_move 4 (by kernel_rfl) (h_op 4 rfl (by kernel_rfl) (fun K hK => ?_))
    go_simp
    have R := zrow_b y1 k (by omega) _ rfl
    have Bl := (Below.refl y1.heap.size y1).alloc (Nat.le_refl _) (.cells (zer k (.bool false)) 4)
    have nv : NewV (w.heap.size + 1 + 1) (.slice (some ⟨y1.heap.size, 0, none⟩) k k) := NewV.some _ _ _ _ _ (by omega)
    replace X0 := X0.below Bl X0.lt
    replace X1 := X1.below Bl X1.lt
    replace B0 := B0.trans (Bl.mono (by omega))
    replace hzs : w.heap.size + 1 + 1 ≤ (y1.alloc (.cells (zer k (.bool false)) 4)).heap.size := Nat.le_trans hzs Bl.size
    refine hK.out _ _ trivial ?_
    clear K hK Bl
    try simp only [Act.put, List.setIfInBounds_toArray, List.set_cons_zero, List.set_cons_succ]
    generalize y1.alloc (.cells (zer k (.bool false)) 4) = y2 at *
    generalize y1.heap.size = bn at *
    refine h_pure trivial (by kernel_rfl) (fun _ _ _ d _ h => by cases d <;> exact h) 7 rfl (by kernel_rfl) (by kernel_rfl) (fun w' => by go_simp; with_reducible rfl) ?_; try simp only [Act.put, List.setIfInBounds_toArray, List.set_cons_zero, List.set_cons_succ]
    refine h_move 8 (by kernel_rfl) (h_op 8 rfl (by kernel_rfl) (fun K hK => ?_))
    have e4 := X0.cell 5
    simp at e4
    have f4 := X0.frozen
    have l4 := X0.lt
    go_simp
    clear e4 f4 l4
    replace X0 := X0.set 5 (.slice (some ⟨bn, 0, none⟩) k k)
    simp at X0
    replace X1 := X1.set_ne (g := w.heap.size) (by omega) 5 (.slice (some ⟨bn, 0, none⟩) k k)
    replace R := R.setCell_new (g := w.heap.size) (o := 5) (u := (.slice (some ⟨bn, 0, none⟩) k k)) nv (by omega)
    replace B0 := B0.setCell (p := ⟨w.heap.size, 5, none⟩) (Nat.le_refl _) (.slice (some ⟨bn, 0, none⟩) k k)
    replace hzs : w.heap.size + 1 + 1 ≤ (y2.setCell ⟨w.heap.size, 5, none⟩ (.slice (some ⟨bn, 0, none⟩) k k)).heap.size := by simpa [World.setCell] using hzs
    refine hK.out _ _ trivial ?_
    clear K hK
    try simp only [Act.put, List.setIfInBounds_toArray, List.set_cons_zero, List.set_cons_succ]
    generalize y2.setCell ⟨w.heap.size, 5, none⟩ (.slice (some ⟨bn, 0, none⟩) k k) = y3 at *
    refine h_done (by kernel_rfl) ?_
    have d0 := X0.cell 0
    have d1 := X0.cell 1
    have d2 := X0.cell 2
    have d3 := X0.cell 3
    have d4 := X0.cell 4
    have d5 := X0.cell 5
    have d6 := X0.cell 6
    have d7 := X0.cell 7
    have d8 := X0.cell 8
    simp at d0 d1 d2 d3 d4 d5 d6 d7 d8
    have fd := X0.frozen
    have gd := X0.lt
    have r0 := X1.cell 0
    have r1 := X1.cell 1
    have r2 := X1.cell 2
    have r3 := X1.cell 3
    have r4 := X1.cell 4
    have r5 := X1.cell 5
    have r6 := X1.cell 6
    have r7 := X1.cell 7
    have r8 := X1.cell 8
    simp at r0 r1 r2 r3 r4 r5 r6 r7 r8
    have fr := X1.frozen
    have gr := X1.lt
    go_wp2
    refine bodyPost_ret (v := _) (by simp [results, Try.results11, go_sem, r0, r1, r2, r3, r4, r5, r6, r7, r8]; with_reducible rfl) rfl ?_
    refine ⟨_, rfl, ⟨⟨f, a, k, p, s, List.replicate k false, vs, m, o⟩, _, _, rfl, ?row, hv.below ?_⟩, ?_⟩
    case row =>
      repeat' (refine Row.setCell_new ?_ nv (by omega))
      exact R
    all_goals
      repeat' (refine Below.setCell ?_ (by simp) _)
      exact B0

set_option maxRecDepth 100000 in
set_option maxHeartbeats 1000000 in
theorem odd_9 (v : Value) (q : Rq) (what n : Int) (w : World) (h : IsRq w v q) (_hw : -9223372036854775808 ≤ what ∧ what ≤ 9223372036854775807) (_hn : -9223372036854775808 ≤ n ∧ n ≤ 9223372036854775807)
    (CW : Hid (∀ w, Calls Try.prog 15 #[.int .i64 what, .int .i64 0, .int .i64 9] w fun e w' => e = .returned (.int .i64 9) ∧ w = w')) :
    Calls Try.prog 11 #[v, .int .i64 what, .int .i64 n] w fun e w' => ∃ v', e = .returned v' ∧ (∃ q', IsRq w' v' q') ∧ Below w.heap.size w w' := by
  obtain ⟨ab, capb, av, capv, rfl, -, -⟩ := h.slices
  obtain ⟨vb, vv, hE, hb, hv⟩ := h
  obtain ⟨f, a, c, p, s, bs, vs, m, o⟩ := q
  simp only [rqV, Value.agg.injEq, Array.mk.injEq, List.cons.injEq, and_true, true_and] at hE
  obtain ⟨rfl, rfl⟩ := hE
  simp only at hb hv ⊢
  have B0 : Below w.heap.size w ((w.alloc (.cells #[.int .i64 f, .int .i64 a, .int .i64 c, .int .i64 p, .int .i64 s, .slice ab bs.length capb, .slice av vs.length capv, .int .u16 m.toNat, .int .u16 o.toNat] 26)).alloc (.cells #[.int .i64 0, .int .i64 0, .int .i64 0, .int .i64 0, .int .i64 0, .slice none 0 0, .slice none 0 0, .int .u16 0, .int .u16 0] 26)) := ((Below.refl _ _).alloc (Nat.le_refl _) _).alloc (by simp) _
  have X0 := (Blk.new w 26 [.int .i64 f, .int .i64 a, .int .i64 c, .int .i64 p, .int .i64 s, .slice ab bs.length capb, .slice av vs.length capv, .int .u16 m.toNat, .int .u16 o.toNat]).alloc (.cells #[.int .i64 0, .int .i64 0, .int .i64 0, .int .i64 0, .int .i64 0, .slice none 0 0, .slice none 0 0, .int .u16 0, .int .u16 0] 26)
  have X1 := Blk.new (w.alloc (.cells #[.int .i64 f, .int .i64 a, .int .i64 c, .int .i64 p, .int .i64 s, .slice ab bs.length capb, .slice av vs.length capv, .int .u16 m.toNat, .int .u16 o.toNat] 26)) 26 [.int .i64 0, .int .i64 0, .int .i64 0, .int .i64 0, .int .i64 0, .slice none 0 0, .slice none 0 0, .int .u16 0, .int .u16 0]
  simp only [World.size_alloc] at X1
  go_enter Try.func11, Try.ntmps11
  go_wp2_with fail
  refine (CW.out _).mono ?_
  rintro e wz ⟨rfl, rfl⟩
  have hzs : w.heap.size + 1 + 1 ≤ ((w.alloc (.cells #[.int .i64 f, .int .i64 a, .int .i64 c, .int .i64 p, .int .i64 s, .slice ab bs.length capb, .slice av vs.length capv, .int .u16 m.toNat, .int .u16 o.toNat] 26)).alloc (.cells #[.int .i64 0, .int .i64 0, .int .i64 0, .int .i64 0, .int .i64 0, .slice none 0 0, .slice none 0 0, .int .u16 0, .int .u16 0] 26)).heap.size := by simp
  generalize (w.alloc (.cells #[.int .i64 f, .int .i64 a, .int .i64 c, .int .i64 p, .int .i64 s, .slice ab bs.length capb, .slice av vs.length capv, .int .u16 m.toNat, .int .u16 o.toNat] 26)).alloc (.cells #[.int .i64 0, .int .i64 0, .int .i64 0, .int .i64 0, .int .i64 0, .slice none 0 0, .slice none 0 0, .int .u16 0, .int .u16 0] 26) = wz at *
  obtain ⟨k, hA, hAl⟩ := and_mask n 7 127 (by decide) (by decide)
  have hmk := mk_zer 23 24 (.int .u16 0) 2 Try.underlying23 info_w16 rfl (k : Int) k rfl (by omega) (by omega)
  go_wp2
  refine h_begin 9 rfl (by kernel_rfl) ?_
  replace X0 := X0.drew
  replace X1 := X1.drew
  replace B0 := B0.drew
  replace hzs : w.heap.size + 1 + 1 ≤ wz.drew.heap.size := hzs
  generalize wz.drew = y0 at *
  refine h_pure trivial (by kernel_rfl) (fun _ _ _ d _ h => by cases d <;> exact h) 0 rfl (by kernel_rfl) (by kernel_rfl) (fun w' => by go_simp; with_reducible rfl) ?_; try simp only [Act.put, List.setIfInBounds_toArray, List.set_cons_zero, List.set_cons_succ]
  refine h_pure trivial (by kernel_rfl) (fun _ _ _ d _ h => by cases d <;> exact h) 1 rfl (by kernel_rfl) (by kernel_rfl) (fun w' => by go_simp; with_reducible rfl) ?_; try simp only [Act.put, List.setIfInBounds_toArray, List.set_cons_zero, List.set_cons_succ]
  refine h_pure trivial (by kernel_rfl) (fun _ _ _ d _ h => by cases d <;> exact h) 2 rfl (by kernel_rfl) (by kernel_rfl) (fun w' => by go_simp; with_reducible rfl) ?_; try simp only [Act.put, List.setIfInBounds_toArray, List.set_cons_zero, List.set_cons_succ]
  refine h_pure trivial (by kernel_rfl) (fun _ _ _ d _ h => by cases d <;> exact h) 3 rfl (by kernel_rfl) (by kernel_rfl) (fun w' => by go_simp; with_reducible rfl) ?_; try simp only [Act.put, List.setIfInBounds_toArray, List.set_cons_zero, List.set_cons_succ]
  refine h_pure trivial (by kernel_rfl) (fun _ _ _ d _ h => by cases d <;> exact h) 5 rfl (by kernel_rfl) (by kernel_rfl) (fun w' => by go_simp; with_reducible rfl) ?_; try simp only [Act.put, List.setIfInBounds_toArray, List.set_cons_zero, List.set_cons_succ]
  refine h_move2 4 6 (by kernel_rfl) (h_op 4 rfl (by kernel_rfl) (fun K hK => ?_)) (h_op 6 rfl (by kernel_rfl) (fun K hK => ?_))
  · skip
    go_simp
    have R := zrow_w y0 k (by omega) _ rfl
    have Bl := (Below.refl y0.heap.size y0).alloc (Nat.le_refl _) (.cells (zer k (.int .u16 0)) 24)
    have nv : NewV (w.heap.size + 1 + 1) (.slice (some ⟨y0.heap.size, 0, none⟩) k k) := NewV.some _ _ _ _ _ (by omega)
    replace X0 := X0.below Bl X0.lt
    replace X1 := X1.below Bl X1.lt
    replace B0 := B0.trans (Bl.mono (by omega))
    replace hzs : w.heap.size + 1 + 1 ≤ (y0.alloc (.cells (zer k (.int .u16 0)) 24)).heap.size := Nat.le_trans hzs Bl.size
    refine hK.out _ _ trivial ?_
    clear K hK Bl
    try simp only [Act.put, List.setIfInBounds_toArray, List.set_cons_zero, List.set_cons_succ]
    generalize y0.alloc (.cells (zer k (.int .u16 0)) 24) = y1 at *
    generalize y0.heap.size = bn at *
    refine h_move 6 (by kernel_rfl) (h_op 6 rfl (by kernel_rfl) (fun K hK => ?_))
    have e4 := X0.cell 2
    simp at e4
    have f4 := X0.frozen
    have l4 := X0.lt
    go_simp
    clear e4 f4 l4
    replace X0 := X0.set 2 (.int .i64 k)
    simp at X0
    replace X1 := X1.set_ne (g := w.heap.size) (by omega) 2 (.int .i64 k)
    replace R := R.setCell_new (g := w.heap.size) (o := 2) (u := (.int .i64 k)) nv (by omega)
    replace B0 := B0.setCell (p := ⟨w.heap.size, 2, none⟩) (Nat.le_refl _) (.int .i64 k)
    replace hzs : w.heap.size + 1 + 1 ≤ (y1.setCell ⟨w.heap.size, 2, none⟩ (.int .i64 k)).heap.size := by simpa [World.setCell] using hzs
    refine hK.out _ _ trivial ?_
    clear K hK
    try simp only [Act.put, List.setIfInBounds_toArray, List.set_cons_zero, List.set_cons_succ]
    generalize y1.setCell ⟨w.heap.size, 2, none⟩ (.int .i64 k) = y2 at *
    refine h_pure trivial (by kernel_rfl) (fun _ _ _ d _ h => by cases d <;> exact h) 7 rfl (by kernel_rfl) (by kernel_rfl) (fun w' => by go_simp; with_reducible rfl) ?_; try simp only [Act.put, List.setIfInBounds_toArray, List.set_cons_zero, List.set_cons_succ]
    refine h_move 8 (by kernel_rfl) (h_op 8 rfl (by kernel_rfl) (fun K hK => ?_))
    have e4 := X0.cell 6
    simp at e4
    have f4 := X0.frozen
    have l4 := X0.lt
    go_simp
    clear e4 f4 l4
    replace X0 := X0.set 6 (.slice (some ⟨bn, 0, none⟩) k k)
    simp at X0
    replace X1 := X1.set_ne (g := w.heap.size) (by omega) 6 (.slice (some ⟨bn, 0, none⟩) k k)
    replace R := R.setCell_new (g := w.heap.size) (o := 6) (u := (.slice (some ⟨bn, 0, none⟩) k k)) nv (by omega)
    replace B0 := B0.setCell (p := ⟨w.heap.size, 6, none⟩) (Nat.le_refl _) (.slice (some ⟨bn, 0, none⟩) k k)
    replace hzs : w.heap.size + 1 + 1 ≤ (y2.setCell ⟨w.heap.size, 6, none⟩ (.slice (some ⟨bn, 0, none⟩) k k)).heap.size := by simpa [World.setCell] using hzs
    refine hK.out _ _ trivial ?_
    clear K hK
    try simp only [Act.put, List.setIfInBounds_toArray, List.set_cons_zero, List.set_cons_succ]
    generalize y2.setCell ⟨w.heap.size, 6, none⟩ (.slice (some ⟨bn, 0, none⟩) k k) = y3 at *
    refine h_done (by kernel_rfl) ?_
    have d0 := X0.cell 0
    have d1 := X0.cell 1
    have d2 := X0.cell 2
    have d3 := X0.cell 3
    have d4 := X0.cell 4
    have d5 := X0.cell 5
    have d6 := X0.cell 6
    have d7 := X0.cell 7
    have d8 := X0.cell 8
    simp at d0 d1 d2 d3 d4 d5 d6 d7 d8
    have fd := X0.frozen
    have gd := X0.lt
    have r0 := X1.cell 0
    have r1 := X1.cell 1
    have r2 := X1.cell 2
    have r3 := X1.cell 3
    have r4 := X1.cell 4
    have r5 := X1.cell 5
    have r6 := X1.cell 6
    have r7 := X1.cell 7
    have r8 := X1.cell 8
    simp at r0 r1 r2 r3 r4 r5 r6 r7 r8
    have fr := X1.frozen
    have gr := X1.lt
    go_wp2
    refine bodyPost_ret (v := _) (by simp [results, Try.results11, go_sem, r0, r1, r2, r3, r4, r5, r6, r7, r8]; with_reducible rfl) rfl ?_
    refine ⟨_, rfl, ⟨⟨f, a, k, p, s, bs, List.replicate k 0, m, o⟩, _, _, rfl, hb.below ?_, ?row⟩, ?_⟩
    case row =>
      repeat' (refine Row.setCell_new ?_ nv (by omega))
      exact R
    all_goals
      repeat' (refine Below.setCell ?_ (by simp) _)
      exact B0
  · skip
    have e4 := X0.cell 2
    simp at e4
    have f4 := X0.frozen
    have l4 := X0.lt
    go_simp
    clear e4 f4 l4
    replace X0 := X0.set 2 (.int .i64 k)
    simp at X0
    replace X1 := X1.set_ne (g := w.heap.size) (by omega) 2 (.int .i64 k)
    replace B0 := B0.setCell (p := ⟨w.heap.size, 2, none⟩) (Nat.le_refl _) (.int .i64 k)
    replace hzs : w.heap.size + 1 + 1 ≤ (y0.setCell ⟨w.heap.size, 2, none⟩ (.int .i64 k)).heap.size := by simpa [World.setCell] using hzs
    refine hK.out _ _ trivial ?_
    clear K hK
    try simp only [Act.put, List.setIfInBounds_toArray, List.set_cons_zero, List.set_cons_succ]
    generalize y0.setCell ⟨w.heap.size, 2, none⟩ (.int .i64 k) = y1 at *
    refine h_move 4 (by kernel_rfl) (h_op 4 rfl (by kernel_rfl) (fun K hK => ?_))
    go_simp
    have R := zrow_w y1 k (by omega) _ rfl
    have Bl := (Below.refl y1.heap.size y1).alloc (Nat.le_refl _) (.cells (zer k (.int .u16 0)) 24)
    have nv : NewV (w.heap.size + 1 + 1) (.slice (some ⟨y1.heap.size, 0, none⟩) k k) := NewV.some _ _ _ _ _ (by omega)
    replace X0 := X0.below Bl X0.lt
    replace X1 := X1.below Bl X1.lt
    replace B0 := B0.trans (Bl.mono (by omega))
    replace hzs : w.heap.size + 1 + 1 ≤ (y1.alloc (.cells (zer k (.int .u16 0)) 24)).heap.size := Nat.le_trans hzs Bl.size
    refine hK.out _ _ trivial ?_
    clear K hK Bl
    try simp only [Act.put, List.setIfInBounds_toArray, List.set_cons_zero, List.set_cons_succ]
    generalize y1.alloc (.cells (zer k (.int .u16 0)) 24) = y2 at *
    generalize y1.heap.size = bn at *
    refine h_pure trivial (by kernel_rfl) (fun _ _ _ d _ h => by cases d <;> exact h) 7 rfl (by kernel_rfl) (by kernel_rfl) (fun w' => by go_simp; with_reducible rfl) ?_; try simp only [Act.put, List.setIfInBounds_toArray, List.set_cons_zero, List.set_cons_succ]
    refine h_move 8 (by kernel_rfl) (h_op 8 rfl (by kernel_rfl) (fun K hK => ?_))
    have e4 := X0.cell 6
    simp at e4
    have f4 := X0.frozen
    have l4 := X0.lt
    go_simp
    clear e4 f4 l4
    replace X0 := X0.set 6 (.slice (some ⟨bn, 0, none⟩) k k)
    simp at X0
    replace X1 := X1.set_ne (g := w.heap.size) (by omega) 6 (.slice (some ⟨bn, 0, none⟩) k k)
    replace R := R.setCell_new (g := w.heap.size) (o := 6) (u := (.slice (some ⟨bn, 0, none⟩) k k)) nv (by omega)
    replace B0 := B0.setCell (p := ⟨w.heap.size, 6, none⟩) (Nat.le_refl _) (.slice (some ⟨bn, 0, none⟩) k k)
    replace hzs : w.heap.size + 1 + 1 ≤ (y2.setCell ⟨w.heap.size, 6, none⟩ (.slice (some ⟨bn, 0, none⟩) k k)).heap.size := by simpa [World.setCell] using hzs
    refine hK.out _ _ trivial ?_
    clear K hK
    try simp only [Act.put, List.setIfInBounds_toArray, List.set_cons_zero, List.set_cons_succ]
    generalize y2.setCell ⟨w.heap.size, 6, none⟩ (.slice (some ⟨bn, 0, none⟩) k k) = y3 at *
    refine h_done (by kernel_rfl) ?_
    have d0 := X0.cell 0
    have d1 := X0.cell 1
    have d2 := X0.cell 2
    have d3 := X0.cell 3
    have d4 := X0.cell 4
    have d5 := X0.cell 5
    have d6 := X0.cell 6
    have d7 := X0.cell 7
    have d8 := X0.cell 8
    simp at d0 d1 d2 d3 d4 d5 d6 d7 d8
    have fd := X0.frozen
    have gd := X0.lt
    have r0 := X1.cell 0
    have r1 := X1.cell 1
    have r2 := X1.cell 2
    have r3 := X1.cell 3
    have r4 := X1.cell 4
    have r5 := X1.cell 5
    have r6 := X1.cell 6
    have r7 := X1.cell 7
    have r8 := X1.cell 8
    simp at r0 r1 r2 r3 r4 r5 r6 r7 r8
    have fr := X1.frozen
    have gr := X1.lt
    go_wp2
    refine bodyPost_ret (v := _) (by simp [results, Try.results11, go_sem, r0, r1, r2, r3, r4, r5, r6, r7, r8]; with_reducible rfl) rfl ?_
    refine ⟨_, rfl, ⟨⟨f, a, k, p, s, bs, List.replicate k 0, m, o⟩, _, _, rfl, hb.below ?_, ?row⟩, ?_⟩
    case row =>
      repeat' (refine Row.setCell_new ?_ nv (by omega))
      exact R
    all_goals
      repeat' (refine Below.setCell ?_ (by simp) _)
      exact B0

set_option maxHeartbeats 400000 in
theorem within9 (n : Int) (_w : World) (hn : -9223372036854775808 ≤ n ∧ n ≤ 9223372036854775807) : ∃ m : Int, 0 ≤ m ∧ m ≤ 9 ∧ ∀ w, Calls Try.prog 15 #[.int .i64 n, .int .i64 0, .int .i64 9] w fun e w' => e = .returned (.int .i64 m) ∧ w = w' := by
  obtain ⟨hn1, hn2⟩ := hn
  by_cases g1 : 0 ≤ n ∧ n ≤ 9
  · obtain ⟨g1, g2⟩ := g1
    refine ⟨n, g1, g2, fun w => ?_⟩
    go_enter Try.func15, Try.ntmps15
    go_wp2
    go_ret
    exact ⟨rfl, rfl⟩
  · have b1 := Int.tmod_lt_of_pos n (show (0 : Int) < 10 by decide)
    have b2 := Int.lt_tmod_of_pos n (show (0 : Int) < 10 by decide)
    have hg : ((0 : Int) ≤ n ∧ 9 < n) ∨ n < 0 := by omega
    generalize hq : n.tmod 10 = q at *
    have HQ : Hid (n.tmod 10 = q) := hq
    clear g1
    by_cases hneg : q < 0
    · refine ⟨q + 10, by omega, by omega, fun w => ?_⟩
      rcases hg with ⟨g1, g2⟩ | g1
      all_goals
        go_enter Try.func15, Try.ntmps15
        go_wp2
        go_ret
        exact ⟨ret_int (by omega), rfl⟩
    · refine ⟨q, by omega, by omega, fun w => ?_⟩
      rcases hg with ⟨g1, g2⟩ | g1
      all_goals
        go_enter Try.func15, Try.ntmps15
        go_wp2
        go_ret
        exact ⟨ret_int (by omega), rfl⟩

theorem odd_law3 (v : Value) (q : Rq) (what n : Int) (w : World) (h : IsRq w v q) (hw : -9223372036854775808 ≤ what ∧ what ≤ 9223372036854775807) (hn : -9223372036854775808 ≤ n ∧ n ≤ 9223372036854775807) :
    Calls Try.prog 11 #[v, .int .i64 what, .int .i64 n] w fun e w' => ∃ v', e = .returned v' ∧ (∃ q', IsRq w' v' q') ∧ Below w.heap.size w w' := by
  obtain ⟨m, m0, m9, C⟩ := within9 what w hw
  obtain rfl | rfl | rfl | rfl | rfl | rfl | rfl | rfl | rfl | rfl : m = 0 ∨ m = 1 ∨ m = 2 ∨ m = 3 ∨ m = 4 ∨ m = 5 ∨ m = 6 ∨ m = 7 ∨ m = 8 ∨ m = 9 := by omega
  · exact odd_0 v q what n w h hw hn C
  · exact odd_1 v q what n w h hw hn C
  · exact odd_2 v q what n w h hw hn C
  · exact odd_3 v q what n w h hw hn C
  · exact odd_4 v q what n w h hw hn C
  · exact odd_5 v q what n w h hw hn C
  · exact odd_6 v q what n w h hw hn C
  · exact odd_7 v q what n w h hw hn C
  · exact odd_8 v q what n w h hw hn C
  · exact odd_9 v q what n w h hw hn C

theorem info_int : (Try.prog.info? 3).map (fun i => (i.zero, i.size, i.bytes)) = some (some (.int .i64 0), 1, 8) := by kernel_rfl
set_option maxHeartbeats 1000000 in
theorem tape_law3 (k : Nat) (w : World) (hk : k ≤ 1000) :
    Calls Try.prog 7 #[.int .i64 k] w fun e w' => ∃ v', e = .returned v' ∧ ∃ l : List Int, Row w' v' (l.map iV) ∧ (∀ x ∈ l, -9223372036854775808 ≤ x ∧ x ≤ 9223372036854775807) ∧ Below w.heap.size w w' := by
  go_enter Try.func7, Try.ntmps7
  go_wp2
  go_loopw [3, 4] (fun z i wr => ∃ (j : Nat) (l : List Int), j ≤ 900 ∧ i = .int .i64 j ∧ wr.ownsRow w.heap.size 3 1 z j (l.map iV) ∧ Hid (∀ x ∈ l, -9223372036854775808 ≤ x ∧ x ≤ 9223372036854775807) ∧ Below w.heap.size w wr) (fun _ i _ => 900 - (intOf i).toNat)
  case atStart => exact ⟨0, [], by omega, rfl, World.ownsRow_nil _ _ _ _, fun x hx => by simp at hx, Below.refl _ _⟩
  case round =>
    obtain ⟨j, l, hj, rfl, ho, HL, hb⟩ := hrel
    have hz := hb.size
    by_cases hlt : j < 900
    · have hlt' : (j : Int) < 900 := by omega
      have p1 : (j : Int) * j ≤ 810000 := by
        have := Nat.mul_le_mul hj hj
        have e : ((j * j : Nat) : Int) = (j : Int) * j := by simp
        omega
      have p0 : 0 ≤ (j : Int) * j := by
        have e : ((j * j : Nat) : Int) = (j : Int) * j := by simp
        omega
      have p3 : (j : Int) * k ≤ 900000 := by
        have := Nat.mul_le_mul hj hk
        have e : ((j * k : Nat) : Int) = (j : Int) * k := by simp
        omega
      have p2 : 0 ≤ (j : Int) * k := by
        have e : ((j * k : Nat) : Int) = (j : Int) * k := by simp
        omega
      obtain ⟨t, ht⟩ : ∃ t, ((j : Int) * j * 7 + (k : Int) * 31 + (j : Int) * k) % 211 = t := ⟨_, rfl⟩
      have t0 : 0 ≤ t := by omega
      have t1 : t ≤ 210 := by omega
      have RN := row_new wr [.int .i64 t] 3 1 rfl (by decide)
      go_wp2_with (at_builtin; refine wpList_app rfl (.tmp 9) (.tmp 22) 28 rfl w.heap.size 3 (.int .i64 0) 8 Try.underlying28 info_int rfl rfl (ho.alloc _) rfl RN (by intro u hu; simp at hu; subst hu; rfl) (by simp [maxLen]; omega) (by simp; omega) (by simp; omega) ?_)
      intro v7 w7 ho7 hg7
      have B7 := (hb.alloc hz (.cells #[.int .i64 t] 3)).grown hg7 (by simp; omega) (fun k hk => (ho.lt k hk).1)
      clear ht p0 p1 p2 p3 RN
      go_wp2
      go_roundw
      case rel => exact ⟨j + 1, l ++ [t], by omega, by go_num, by simpa using ho7, fun y hy => by
        rcases List.mem_append.1 hy with h | h
        · exact HL.out y h
        · simp at h; omega, B7⟩
      case measure => simp [intOf]; omega
    · have hlt' : ¬ (j : Int) < 900 := by omega
      go_wp2
      go_ret
      exact ⟨_, rfl, l, Row.of_owns ho, HL.out, hb⟩


end Go.Proofs.Ytaoimlcgifihiaa
