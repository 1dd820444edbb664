/- The fourth statements' own helpers: odd (some reply), tape (some numbers). -/
import Derived.Test.YtbajlhpmmmhkoaaJ29
import Derived.Test.YtbajlhpmmmhkoaaJ42
namespace Go.Proofs.Ytbajlhpmmmhkoaa
open Go.RowKit
theorem zrow_u (w : World) (k : Nat) (h : k ≤ 100000) (g : Nat) (hg : g = w.heap.size) : Row (w.alloc (.cells (zer k (.int .u8 0)) 5)) (.slice (some ⟨g, 0, none⟩) k k) ((List.replicate k (0 : UInt8)).map bV) := by
 subst hg
 have := (zer_blk w k (.int .u8 0) 5).row k (by simp) (by unfold maxLen; omega)
 have e : (List.replicate k (0 : UInt8)).map bV = List.replicate k (.int .u8 0) := by rw [List.map_replicate]; rfl
 rw [e]
 simpa using this
set_option maxRecDepth 100000 in
set_option maxHeartbeats 1000000 in
theorem odd4_0 (v : Value) (r : Rp) (what n : Int) (w : World) (h : IsRp w v r)
  (CW : Hid (∀ w, Calls Try.prog 14 #[.int .i64 what, .int .i64 0, .int .i64 8] w fun e w' => e = .returned (.int .i64 0) ∧ w = w')) :
  Calls Try.prog 9 #[v, .int .i64 what, .int .i64 n] w fun e w' => ∃ v', e = .returned v' ∧ (∃ r', IsRp w' v' r') ∧ Below w.heap.size w w' := by
 obtain ⟨ab, capb, av, capv, ad, capd, rfl, -, -, -⟩ := h.slices
 obtain ⟨vb, vv, vd, hE, hb, hv, hd⟩ := h
 obtain ⟨f, k0, a, c, s, bs, vs, m, o, ds⟩ := r
 simp only [rpV, Value.agg.injEq, Array.mk.injEq, List.cons.injEq, and_true, true_and] at hE
 obtain ⟨rfl, rfl, rfl⟩ := hE
 simp only at hb hv hd ⊢
 have B0 : Below w.heap.size w ((w.alloc (.cells #[.int .i64 f, .int .i64 k0, .int .i64 a, .int .i64 c, .int .i64 s, .slice ab bs.length capb, .slice av vs.length capv, .int .u16 m.toNat, .int .u16 o.toNat, .slice ad ds.length capd] 35)).alloc (.cells #[.int .i64 0, .int .i64 0, .int .i64 0, .int .i64 0, .int .i64 0, .slice none 0 0, .slice none 0 0, .int .u16 0, .int .u16 0, .slice none 0 0] 35)) := ((Below.refl _ _).alloc (Nat.le_refl _) _).alloc (by simp) _
 have X0 := (Blk.new w 35 [.int .i64 f, .int .i64 k0, .int .i64 a, .int .i64 c, .int .i64 s, .slice ab bs.length capb, .slice av vs.length capv, .int .u16 m.toNat, .int .u16 o.toNat, .slice ad ds.length capd]).alloc (.cells #[.int .i64 0, .int .i64 0, .int .i64 0, .int .i64 0, .int .i64 0, .slice none 0 0, .slice none 0 0, .int .u16 0, .int .u16 0, .slice none 0 0] 35)
 have X1 := Blk.new (w.alloc (.cells #[.int .i64 f, .int .i64 k0, .int .i64 a, .int .i64 c, .int .i64 s, .slice ab bs.length capb, .slice av vs.length capv, .int .u16 m.toNat, .int .u16 o.toNat, .slice ad ds.length capd] 35)) 35 [.int .i64 0, .int .i64 0, .int .i64 0, .int .i64 0, .int .i64 0, .slice none 0 0, .slice none 0 0, .int .u16 0, .int .u16 0, .slice none 0 0]
 simp only [World.size_alloc] at X1
 go_enter Try.func9, Try.ntmps9
 go_wp2_with fail
 refine (CW.out _).mono ?_
 rintro e wz ⟨rfl, rfl⟩
 have hzs : w.heap.size + 1 + 1 ≤ ((w.alloc (.cells #[.int .i64 f, .int .i64 k0, .int .i64 a, .int .i64 c, .int .i64 s, .slice ab bs.length capb, .slice av vs.length capv, .int .u16 m.toNat, .int .u16 o.toNat, .slice ad ds.length capd] 35)).alloc (.cells #[.int .i64 0, .int .i64 0, .int .i64 0, .int .i64 0, .int .i64 0, .slice none 0 0, .slice none 0 0, .int .u16 0, .int .u16 0, .slice none 0 0] 35)).heap.size := by simp
 generalize (w.alloc (.cells #[.int .i64 f, .int .i64 k0, .int .i64 a, .int .i64 c, .int .i64 s, .slice ab bs.length capb, .slice av vs.length capv, .int .u16 m.toNat, .int .u16 o.toNat, .slice ad ds.length capd] 35)).alloc (.cells #[.int .i64 0, .int .i64 0, .int .i64 0, .int .i64 0, .int .i64 0, .slice none 0 0, .slice none 0 0, .int .u16 0, .int .u16 0, .slice none 0 0] 35) = wz at *
 have d0 := X0.cell 0
 have d1 := X0.cell 1
 have d2 := X0.cell 2
 have d3 := X0.cell 3
 have d4 := X0.cell 4
 have d5 := X0.cell 5
 have d6 := X0.cell 6
 have d7 := X0.cell 7
 have d8 := X0.cell 8
 have d9 := X0.cell 9
 simp at d0 d1 d2 d3 d4 d5 d6 d7 d8 d9
 have fd := X0.frozen
 have gd := X0.lt
 have r0 := X1.cell 0
 have r1 := X1.cell 1
 have r2 := X1.cell 2
 have r3 := X1.cell 3
 have r4 := X1.cell 4
 have r5 := X1.cell 5
 have r6 := X1.cell 6
 have r7 := X1.cell 7
 have r8 := X1.cell 8
 have r9 := X1.cell 9
 simp at r0 r1 r2 r3 r4 r5 r6 r7 r8 r9
 have fr := X1.frozen
 have gr := X1.lt
 go_wp2
 refine bodyPost_ret (v := _) (by simp [results, Try.results9, go_sem, r0, r1, r2, r3, r4, r5, r6, r7, r8, r9]; with_reducible rfl) rfl ?_
 refine ⟨_, rfl, ⟨⟨f, k0, n, c, s, bs, vs, m, o, ds⟩, _, _, _, rfl, hb.below ?_, hv.below ?_, hd.below ?_⟩, ?_⟩
 all_goals
  repeat' (refine Below.setCell ?_ (by simp) _)
  exact B0
set_option maxRecDepth 100000 in
set_option maxHeartbeats 1000000 in
theorem odd4_1 (v : Value) (r : Rp) (what n : Int) (w : World) (h : IsRp w v r)
  (CW : Hid (∀ w, Calls Try.prog 14 #[.int .i64 what, .int .i64 0, .int .i64 8] w fun e w' => e = .returned (.int .i64 1) ∧ w = w')) :
  Calls Try.prog 9 #[v, .int .i64 what, .int .i64 n] w fun e w' => ∃ v', e = .returned v' ∧ (∃ r', IsRp w' v' r') ∧ Below w.heap.size w w' := by
 obtain ⟨ab, capb, av, capv, ad, capd, rfl, -, -, -⟩ := h.slices
 obtain ⟨vb, vv, vd, hE, hb, hv, hd⟩ := h
 obtain ⟨f, k0, a, c, s, bs, vs, m, o, ds⟩ := r
 simp only [rpV, Value.agg.injEq, Array.mk.injEq, List.cons.injEq, and_true, true_and] at hE
 obtain ⟨rfl, rfl, rfl⟩ := hE
 simp only at hb hv hd ⊢
 have B0 : Below w.heap.size w ((w.alloc (.cells #[.int .i64 f, .int .i64 k0, .int .i64 a, .int .i64 c, .int .i64 s, .slice ab bs.length capb, .slice av vs.length capv, .int .u16 m.toNat, .int .u16 o.toNat, .slice ad ds.length capd] 35)).alloc (.cells #[.int .i64 0, .int .i64 0, .int .i64 0, .int .i64 0, .int .i64 0, .slice none 0 0, .slice none 0 0, .int .u16 0, .int .u16 0, .slice none 0 0] 35)) := ((Below.refl _ _).alloc (Nat.le_refl _) _).alloc (by simp) _
 have X0 := (Blk.new w 35 [.int .i64 f, .int .i64 k0, .int .i64 a, .int .i64 c, .int .i64 s, .slice ab bs.length capb, .slice av vs.length capv, .int .u16 m.toNat, .int .u16 o.toNat, .slice ad ds.length capd]).alloc (.cells #[.int .i64 0, .int .i64 0, .int .i64 0, .int .i64 0, .int .i64 0, .slice none 0 0, .slice none 0 0, .int .u16 0, .int .u16 0, .slice none 0 0] 35)
 have X1 := Blk.new (w.alloc (.cells #[.int .i64 f, .int .i64 k0, .int .i64 a, .int .i64 c, .int .i64 s, .slice ab bs.length capb, .slice av vs.length capv, .int .u16 m.toNat, .int .u16 o.toNat, .slice ad ds.length capd] 35)) 35 [.int .i64 0, .int .i64 0, .int .i64 0, .int .i64 0, .int .i64 0, .slice none 0 0, .slice none 0 0, .int .u16 0, .int .u16 0, .slice none 0 0]
 simp only [World.size_alloc] at X1
 go_enter Try.func9, Try.ntmps9
 go_wp2_with fail
 refine (CW.out _).mono ?_
 rintro e wz ⟨rfl, rfl⟩
 have hzs : w.heap.size + 1 + 1 ≤ ((w.alloc (.cells #[.int .i64 f, .int .i64 k0, .int .i64 a, .int .i64 c, .int .i64 s, .slice ab bs.length capb, .slice av vs.length capv, .int .u16 m.toNat, .int .u16 o.toNat, .slice ad ds.length capd] 35)).alloc (.cells #[.int .i64 0, .int .i64 0, .int .i64 0, .int .i64 0, .int .i64 0, .slice none 0 0, .slice none 0 0, .int .u16 0, .int .u16 0, .slice none 0 0] 35)).heap.size := by simp
 generalize (w.alloc (.cells #[.int .i64 f, .int .i64 k0, .int .i64 a, .int .i64 c, .int .i64 s, .slice ab bs.length capb, .slice av vs.length capv, .int .u16 m.toNat, .int .u16 o.toNat, .slice ad ds.length capd] 35)).alloc (.cells #[.int .i64 0, .int .i64 0, .int .i64 0, .int .i64 0, .int .i64 0, .slice none 0 0, .slice none 0 0, .int .u16 0, .int .u16 0, .slice none 0 0] 35) = wz at *
 have d0 := X0.cell 0
 have d1 := X0.cell 1
 have d2 := X0.cell 2
 have d3 := X0.cell 3
 have d4 := X0.cell 4
 have d5 := X0.cell 5
 have d6 := X0.cell 6
 have d7 := X0.cell 7
 have d8 := X0.cell 8
 have d9 := X0.cell 9
 simp at d0 d1 d2 d3 d4 d5 d6 d7 d8 d9
 have fd := X0.frozen
 have gd := X0.lt
 have r0 := X1.cell 0
 have r1 := X1.cell 1
 have r2 := X1.cell 2
 have r3 := X1.cell 3
 have r4 := X1.cell 4
 have r5 := X1.cell 5
 have r6 := X1.cell 6
 have r7 := X1.cell 7
 have r8 := X1.cell 8
 have r9 := X1.cell 9
 simp at r0 r1 r2 r3 r4 r5 r6 r7 r8 r9
 have fr := X1.frozen
 have gr := X1.lt
 go_wp2
 refine bodyPost_ret (v := _) (by simp [results, Try.results9, go_sem, r0, r1, r2, r3, r4, r5, r6, r7, r8, r9]; with_reducible rfl) rfl ?_
 refine ⟨_, rfl, ⟨⟨f, k0, a, n, s, bs, vs, m, o, ds⟩, _, _, _, rfl, hb.below ?_, hv.below ?_, hd.below ?_⟩, ?_⟩
 all_goals
  repeat' (refine Below.setCell ?_ (by simp) _)
  exact B0
set_option maxRecDepth 100000 in
set_option maxHeartbeats 1000000 in
theorem odd4_2 (v : Value) (r : Rp) (what n : Int) (w : World) (h : IsRp w v r)
  (CW : Hid (∀ w, Calls Try.prog 14 #[.int .i64 what, .int .i64 0, .int .i64 8] w fun e w' => e = .returned (.int .i64 2) ∧ w = w')) :
  Calls Try.prog 9 #[v, .int .i64 what, .int .i64 n] w fun e w' => ∃ v', e = .returned v' ∧ (∃ r', IsRp w' v' r') ∧ Below w.heap.size w w' := by
 obtain ⟨ab, capb, av, capv, ad, capd, rfl, -, -, -⟩ := h.slices
 obtain ⟨vb, vv, vd, hE, hb, hv, hd⟩ := h
 obtain ⟨f, k0, a, c, s, bs, vs, m, o, ds⟩ := r
 simp only [rpV, Value.agg.injEq, Array.mk.injEq, List.cons.injEq, and_true, true_and] at hE
 obtain ⟨rfl, rfl, rfl⟩ := hE
 simp only at hb hv hd ⊢
 have B0 : Below w.heap.size w ((w.alloc (.cells #[.int .i64 f, .int .i64 k0, .int .i64 a, .int .i64 c, .int .i64 s, .slice ab bs.length capb, .slice av vs.length capv, .int .u16 m.toNat, .int .u16 o.toNat, .slice ad ds.length capd] 35)).alloc (.cells #[.int .i64 0, .int .i64 0, .int .i64 0, .int .i64 0, .int .i64 0, .slice none 0 0, .slice none 0 0, .int .u16 0, .int .u16 0, .slice none 0 0] 35)) := ((Below.refl _ _).alloc (Nat.le_refl _) _).alloc (by simp) _
 have X0 := (Blk.new w 35 [.int .i64 f, .int .i64 k0, .int .i64 a, .int .i64 c, .int .i64 s, .slice ab bs.length capb, .slice av vs.length capv, .int .u16 m.toNat, .int .u16 o.toNat, .slice ad ds.length capd]).alloc (.cells #[.int .i64 0, .int .i64 0, .int .i64 0, .int .i64 0, .int .i64 0, .slice none 0 0, .slice none 0 0, .int .u16 0, .int .u16 0, .slice none 0 0] 35)
 have X1 := Blk.new (w.alloc (.cells #[.int .i64 f, .int .i64 k0, .int .i64 a, .int .i64 c, .int .i64 s, .slice ab bs.length capb, .slice av vs.length capv, .int .u16 m.toNat, .int .u16 o.toNat, .slice ad ds.length capd] 35)) 35 [.int .i64 0, .int .i64 0, .int .i64 0, .int .i64 0, .int .i64 0, .slice none 0 0, .slice none 0 0, .int .u16 0, .int .u16 0, .slice none 0 0]
 simp only [World.size_alloc] at X1
 go_enter Try.func9, Try.ntmps9
 go_wp2_with fail
 refine (CW.out _).mono ?_
 rintro e wz ⟨rfl, rfl⟩
 have hzs : w.heap.size + 1 + 1 ≤ ((w.alloc (.cells #[.int .i64 f, .int .i64 k0, .int .i64 a, .int .i64 c, .int .i64 s, .slice ab bs.length capb, .slice av vs.length capv, .int .u16 m.toNat, .int .u16 o.toNat, .slice ad ds.length capd] 35)).alloc (.cells #[.int .i64 0, .int .i64 0, .int .i64 0, .int .i64 0, .int .i64 0, .slice none 0 0, .slice none 0 0, .int .u16 0, .int .u16 0, .slice none 0 0] 35)).heap.size := by simp
 generalize (w.alloc (.cells #[.int .i64 f, .int .i64 k0, .int .i64 a, .int .i64 c, .int .i64 s, .slice ab bs.length capb, .slice av vs.length capv, .int .u16 m.toNat, .int .u16 o.toNat, .slice ad ds.length capd] 35)).alloc (.cells #[.int .i64 0, .int .i64 0, .int .i64 0, .int .i64 0, .int .i64 0, .slice none 0 0, .slice none 0 0, .int .u16 0, .int .u16 0, .slice none 0 0] 35) = wz at *
 have d0 := X0.cell 0
 have d1 := X0.cell 1
 have d2 := X0.cell 2
 have d3 := X0.cell 3
 have d4 := X0.cell 4
 have d5 := X0.cell 5
 have d6 := X0.cell 6
 have d7 := X0.cell 7
 have d8 := X0.cell 8
 have d9 := X0.cell 9
 simp at d0 d1 d2 d3 d4 d5 d6 d7 d8 d9
 have fd := X0.frozen
 have gd := X0.lt
 have r0 := X1.cell 0
 have r1 := X1.cell 1
 have r2 := X1.cell 2
 have r3 := X1.cell 3
 have r4 := X1.cell 4
 have r5 := X1.cell 5
 have r6 := X1.cell 6
 have r7 := X1.cell 7
 have r8 := X1.cell 8
 have r9 := X1.cell 9
 simp at r0 r1 r2 r3 r4 r5 r6 r7 r8 r9
 have fr := X1.frozen
 have gr := X1.lt
 go_wp2
 refine bodyPost_ret (v := _) (by simp [results, Try.results9, go_sem, r0, r1, r2, r3, r4, r5, r6, r7, r8, r9]; with_reducible rfl) rfl ?_
 refine ⟨_, rfl, ⟨⟨f, k0, a, c, n, bs, vs, m, o, ds⟩, _, _, _, rfl, hb.below ?_, hv.below ?_, hd.below ?_⟩, ?_⟩
 all_goals
  repeat' (refine Below.setCell ?_ (by simp) _)
  exact B0
set_option maxRecDepth 100000 in
set_option maxHeartbeats 1000000 in
theorem odd4_3 (v : Value) (r : Rp) (what n : Int) (w : World) (h : IsRp w v r)
  (CW : Hid (∀ w, Calls Try.prog 14 #[.int .i64 what, .int .i64 0, .int .i64 8] w fun e w' => e = .returned (.int .i64 3) ∧ w = w')) :
  Calls Try.prog 9 #[v, .int .i64 what, .int .i64 n] w fun e w' => ∃ v', e = .returned v' ∧ (∃ r', IsRp w' v' r') ∧ Below w.heap.size w w' := by
 obtain ⟨ab, capb, av, capv, ad, capd, rfl, -, -, -⟩ := h.slices
 obtain ⟨vb, vv, vd, hE, hb, hv, hd⟩ := h
 obtain ⟨f, k0, a, c, s, bs, vs, m, o, ds⟩ := r
 simp only [rpV, Value.agg.injEq, Array.mk.injEq, List.cons.injEq, and_true, true_and] at hE
 obtain ⟨rfl, rfl, rfl⟩ := hE
 simp only at hb hv hd ⊢
 have B0 : Below w.heap.size w ((w.alloc (.cells #[.int .i64 f, .int .i64 k0, .int .i64 a, .int .i64 c, .int .i64 s, .slice ab bs.length capb, .slice av vs.length capv, .int .u16 m.toNat, .int .u16 o.toNat, .slice ad ds.length capd] 35)).alloc (.cells #[.int .i64 0, .int .i64 0, .int .i64 0, .int .i64 0, .int .i64 0, .slice none 0 0, .slice none 0 0, .int .u16 0, .int .u16 0, .slice none 0 0] 35)) := ((Below.refl _ _).alloc (Nat.le_refl _) _).alloc (by simp) _
 have X0 := (Blk.new w 35 [.int .i64 f, .int .i64 k0, .int .i64 a, .int .i64 c, .int .i64 s, .slice ab bs.length capb, .slice av vs.length capv, .int .u16 m.toNat, .int .u16 o.toNat, .slice ad ds.length capd]).alloc (.cells #[.int .i64 0, .int .i64 0, .int .i64 0, .int .i64 0, .int .i64 0, .slice none 0 0, .slice none 0 0, .int .u16 0, .int .u16 0, .slice none 0 0] 35)
 have X1 := Blk.new (w.alloc (.cells #[.int .i64 f, .int .i64 k0, .int .i64 a, .int .i64 c, .int .i64 s, .slice ab bs.length capb, .slice av vs.length capv, .int .u16 m.toNat, .int .u16 o.toNat, .slice ad ds.length capd] 35)) 35 [.int .i64 0, .int .i64 0, .int .i64 0, .int .i64 0, .int .i64 0, .slice none 0 0, .slice none 0 0, .int .u16 0, .int .u16 0, .slice none 0 0]
 simp only [World.size_alloc] at X1
 go_enter Try.func9, Try.ntmps9
 go_wp2_with fail
 refine (CW.out _).mono ?_
 rintro e wz ⟨rfl, rfl⟩
 have hzs : w.heap.size + 1 + 1 ≤ ((w.alloc (.cells #[.int .i64 f, .int .i64 k0, .int .i64 a, .int .i64 c, .int .i64 s, .slice ab bs.length capb, .slice av vs.length capv, .int .u16 m.toNat, .int .u16 o.toNat, .slice ad ds.length capd] 35)).alloc (.cells #[.int .i64 0, .int .i64 0, .int .i64 0, .int .i64 0, .int .i64 0, .slice none 0 0, .slice none 0 0, .int .u16 0, .int .u16 0, .slice none 0 0] 35)).heap.size := by simp
 generalize (w.alloc (.cells #[.int .i64 f, .int .i64 k0, .int .i64 a, .int .i64 c, .int .i64 s, .slice ab bs.length capb, .slice av vs.length capv, .int .u16 m.toNat, .int .u16 o.toNat, .slice ad ds.length capd] 35)).alloc (.cells #[.int .i64 0, .int .i64 0, .int .i64 0, .int .i64 0, .int .i64 0, .slice none 0 0, .slice none 0 0, .int .u16 0, .int .u16 0, .slice none 0 0] 35) = wz at *
 obtain ⟨k, hA, hAl⟩ := and_mask n 12 4095 (by decide) (by decide)
 have hmk := mk_zer 22 4 (.bool false) 1 Try.underlying22 info_bool rfl (k : Int) k rfl (by omega) (by omega) wz
 have R := zrow_b wz k (by omega) _ rfl
 have Bl := (Below.refl wz.heap.size wz).alloc (Nat.le_refl _) (.cells (zer k (.bool false)) 4)
 have nv : NewV (w.heap.size + 1 + 1) (.slice (some ⟨wz.heap.size, 0, none⟩) k k) := NewV.some _ _ _ _ _ (by omega)
 replace X0 := X0.below Bl X0.lt
 replace X1 := X1.below Bl X1.lt
 replace B0 := B0.trans (Bl.mono (by omega))
 have d0 := X0.cell 0
 have d1 := X0.cell 1
 have d2 := X0.cell 2
 have d3 := X0.cell 3
 have d4 := X0.cell 4
 have d5 := X0.cell 5
 have d6 := X0.cell 6
 have d7 := X0.cell 7
 have d8 := X0.cell 8
 have d9 := X0.cell 9
 simp at d0 d1 d2 d3 d4 d5 d6 d7 d8 d9
 have fd := X0.frozen
 have gd := X0.lt
 have r0 := X1.cell 0
 have r1 := X1.cell 1
 have r2 := X1.cell 2
 have r3 := X1.cell 3
 have r4 := X1.cell 4
 have r5 := X1.cell 5
 have r6 := X1.cell 6
 have r7 := X1.cell 7
 have r8 := X1.cell 8
 have r9 := X1.cell 9
 simp at r0 r1 r2 r3 r4 r5 r6 r7 r8 r9
 have fr := X1.frozen
 have gr := X1.lt
 go_wp2
 refine bodyPost_ret (v := _) (by simp [results, Try.results9, go_sem, r0, r1, r2, r3, r4, r5, r6, r7, r8, r9]; with_reducible rfl) rfl ?_
 refine ⟨_, rfl, ⟨⟨f, k0, a, c, s, List.replicate k false, vs, m, o, ds⟩, _, _, _, rfl, ?row, hv.below ?_, hd.below ?_⟩, ?_⟩
 case row =>
  repeat' (refine Row.setCell_new ?_ nv (by omega))
  exact R
 all_goals
  repeat' (refine Below.setCell ?_ (by simp) _)
  exact B0
set_option maxRecDepth 100000 in
set_option maxHeartbeats 1000000 in
theorem odd4_4 (v : Value) (r : Rp) (what n : Int) (w : World) (h : IsRp w v r)
  (CW : Hid (∀ w, Calls Try.prog 14 #[.int .i64 what, .int .i64 0, .int .i64 8] w fun e w' => e = .returned (.int .i64 4) ∧ w = w')) :
  Calls Try.prog 9 #[v, .int .i64 what, .int .i64 n] w fun e w' => ∃ v', e = .returned v' ∧ (∃ r', IsRp w' v' r') ∧ Below w.heap.size w w' := by
 obtain ⟨ab, capb, av, capv, ad, capd, rfl, -, -, -⟩ := h.slices
 obtain ⟨vb, vv, vd, hE, hb, hv, hd⟩ := h
 obtain ⟨f, k0, a, c, s, bs, vs, m, o, ds⟩ := r
 simp only [rpV, Value.agg.injEq, Array.mk.injEq, List.cons.injEq, and_true, true_and] at hE
 obtain ⟨rfl, rfl, rfl⟩ := hE
 simp only at hb hv hd ⊢
 have B0 : Below w.heap.size w ((w.alloc (.cells #[.int .i64 f, .int .i64 k0, .int .i64 a, .int .i64 c, .int .i64 s, .slice ab bs.length capb, .slice av vs.length capv, .int .u16 m.toNat, .int .u16 o.toNat, .slice ad ds.length capd] 35)).alloc (.cells #[.int .i64 0, .int .i64 0, .int .i64 0, .int .i64 0, .int .i64 0, .slice none 0 0, .slice none 0 0, .int .u16 0, .int .u16 0, .slice none 0 0] 35)) := ((Below.refl _ _).alloc (Nat.le_refl _) _).alloc (by simp) _
 have X0 := (Blk.new w 35 [.int .i64 f, .int .i64 k0, .int .i64 a, .int .i64 c, .int .i64 s, .slice ab bs.length capb, .slice av vs.length capv, .int .u16 m.toNat, .int .u16 o.toNat, .slice ad ds.length capd]).alloc (.cells #[.int .i64 0, .int .i64 0, .int .i64 0, .int .i64 0, .int .i64 0, .slice none 0 0, .slice none 0 0, .int .u16 0, .int .u16 0, .slice none 0 0] 35)
 have X1 := Blk.new (w.alloc (.cells #[.int .i64 f, .int .i64 k0, .int .i64 a, .int .i64 c, .int .i64 s, .slice ab bs.length capb, .slice av vs.length capv, .int .u16 m.toNat, .int .u16 o.toNat, .slice ad ds.length capd] 35)) 35 [.int .i64 0, .int .i64 0, .int .i64 0, .int .i64 0, .int .i64 0, .slice none 0 0, .slice none 0 0, .int .u16 0, .int .u16 0, .slice none 0 0]
 simp only [World.size_alloc] at X1
 go_enter Try.func9, Try.ntmps9
 go_wp2_with fail
 refine (CW.out _).mono ?_
 rintro e wz ⟨rfl, rfl⟩
 have hzs : w.heap.size + 1 + 1 ≤ ((w.alloc (.cells #[.int .i64 f, .int .i64 k0, .int .i64 a, .int .i64 c, .int .i64 s, .slice ab bs.length capb, .slice av vs.length capv, .int .u16 m.toNat, .int .u16 o.toNat, .slice ad ds.length capd] 35)).alloc (.cells #[.int .i64 0, .int .i64 0, .int .i64 0, .int .i64 0, .int .i64 0, .slice none 0 0, .slice none 0 0, .int .u16 0, .int .u16 0, .slice none 0 0] 35)).heap.size := by simp
 generalize (w.alloc (.cells #[.int .i64 f, .int .i64 k0, .int .i64 a, .int .i64 c, .int .i64 s, .slice ab bs.length capb, .slice av vs.length capv, .int .u16 m.toNat, .int .u16 o.toNat, .slice ad ds.length capd] 35)).alloc (.cells #[.int .i64 0, .int .i64 0, .int .i64 0, .int .i64 0, .int .i64 0, .slice none 0 0, .slice none 0 0, .int .u16 0, .int .u16 0, .slice none 0 0] 35) = wz at *
 obtain ⟨k, hA, hAl⟩ := and_mask n 8 255 (by decide) (by decide)
 have hmk := mk_zer 23 24 (.int .u16 0) 2 Try.underlying23 info_w16 rfl (k : Int) k rfl (by omega) (by omega) wz
 have R := zrow_w wz k (by omega) _ rfl
 have Bl := (Below.refl wz.heap.size wz).alloc (Nat.le_refl _) (.cells (zer k (.int .u16 0)) 24)
 have nv : NewV (w.heap.size + 1 + 1) (.slice (some ⟨wz.heap.size, 0, none⟩) k k) := NewV.some _ _ _ _ _ (by omega)
 replace X0 := X0.below Bl X0.lt
 replace X1 := X1.below Bl X1.lt
 replace B0 := B0.trans (Bl.mono (by omega))
 have d0 := X0.cell 0
 have d1 := X0.cell 1
 have d2 := X0.cell 2
 have d3 := X0.cell 3
 have d4 := X0.cell 4
 have d5 := X0.cell 5
 have d6 := X0.cell 6
 have d7 := X0.cell 7
 have d8 := X0.cell 8
 have d9 := X0.cell 9
 simp at d0 d1 d2 d3 d4 d5 d6 d7 d8 d9
 have fd := X0.frozen
 have gd := X0.lt
 have r0 := X1.cell 0
 have r1 := X1.cell 1
 have r2 := X1.cell 2
 have r3 := X1.cell 3
 have r4 := X1.cell 4
 have r5 := X1.cell 5
 have r6 := X1.cell 6
 have r7 := X1.cell 7
 have r8 := X1.cell 8
 have r9 := X1.cell 9
 simp at r0 r1 r2 r3 r4 r5 r6 r7 r8 r9
 have fr := X1.frozen
 have gr := X1.lt
 go_wp2
 refine bodyPost_ret (v := _) (by simp [results, Try.results9, go_sem, r0, r1, r2, r3, r4, r5, r6, r7, r8, r9]; with_reducible rfl) rfl ?_
 refine ⟨_, rfl, ⟨⟨f, k0, a, c, s, bs, List.replicate k 0, m, o, ds⟩, _, _, _, rfl, hb.below ?_, ?row, hd.below ?_⟩, ?_⟩
 case row =>
  repeat' (refine Row.setCell_new ?_ nv (by omega))
  exact R
 all_goals
  repeat' (refine Below.setCell ?_ (by simp) _)
  exact B0
set_option maxRecDepth 100000 in
set_option maxHeartbeats 1000000 in
theorem odd4_5 (v : Value) (r : Rp) (what n : Int) (w : World) (h : IsRp w v r)
  (CW : Hid (∀ w, Calls Try.prog 14 #[.int .i64 what, .int .i64 0, .int .i64 8] w fun e w' => e = .returned (.int .i64 5) ∧ w = w')) :
  Calls Try.prog 9 #[v, .int .i64 what, .int .i64 n] w fun e w' => ∃ v', e = .returned v' ∧ (∃ r', IsRp w' v' r') ∧ Below w.heap.size w w' := by
 obtain ⟨ab, capb, av, capv, ad, capd, rfl, -, -, -⟩ := h.slices
 obtain ⟨vb, vv, vd, hE, hb, hv, hd⟩ := h
 obtain ⟨f, k0, a, c, s, bs, vs, m, o, ds⟩ := r
 simp only [rpV, Value.agg.injEq, Array.mk.injEq, List.cons.injEq, and_true, true_and] at hE
 obtain ⟨rfl, rfl, rfl⟩ := hE
 simp only at hb hv hd ⊢
 have B0 : Below w.heap.size w ((w.alloc (.cells #[.int .i64 f, .int .i64 k0, .int .i64 a, .int .i64 c, .int .i64 s, .slice ab bs.length capb, .slice av vs.length capv, .int .u16 m.toNat, .int .u16 o.toNat, .slice ad ds.length capd] 35)).alloc (.cells #[.int .i64 0, .int .i64 0, .int .i64 0, .int .i64 0, .int .i64 0, .slice none 0 0, .slice none 0 0, .int .u16 0, .int .u16 0, .slice none 0 0] 35)) := ((Below.refl _ _).alloc (Nat.le_refl _) _).alloc (by simp) _
 have X0 := (Blk.new w 35 [.int .i64 f, .int .i64 k0, .int .i64 a, .int .i64 c, .int .i64 s, .slice ab bs.length capb, .slice av vs.length capv, .int .u16 m.toNat, .int .u16 o.toNat, .slice ad ds.length capd]).alloc (.cells #[.int .i64 0, .int .i64 0, .int .i64 0, .int .i64 0, .int .i64 0, .slice none 0 0, .slice none 0 0, .int .u16 0, .int .u16 0, .slice none 0 0] 35)
 have X1 := Blk.new (w.alloc (.cells #[.int .i64 f, .int .i64 k0, .int .i64 a, .int .i64 c, .int .i64 s, .slice ab bs.length capb, .slice av vs.length capv, .int .u16 m.toNat, .int .u16 o.toNat, .slice ad ds.length capd] 35)) 35 [.int .i64 0, .int .i64 0, .int .i64 0, .int .i64 0, .int .i64 0, .slice none 0 0, .slice none 0 0, .int .u16 0, .int .u16 0, .slice none 0 0]
 simp only [World.size_alloc] at X1
 go_enter Try.func9, Try.ntmps9
 go_wp2_with fail
 refine (CW.out _).mono ?_
 rintro e wz ⟨rfl, rfl⟩
 have hzs : w.heap.size + 1 + 1 ≤ ((w.alloc (.cells #[.int .i64 f, .int .i64 k0, .int .i64 a, .int .i64 c, .int .i64 s, .slice ab bs.length capb, .slice av vs.length capv, .int .u16 m.toNat, .int .u16 o.toNat, .slice ad ds.length capd] 35)).alloc (.cells #[.int .i64 0, .int .i64 0, .int .i64 0, .int .i64 0, .int .i64 0, .slice none 0 0, .slice none 0 0, .int .u16 0, .int .u16 0, .slice none 0 0] 35)).heap.size := by simp
 generalize (w.alloc (.cells #[.int .i64 f, .int .i64 k0, .int .i64 a, .int .i64 c, .int .i64 s, .slice ab bs.length capb, .slice av vs.length capv, .int .u16 m.toNat, .int .u16 o.toNat, .slice ad ds.length capd] 35)).alloc (.cells #[.int .i64 0, .int .i64 0, .int .i64 0, .int .i64 0, .int .i64 0, .slice none 0 0, .slice none 0 0, .int .u16 0, .int .u16 0, .slice none 0 0] 35) = wz at *
 have d0 := X0.cell 0
 have d1 := X0.cell 1
 have d2 := X0.cell 2
 have d3 := X0.cell 3
 have d4 := X0.cell 4
 have d5 := X0.cell 5
 have d6 := X0.cell 6
 have d7 := X0.cell 7
 have d8 := X0.cell 8
 have d9 := X0.cell 9
 simp at d0 d1 d2 d3 d4 d5 d6 d7 d8 d9
 have fd := X0.frozen
 have gd := X0.lt
 have r0 := X1.cell 0
 have r1 := X1.cell 1
 have r2 := X1.cell 2
 have r3 := X1.cell 3
 have r4 := X1.cell 4
 have r5 := X1.cell 5
 have r6 := X1.cell 6
 have r7 := X1.cell 7
 have r8 := X1.cell 8
 have r9 := X1.cell 9
 simp at r0 r1 r2 r3 r4 r5 r6 r7 r8 r9
 have fr := X1.frozen
 have gr := X1.lt
 obtain ⟨x, hx⟩ : ∃ x : UInt16, IntKind.u16.wrap n = (x.toNat : Int) := ⟨UInt16.ofNat (n % 65536).toNat, by rw [IntKind.wrap_u16, UInt16.toNat_ofNat']; omega⟩
 go_wp2
 refine bodyPost_ret (v := _) (by simp [results, Try.results9, go_sem, r0, r1, r2, r3, r4, r5, r6, r7, r8, r9]; with_reducible rfl) rfl ?_
 refine ⟨_, rfl, ⟨⟨f, k0, a, c, s, bs, vs, m, x, ds⟩, _, _, _, rfl, hb.below ?_, hv.below ?_, hd.below ?_⟩, ?_⟩
 all_goals
  repeat' (refine Below.setCell ?_ (by simp) _)
  exact B0
set_option maxRecDepth 100000 in
set_option maxHeartbeats 1000000 in
theorem odd4_6 (v : Value) (r : Rp) (what n : Int) (w : World) (h : IsRp w v r)
  (CW : Hid (∀ w, Calls Try.prog 14 #[.int .i64 what, .int .i64 0, .int .i64 8] w fun e w' => e = .returned (.int .i64 6) ∧ w = w')) :
  Calls Try.prog 9 #[v, .int .i64 what, .int .i64 n] w fun e w' => ∃ v', e = .returned v' ∧ (∃ r', IsRp w' v' r') ∧ Below w.heap.size w w' := by
 obtain ⟨ab, capb, av, capv, ad, capd, rfl, -, -, -⟩ := h.slices
 obtain ⟨vb, vv, vd, hE, hb, hv, hd⟩ := h
 obtain ⟨f, k0, a, c, s, bs, vs, m, o, ds⟩ := r
 simp only [rpV, Value.agg.injEq, Array.mk.injEq, List.cons.injEq, and_true, true_and] at hE
 obtain ⟨rfl, rfl, rfl⟩ := hE
 simp only at hb hv hd ⊢
 have B0 : Below w.heap.size w ((w.alloc (.cells #[.int .i64 f, .int .i64 k0, .int .i64 a, .int .i64 c, .int .i64 s, .slice ab bs.length capb, .slice av vs.length capv, .int .u16 m.toNat, .int .u16 o.toNat, .slice ad ds.length capd] 35)).alloc (.cells #[.int .i64 0, .int .i64 0, .int .i64 0, .int .i64 0, .int .i64 0, .slice none 0 0, .slice none 0 0, .int .u16 0, .int .u16 0, .slice none 0 0] 35)) := ((Below.refl _ _).alloc (Nat.le_refl _) _).alloc (by simp) _
 have X0 := (Blk.new w 35 [.int .i64 f, .int .i64 k0, .int .i64 a, .int .i64 c, .int .i64 s, .slice ab bs.length capb, .slice av vs.length capv, .int .u16 m.toNat, .int .u16 o.toNat, .slice ad ds.length capd]).alloc (.cells #[.int .i64 0, .int .i64 0, .int .i64 0, .int .i64 0, .int .i64 0, .slice none 0 0, .slice none 0 0, .int .u16 0, .int .u16 0, .slice none 0 0] 35)
 have X1 := Blk.new (w.alloc (.cells #[.int .i64 f, .int .i64 k0, .int .i64 a, .int .i64 c, .int .i64 s, .slice ab bs.length capb, .slice av vs.length capv, .int .u16 m.toNat, .int .u16 o.toNat, .slice ad ds.length capd] 35)) 35 [.int .i64 0, .int .i64 0, .int .i64 0, .int .i64 0, .int .i64 0, .slice none 0 0, .slice none 0 0, .int .u16 0, .int .u16 0, .slice none 0 0]
 simp only [World.size_alloc] at X1
 go_enter Try.func9, Try.ntmps9
 go_wp2_with fail
 refine (CW.out _).mono ?_
 rintro e wz ⟨rfl, rfl⟩
 have hzs : w.heap.size + 1 + 1 ≤ ((w.alloc (.cells #[.int .i64 f, .int .i64 k0, .int .i64 a, .int .i64 c, .int .i64 s, .slice ab bs.length capb, .slice av vs.length capv, .int .u16 m.toNat, .int .u16 o.toNat, .slice ad ds.length capd] 35)).alloc (.cells #[.int .i64 0, .int .i64 0, .int .i64 0, .int .i64 0, .int .i64 0, .slice none 0 0, .slice none 0 0, .int .u16 0, .int .u16 0, .slice none 0 0] 35)).heap.size := by simp
 generalize (w.alloc (.cells #[.int .i64 f, .int .i64 k0, .int .i64 a, .int .i64 c, .int .i64 s, .slice ab bs.length capb, .slice av vs.length capv, .int .u16 m.toNat, .int .u16 o.toNat, .slice ad ds.length capd] 35)).alloc (.cells #[.int .i64 0, .int .i64 0, .int .i64 0, .int .i64 0, .int .i64 0, .slice none 0 0, .slice none 0 0, .int .u16 0, .int .u16 0, .slice none 0 0] 35) = wz at *
 have d0 := X0.cell 0
 have d1 := X0.cell 1
 have d2 := X0.cell 2
 have d3 := X0.cell 3
 have d4 := X0.cell 4
 have d5 := X0.cell 5
 have d6 := X0.cell 6
 have d7 := X0.cell 7
 have d8 := X0.cell 8
 have d9 := X0.cell 9
 simp at d0 d1 d2 d3 d4 d5 d6 d7 d8 d9
 have fd := X0.frozen
 have gd := X0.lt
 have r0 := X1.cell 0
 have r1 := X1.cell 1
 have r2 := X1.cell 2
 have r3 := X1.cell 3
 have r4 := X1.cell 4
 have r5 := X1.cell 5
 have r6 := X1.cell 6
 have r7 := X1.cell 7
 have r8 := X1.cell 8
 have r9 := X1.cell 9
 simp at r0 r1 r2 r3 r4 r5 r6 r7 r8 r9
 have fr := X1.frozen
 have gr := X1.lt
 go_wp2
 refine bodyPost_ret (v := _) (by simp [results, Try.results9, go_sem, r0, r1, r2, r3, r4, r5, r6, r7, r8, r9]; with_reducible rfl) rfl ?_
 refine ⟨_, rfl, ⟨⟨n, k0, a, c, s, bs, vs, m, o, ds⟩, _, _, _, rfl, hb.below ?_, hv.below ?_, hd.below ?_⟩, ?_⟩
 all_goals
  repeat' (refine Below.setCell ?_ (by simp) _)
  exact B0
set_option maxRecDepth 100000 in
set_option maxHeartbeats 1000000 in
theorem odd4_7 (v : Value) (r : Rp) (what n : Int) (w : World) (h : IsRp w v r)
  (CW : Hid (∀ w, Calls Try.prog 14 #[.int .i64 what, .int .i64 0, .int .i64 8] w fun e w' => e = .returned (.int .i64 7) ∧ w = w')) :
  Calls Try.prog 9 #[v, .int .i64 what, .int .i64 n] w fun e w' => ∃ v', e = .returned v' ∧ (∃ r', IsRp w' v' r') ∧ Below w.heap.size w w' := by
 obtain ⟨ab, capb, av, capv, ad, capd, rfl, -, -, -⟩ := h.slices
 obtain ⟨vb, vv, vd, hE, hb, hv, hd⟩ := h
 obtain ⟨f, k0, a, c, s, bs, vs, m, o, ds⟩ := r
 simp only [rpV, Value.agg.injEq, Array.mk.injEq, List.cons.injEq, and_true, true_and] at hE
 obtain ⟨rfl, rfl, rfl⟩ := hE
 simp only at hb hv hd ⊢
 have B0 : Below w.heap.size w ((w.alloc (.cells #[.int .i64 f, .int .i64 k0, .int .i64 a, .int .i64 c, .int .i64 s, .slice ab bs.length capb, .slice av vs.length capv, .int .u16 m.toNat, .int .u16 o.toNat, .slice ad ds.length capd] 35)).alloc (.cells #[.int .i64 0, .int .i64 0, .int .i64 0, .int .i64 0, .int .i64 0, .slice none 0 0, .slice none 0 0, .int .u16 0, .int .u16 0, .slice none 0 0] 35)) := ((Below.refl _ _).alloc (Nat.le_refl _) _).alloc (by simp) _
 have X0 := (Blk.new w 35 [.int .i64 f, .int .i64 k0, .int .i64 a, .int .i64 c, .int .i64 s, .slice ab bs.length capb, .slice av vs.length capv, .int .u16 m.toNat, .int .u16 o.toNat, .slice ad ds.length capd]).alloc (.cells #[.int .i64 0, .int .i64 0, .int .i64 0, .int .i64 0, .int .i64 0, .slice none 0 0, .slice none 0 0, .int .u16 0, .int .u16 0, .slice none 0 0] 35)
 have X1 := Blk.new (w.alloc (.cells #[.int .i64 f, .int .i64 k0, .int .i64 a, .int .i64 c, .int .i64 s, .slice ab bs.length capb, .slice av vs.length capv, .int .u16 m.toNat, .int .u16 o.toNat, .slice ad ds.length capd] 35)) 35 [.int .i64 0, .int .i64 0, .int .i64 0, .int .i64 0, .int .i64 0, .slice none 0 0, .slice none 0 0, .int .u16 0, .int .u16 0, .slice none 0 0]
 simp only [World.size_alloc] at X1
 go_enter Try.func9, Try.ntmps9
 go_wp2_with fail
 refine (CW.out _).mono ?_
 rintro e wz ⟨rfl, rfl⟩
 have hzs : w.heap.size + 1 + 1 ≤ ((w.alloc (.cells #[.int .i64 f, .int .i64 k0, .int .i64 a, .int .i64 c, .int .i64 s, .slice ab bs.length capb, .slice av vs.length capv, .int .u16 m.toNat, .int .u16 o.toNat, .slice ad ds.length capd] 35)).alloc (.cells #[.int .i64 0, .int .i64 0, .int .i64 0, .int .i64 0, .int .i64 0, .slice none 0 0, .slice none 0 0, .int .u16 0, .int .u16 0, .slice none 0 0] 35)).heap.size := by simp
 generalize (w.alloc (.cells #[.int .i64 f, .int .i64 k0, .int .i64 a, .int .i64 c, .int .i64 s, .slice ab bs.length capb, .slice av vs.length capv, .int .u16 m.toNat, .int .u16 o.toNat, .slice ad ds.length capd] 35)).alloc (.cells #[.int .i64 0, .int .i64 0, .int .i64 0, .int .i64 0, .int .i64 0, .slice none 0 0, .slice none 0 0, .int .u16 0, .int .u16 0, .slice none 0 0] 35) = wz at *
 have d0 := X0.cell 0
 have d1 := X0.cell 1
 have d2 := X0.cell 2
 have d3 := X0.cell 3
 have d4 := X0.cell 4
 have d5 := X0.cell 5
 have d6 := X0.cell 6
 have d7 := X0.cell 7
 have d8 := X0.cell 8
 have d9 := X0.cell 9
 simp at d0 d1 d2 d3 d4 d5 d6 d7 d8 d9
 have fd := X0.frozen
 have gd := X0.lt
 have r0 := X1.cell 0
 have r1 := X1.cell 1
 have r2 := X1.cell 2
 have r3 := X1.cell 3
 have r4 := X1.cell 4
 have r5 := X1.cell 5
 have r6 := X1.cell 6
 have r7 := X1.cell 7
 have r8 := X1.cell 8
 have r9 := X1.cell 9
 simp at r0 r1 r2 r3 r4 r5 r6 r7 r8 r9
 have fr := X1.frozen
 have gr := X1.lt
 go_wp2
 refine bodyPost_ret (v := _) (by simp [results, Try.results9, go_sem, r0, r1, r2, r3, r4, r5, r6, r7, r8, r9]; with_reducible rfl) rfl ?_
 refine ⟨_, rfl, ⟨⟨f, n, a, c, s, bs, vs, m, o, ds⟩, _, _, _, rfl, hb.below ?_, hv.below ?_, hd.below ?_⟩, ?_⟩
 all_goals
  repeat' (refine Below.setCell ?_ (by simp) _)
  exact B0
set_option maxRecDepth 100000 in
set_option maxHeartbeats 1000000 in
theorem odd4_8 (v : Value) (r : Rp) (what n : Int) (w : World) (h : IsRp w v r)
  (CW : Hid (∀ w, Calls Try.prog 14 #[.int .i64 what, .int .i64 0, .int .i64 8] w fun e w' => e = .returned (.int .i64 8) ∧ w = w')) :
  Calls Try.prog 9 #[v, .int .i64 what, .int .i64 n] w fun e w' => ∃ v', e = .returned v' ∧ (∃ r', IsRp w' v' r') ∧ Below w.heap.size w w' := by
 obtain ⟨ab, capb, av, capv, ad, capd, rfl, -, -, -⟩ := h.slices
 obtain ⟨vb, vv, vd, hE, hb, hv, hd⟩ := h
 obtain ⟨f, k0, a, c, s, bs, vs, m, o, ds⟩ := r
 simp only [rpV, Value.agg.injEq, Array.mk.injEq, List.cons.injEq, and_true, true_and] at hE
 obtain ⟨rfl, rfl, rfl⟩ := hE
 simp only at hb hv hd ⊢
 have B0 : Below w.heap.size w ((w.alloc (.cells #[.int .i64 f, .int .i64 k0, .int .i64 a, .int .i64 c, .int .i64 s, .slice ab bs.length capb, .slice av vs.length capv, .int .u16 m.toNat, .int .u16 o.toNat, .slice ad ds.length capd] 35)).alloc (.cells #[.int .i64 0, .int .i64 0, .int .i64 0, .int .i64 0, .int .i64 0, .slice none 0 0, .slice none 0 0, .int .u16 0, .int .u16 0, .slice none 0 0] 35)) := ((Below.refl _ _).alloc (Nat.le_refl _) _).alloc (by simp) _
 have X0 := (Blk.new w 35 [.int .i64 f, .int .i64 k0, .int .i64 a, .int .i64 c, .int .i64 s, .slice ab bs.length capb, .slice av vs.length capv, .int .u16 m.toNat, .int .u16 o.toNat, .slice ad ds.length capd]).alloc (.cells #[.int .i64 0, .int .i64 0, .int .i64 0, .int .i64 0, .int .i64 0, .slice none 0 0, .slice none 0 0, .int .u16 0, .int .u16 0, .slice none 0 0] 35)
 have X1 := Blk.new (w.alloc (.cells #[.int .i64 f, .int .i64 k0, .int .i64 a, .int .i64 c, .int .i64 s, .slice ab bs.length capb, .slice av vs.length capv, .int .u16 m.toNat, .int .u16 o.toNat, .slice ad ds.length capd] 35)) 35 [.int .i64 0, .int .i64 0, .int .i64 0, .int .i64 0, .int .i64 0, .slice none 0 0, .slice none 0 0, .int .u16 0, .int .u16 0, .slice none 0 0]
 simp only [World.size_alloc] at X1
 go_enter Try.func9, Try.ntmps9
 go_wp2_with fail
 refine (CW.out _).mono ?_
 rintro e wz ⟨rfl, rfl⟩
 have hzs : w.heap.size + 1 + 1 ≤ ((w.alloc (.cells #[.int .i64 f, .int .i64 k0, .int .i64 a, .int .i64 c, .int .i64 s, .slice ab bs.length capb, .slice av vs.length capv, .int .u16 m.toNat, .int .u16 o.toNat, .slice ad ds.length capd] 35)).alloc (.cells #[.int .i64 0, .int .i64 0, .int .i64 0, .int .i64 0, .int .i64 0, .slice none 0 0, .slice none 0 0, .int .u16 0, .int .u16 0, .slice none 0 0] 35)).heap.size := by simp
 generalize (w.alloc (.cells #[.int .i64 f, .int .i64 k0, .int .i64 a, .int .i64 c, .int .i64 s, .slice ab bs.length capb, .slice av vs.length capv, .int .u16 m.toNat, .int .u16 o.toNat, .slice ad ds.length capd] 35)).alloc (.cells #[.int .i64 0, .int .i64 0, .int .i64 0, .int .i64 0, .int .i64 0, .slice none 0 0, .slice none 0 0, .int .u16 0, .int .u16 0, .slice none 0 0] 35) = wz at *
 obtain ⟨k, hA, hAl⟩ := and_mask n 9 511 (by decide) (by decide)
 have hmk := mk_zer 33 5 (.int .u8 0) 1 Try.underlying33 info_u8 rfl (k : Int) k rfl (by omega) (by omega) wz
 have R := zrow_u wz k (by omega) _ rfl
 have Bl := (Below.refl wz.heap.size wz).alloc (Nat.le_refl _) (.cells (zer k (.int .u8 0)) 5)
 have nv : NewV (w.heap.size + 1 + 1) (.slice (some ⟨wz.heap.size, 0, none⟩) k k) := NewV.some _ _ _ _ _ (by omega)
 replace X0 := X0.below Bl X0.lt
 replace X1 := X1.below Bl X1.lt
 replace B0 := B0.trans (Bl.mono (by omega))
 have d0 := X0.cell 0
 have d1 := X0.cell 1
 have d2 := X0.cell 2
 have d3 := X0.cell 3
 have d4 := X0.cell 4
 have d5 := X0.cell 5
 have d6 := X0.cell 6
 have d7 := X0.cell 7
 have d8 := X0.cell 8
 have d9 := X0.cell 9
 simp at d0 d1 d2 d3 d4 d5 d6 d7 d8 d9
 have fd := X0.frozen
 have gd := X0.lt
 have r0 := X1.cell 0
 have r1 := X1.cell 1
 have r2 := X1.cell 2
 have r3 := X1.cell 3
 have r4 := X1.cell 4
 have r5 := X1.cell 5
 have r6 := X1.cell 6
 have r7 := X1.cell 7
 have r8 := X1.cell 8
 have r9 := X1.cell 9
 simp at r0 r1 r2 r3 r4 r5 r6 r7 r8 r9
 have fr := X1.frozen
 have gr := X1.lt
 go_wp2
 refine bodyPost_ret (v := _) (by simp [results, Try.results9, go_sem, r0, r1, r2, r3, r4, r5, r6, r7, r8, r9]; with_reducible rfl) rfl ?_
 refine ⟨_, rfl, ⟨⟨f, k0, a, c, s, bs, vs, m, o, List.replicate k 0⟩, _, _, _, rfl, hb.below ?_, hv.below ?_, ?row⟩, ?_⟩
 case row =>
  repeat' (refine Row.setCell_new ?_ nv (by omega))
  exact R
 all_goals
  repeat' (refine Below.setCell ?_ (by simp) _)
  exact B0
set_option maxHeartbeats 400000 in
theorem within8 (n : Int) (_w : World) (hn : -9223372036854775808 ≤ n ∧ n ≤ 9223372036854775807) : ∃ m : Int, 0 ≤ m ∧ m ≤ 8 ∧ ∀ w, Calls Try.prog 14 #[.int .i64 n, .int .i64 0, .int .i64 8] w fun e w' => e = .returned (.int .i64 m) ∧ w = w' := by
 obtain ⟨hn1, hn2⟩ := hn
 by_cases g1 : 0 ≤ n ∧ n ≤ 8
 ·
  obtain ⟨g1, g2⟩ := g1
  refine ⟨n, g1, g2, fun w => ?_⟩
  go_enter Try.func14, Try.ntmps14
  go_wp2
  go_ret
  exact ⟨rfl, rfl⟩
 ·
  have b1 := Int.tmod_lt_of_pos n (show (0 : Int) < 9 by decide)
  have b2 := Int.lt_tmod_of_pos n (show (0 : Int) < 9 by decide)
  have hg : ((0 : Int) ≤ n ∧ 8 < n) ∨ n < 0 := by omega
  generalize hq : n.tmod 9 = q at *
  have HQ : Hid (n.tmod 9 = q) := hq
  clear g1
  by_cases hneg : q < 0
  ·
   refine ⟨q + 9, by omega, by omega, fun w => ?_⟩
   rcases hg with ⟨g1, g2⟩ | g1
   all_goals
    go_enter Try.func14, Try.ntmps14
    go_wp2
    go_ret
    exact ⟨ret_int (by omega), rfl⟩
  ·
   refine ⟨q, by omega, by omega, fun w => ?_⟩
   rcases hg with ⟨g1, g2⟩ | g1
   all_goals
    go_enter Try.func14, Try.ntmps14
    go_wp2
    go_ret
    exact ⟨ret_int (by omega), rfl⟩
theorem odd_law4 (v : Value) (r : Rp) (what n : Int) (w : World) (h : IsRp w v r) (hw : -9223372036854775808 ≤ what ∧ what ≤ 9223372036854775807) :
  Calls Try.prog 9 #[v, .int .i64 what, .int .i64 n] w fun e w' => ∃ v', e = .returned v' ∧ (∃ r', IsRp w' v' r') ∧ Below w.heap.size w w' := by
 obtain ⟨m, m0, m9, C⟩ := within8 what w hw
 obtain rfl | rfl | rfl | rfl | rfl | rfl | rfl | rfl | rfl : m = 0 ∨ m = 1 ∨ m = 2 ∨ m = 3 ∨ m = 4 ∨ m = 5 ∨ m = 6 ∨ m = 7 ∨ m = 8 := by omega
 ·
  exact odd4_0 v r what n w h C
 ·
  exact odd4_1 v r what n w h C
 ·
  exact odd4_2 v r what n w h C
 ·
  exact odd4_3 v r what n w h C
 ·
  exact odd4_4 v r what n w h C
 ·
  exact odd4_5 v r what n w h C
 ·
  exact odd4_6 v r what n w h C
 ·
  exact odd4_7 v r what n w h C
 ·
  exact odd4_8 v r what n w h C
set_option maxRecDepth 100000 in
set_option maxHeartbeats 1000000 in
theorem tape_law4 (k : Nat) (w : World) (hk : k ≤ 1000) :
  Calls Try.prog 5 #[.int .i64 k] w fun e w' => ∃ v', e = .returned v' ∧ ∃ l : List Int, Row w' v' (l.map iV) ∧ (∀ x ∈ l, -9223372036854775808 ≤ x ∧ x ≤ 9223372036854775807) ∧ Below w.heap.size w w' := by
 go_enter Try.func5, Try.ntmps5
 go_wp2
 go_loopw [3, 4] (fun z i wr => ∃ (j : Nat) (l : List Int), j ≤ 900 ∧ i = .int .i64 j ∧ wr.ownsRow w.heap.size 3 1 z j (l.map iV) ∧ Hid (∀ x ∈ l, -9223372036854775808 ≤ x ∧ x ≤ 9223372036854775807) ∧ Below w.heap.size w wr) (fun _ i _ => 900 - (intOf i).toNat)
 case atStart => exact ⟨0, [], by omega, rfl, World.ownsRow_nil _ _ _ _, fun x hx => by simp at hx, Below.refl _ _⟩
 case round =>
  obtain ⟨j, l, hj, rfl, ho, HL, hb⟩ := hrel
  have hz := hb.size
  by_cases hlt : j < 900
  ·
   have hlt' : (j : Int) < 900 := by omega
   have p1 : (j : Int) * j ≤ 810000 := by
    have := Nat.mul_le_mul hj hj
    have e : ((j * j : Nat) : Int) = (j : Int) * j := by simp
    omega
   have p0 : 0 ≤ (j : Int) * j := by
    have e : ((j * j : Nat) : Int) = (j : Int) * j := by simp
    omega
   have p3 : (j : Int) * k ≤ 900000 := by
    have := Nat.mul_le_mul hj hk
    have e : ((j * k : Nat) : Int) = (j : Int) * k := by simp
    omega
   have p2 : 0 ≤ (j : Int) * k := by
    have e : ((j * k : Nat) : Int) = (j : Int) * k := by simp
    omega
   obtain ⟨t, ht⟩ : ∃ t, ((j : Int) * j * 7 + (k : Int) * 37 + (j : Int) * k) % 211 = t := ⟨_, rfl⟩
   have t0 : 0 ≤ t := by omega
   have t1 : t ≤ 210 := by omega
   have RN := row_new wr [.int .i64 t] 3 1 rfl (by decide)
   go_wp2_with (at_builtin; refine wpList_app rfl (.tmp 9) (.tmp 22) 28 rfl w.heap.size 3 (.int .i64 0) 8 Try.underlying28 info_int rfl rfl (ho.alloc _) rfl RN (by intro u hu; simp at hu; subst hu; rfl) (by simp [maxLen]; omega) (by simp; omega) (by simp; omega) ?_)
   intro v7 w7 ho7 hg7
   have B7 := (hb.alloc hz (.cells #[.int .i64 t] 3)).grown hg7 (by simp; omega) (fun k hk => (ho.lt k hk).1)
   clear ht p0 p1 p2 p3 RN
   go_wp2
   go_roundw
   case rel => exact ⟨j + 1, l ++ [t], by omega, by go_num, by simpa using ho7, fun y hy => by
    rcases List.mem_append.1 hy with h | h
    ·
     exact HL.out y h
    ·
     simp at h; omega, B7⟩
   case measure => simp [intOf]; omega
  ·
   have hlt' : ¬ (j : Int) < 900 := by omega
   go_wp2
   go_ret
   exact ⟨_, rfl, l, Row.of_owns ho, HL.out, hb⟩
end Go.Proofs.Ytbajlhpmmmhkoaa
