/- Contract of reply.Bytes once more, saying that what is handed back is new. -/
import Derived.Test.YtdihcdphgiaepaaGreatZZ29
namespace Go.Proofs.YtdihcdphgiaepaaGreat
open Go.RowKit
set_option maxRecDepth 100000 in
set_option maxHeartbeats 2000000 in
theorem bytes_rep_c_new (v : Value) (r : Rp) (w : World) (h : IsRp w v r) (hr : goodE r = 0) (hc : r.code ≠ 0) :
  Calls Tryz.prog 41 #[v] w fun e w' => ∃ v', e = .returned (.tuple #[v', .int .i64 0]) ∧ Row w' v' ((layA r).map bV) ∧ NwV w.heap.size v' ∧ Below w.heap.size w w' := by
 obtain ⟨ab, capb, av, capv, ad, capd, rfl, -, -, -⟩ := h.slices;have W0 := hidden (fun o => (Below.refl w.heap.size w).alloc (Nat.le_refl _) o);have HQ := hidden (fun w' (hb : Below w.heap.size w w') => h.below hb);obtain ⟨vb, vv, vd, hE, hb, hv, hd⟩ := id h;have HR := hidden hr;obtain ⟨k1, k2, f1, f2, -⟩ := good_code hr hc;have EQ := hidden (show layA r = [b8 (r.fn + 128), b8 r.code] by simp [layA, hc]);obtain ⟨f, k, a, c, s, bs, vs, m, o, ds⟩ := r;simp only [rpV, Value.agg.injEq, Array.mk.injEq, List.cons.injEq, and_true, true_and] at hE;obtain ⟨rfl, rfl, rfl⟩ := hE;simp only at k1 k2 f1 f2 hc HR HQ hb hv hd EQ ⊢;have t : (k != 0) = true := by simpa using hc
 have e1 := hidden (b8_val (f + 128) (by omega) (by omega)).symm;have e2 := hidden (b8_val k (by omega) (by omega)).symm;clear hc;clear hr h;go_enter Tryz.func41, Tryz.ntmps41;go_wp2_with fail
 refine (right_rep _ _ _ (HQ.out _ (W0.out _))).mono ?_;rintro e w1 ⟨rfl, B1⟩;rw [HR.out];have X := (BoxP.new w _ _ _ _ _ _ _ _ _ _ _).ext B1;replace B1 := below_then (W0.out _) B1;have X1 := hidden X;obtain ⟨lt, c0, c1, c2, c3, c4, c5, c6, c7, c8, c9⟩ := X;go_wp2;go_ret2
 rw [EQ.out];exact ⟨_, rfl, row_byte2 w1 _ _ _ _ e1.out e2.out, NwV.mk _ _ _ _ _ B1.size, B1.alloc B1.size _⟩
set_option maxRecDepth 100000 in
set_option maxHeartbeats 2000000 in
theorem bytes_rep_1_new (v : Value) (r : Rp) (w : World) (h : IsRp w v r) (hr : goodE r = 0) (hc : r.code = 0) (hf : r.fn = 1) :
  Calls Tryz.prog 41 #[v] w fun e w' => ∃ v', e = .returned (.tuple #[v', .int .i64 0]) ∧ Row w' v' ((layA r).map bV) ∧ NwV w.heap.size v' ∧ Below w.heap.size w w' := by
 obtain ⟨ab, capb, av, capv, ad, capd, rfl, -, -, -⟩ := h.slices;have W0 := hidden (fun o => (Below.refl w.heap.size w).alloc (Nat.le_refl _) o);have HQ := hidden (fun w' (hb : Below w.heap.size w w') => h.below hb);obtain ⟨vb, vv, vd, hE, hb, hv, hd⟩ := id h;have HR := hidden hr;obtain ⟨-, hform, ⟨n1, n2, n3⟩, hlist⟩ := good_parts hr hc;obtain ⟨f, k, a, c, s, bs, vs, m, o, ds⟩ := r;simp only [rpV, Value.agg.injEq, Array.mk.injEq, List.cons.injEq, and_true, true_and] at hE;obtain ⟨rfl, rfl, rfl⟩ := hE;simp only at hc hf n1 n2 n3 HR HQ hb hv hd hlist ⊢;subst hc;subst hf;have hl2 : bs.length ≤ 2040 := by simp [listA] at hlist; omega
 have EQ := hidden (show layA ⟨1, 0, a, c, s, bs, vs, m, o, ds⟩ = [1] ++ cntL (packL bs) by simp [layA, bodyA]; rfl);clear hform hlist;clear hr h;go_enter Tryz.func41, Tryz.ntmps41;go_wp2_with fail
 refine (right_rep _ _ _ (HQ.out _ (W0.out _))).mono ?_;rintro e w1 ⟨rfl, B1⟩;rw [HR.out];have X := (BoxP.new w _ _ _ _ _ _ _ _ _ _ _).ext B1;replace B1 := below_then (W0.out _) B1;have X1 := hidden X;obtain ⟨lt, c0, c1, c2, c3, c4, c5, c6, c7, c8, c9⟩ := X;go_wp2_with fail
 have BB := B1.alloc B1.size (.cells #[.int .u8 1] 5);have R2 := row_byte w1 1 1 rfl;refine (pack_any _ bs _ (hb.below BB) (by omega)).mono ?_;rintro e w2 ⟨v2, rfl, hr3, B3⟩;replace R2 := R2.below B3;replace B3 := below_then BB B3;go_wp2_with fail
 refine (counted_rep_new _ _ [1] (packL bs) _ R2 hr3 (by decide) (by rw [packL_len]; omega)).mono ?_;rintro e w3 ⟨v3, rfl, hr2, nwv, B4⟩;have HNW : Hid (NwV w.heap.size v3) := nwv.mono B3.size;clear nwv;have B2 := below_then B3 B4;go_wp2;go_ret2
 rw [EQ.out];exact ⟨_, rfl, hr2, HNW.out, B2⟩
set_option maxRecDepth 100000 in
set_option maxHeartbeats 2000000 in
theorem bytes_rep_2_new (v : Value) (r : Rp) (w : World) (h : IsRp w v r) (hr : goodE r = 0) (hc : r.code = 0) (hf : r.fn = 2) :
  Calls Tryz.prog 41 #[v] w fun e w' => ∃ v', e = .returned (.tuple #[v', .int .i64 0]) ∧ Row w' v' ((layA r).map bV) ∧ NwV w.heap.size v' ∧ Below w.heap.size w w' := by
 obtain ⟨ab, capb, av, capv, ad, capd, rfl, -, -, -⟩ := h.slices;have W0 := hidden (fun o => (Below.refl w.heap.size w).alloc (Nat.le_refl _) o);have HQ := hidden (fun w' (hb : Below w.heap.size w w') => h.below hb);obtain ⟨vb, vv, vd, hE, hb, hv, hd⟩ := id h;have HR := hidden hr;obtain ⟨-, hform, ⟨n1, n2, n3⟩, hlist⟩ := good_parts hr hc;obtain ⟨f, k, a, c, s, bs, vs, m, o, ds⟩ := r;simp only [rpV, Value.agg.injEq, Array.mk.injEq, List.cons.injEq, and_true, true_and] at hE;obtain ⟨rfl, rfl, rfl⟩ := hE;simp only at hc hf n1 n2 n3 HR HQ hb hv hd hlist ⊢;subst hc;subst hf;have hl2 : bs.length ≤ 2040 := by simp [listA] at hlist; omega
 have EQ := hidden (show layA ⟨2, 0, a, c, s, bs, vs, m, o, ds⟩ = [2] ++ cntL (packL bs) by simp [layA, bodyA]; rfl);clear hform hlist;clear hr h;go_enter Tryz.func41, Tryz.ntmps41;go_wp2_with fail
 refine (right_rep _ _ _ (HQ.out _ (W0.out _))).mono ?_;rintro e w1 ⟨rfl, B1⟩;rw [HR.out];have X := (BoxP.new w _ _ _ _ _ _ _ _ _ _ _).ext B1;replace B1 := below_then (W0.out _) B1;have X1 := hidden X;obtain ⟨lt, c0, c1, c2, c3, c4, c5, c6, c7, c8, c9⟩ := X;go_wp2_with fail
 have BB := B1.alloc B1.size (.cells #[.int .u8 2] 5);have R2 := row_byte w1 2 2 rfl;refine (pack_any _ bs _ (hb.below BB) (by omega)).mono ?_;rintro e w2 ⟨v2, rfl, hr3, B3⟩;replace R2 := R2.below B3;replace B3 := below_then BB B3;go_wp2_with fail
 refine (counted_rep_new _ _ [2] (packL bs) _ R2 hr3 (by decide) (by rw [packL_len]; omega)).mono ?_;rintro e w3 ⟨v3, rfl, hr2, nwv, B4⟩;have HNW : Hid (NwV w.heap.size v3) := nwv.mono B3.size;clear nwv;have B2 := below_then B3 B4;go_wp2;go_ret2
 rw [EQ.out];exact ⟨_, rfl, hr2, HNW.out, B2⟩
set_option maxRecDepth 100000 in
set_option maxHeartbeats 2000000 in
theorem bytes_rep_3_new (v : Value) (r : Rp) (w : World) (h : IsRp w v r) (hr : goodE r = 0) (hc : r.code = 0) (hf : r.fn = 3) :
  Calls Tryz.prog 41 #[v] w fun e w' => ∃ v', e = .returned (.tuple #[v', .int .i64 0]) ∧ Row w' v' ((layA r).map bV) ∧ NwV w.heap.size v' ∧ Below w.heap.size w w' := by
 obtain ⟨ab, capb, av, capv, ad, capd, rfl, -, -, -⟩ := h.slices;have W0 := hidden (fun o => (Below.refl w.heap.size w).alloc (Nat.le_refl _) o);have HQ := hidden (fun w' (hb : Below w.heap.size w w') => h.below hb);obtain ⟨vb, vv, vd, hE, hb, hv, hd⟩ := id h;have HR := hidden hr;obtain ⟨-, hform, ⟨n1, n2, n3⟩, hlist⟩ := good_parts hr hc;obtain ⟨f, k, a, c, s, bs, vs, m, o, ds⟩ := r;simp only [rpV, Value.agg.injEq, Array.mk.injEq, List.cons.injEq, and_true, true_and] at hE;obtain ⟨rfl, rfl, rfl⟩ := hE;simp only at hc hf n1 n2 n3 HR HQ hb hv hd hlist ⊢;subst hc;subst hf;have hl2 : vs.length ≤ 127 := by simp [listA] at hlist; omega
 have EQ := hidden (show layA ⟨3, 0, a, c, s, bs, vs, m, o, ds⟩ = [3] ++ cntL (bytesL vs) by simp [layA, bodyA]; rfl);clear hform hlist;clear hr h;go_enter Tryz.func41, Tryz.ntmps41;go_wp2_with fail
 refine (right_rep _ _ _ (HQ.out _ (W0.out _))).mono ?_;rintro e w1 ⟨rfl, B1⟩;rw [HR.out];have X := (BoxP.new w _ _ _ _ _ _ _ _ _ _ _).ext B1;replace B1 := below_then (W0.out _) B1;have X1 := hidden X;obtain ⟨lt, c0, c1, c2, c3, c4, c5, c6, c7, c8, c9⟩ := X;go_wp2_with fail
 have BB := B1.alloc B1.size (.cells #[.int .u8 3] 5);have R2 := row_byte w1 3 3 rfl;refine (bytes_any _ vs _ (hv.below BB) (by omega)).mono ?_;rintro e w2 ⟨v2, rfl, hr3, B3⟩;replace R2 := R2.below B3;replace B3 := below_then BB B3;go_wp2_with fail
 refine (counted_rep_new _ _ [3] (bytesL vs) _ R2 hr3 (by decide) (by rw [bytesL_len]; omega)).mono ?_;rintro e w3 ⟨v3, rfl, hr2, nwv, B4⟩;have HNW : Hid (NwV w.heap.size v3) := nwv.mono B3.size;clear nwv;have B2 := below_then B3 B4;go_wp2;go_ret2
 rw [EQ.out];exact ⟨_, rfl, hr2, HNW.out, B2⟩
set_option maxRecDepth 100000 in
set_option maxHeartbeats 2000000 in
theorem bytes_rep_4_new (v : Value) (r : Rp) (w : World) (h : IsRp w v r) (hr : goodE r = 0) (hc : r.code = 0) (hf : r.fn = 4) :
  Calls Tryz.prog 41 #[v] w fun e w' => ∃ v', e = .returned (.tuple #[v', .int .i64 0]) ∧ Row w' v' ((layA r).map bV) ∧ NwV w.heap.size v' ∧ Below w.heap.size w w' := by
 obtain ⟨ab, capb, av, capv, ad, capd, rfl, -, -, -⟩ := h.slices;have W0 := hidden (fun o => (Below.refl w.heap.size w).alloc (Nat.le_refl _) o);have HQ := hidden (fun w' (hb : Below w.heap.size w w') => h.below hb);obtain ⟨vb, vv, vd, hE, hb, hv, hd⟩ := id h;have HR := hidden hr;obtain ⟨-, hform, ⟨n1, n2, n3⟩, hlist⟩ := good_parts hr hc;obtain ⟨f, k, a, c, s, bs, vs, m, o, ds⟩ := r;simp only [rpV, Value.agg.injEq, Array.mk.injEq, List.cons.injEq, and_true, true_and] at hE;obtain ⟨rfl, rfl, rfl⟩ := hE;simp only at hc hf n1 n2 n3 HR HQ hb hv hd hlist ⊢;subst hc;subst hf;have hl2 : vs.length ≤ 127 := by simp [listA] at hlist; omega
 have EQ := hidden (show layA ⟨4, 0, a, c, s, bs, vs, m, o, ds⟩ = [4] ++ cntL (bytesL vs) by simp [layA, bodyA]; rfl);clear hform hlist;clear hr h;go_enter Tryz.func41, Tryz.ntmps41;go_wp2_with fail
 refine (right_rep _ _ _ (HQ.out _ (W0.out _))).mono ?_;rintro e w1 ⟨rfl, B1⟩;rw [HR.out];have X := (BoxP.new w _ _ _ _ _ _ _ _ _ _ _).ext B1;replace B1 := below_then (W0.out _) B1;have X1 := hidden X;obtain ⟨lt, c0, c1, c2, c3, c4, c5, c6, c7, c8, c9⟩ := X;go_wp2_with fail
 have BB := B1.alloc B1.size (.cells #[.int .u8 4] 5);have R2 := row_byte w1 4 4 rfl;refine (bytes_any _ vs _ (hv.below BB) (by omega)).mono ?_;rintro e w2 ⟨v2, rfl, hr3, B3⟩;replace R2 := R2.below B3;replace B3 := below_then BB B3;go_wp2_with fail
 refine (counted_rep_new _ _ [4] (bytesL vs) _ R2 hr3 (by decide) (by rw [bytesL_len]; omega)).mono ?_;rintro e w3 ⟨v3, rfl, hr2, nwv, B4⟩;have HNW : Hid (NwV w.heap.size v3) := nwv.mono B3.size;clear nwv;have B2 := below_then B3 B4;go_wp2;go_ret2
 rw [EQ.out];exact ⟨_, rfl, hr2, HNW.out, B2⟩
set_option maxRecDepth 100000 in
set_option maxHeartbeats 2000000 in
theorem bytes_rep_23_new (v : Value) (r : Rp) (w : World) (h : IsRp w v r) (hr : goodE r = 0) (hc : r.code = 0) (hf : r.fn = 23) :
  Calls Tryz.prog 41 #[v] w fun e w' => ∃ v', e = .returned (.tuple #[v', .int .i64 0]) ∧ Row w' v' ((layA r).map bV) ∧ NwV w.heap.size v' ∧ Below w.heap.size w w' := by
 obtain ⟨ab, capb, av, capv, ad, capd, rfl, -, -, -⟩ := h.slices;have W0 := hidden (fun o => (Below.refl w.heap.size w).alloc (Nat.le_refl _) o);have HQ := hidden (fun w' (hb : Below w.heap.size w w') => h.below hb);obtain ⟨vb, vv, vd, hE, hb, hv, hd⟩ := id h;have HR := hidden hr;obtain ⟨-, hform, ⟨n1, n2, n3⟩, hlist⟩ := good_parts hr hc;obtain ⟨f, k, a, c, s, bs, vs, m, o, ds⟩ := r;simp only [rpV, Value.agg.injEq, Array.mk.injEq, List.cons.injEq, and_true, true_and] at hE;obtain ⟨rfl, rfl, rfl⟩ := hE;simp only at hc hf n1 n2 n3 HR HQ hb hv hd hlist ⊢;subst hc;subst hf;have hl2 : vs.length ≤ 127 := by simp [listA] at hlist; omega
 have EQ := hidden (show layA ⟨23, 0, a, c, s, bs, vs, m, o, ds⟩ = [23] ++ cntL (bytesL vs) by simp [layA, bodyA]; rfl);clear hform hlist;clear hr h;go_enter Tryz.func41, Tryz.ntmps41;go_wp2_with fail
 refine (right_rep _ _ _ (HQ.out _ (W0.out _))).mono ?_;rintro e w1 ⟨rfl, B1⟩;rw [HR.out];have X := (BoxP.new w _ _ _ _ _ _ _ _ _ _ _).ext B1;replace B1 := below_then (W0.out _) B1;have X1 := hidden X;obtain ⟨lt, c0, c1, c2, c3, c4, c5, c6, c7, c8, c9⟩ := X;go_wp2_with fail
 have BB := B1.alloc B1.size (.cells #[.int .u8 23] 5);have R2 := row_byte w1 23 23 rfl;refine (bytes_any _ vs _ (hv.below BB) (by omega)).mono ?_;rintro e w2 ⟨v2, rfl, hr3, B3⟩;replace R2 := R2.below B3;replace B3 := below_then BB B3;go_wp2_with fail
 refine (counted_rep_new _ _ [23] (bytesL vs) _ R2 hr3 (by decide) (by rw [bytesL_len]; omega)).mono ?_;rintro e w3 ⟨v3, rfl, hr2, nwv, B4⟩;have HNW : Hid (NwV w.heap.size v3) := nwv.mono B3.size;clear nwv;have B2 := below_then B3 B4;go_wp2;go_ret2
 rw [EQ.out];exact ⟨_, rfl, hr2, HNW.out, B2⟩
set_option maxRecDepth 100000 in
set_option maxHeartbeats 2000000 in
theorem bytes_rep_17_new (v : Value) (r : Rp) (w : World) (h : IsRp w v r) (hr : goodE r = 0) (hc : r.code = 0) (hf : r.fn = 17) :
  Calls Tryz.prog 41 #[v] w fun e w' => ∃ v', e = .returned (.tuple #[v', .int .i64 0]) ∧ Row w' v' ((layA r).map bV) ∧ NwV w.heap.size v' ∧ Below w.heap.size w w' := by
 obtain ⟨ab, capb, av, capv, ad, capd, rfl, -, -, -⟩ := h.slices;have W0 := hidden (fun o => (Below.refl w.heap.size w).alloc (Nat.le_refl _) o);have HQ := hidden (fun w' (hb : Below w.heap.size w w') => h.below hb);obtain ⟨vb, vv, vd, hE, hb, hv, hd⟩ := id h;have HR := hidden hr;obtain ⟨-, hform, ⟨n1, n2, n3⟩, hlist⟩ := good_parts hr hc;obtain ⟨f, k, a, c, s, bs, vs, m, o, ds⟩ := r;simp only [rpV, Value.agg.injEq, Array.mk.injEq, List.cons.injEq, and_true, true_and] at hE;obtain ⟨rfl, rfl, rfl⟩ := hE;simp only at hc hf n1 n2 n3 HR HQ hb hv hd hlist ⊢;subst hc;subst hf;have hl2 : ds.length ≤ 250 := by simp [listA] at hlist; omega
 have EQ := hidden (show layA ⟨17, 0, a, c, s, bs, vs, m, o, ds⟩ = [17] ++ cntL (ds) by simp [layA, bodyA]; rfl);clear hform hlist;clear hr h;go_enter Tryz.func41, Tryz.ntmps41;go_wp2_with fail
 refine (right_rep _ _ _ (HQ.out _ (W0.out _))).mono ?_;rintro e w1 ⟨rfl, B1⟩;rw [HR.out];have X := (BoxP.new w _ _ _ _ _ _ _ _ _ _ _).ext B1;replace B1 := below_then (W0.out _) B1;have X1 := hidden X;obtain ⟨lt, c0, c1, c2, c3, c4, c5, c6, c7, c8, c9⟩ := X;go_wp2_with fail
 have BB := B1.alloc B1.size (.cells #[.int .u8 17] 5);have R2 := row_byte w1 17 17 rfl;have B3 := BB;refine (counted_rep_new _ _ [17] (ds) _ R2 (hd.below BB) (by decide) (by omega)).mono ?_;rintro e w3 ⟨v3, rfl, hr2, nwv, B4⟩;have HNW : Hid (NwV w.heap.size v3) := nwv.mono BB.size;clear nwv;have B2 := below_then B3 B4;go_wp2;go_ret2
 rw [EQ.out];exact ⟨_, rfl, hr2, HNW.out, B2⟩
set_option maxRecDepth 100000 in
set_option maxHeartbeats 2000000 in
theorem bytes_rep_15_new (v : Value) (r : Rp) (w : World) (h : IsRp w v r) (hr : goodE r = 0) (hc : r.code = 0) (hf : r.fn = 15) :
  Calls Tryz.prog 41 #[v] w fun e w' => ∃ v', e = .returned (.tuple #[v', .int .i64 0]) ∧ Row w' v' ((layA r).map bV) ∧ NwV w.heap.size v' ∧ Below w.heap.size w w' := by
 obtain ⟨ab, capb, av, capv, ad, capd, rfl, -, -, -⟩ := h.slices;have W0 := hidden (fun o => (Below.refl w.heap.size w).alloc (Nat.le_refl _) o);have HQ := hidden (fun w' (hb : Below w.heap.size w w') => h.below hb);obtain ⟨vb, vv, vd, hE, hb, hv, hd⟩ := id h;have HR := hidden hr;obtain ⟨-, hform, ⟨n1, n2, n3⟩, hlist⟩ := good_parts hr hc;obtain ⟨f, k, a, c, s, bs, vs, m, o, ds⟩ := r;simp only [rpV, Value.agg.injEq, Array.mk.injEq, List.cons.injEq, and_true, true_and] at hE;obtain ⟨rfl, rfl, rfl⟩ := hE;simp only at hc hf n1 n2 n3 HR HQ hb hv hd hlist ⊢;subst hc;subst hf;have EQ := hidden (show layA ⟨15, 0, a, c, s, bs, vs, m, o, ds⟩ = ([15] ++ pw a) ++ pw c by simp [layA, bodyA]; rfl);clear hform hlist;clear hr h;go_enter Tryz.func41, Tryz.ntmps41;go_wp2_with fail
 refine (right_rep _ _ _ (HQ.out _ (W0.out _))).mono ?_;rintro e w1 ⟨rfl, B1⟩;rw [HR.out];have X := (BoxP.new w _ _ _ _ _ _ _ _ _ _ _).ext B1;replace B1 := below_then (W0.out _) B1;have X1 := hidden X;obtain ⟨lt, c0, c1, c2, c3, c4, c5, c6, c7, c8, c9⟩ := X;go_wp2;refine wp_region_pi [(0, true), (1, true), (2, true), (4, true), (5, true), (3, false), (6, false), (7, true), (8, true)] (by kernel_rfl) (by kernel_rfl) (by kernel_rfl) (fun _ _ _ d _ h => by cases d <;> exact h) ?_;have B2 := (B1.alloc B1.size (.cells #[.int .u8 15] 5)).drew;have R2 := (row_byte w1 15 15 rfl).drew;have X2 := hidden (X1.out.below ((Below.refl w1.heap.size w1).alloc (Nat.le_refl _) (.cells #[.int .u8 15] 5)).drew lt);have x2 := Ext.refl (w1.alloc (.cells #[.int .u8 15] 5)).drew;clear c0 c1 c2 c3 c4 c5 c6 c7 c8 c9 X1;generalize hw2 : (w1.alloc (.cells #[.int .u8 15] 5)).drew = w2 at *;iterate 5 (first | (refine pi_P x2 rfl ?_) | (refine pi_R x2 rfl (fun w' hx => by obtain ⟨d, c0, c1, c2, c3, c4, c5, c6, c7, c8, c9⟩ := X2.out.ext hx; go_simp; with_reducible rfl) ?_))
 refine pi_move rfl (by kernel_rfl) (fun K hK => ?_);go_wp2_with fail
 refine (put_new _ [15] a _ (numB_in n1) R2 (by decide)).mono ?_;rintro e w3 ⟨v3, rfl, hr3, -, B3⟩;go_simp;refine hK.out _ _ B3 ?_;clear K hK;try simp only [Act.put, PuA, PuB, PuC]
 have E3 := B3;replace B3 := below_then B2 B3;refine pi_move rfl (by kernel_rfl) (fun K hK => ?_);go_wp2_with fail
 refine (put_new _ _ c _ (numB_in n3) hr3 (by simp)).mono ?_;rintro e w4 ⟨v4, rfl, hr2, nwv, B4⟩;have HNW : Hid (NwV w.heap.size v4) := nwv.mono B3.size;clear nwv;go_simp;have E4 := Ext.trans E3 B4;refine hK.out _ _ E4 ?_;clear K hK;try simp only [Act.put, PuA, PuB, PuC]
 replace B2 := below_then B3 B4;iterate 2 (refine pi_P E4 rfl ?_)
 refine pi_nil ?_;go_wp2;go_ret2
 rw [EQ.out];exact ⟨_, rfl, hr2, HNW.out, B2⟩
set_option maxRecDepth 100000 in
set_option maxHeartbeats 2000000 in
theorem bytes_rep_16_new (v : Value) (r : Rp) (w : World) (h : IsRp w v r) (hr : goodE r = 0) (hc : r.code = 0) (hf : r.fn = 16) :
  Calls Tryz.prog 41 #[v] w fun e w' => ∃ v', e = .returned (.tuple #[v', .int .i64 0]) ∧ Row w' v' ((layA r).map bV) ∧ NwV w.heap.size v' ∧ Below w.heap.size w w' := by
 obtain ⟨ab, capb, av, capv, ad, capd, rfl, -, -, -⟩ := h.slices;have W0 := hidden (fun o => (Below.refl w.heap.size w).alloc (Nat.le_refl _) o);have HQ := hidden (fun w' (hb : Below w.heap.size w w') => h.below hb);obtain ⟨vb, vv, vd, hE, hb, hv, hd⟩ := id h;have HR := hidden hr;obtain ⟨-, hform, ⟨n1, n2, n3⟩, hlist⟩ := good_parts hr hc;obtain ⟨f, k, a, c, s, bs, vs, m, o, ds⟩ := r;simp only [rpV, Value.agg.injEq, Array.mk.injEq, List.cons.injEq, and_true, true_and] at hE;obtain ⟨rfl, rfl, rfl⟩ := hE;simp only at hc hf n1 n2 n3 HR HQ hb hv hd hlist ⊢;subst hc;subst hf;have EQ := hidden (show layA ⟨16, 0, a, c, s, bs, vs, m, o, ds⟩ = ([16] ++ pw a) ++ pw c by simp [layA, bodyA]; rfl);clear hform hlist;clear hr h;go_enter Tryz.func41, Tryz.ntmps41;go_wp2_with fail
 refine (right_rep _ _ _ (HQ.out _ (W0.out _))).mono ?_;rintro e w1 ⟨rfl, B1⟩;rw [HR.out];have X := (BoxP.new w _ _ _ _ _ _ _ _ _ _ _).ext B1;replace B1 := below_then (W0.out _) B1;have X1 := hidden X;obtain ⟨lt, c0, c1, c2, c3, c4, c5, c6, c7, c8, c9⟩ := X;go_wp2;refine wp_region_pi [(0, true), (1, true), (2, true), (4, true), (5, true), (3, false), (6, false), (7, true), (8, true)] (by kernel_rfl) (by kernel_rfl) (by kernel_rfl) (fun _ _ _ d _ h => by cases d <;> exact h) ?_;have B2 := (B1.alloc B1.size (.cells #[.int .u8 16] 5)).drew;have R2 := (row_byte w1 16 16 rfl).drew;have X2 := hidden (X1.out.below ((Below.refl w1.heap.size w1).alloc (Nat.le_refl _) (.cells #[.int .u8 16] 5)).drew lt);have x2 := Ext.refl (w1.alloc (.cells #[.int .u8 16] 5)).drew;clear c0 c1 c2 c3 c4 c5 c6 c7 c8 c9 X1;generalize hw2 : (w1.alloc (.cells #[.int .u8 16] 5)).drew = w2 at *;iterate 5 (first | (refine pi_P x2 rfl ?_) | (refine pi_R x2 rfl (fun w' hx => by obtain ⟨d, c0, c1, c2, c3, c4, c5, c6, c7, c8, c9⟩ := X2.out.ext hx; go_simp; with_reducible rfl) ?_))
 refine pi_move rfl (by kernel_rfl) (fun K hK => ?_);go_wp2_with fail
 refine (put_new _ [16] a _ (numB_in n1) R2 (by decide)).mono ?_;rintro e w3 ⟨v3, rfl, hr3, -, B3⟩;go_simp;refine hK.out _ _ B3 ?_;clear K hK;try simp only [Act.put, PuA, PuB, PuC]
 have E3 := B3;replace B3 := below_then B2 B3;refine pi_move rfl (by kernel_rfl) (fun K hK => ?_);go_wp2_with fail
 refine (put_new _ _ c _ (numB_in n3) hr3 (by simp)).mono ?_;rintro e w4 ⟨v4, rfl, hr2, nwv, B4⟩;have HNW : Hid (NwV w.heap.size v4) := nwv.mono B3.size;clear nwv;go_simp;have E4 := Ext.trans E3 B4;refine hK.out _ _ E4 ?_;clear K hK;try simp only [Act.put, PuA, PuB, PuC]
 replace B2 := below_then B3 B4;iterate 2 (refine pi_P E4 rfl ?_)
 refine pi_nil ?_;go_wp2;go_ret2
 rw [EQ.out];exact ⟨_, rfl, hr2, HNW.out, B2⟩
set_option maxRecDepth 100000 in
set_option maxHeartbeats 2000000 in
theorem bytes_rep_5_new (v : Value) (r : Rp) (w : World) (h : IsRp w v r) (hr : goodE r = 0) (hc : r.code = 0) (hf : r.fn = 5) :
  Calls Tryz.prog 41 #[v] w fun e w' => ∃ v', e = .returned (.tuple #[v', .int .i64 0]) ∧ Row w' v' ((layA r).map bV) ∧ NwV w.heap.size v' ∧ Below w.heap.size w w' := by
 obtain ⟨ab, capb, av, capv, ad, capd, rfl, -, -, -⟩ := h.slices;have W0 := hidden (fun o => (Below.refl w.heap.size w).alloc (Nat.le_refl _) o);have HQ := hidden (fun w' (hb : Below w.heap.size w w') => h.below hb);obtain ⟨vb, vv, vd, hE, hb, hv, hd⟩ := id h;have HR := hidden hr;obtain ⟨q1, q2, -⟩ := echo_right hr hc (by rw [hf]; simp);obtain ⟨f, k, a, c, s, bs, vs, m, o, ds⟩ := r;simp only [rpV, Value.agg.injEq, Array.mk.injEq, List.cons.injEq, and_true, true_and] at hE;obtain ⟨rfl, rfl, rfl⟩ := hE;simp only at hc hf HR HQ hb hv hd q1 q2 ⊢;subst hc;subst hf;have EQ := hidden q2;have HZ := hidden q1;have HB := hidden (bytesR_0 q1);clear q1 q2;clear hr h;go_enter Tryz.func41, Tryz.ntmps41;go_wp2_with fail
 refine (right_rep _ _ _ (HQ.out _ (W0.out _))).mono ?_;rintro e w1 ⟨rfl, B1⟩;rw [HR.out];have X := (BoxP.new w _ _ _ _ _ _ _ _ _ _ _).ext B1;replace B1 := below_then (W0.out _) B1;have X1 := hidden X;obtain ⟨lt, c0, c1, c2, c3, c4, c5, c6, c7, c8, c9⟩ := X;go_wp2_with fail
 have BB := B1.alloc B1.size (.cells #[.int .u8 5] 5);refine (echoed_rep _ _ _ (HQ.out _ BB)).mono ?_;rintro e w2 ⟨v2, rfl, hr3, B3⟩;replace B3 := below_then BB B3;go_wp2_with fail
 refine (bytes_pdu_5_new _ _ _ hr3 HZ.out rfl).mono ?_;rintro e w3 ⟨v3, rfl, hr2, nwv, B4⟩;have HNW : Hid (NwV w.heap.size v3) := nwv.mono B3.size;clear nwv;have B2 := below_then B3 B4;go_wp2;go_ret2
 rw [EQ.out];exact ⟨_, rfl, hr2, HNW.out, B2⟩
set_option maxRecDepth 100000 in
set_option maxHeartbeats 2000000 in
theorem bytes_rep_6_new (v : Value) (r : Rp) (w : World) (h : IsRp w v r) (hr : goodE r = 0) (hc : r.code = 0) (hf : r.fn = 6) :
  Calls Tryz.prog 41 #[v] w fun e w' => ∃ v', e = .returned (.tuple #[v', .int .i64 0]) ∧ Row w' v' ((layA r).map bV) ∧ NwV w.heap.size v' ∧ Below w.heap.size w w' := by
 obtain ⟨ab, capb, av, capv, ad, capd, rfl, -, -, -⟩ := h.slices;have W0 := hidden (fun o => (Below.refl w.heap.size w).alloc (Nat.le_refl _) o);have HQ := hidden (fun w' (hb : Below w.heap.size w w') => h.below hb);obtain ⟨vb, vv, vd, hE, hb, hv, hd⟩ := id h;have HR := hidden hr;obtain ⟨q1, q2, -⟩ := echo_right hr hc (by rw [hf]; simp);obtain ⟨f, k, a, c, s, bs, vs, m, o, ds⟩ := r;simp only [rpV, Value.agg.injEq, Array.mk.injEq, List.cons.injEq, and_true, true_and] at hE;obtain ⟨rfl, rfl, rfl⟩ := hE;simp only at hc hf HR HQ hb hv hd q1 q2 ⊢;subst hc;subst hf;have EQ := hidden q2;have HZ := hidden q1;have HB := hidden (bytesR_0 q1);clear q1 q2;clear hr h;go_enter Tryz.func41, Tryz.ntmps41;go_wp2_with fail
 refine (right_rep _ _ _ (HQ.out _ (W0.out _))).mono ?_;rintro e w1 ⟨rfl, B1⟩;rw [HR.out];have X := (BoxP.new w _ _ _ _ _ _ _ _ _ _ _).ext B1;replace B1 := below_then (W0.out _) B1;have X1 := hidden X;obtain ⟨lt, c0, c1, c2, c3, c4, c5, c6, c7, c8, c9⟩ := X;go_wp2_with fail
 have BB := B1.alloc B1.size (.cells #[.int .u8 6] 5);refine (echoed_rep _ _ _ (HQ.out _ BB)).mono ?_;rintro e w2 ⟨v2, rfl, hr3, B3⟩;replace B3 := below_then BB B3;go_wp2_with fail
 refine (bytes_pdu_6_new _ _ _ hr3 HZ.out rfl).mono ?_;rintro e w3 ⟨v3, rfl, hr2, nwv, B4⟩;have HNW : Hid (NwV w.heap.size v3) := nwv.mono B3.size;clear nwv;have B2 := below_then B3 B4;go_wp2;go_ret2
 rw [EQ.out];exact ⟨_, rfl, hr2, HNW.out, B2⟩
set_option maxRecDepth 100000 in
set_option maxHeartbeats 2000000 in
theorem bytes_rep_8_new (v : Value) (r : Rp) (w : World) (h : IsRp w v r) (hr : goodE r = 0) (hc : r.code = 0) (hf : r.fn = 8) :
  Calls Tryz.prog 41 #[v] w fun e w' => ∃ v', e = .returned (.tuple #[v', .int .i64 0]) ∧ Row w' v' ((layA r).map bV) ∧ NwV w.heap.size v' ∧ Below w.heap.size w w' := by
 obtain ⟨ab, capb, av, capv, ad, capd, rfl, -, -, -⟩ := h.slices;have W0 := hidden (fun o => (Below.refl w.heap.size w).alloc (Nat.le_refl _) o);have HQ := hidden (fun w' (hb : Below w.heap.size w w') => h.below hb);obtain ⟨vb, vv, vd, hE, hb, hv, hd⟩ := id h;have HR := hidden hr;obtain ⟨q1, q2, -⟩ := echo_right hr hc (by rw [hf]; simp);obtain ⟨f, k, a, c, s, bs, vs, m, o, ds⟩ := r;simp only [rpV, Value.agg.injEq, Array.mk.injEq, List.cons.injEq, and_true, true_and] at hE;obtain ⟨rfl, rfl, rfl⟩ := hE;simp only at hc hf HR HQ hb hv hd q1 q2 ⊢;subst hc;subst hf;have EQ := hidden q2;have HZ := hidden q1;have HB := hidden (bytesR_0 q1);clear q1 q2;clear hr h;go_enter Tryz.func41, Tryz.ntmps41;go_wp2_with fail
 refine (right_rep _ _ _ (HQ.out _ (W0.out _))).mono ?_;rintro e w1 ⟨rfl, B1⟩;rw [HR.out];have X := (BoxP.new w _ _ _ _ _ _ _ _ _ _ _).ext B1;replace B1 := below_then (W0.out _) B1;have X1 := hidden X;obtain ⟨lt, c0, c1, c2, c3, c4, c5, c6, c7, c8, c9⟩ := X;go_wp2_with fail
 have BB := B1.alloc B1.size (.cells #[.int .u8 8] 5);refine (echoed_rep _ _ _ (HQ.out _ BB)).mono ?_;rintro e w2 ⟨v2, rfl, hr3, B3⟩;replace B3 := below_then BB B3;go_wp2_with fail
 refine (bytes_pdu_8_new _ _ _ hr3 HZ.out rfl).mono ?_;rintro e w3 ⟨v3, rfl, hr2, nwv, B4⟩;have HNW : Hid (NwV w.heap.size v3) := nwv.mono B3.size;clear nwv;have B2 := below_then B3 B4;go_wp2;go_ret2
 rw [EQ.out];exact ⟨_, rfl, hr2, HNW.out, B2⟩
set_option maxRecDepth 100000 in
set_option maxHeartbeats 2000000 in
theorem bytes_rep_22_new (v : Value) (r : Rp) (w : World) (h : IsRp w v r) (hr : goodE r = 0) (hc : r.code = 0) (hf : r.fn = 22) :
  Calls Tryz.prog 41 #[v] w fun e w' => ∃ v', e = .returned (.tuple #[v', .int .i64 0]) ∧ Row w' v' ((layA r).map bV) ∧ NwV w.heap.size v' ∧ Below w.heap.size w w' := by
 obtain ⟨ab, capb, av, capv, ad, capd, rfl, -, -, -⟩ := h.slices;have W0 := hidden (fun o => (Below.refl w.heap.size w).alloc (Nat.le_refl _) o);have HQ := hidden (fun w' (hb : Below w.heap.size w w') => h.below hb);obtain ⟨vb, vv, vd, hE, hb, hv, hd⟩ := id h;have HR := hidden hr;obtain ⟨q1, q2, -⟩ := echo_right hr hc (by rw [hf]; simp);obtain ⟨f, k, a, c, s, bs, vs, m, o, ds⟩ := r;simp only [rpV, Value.agg.injEq, Array.mk.injEq, List.cons.injEq, and_true, true_and] at hE;obtain ⟨rfl, rfl, rfl⟩ := hE;simp only at hc hf HR HQ hb hv hd q1 q2 ⊢;subst hc;subst hf;have EQ := hidden q2;have HZ := hidden q1;have HB := hidden (bytesR_0 q1);clear q1 q2;clear hr h;go_enter Tryz.func41, Tryz.ntmps41;go_wp2_with fail
 refine (right_rep _ _ _ (HQ.out _ (W0.out _))).mono ?_;rintro e w1 ⟨rfl, B1⟩;rw [HR.out];have X := (BoxP.new w _ _ _ _ _ _ _ _ _ _ _).ext B1;replace B1 := below_then (W0.out _) B1;have X1 := hidden X;obtain ⟨lt, c0, c1, c2, c3, c4, c5, c6, c7, c8, c9⟩ := X;go_wp2_with fail
 have BB := B1.alloc B1.size (.cells #[.int .u8 22] 5);refine (echoed_rep _ _ _ (HQ.out _ BB)).mono ?_;rintro e w2 ⟨v2, rfl, hr3, B3⟩;replace B3 := below_then BB B3;go_wp2_with fail
 refine (bytes_pdu_22_new _ _ _ hr3 HZ.out rfl).mono ?_;rintro e w3 ⟨v3, rfl, hr2, nwv, B4⟩;have HNW : Hid (NwV w.heap.size v3) := nwv.mono B3.size;clear nwv;have B2 := below_then B3 B4;go_wp2;go_ret2
 rw [EQ.out];exact ⟨_, rfl, hr2, HNW.out, B2⟩
set_option maxHeartbeats 1000000 in
theorem bytes_rep_new (v : Value) (r : Rp) (w : World) (h : IsRp w v r) :
  Calls Tryz.prog 41 #[v] w fun e w' => ∃ v', e = .returned (.tuple #[v', .int .i64 (goodE r)]) ∧ Row w' v' ((layR r).map bV) ∧ NwV w.heap.size v' ∧ Below w.heap.size w w' := by
 by_cases hr : goodE r = 0
 ·
  rw [layR_0 hr, hr];by_cases hc : r.code = 0
  ·
   rcases known_cases (good_parts hr hc).1 with e | e | e | e | e | e | e | e | e | e | e | e
   ·
    exact bytes_rep_1_new v r w h hr hc e
   ·
    exact bytes_rep_2_new v r w h hr hc e
   ·
    exact bytes_rep_3_new v r w h hr hc e
   ·
    exact bytes_rep_4_new v r w h hr hc e
   ·
    exact bytes_rep_5_new v r w h hr hc e
   ·
    exact bytes_rep_6_new v r w h hr hc e
   ·
    exact bytes_rep_8_new v r w h hr hc e
   ·
    exact bytes_rep_15_new v r w h hr hc e
   ·
    exact bytes_rep_16_new v r w h hr hc e
   ·
    exact bytes_rep_17_new v r w h hr hc e
   ·
    exact bytes_rep_22_new v r w h hr hc e
   ·
    exact bytes_rep_23_new v r w h hr hc e
  ·
   exact bytes_rep_c_new v r w h hr hc
 ·
  rw [layR_no hr];obtain ⟨ab, capb, av, capv, ad, capd, rfl, -, -, -⟩ := h.slices;have W0 := hidden (fun o => (Below.refl w.heap.size w).alloc (Nat.le_refl _) o);have C := hidden (fun w' (hb : Below w.heap.size w w') => right_rep _ _ _ (h.below hb));have t : (goodE r != 0) = true := by simpa using hr
  generalize goodE r = E at *;clear hr h;go_enter Tryz.func41, Tryz.ntmps41;go_wp2_with fail
  refine (C.out _ (W0.out _)).mono ?_;rintro e w1 ⟨rfl, B1⟩;replace B1 := below_then (W0.out _) B1;go_wp2;go_ret2
  exact ⟨_, rfl, Row.nil _, NwV.nil _ _ _, B1⟩
end Go.Proofs.YtdihcdphgiaepaaGreat
