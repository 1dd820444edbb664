/- Contract of burgageref3.lay, by function. -/
import Derived.Test.YtbajlhpmmmhkoaaJ29
import Derived.Test.YtbajlhpmmmhkoaaJ33
namespace Go.Proofs.Ytbajlhpmmmhkoaa
open Go.RowKit
theorem or_128 (f : Int) (h0 : 0 ≤ f) (h1 : f ≤ 127) : bits BinOp.or IntKind.i64 f 128 = f + 128 := by
 obtain ⟨n, rfl⟩ : ∃ n : Nat, f = (n : Int) := ⟨f.toNat, by omega⟩
 have h := i64_or_nat n 128 (by omega) (by decide)
 have e : n ||| 128 = n + 128 := by
  have : n < 2 ^ 7 := by omega
  rw [Nat.or_comm]
  have := Nat.two_pow_add_eq_or_of_lt this 1
  simp at this
  omega
 rw [e] at h
 simpa using h
theorem owns_byte2 (w : World) (x y : UInt8) (n k : Int) (h : n = x.toNat) (h' : k = y.toNat) : (w.alloc (.cells #[.int .u8 n, .int .u8 k] 5)).ownsRow w.heap.size 5 1 (.slice (some ⟨w.heap.size, 0, none⟩) 2 2) 2 ([x, y].map bV) := by
 subst h; subst h'
 exact ⟨rfl, .inr ⟨w.heap.size, 2, #[bV x, bV y], rfl, Nat.le_refl _, heap_alloc_new w _, Nat.le_refl _, by unfold maxLen; omega, by simp, by simp⟩⟩
set_option maxRecDepth 100000 in
set_option maxHeartbeats 1000000 in
theorem lay_ref_c (v : Value) (r : Rp) (w : World) (h : IsRp w v r) (hr : goodE r = 0) (hc : r.code ≠ 0) :
  Calls Try.prog 21 #[v] w fun e w' => ∃ v', e = .returned v' ∧ w'.ownsRow w.heap.size 5 1 v' (layA r).length ((layA r).map bV) ∧ Below w.heap.size w w' := by
 obtain ⟨ab, capb, av, capv, ad, capd, rfl, -, -, -⟩ := h.slices
 obtain ⟨k1, k2, f1, f2, -⟩ := good_code hr hc
 have EQ := hidden (show layA r = [b8 (r.fn + 128), b8 r.code] by simp [layA, hc])
 obtain ⟨f, k, a, c, s, bs, vs, m, o, ds⟩ := r
 simp only at k1 k2 f1 f2 hc EQ ⊢
 have t : (k != 0) = true := by simpa using hc
 have e1 := hidden (b8_val (f + 128) (by omega) (by omega)).symm
 have e2 := hidden (b8_val k (by omega) (by omega)).symm
 have e3 := or_128 f f1 f2
 have X := BoxP.new w f k a c s (.slice ab bs.length capb) (.slice av vs.length capv) m o (.slice ad ds.length capd) 35
 have B1 := (Below.refl w.heap.size w).alloc (Nat.le_refl _) (.cells #[.int .i64 f, .int .i64 k, .int .i64 a, .int .i64 c, .int .i64 s, .slice ab bs.length capb, .slice av vs.length capv, .int .u16 m.toNat, .int .u16 o.toNat, .slice ad ds.length capd] 35)
 obtain ⟨w1, hw1⟩ : ∃ w1, w.alloc (.cells #[.int .i64 f, .int .i64 k, .int .i64 a, .int .i64 c, .int .i64 s, .slice ab bs.length capb, .slice av vs.length capv, .int .u16 m.toNat, .int .u16 o.toNat, .slice ad ds.length capd] 35) = w1 := ⟨_, rfl⟩
 rw [hw1] at X B1
 obtain ⟨lt', b0, b1, b2, b3, b4, b5, b6, b7, b8', b9⟩ := id X
 replace X := X.ext ((Below.refl w1.heap.size w1).alloc (Nat.le_refl _) (.cells #[.int .u8 f] 5))
 have B2 := (B1.alloc B1.size (.cells #[.int .u8 f] 5))
 have O := owns_byte2 (w1.alloc (.cells #[.int .u8 f] 5)) _ _ _ _ e1.out e2.out
 simp only [World.size_alloc] at O
 obtain ⟨lt, c0, c1, c2, c3, c4, c5, c6, c7, c8, c9⟩ := X
 clear hc hr h
 go_enter Try.func21, Try.ntmps21
 go_wp2
 go_ret
 rw [EQ.out]
 exact ⟨_, rfl, owns_base O (by have := B2.size; simp at this ⊢; omega), B2.alloc B2.size _⟩
set_option maxRecDepth 100000 in
set_option maxHeartbeats 1000000 in
theorem lay_ref_1 (v : Value) (r : Rp) (w : World) (h : IsRp w v r) (hr : goodE r = 0) (hc : r.code = 0) (hf : r.fn = 1) :
  Calls Try.prog 21 #[v] w fun e w' => ∃ v', e = .returned v' ∧ w'.ownsRow w.heap.size 5 1 v' (layA r).length ((layA r).map bV) ∧ Below w.heap.size w w' := by
 obtain ⟨ab, capb, av, capv, ad, capd, rfl, -, -, -⟩ := h.slices
 obtain ⟨vb, vv, vd, hE, hb, hv, hd⟩ := id h
 obtain ⟨-, hform, ⟨n1, n2, n3⟩, hlist⟩ := good_parts hr hc
 obtain ⟨f, k, a, c, s, bs, vs, m, o, ds⟩ := r
 simp only [rpV, Value.agg.injEq, Array.mk.injEq, List.cons.injEq, and_true, true_and] at hE
 obtain ⟨rfl, rfl, rfl⟩ := hE
 simp only at hc hf n1 n2 n3 hb hv hd hlist ⊢
 subst hc
 subst hf
 have hl2 : bs.length ≤ 2040 := by simp [listA] at hlist; omega
 have EQ := hidden (show layA ⟨1, 0, a, c, s, bs, vs, m, o, ds⟩ = [1] ++ cntL (packL bs) by simp [layA, bodyA]; rfl)
 clear hform hlist hr h
 have X0 := BoxP.new w 1 0 a c s (.slice ab bs.length capb) (.slice av vs.length capv) m o (.slice ad ds.length capd) 35
 have B1 := (Below.refl w.heap.size w).alloc (Nat.le_refl _) (.cells #[.int .i64 1, .int .i64 0, .int .i64 a, .int .i64 c, .int .i64 s, .slice ab bs.length capb, .slice av vs.length capv, .int .u16 m.toNat, .int .u16 o.toNat, .slice ad ds.length capd] 35)
 obtain ⟨w1, hw1⟩ : ∃ w1, w.alloc (.cells #[.int .i64 1, .int .i64 0, .int .i64 a, .int .i64 c, .int .i64 s, .slice ab bs.length capb, .slice av vs.length capv, .int .u16 m.toNat, .int .u16 o.toNat, .slice ad ds.length capd] 35) = w1 := ⟨_, rfl⟩
 have hw1' : w.alloc (.cells #[.int .i64 1, .int .i64 0, .int .i64 a, .int .i64 c, .int .i64 s, .slice ab bs.length capb, .slice av vs.length capv, wV m, wV o, .slice ad ds.length capd] 35) = w1 := hw1
 rw [hw1] at X0 B1
 have S0 := B1.size
 have O1 := owns_byte w1 1 1 rfl
 have E1 := (Below.refl w1.heap.size w1).alloc (Nat.le_refl _) (.cells #[.int .u8 1] 5)
 obtain ⟨lt', b0, b1, b2, b3, b4, b5, b6, b7, b8', b9⟩ := id X0
 replace X0 := X0.ext E1
 replace B1 := below_then B1 E1
 have S1 : w1.heap.size + 1 ≤ (w1.alloc (.cells #[.int .u8 1] 5)).heap.size := by simp
 obtain ⟨w2, hw2⟩ : ∃ w2, w1.alloc (.cells #[.int .u8 1] 5) = w2 := ⟨_, rfl⟩
 rw [hw2] at X0 B1 O1 S1
 have R1 := Row.of_owns O1
 clear E1 hw1
 obtain ⟨lt, c0, c1, c2, c3, c4, c5, c6, c7, c8, c9⟩ := id X0
 go_enter Try.func21, Try.ntmps21
 go_wp2_with fail
 clear hw1' hw2
 refine (rpack_any _ bs _ (hb.below B1) (by omega)).mono ?_
 rintro e w3 ⟨v3, rfl, r3, B3, nv3⟩
 have AP := hidden (owns_occ O1 nv3 (Nat.le_refl _) r3)
 replace O1 := owns_below O1 B3
 have S3 := B3.size
 replace B1 := below_then B1 B3
 clear B3 lt c0 c1 c2 c3 c4 c5 c6 c7 c8 c9
 go_wp2_with fail
 refine (row_ref _ _ [1] (packL bs) _ w1.heap.size (by simpa using O1) (by omega) r3 AP.out (by decide) (by rw [packL_len]; omega)).mono ?_
 rintro e w4 ⟨v4, rfl, o4, E4⟩
 have BF := B1.trans (E4.mono S0)
 go_wp2
 go_ret
 refine ⟨_, rfl, ?_, BF⟩
 rw [EQ.out]
 exact (by have := owns_base o4 (base' := w.heap.size) S0; simpa using this)
set_option maxRecDepth 100000 in
set_option maxHeartbeats 1000000 in
theorem lay_ref_2 (v : Value) (r : Rp) (w : World) (h : IsRp w v r) (hr : goodE r = 0) (hc : r.code = 0) (hf : r.fn = 2) :
  Calls Try.prog 21 #[v] w fun e w' => ∃ v', e = .returned v' ∧ w'.ownsRow w.heap.size 5 1 v' (layA r).length ((layA r).map bV) ∧ Below w.heap.size w w' := by
 obtain ⟨ab, capb, av, capv, ad, capd, rfl, -, -, -⟩ := h.slices
 obtain ⟨vb, vv, vd, hE, hb, hv, hd⟩ := id h
 obtain ⟨-, hform, ⟨n1, n2, n3⟩, hlist⟩ := good_parts hr hc
 obtain ⟨f, k, a, c, s, bs, vs, m, o, ds⟩ := r
 simp only [rpV, Value.agg.injEq, Array.mk.injEq, List.cons.injEq, and_true, true_and] at hE
 obtain ⟨rfl, rfl, rfl⟩ := hE
 simp only at hc hf n1 n2 n3 hb hv hd hlist ⊢
 subst hc
 subst hf
 have hl2 : bs.length ≤ 2040 := by simp [listA] at hlist; omega
 have EQ := hidden (show layA ⟨2, 0, a, c, s, bs, vs, m, o, ds⟩ = [2] ++ cntL (packL bs) by simp [layA, bodyA]; rfl)
 clear hform hlist hr h
 have X0 := BoxP.new w 2 0 a c s (.slice ab bs.length capb) (.slice av vs.length capv) m o (.slice ad ds.length capd) 35
 have B1 := (Below.refl w.heap.size w).alloc (Nat.le_refl _) (.cells #[.int .i64 2, .int .i64 0, .int .i64 a, .int .i64 c, .int .i64 s, .slice ab bs.length capb, .slice av vs.length capv, .int .u16 m.toNat, .int .u16 o.toNat, .slice ad ds.length capd] 35)
 obtain ⟨w1, hw1⟩ : ∃ w1, w.alloc (.cells #[.int .i64 2, .int .i64 0, .int .i64 a, .int .i64 c, .int .i64 s, .slice ab bs.length capb, .slice av vs.length capv, .int .u16 m.toNat, .int .u16 o.toNat, .slice ad ds.length capd] 35) = w1 := ⟨_, rfl⟩
 have hw1' : w.alloc (.cells #[.int .i64 2, .int .i64 0, .int .i64 a, .int .i64 c, .int .i64 s, .slice ab bs.length capb, .slice av vs.length capv, wV m, wV o, .slice ad ds.length capd] 35) = w1 := hw1
 rw [hw1] at X0 B1
 have S0 := B1.size
 have O1 := owns_byte w1 2 2 rfl
 have E1 := (Below.refl w1.heap.size w1).alloc (Nat.le_refl _) (.cells #[.int .u8 2] 5)
 obtain ⟨lt', b0, b1, b2, b3, b4, b5, b6, b7, b8', b9⟩ := id X0
 replace X0 := X0.ext E1
 replace B1 := below_then B1 E1
 have S1 : w1.heap.size + 1 ≤ (w1.alloc (.cells #[.int .u8 2] 5)).heap.size := by simp
 obtain ⟨w2, hw2⟩ : ∃ w2, w1.alloc (.cells #[.int .u8 2] 5) = w2 := ⟨_, rfl⟩
 rw [hw2] at X0 B1 O1 S1
 have R1 := Row.of_owns O1
 clear E1 hw1
 obtain ⟨lt, c0, c1, c2, c3, c4, c5, c6, c7, c8, c9⟩ := id X0
 go_enter Try.func21, Try.ntmps21
 go_wp2_with fail
 clear hw1' hw2
 refine (rpack_any _ bs _ (hb.below B1) (by omega)).mono ?_
 rintro e w3 ⟨v3, rfl, r3, B3, nv3⟩
 have AP := hidden (owns_occ O1 nv3 (Nat.le_refl _) r3)
 replace O1 := owns_below O1 B3
 have S3 := B3.size
 replace B1 := below_then B1 B3
 clear B3 lt c0 c1 c2 c3 c4 c5 c6 c7 c8 c9
 go_wp2_with fail
 refine (row_ref _ _ [2] (packL bs) _ w1.heap.size (by simpa using O1) (by omega) r3 AP.out (by decide) (by rw [packL_len]; omega)).mono ?_
 rintro e w4 ⟨v4, rfl, o4, E4⟩
 have BF := B1.trans (E4.mono S0)
 go_wp2
 go_ret
 refine ⟨_, rfl, ?_, BF⟩
 rw [EQ.out]
 exact (by have := owns_base o4 (base' := w.heap.size) S0; simpa using this)
set_option maxRecDepth 100000 in
set_option maxHeartbeats 1000000 in
theorem lay_ref_3 (v : Value) (r : Rp) (w : World) (h : IsRp w v r) (hr : goodE r = 0) (hc : r.code = 0) (hf : r.fn = 3) :
  Calls Try.prog 21 #[v] w fun e w' => ∃ v', e = .returned v' ∧ w'.ownsRow w.heap.size 5 1 v' (layA r).length ((layA r).map bV) ∧ Below w.heap.size w w' := by
 obtain ⟨ab, capb, av, capv, ad, capd, rfl, -, -, -⟩ := h.slices
 obtain ⟨vb, vv, vd, hE, hb, hv, hd⟩ := id h
 obtain ⟨-, hform, ⟨n1, n2, n3⟩, hlist⟩ := good_parts hr hc
 obtain ⟨f, k, a, c, s, bs, vs, m, o, ds⟩ := r
 simp only [rpV, Value.agg.injEq, Array.mk.injEq, List.cons.injEq, and_true, true_and] at hE
 obtain ⟨rfl, rfl, rfl⟩ := hE
 simp only at hc hf n1 n2 n3 hb hv hd hlist ⊢
 subst hc
 subst hf
 have hl2 : vs.length ≤ 127 := by simp [listA] at hlist; omega
 have EQ := hidden (show layA ⟨3, 0, a, c, s, bs, vs, m, o, ds⟩ = [3] ++ cntL (bytesL vs) by simp [layA, bodyA]; rfl)
 clear hform hlist hr h
 have X0 := BoxP.new w 3 0 a c s (.slice ab bs.length capb) (.slice av vs.length capv) m o (.slice ad ds.length capd) 35
 have B1 := (Below.refl w.heap.size w).alloc (Nat.le_refl _) (.cells #[.int .i64 3, .int .i64 0, .int .i64 a, .int .i64 c, .int .i64 s, .slice ab bs.length capb, .slice av vs.length capv, .int .u16 m.toNat, .int .u16 o.toNat, .slice ad ds.length capd] 35)
 obtain ⟨w1, hw1⟩ : ∃ w1, w.alloc (.cells #[.int .i64 3, .int .i64 0, .int .i64 a, .int .i64 c, .int .i64 s, .slice ab bs.length capb, .slice av vs.length capv, .int .u16 m.toNat, .int .u16 o.toNat, .slice ad ds.length capd] 35) = w1 := ⟨_, rfl⟩
 have hw1' : w.alloc (.cells #[.int .i64 3, .int .i64 0, .int .i64 a, .int .i64 c, .int .i64 s, .slice ab bs.length capb, .slice av vs.length capv, wV m, wV o, .slice ad ds.length capd] 35) = w1 := hw1
 rw [hw1] at X0 B1
 have S0 := B1.size
 have O1 := owns_byte w1 3 3 rfl
 have E1 := (Below.refl w1.heap.size w1).alloc (Nat.le_refl _) (.cells #[.int .u8 3] 5)
 obtain ⟨lt', b0, b1, b2, b3, b4, b5, b6, b7, b8', b9⟩ := id X0
 replace X0 := X0.ext E1
 replace B1 := below_then B1 E1
 have S1 : w1.heap.size + 1 ≤ (w1.alloc (.cells #[.int .u8 3] 5)).heap.size := by simp
 obtain ⟨w2, hw2⟩ : ∃ w2, w1.alloc (.cells #[.int .u8 3] 5) = w2 := ⟨_, rfl⟩
 rw [hw2] at X0 B1 O1 S1
 have R1 := Row.of_owns O1
 clear E1 hw1
 obtain ⟨lt, c0, c1, c2, c3, c4, c5, c6, c7, c8, c9⟩ := id X0
 go_enter Try.func21, Try.ntmps21
 go_wp2_with fail
 clear hw1' hw2
 refine (rbytes_any _ vs _ (hv.below B1) (by omega)).mono ?_
 rintro e w3 ⟨v3, rfl, r3, B3, nv3⟩
 have AP := hidden (owns_occ O1 nv3 (Nat.le_refl _) r3)
 replace O1 := owns_below O1 B3
 have S3 := B3.size
 replace B1 := below_then B1 B3
 clear B3 lt c0 c1 c2 c3 c4 c5 c6 c7 c8 c9
 go_wp2_with fail
 refine (row_ref _ _ [3] (bytesL vs) _ w1.heap.size (by simpa using O1) (by omega) r3 AP.out (by decide) (by rw [bytesL_len]; omega)).mono ?_
 rintro e w4 ⟨v4, rfl, o4, E4⟩
 have BF := B1.trans (E4.mono S0)
 go_wp2
 go_ret
 refine ⟨_, rfl, ?_, BF⟩
 rw [EQ.out]
 exact (by have := owns_base o4 (base' := w.heap.size) S0; simpa using this)
set_option maxRecDepth 100000 in
set_option maxHeartbeats 1000000 in
theorem lay_ref_4 (v : Value) (r : Rp) (w : World) (h : IsRp w v r) (hr : goodE r = 0) (hc : r.code = 0) (hf : r.fn = 4) :
  Calls Try.prog 21 #[v] w fun e w' => ∃ v', e = .returned v' ∧ w'.ownsRow w.heap.size 5 1 v' (layA r).length ((layA r).map bV) ∧ Below w.heap.size w w' := by
 obtain ⟨ab, capb, av, capv, ad, capd, rfl, -, -, -⟩ := h.slices
 obtain ⟨vb, vv, vd, hE, hb, hv, hd⟩ := id h
 obtain ⟨-, hform, ⟨n1, n2, n3⟩, hlist⟩ := good_parts hr hc
 obtain ⟨f, k, a, c, s, bs, vs, m, o, ds⟩ := r
 simp only [rpV, Value.agg.injEq, Array.mk.injEq, List.cons.injEq, and_true, true_and] at hE
 obtain ⟨rfl, rfl, rfl⟩ := hE
 simp only at hc hf n1 n2 n3 hb hv hd hlist ⊢
 subst hc
 subst hf
 have hl2 : vs.length ≤ 127 := by simp [listA] at hlist; omega
 have EQ := hidden (show layA ⟨4, 0, a, c, s, bs, vs, m, o, ds⟩ = [4] ++ cntL (bytesL vs) by simp [layA, bodyA]; rfl)
 clear hform hlist hr h
 have X0 := BoxP.new w 4 0 a c s (.slice ab bs.length capb) (.slice av vs.length capv) m o (.slice ad ds.length capd) 35
 have B1 := (Below.refl w.heap.size w).alloc (Nat.le_refl _) (.cells #[.int .i64 4, .int .i64 0, .int .i64 a, .int .i64 c, .int .i64 s, .slice ab bs.length capb, .slice av vs.length capv, .int .u16 m.toNat, .int .u16 o.toNat, .slice ad ds.length capd] 35)
 obtain ⟨w1, hw1⟩ : ∃ w1, w.alloc (.cells #[.int .i64 4, .int .i64 0, .int .i64 a, .int .i64 c, .int .i64 s, .slice ab bs.length capb, .slice av vs.length capv, .int .u16 m.toNat, .int .u16 o.toNat, .slice ad ds.length capd] 35) = w1 := ⟨_, rfl⟩
 have hw1' : w.alloc (.cells #[.int .i64 4, .int .i64 0, .int .i64 a, .int .i64 c, .int .i64 s, .slice ab bs.length capb, .slice av vs.length capv, wV m, wV o, .slice ad ds.length capd] 35) = w1 := hw1
 rw [hw1] at X0 B1
 have S0 := B1.size
 have O1 := owns_byte w1 4 4 rfl
 have E1 := (Below.refl w1.heap.size w1).alloc (Nat.le_refl _) (.cells #[.int .u8 4] 5)
 obtain ⟨lt', b0, b1, b2, b3, b4, b5, b6, b7, b8', b9⟩ := id X0
 replace X0 := X0.ext E1
 replace B1 := below_then B1 E1
 have S1 : w1.heap.size + 1 ≤ (w1.alloc (.cells #[.int .u8 4] 5)).heap.size := by simp
 obtain ⟨w2, hw2⟩ : ∃ w2, w1.alloc (.cells #[.int .u8 4] 5) = w2 := ⟨_, rfl⟩
 rw [hw2] at X0 B1 O1 S1
 have R1 := Row.of_owns O1
 clear E1 hw1
 obtain ⟨lt, c0, c1, c2, c3, c4, c5, c6, c7, c8, c9⟩ := id X0
 go_enter Try.func21, Try.ntmps21
 go_wp2_with fail
 clear hw1' hw2
 refine (rbytes_any _ vs _ (hv.below B1) (by omega)).mono ?_
 rintro e w3 ⟨v3, rfl, r3, B3, nv3⟩
 have AP := hidden (owns_occ O1 nv3 (Nat.le_refl _) r3)
 replace O1 := owns_below O1 B3
 have S3 := B3.size
 replace B1 := below_then B1 B3
 clear B3 lt c0 c1 c2 c3 c4 c5 c6 c7 c8 c9
 go_wp2_with fail
 refine (row_ref _ _ [4] (bytesL vs) _ w1.heap.size (by simpa using O1) (by omega) r3 AP.out (by decide) (by rw [bytesL_len]; omega)).mono ?_
 rintro e w4 ⟨v4, rfl, o4, E4⟩
 have BF := B1.trans (E4.mono S0)
 go_wp2
 go_ret
 refine ⟨_, rfl, ?_, BF⟩
 rw [EQ.out]
 exact (by have := owns_base o4 (base' := w.heap.size) S0; simpa using this)
set_option maxRecDepth 100000 in
set_option maxHeartbeats 1000000 in
theorem lay_ref_23 (v : Value) (r : Rp) (w : World) (h : IsRp w v r) (hr : goodE r = 0) (hc : r.code = 0) (hf : r.fn = 23) :
  Calls Try.prog 21 #[v] w fun e w' => ∃ v', e = .returned v' ∧ w'.ownsRow w.heap.size 5 1 v' (layA r).length ((layA r).map bV) ∧ Below w.heap.size w w' := by
 obtain ⟨ab, capb, av, capv, ad, capd, rfl, -, -, -⟩ := h.slices
 obtain ⟨vb, vv, vd, hE, hb, hv, hd⟩ := id h
 obtain ⟨-, hform, ⟨n1, n2, n3⟩, hlist⟩ := good_parts hr hc
 obtain ⟨f, k, a, c, s, bs, vs, m, o, ds⟩ := r
 simp only [rpV, Value.agg.injEq, Array.mk.injEq, List.cons.injEq, and_true, true_and] at hE
 obtain ⟨rfl, rfl, rfl⟩ := hE
 simp only at hc hf n1 n2 n3 hb hv hd hlist ⊢
 subst hc
 subst hf
 have hl2 : vs.length ≤ 127 := by simp [listA] at hlist; omega
 have EQ := hidden (show layA ⟨23, 0, a, c, s, bs, vs, m, o, ds⟩ = [23] ++ cntL (bytesL vs) by simp [layA, bodyA]; rfl)
 clear hform hlist hr h
 have X0 := BoxP.new w 23 0 a c s (.slice ab bs.length capb) (.slice av vs.length capv) m o (.slice ad ds.length capd) 35
 have B1 := (Below.refl w.heap.size w).alloc (Nat.le_refl _) (.cells #[.int .i64 23, .int .i64 0, .int .i64 a, .int .i64 c, .int .i64 s, .slice ab bs.length capb, .slice av vs.length capv, .int .u16 m.toNat, .int .u16 o.toNat, .slice ad ds.length capd] 35)
 obtain ⟨w1, hw1⟩ : ∃ w1, w.alloc (.cells #[.int .i64 23, .int .i64 0, .int .i64 a, .int .i64 c, .int .i64 s, .slice ab bs.length capb, .slice av vs.length capv, .int .u16 m.toNat, .int .u16 o.toNat, .slice ad ds.length capd] 35) = w1 := ⟨_, rfl⟩
 have hw1' : w.alloc (.cells #[.int .i64 23, .int .i64 0, .int .i64 a, .int .i64 c, .int .i64 s, .slice ab bs.length capb, .slice av vs.length capv, wV m, wV o, .slice ad ds.length capd] 35) = w1 := hw1
 rw [hw1] at X0 B1
 have S0 := B1.size
 have O1 := owns_byte w1 23 23 rfl
 have E1 := (Below.refl w1.heap.size w1).alloc (Nat.le_refl _) (.cells #[.int .u8 23] 5)
 obtain ⟨lt', b0, b1, b2, b3, b4, b5, b6, b7, b8', b9⟩ := id X0
 replace X0 := X0.ext E1
 replace B1 := below_then B1 E1
 have S1 : w1.heap.size + 1 ≤ (w1.alloc (.cells #[.int .u8 23] 5)).heap.size := by simp
 obtain ⟨w2, hw2⟩ : ∃ w2, w1.alloc (.cells #[.int .u8 23] 5) = w2 := ⟨_, rfl⟩
 rw [hw2] at X0 B1 O1 S1
 have R1 := Row.of_owns O1
 clear E1 hw1
 obtain ⟨lt, c0, c1, c2, c3, c4, c5, c6, c7, c8, c9⟩ := id X0
 go_enter Try.func21, Try.ntmps21
 go_wp2_with fail
 clear hw1' hw2
 refine (rbytes_any _ vs _ (hv.below B1) (by omega)).mono ?_
 rintro e w3 ⟨v3, rfl, r3, B3, nv3⟩
 have AP := hidden (owns_occ O1 nv3 (Nat.le_refl _) r3)
 replace O1 := owns_below O1 B3
 have S3 := B3.size
 replace B1 := below_then B1 B3
 clear B3 lt c0 c1 c2 c3 c4 c5 c6 c7 c8 c9
 go_wp2_with fail
 refine (row_ref _ _ [23] (bytesL vs) _ w1.heap.size (by simpa using O1) (by omega) r3 AP.out (by decide) (by rw [bytesL_len]; omega)).mono ?_
 rintro e w4 ⟨v4, rfl, o4, E4⟩
 have BF := B1.trans (E4.mono S0)
 go_wp2
 go_ret
 refine ⟨_, rfl, ?_, BF⟩
 rw [EQ.out]
 exact (by have := owns_base o4 (base' := w.heap.size) S0; simpa using this)
set_option maxRecDepth 100000 in
set_option maxHeartbeats 1000000 in
theorem lay_ref_15 (v : Value) (r : Rp) (w : World) (h : IsRp w v r) (hr : goodE r = 0) (hc : r.code = 0) (hf : r.fn = 15) :
  Calls Try.prog 21 #[v] w fun e w' => ∃ v', e = .returned v' ∧ w'.ownsRow w.heap.size 5 1 v' (layA r).length ((layA r).map bV) ∧ Below w.heap.size w w' := by
 obtain ⟨ab, capb, av, capv, ad, capd, rfl, -, -, -⟩ := h.slices
 obtain ⟨vb, vv, vd, hE, hb, hv, hd⟩ := id h
 obtain ⟨-, hform, ⟨n1, n2, n3⟩, hlist⟩ := good_parts hr hc
 obtain ⟨f, k, a, c, s, bs, vs, m, o, ds⟩ := r
 simp only [rpV, Value.agg.injEq, Array.mk.injEq, List.cons.injEq, and_true, true_and] at hE
 obtain ⟨rfl, rfl, rfl⟩ := hE
 simp only at hc hf n1 n2 n3 hb hv hd hlist ⊢
 subst hc
 subst hf
 have EQ := hidden (show layA ⟨15, 0, a, c, s, bs, vs, m, o, ds⟩ = ([15] ++ pw a) ++ pw c by simp [layA, bodyA]; rfl)
 clear hform hlist hr h
 have X0 := BoxP.new w 15 0 a c s (.slice ab bs.length capb) (.slice av vs.length capv) m o (.slice ad ds.length capd) 35
 have B1 := (Below.refl w.heap.size w).alloc (Nat.le_refl _) (.cells #[.int .i64 15, .int .i64 0, .int .i64 a, .int .i64 c, .int .i64 s, .slice ab bs.length capb, .slice av vs.length capv, .int .u16 m.toNat, .int .u16 o.toNat, .slice ad ds.length capd] 35)
 obtain ⟨w1, hw1⟩ : ∃ w1, w.alloc (.cells #[.int .i64 15, .int .i64 0, .int .i64 a, .int .i64 c, .int .i64 s, .slice ab bs.length capb, .slice av vs.length capv, .int .u16 m.toNat, .int .u16 o.toNat, .slice ad ds.length capd] 35) = w1 := ⟨_, rfl⟩
 have hw1' : w.alloc (.cells #[.int .i64 15, .int .i64 0, .int .i64 a, .int .i64 c, .int .i64 s, .slice ab bs.length capb, .slice av vs.length capv, wV m, wV o, .slice ad ds.length capd] 35) = w1 := hw1
 rw [hw1] at X0 B1
 have S0 := B1.size
 have O1 := owns_byte w1 15 15 rfl
 have E1 := (Below.refl w1.heap.size w1).alloc (Nat.le_refl _) (.cells #[.int .u8 15] 5)
 obtain ⟨lt', b0, b1, b2, b3, b4, b5, b6, b7, b8', b9⟩ := id X0
 replace X0 := X0.ext E1
 replace B1 := below_then B1 E1
 have S1 : w1.heap.size + 1 ≤ (w1.alloc (.cells #[.int .u8 15] 5)).heap.size := by simp
 obtain ⟨w2, hw2⟩ : ∃ w2, w1.alloc (.cells #[.int .u8 15] 5) = w2 := ⟨_, rfl⟩
 rw [hw2] at X0 B1 O1 S1
 have R1 := Row.of_owns O1
 clear E1 hw1
 obtain ⟨lt, c0, c1, c2, c3, c4, c5, c6, c7, c8, c9⟩ := id X0
 go_enter Try.func21, Try.ntmps21
 go_wp2
 clear hw1' hw2
 refine wp_region_pi [(0, true), (1, true), (2, true), (4, true), (5, true), (3, false), (6, false), (7, true)] (by kernel_rfl) (by kernel_rfl) (by kernel_rfl) (fun _ _ _ d _ h => by cases d <;> exact h) ?_
 replace B1 := B1.drew
 replace R1 := R1.drew
 replace X0 := X0.ext (Below.refl _ _).drew
 have S2 : w.heap.size ≤ w2.drew.heap.size := B1.size
 clear lt c0 c1 c2 c3 c4 c5 c6 c7 c8 c9 O1 S1
 generalize w2.drew = w3 at *
 have x2 := Ext.refl w3
 iterate 5 (first | (refine pi_P x2 rfl ?_) | (refine pi_R x2 rfl (fun w' hx => by obtain ⟨d, c0, c1, c2, c3, c4, c5, c6, c7, c8, c9⟩ := X0.ext hx; go_simp; with_reducible rfl) ?_))
 refine pi_move rfl (by kernel_rfl) (fun K hK => ?_)
 go_wp2_with fail
 refine (rput_own _ [15] a _ (numB_in n1) R1 (by decide)).mono ?_
 rintro e w4 ⟨v4, rfl, o4, E4⟩
 go_simp
 refine hK.out _ _ E4 ?_
 clear K hK
 try simp only [Act.put, PuA, PuB, PuC]
 replace o4 := Row.of_owns o4
 refine pi_move rfl (by kernel_rfl) (fun K hK => ?_)
 go_wp2_with fail
 refine (rput_own _ ([15] ++ pw a) c _ (numB_in n3) o4 (by simp [pw])).mono ?_
 rintro e w5 ⟨v5, rfl, o5, E5⟩
 have S4 := E4.size
 have E45 := Ext.trans E4 E5
 have BF := below_then B1 E45
 go_simp
 refine hK.out _ _ E45 ?_
 clear K hK
 try simp only [Act.put, PuA, PuB, PuC]
 refine pi_P E45 rfl ?_
 refine pi_nil ?_
 go_wp2
 go_ret
 refine ⟨_, rfl, ?_, BF⟩
 rw [EQ.out]
 exact (by have := owns_base o5 (base' := w.heap.size) (by omega); simpa [pw] using this)
set_option maxRecDepth 100000 in
set_option maxHeartbeats 1000000 in
theorem lay_ref_16 (v : Value) (r : Rp) (w : World) (h : IsRp w v r) (hr : goodE r = 0) (hc : r.code = 0) (hf : r.fn = 16) :
  Calls Try.prog 21 #[v] w fun e w' => ∃ v', e = .returned v' ∧ w'.ownsRow w.heap.size 5 1 v' (layA r).length ((layA r).map bV) ∧ Below w.heap.size w w' := by
 obtain ⟨ab, capb, av, capv, ad, capd, rfl, -, -, -⟩ := h.slices
 obtain ⟨vb, vv, vd, hE, hb, hv, hd⟩ := id h
 obtain ⟨-, hform, ⟨n1, n2, n3⟩, hlist⟩ := good_parts hr hc
 obtain ⟨f, k, a, c, s, bs, vs, m, o, ds⟩ := r
 simp only [rpV, Value.agg.injEq, Array.mk.injEq, List.cons.injEq, and_true, true_and] at hE
 obtain ⟨rfl, rfl, rfl⟩ := hE
 simp only at hc hf n1 n2 n3 hb hv hd hlist ⊢
 subst hc
 subst hf
 have EQ := hidden (show layA ⟨16, 0, a, c, s, bs, vs, m, o, ds⟩ = ([16] ++ pw a) ++ pw c by simp [layA, bodyA]; rfl)
 clear hform hlist hr h
 have X0 := BoxP.new w 16 0 a c s (.slice ab bs.length capb) (.slice av vs.length capv) m o (.slice ad ds.length capd) 35
 have B1 := (Below.refl w.heap.size w).alloc (Nat.le_refl _) (.cells #[.int .i64 16, .int .i64 0, .int .i64 a, .int .i64 c, .int .i64 s, .slice ab bs.length capb, .slice av vs.length capv, .int .u16 m.toNat, .int .u16 o.toNat, .slice ad ds.length capd] 35)
 obtain ⟨w1, hw1⟩ : ∃ w1, w.alloc (.cells #[.int .i64 16, .int .i64 0, .int .i64 a, .int .i64 c, .int .i64 s, .slice ab bs.length capb, .slice av vs.length capv, .int .u16 m.toNat, .int .u16 o.toNat, .slice ad ds.length capd] 35) = w1 := ⟨_, rfl⟩
 have hw1' : w.alloc (.cells #[.int .i64 16, .int .i64 0, .int .i64 a, .int .i64 c, .int .i64 s, .slice ab bs.length capb, .slice av vs.length capv, wV m, wV o, .slice ad ds.length capd] 35) = w1 := hw1
 rw [hw1] at X0 B1
 have S0 := B1.size
 have O1 := owns_byte w1 16 16 rfl
 have E1 := (Below.refl w1.heap.size w1).alloc (Nat.le_refl _) (.cells #[.int .u8 16] 5)
 obtain ⟨lt', b0, b1, b2, b3, b4, b5, b6, b7, b8', b9⟩ := id X0
 replace X0 := X0.ext E1
 replace B1 := below_then B1 E1
 have S1 : w1.heap.size + 1 ≤ (w1.alloc (.cells #[.int .u8 16] 5)).heap.size := by simp
 obtain ⟨w2, hw2⟩ : ∃ w2, w1.alloc (.cells #[.int .u8 16] 5) = w2 := ⟨_, rfl⟩
 rw [hw2] at X0 B1 O1 S1
 have R1 := Row.of_owns O1
 clear E1 hw1
 obtain ⟨lt, c0, c1, c2, c3, c4, c5, c6, c7, c8, c9⟩ := id X0
 go_enter Try.func21, Try.ntmps21
 go_wp2
 clear hw1' hw2
 refine wp_region_pi [(0, true), (1, true), (2, true), (4, true), (5, true), (3, false), (6, false), (7, true)] (by kernel_rfl) (by kernel_rfl) (by kernel_rfl) (fun _ _ _ d _ h => by cases d <;> exact h) ?_
 replace B1 := B1.drew
 replace R1 := R1.drew
 replace X0 := X0.ext (Below.refl _ _).drew
 have S2 : w.heap.size ≤ w2.drew.heap.size := B1.size
 clear lt c0 c1 c2 c3 c4 c5 c6 c7 c8 c9 O1 S1
 generalize w2.drew = w3 at *
 have x2 := Ext.refl w3
 iterate 5 (first | (refine pi_P x2 rfl ?_) | (refine pi_R x2 rfl (fun w' hx => by obtain ⟨d, c0, c1, c2, c3, c4, c5, c6, c7, c8, c9⟩ := X0.ext hx; go_simp; with_reducible rfl) ?_))
 refine pi_move rfl (by kernel_rfl) (fun K hK => ?_)
 go_wp2_with fail
 refine (rput_own _ [16] a _ (numB_in n1) R1 (by decide)).mono ?_
 rintro e w4 ⟨v4, rfl, o4, E4⟩
 go_simp
 refine hK.out _ _ E4 ?_
 clear K hK
 try simp only [Act.put, PuA, PuB, PuC]
 replace o4 := Row.of_owns o4
 refine pi_move rfl (by kernel_rfl) (fun K hK => ?_)
 go_wp2_with fail
 refine (rput_own _ ([16] ++ pw a) c _ (numB_in n3) o4 (by simp [pw])).mono ?_
 rintro e w5 ⟨v5, rfl, o5, E5⟩
 have S4 := E4.size
 have E45 := Ext.trans E4 E5
 have BF := below_then B1 E45
 go_simp
 refine hK.out _ _ E45 ?_
 clear K hK
 try simp only [Act.put, PuA, PuB, PuC]
 refine pi_P E45 rfl ?_
 refine pi_nil ?_
 go_wp2
 go_ret
 refine ⟨_, rfl, ?_, BF⟩
 rw [EQ.out]
 exact (by have := owns_base o5 (base' := w.heap.size) (by omega); simpa [pw] using this)
set_option maxRecDepth 100000 in
set_option maxHeartbeats 1000000 in
theorem lay_ref_17 (v : Value) (r : Rp) (w : World) (h : IsRp w v r) (hr : goodE r = 0) (hc : r.code = 0) (hf : r.fn = 17) :
  Calls Try.prog 21 #[v] w fun e w' => ∃ v', e = .returned v' ∧ w'.ownsRow w.heap.size 5 1 v' (layA r).length ((layA r).map bV) ∧ Below w.heap.size w w' := by
 obtain ⟨ab, capb, av, capv, ad, capd, rfl, -, -, -⟩ := h.slices
 obtain ⟨vb, vv, vd, hE, hb, hv, hd⟩ := id h
 obtain ⟨-, hform, ⟨n1, n2, n3⟩, hlist⟩ := good_parts hr hc
 obtain ⟨f, k, a, c, s, bs, vs, m, o, ds⟩ := r
 simp only [rpV, Value.agg.injEq, Array.mk.injEq, List.cons.injEq, and_true, true_and] at hE
 obtain ⟨rfl, rfl, rfl⟩ := hE
 simp only at hc hf n1 n2 n3 hb hv hd hlist ⊢
 subst hc
 subst hf
 have hl2 : ds.length ≤ 250 := by simp [listA] at hlist; omega
 have EQ := hidden (show layA ⟨17, 0, a, c, s, bs, vs, m, o, ds⟩ = [17] ++ cntL ds by simp [layA, bodyA]; rfl)
 clear hform hlist hr h
 have X0 := BoxP.new w 17 0 a c s (.slice ab bs.length capb) (.slice av vs.length capv) m o (.slice ad ds.length capd) 35
 have B1 := (Below.refl w.heap.size w).alloc (Nat.le_refl _) (.cells #[.int .i64 17, .int .i64 0, .int .i64 a, .int .i64 c, .int .i64 s, .slice ab bs.length capb, .slice av vs.length capv, .int .u16 m.toNat, .int .u16 o.toNat, .slice ad ds.length capd] 35)
 obtain ⟨w1, hw1⟩ : ∃ w1, w.alloc (.cells #[.int .i64 17, .int .i64 0, .int .i64 a, .int .i64 c, .int .i64 s, .slice ab bs.length capb, .slice av vs.length capv, .int .u16 m.toNat, .int .u16 o.toNat, .slice ad ds.length capd] 35) = w1 := ⟨_, rfl⟩
 have hw1' : w.alloc (.cells #[.int .i64 17, .int .i64 0, .int .i64 a, .int .i64 c, .int .i64 s, .slice ab bs.length capb, .slice av vs.length capv, wV m, wV o, .slice ad ds.length capd] 35) = w1 := hw1
 rw [hw1] at X0 B1
 have S0 := B1.size
 have O1 := owns_byte w1 17 17 rfl
 have E1 := (Below.refl w1.heap.size w1).alloc (Nat.le_refl _) (.cells #[.int .u8 17] 5)
 obtain ⟨lt', b0, b1, b2, b3, b4, b5, b6, b7, b8', b9⟩ := id X0
 replace X0 := X0.ext E1
 replace B1 := below_then B1 E1
 have S1 : w1.heap.size + 1 ≤ (w1.alloc (.cells #[.int .u8 17] 5)).heap.size := by simp
 obtain ⟨w2, hw2⟩ : ∃ w2, w1.alloc (.cells #[.int .u8 17] 5) = w2 := ⟨_, rfl⟩
 rw [hw2] at X0 B1 O1 S1
 have R1 := Row.of_owns O1
 clear E1 hw1
 obtain ⟨lt, c0, c1, c2, c3, c4, c5, c6, c7, c8, c9⟩ := id X0
 go_enter Try.func21, Try.ntmps21
 have AP : Hid (∀ g, (Value.slice (some ⟨w1.heap.size, 0, none⟩) 1 1).ownBlock = some g → ¬ occ1 g (.slice ad ds.length capd)) := fun g hg ho => by have h1 := hd.occ_lt ho; have h2 := (O1.lt g hg).1; omega
 go_wp2_with fail
 clear hw1' hw2
 refine (row_ref _ _ [17] ds _ w1.heap.size (by simpa using O1) (by omega) (hd.below B1) AP.out (by decide) (by omega)).mono ?_
 rintro e w4 ⟨v4, rfl, o4, E4⟩
 have BF := B1.trans (E4.mono S0)
 go_wp2
 go_ret
 refine ⟨_, rfl, ?_, BF⟩
 rw [EQ.out]
 exact (by have := owns_base o4 (base' := w.heap.size) S0; simpa using this)
set_option maxRecDepth 100000 in
set_option maxHeartbeats 1000000 in
theorem lay_ref_5 (v : Value) (r : Rp) (w : World) (h : IsRp w v r) (hr : goodE r = 0) (hc : r.code = 0) (hf : r.fn = 5) :
  Calls Try.prog 21 #[v] w fun e w' => ∃ v', e = .returned v' ∧ w'.ownsRow w.heap.size 5 1 v' (layA r).length ((layA r).map bV) ∧ Below w.heap.size w w' := by
 obtain ⟨ab, capb, av, capv, ad, capd, rfl, -, -, -⟩ := h.slices
 obtain ⟨vb, vv, vd, hE, hb, hv, hd⟩ := id h
 obtain ⟨-, hform, ⟨n1, n2, n3⟩, hlist⟩ := good_parts hr hc
 obtain ⟨f, k, a, c, s, bs, vs, m, o, ds⟩ := r
 simp only [rpV, Value.agg.injEq, Array.mk.injEq, List.cons.injEq, and_true, true_and] at hE
 obtain ⟨rfl, rfl, rfl⟩ := hE
 simp only at hc hf n1 n2 n3 hb hv hd hlist ⊢
 subst hc
 subst hf
 obtain ⟨er, el, -⟩ := echo_right hr rfl (by simp)
 have EQ := hidden el
 have QQ := hidden er
 clear er el
 clear hform hlist hr h
 have X0 := BoxP.new w 5 0 a c s (.slice ab bs.length capb) (.slice av vs.length capv) m o (.slice ad ds.length capd) 35
 have B1 := (Below.refl w.heap.size w).alloc (Nat.le_refl _) (.cells #[.int .i64 5, .int .i64 0, .int .i64 a, .int .i64 c, .int .i64 s, .slice ab bs.length capb, .slice av vs.length capv, .int .u16 m.toNat, .int .u16 o.toNat, .slice ad ds.length capd] 35)
 obtain ⟨w1, hw1⟩ : ∃ w1, w.alloc (.cells #[.int .i64 5, .int .i64 0, .int .i64 a, .int .i64 c, .int .i64 s, .slice ab bs.length capb, .slice av vs.length capv, .int .u16 m.toNat, .int .u16 o.toNat, .slice ad ds.length capd] 35) = w1 := ⟨_, rfl⟩
 have hw1' : w.alloc (.cells #[.int .i64 5, .int .i64 0, .int .i64 a, .int .i64 c, .int .i64 s, .slice ab bs.length capb, .slice av vs.length capv, wV m, wV o, .slice ad ds.length capd] 35) = w1 := hw1
 rw [hw1] at X0 B1
 have S0 := B1.size
 have O1 := owns_byte w1 5 5 rfl
 have E1 := (Below.refl w1.heap.size w1).alloc (Nat.le_refl _) (.cells #[.int .u8 5] 5)
 obtain ⟨lt', b0, b1, b2, b3, b4, b5, b6, b7, b8', b9⟩ := id X0
 replace X0 := X0.ext E1
 replace B1 := below_then B1 E1
 have S1 : w1.heap.size + 1 ≤ (w1.alloc (.cells #[.int .u8 5] 5)).heap.size := by simp
 obtain ⟨w2, hw2⟩ : ∃ w2, w1.alloc (.cells #[.int .u8 5] 5) = w2 := ⟨_, rfl⟩
 rw [hw2] at X0 B1 O1 S1
 have R1 := Row.of_owns O1
 clear E1 hw1
 obtain ⟨lt, c0, c1, c2, c3, c4, c5, c6, c7, c8, c9⟩ := id X0
 go_enter Try.func21, Try.ntmps21
 have IQ : IsRq w2 (rqV 5 a 0 0 s (.slice ab bs.length capb) (.slice av vs.length capv) m o) (echoQ ⟨5, 0, a, c, s, bs, vs, m, o, ds⟩) := ⟨_, _, rfl, hb.below B1, hv.below B1⟩
 have CW := hidden (write_ref _ _ _ IQ QQ.out)
 clear IQ QQ
 go_wp2_with fail
 clear hw1' hw2
 refine CW.out.mono ?_
 rintro e w3 ⟨v3, rfl, o3, E3⟩
 have BF := below_then B1 E3
 go_wp2
 go_ret
 refine ⟨_, rfl, ?_, BF⟩
 rw [EQ.out]
 exact (owns_base o3 (base' := w.heap.size) (by omega))
set_option maxRecDepth 100000 in
set_option maxHeartbeats 1000000 in
theorem lay_ref_6 (v : Value) (r : Rp) (w : World) (h : IsRp w v r) (hr : goodE r = 0) (hc : r.code = 0) (hf : r.fn = 6) :
  Calls Try.prog 21 #[v] w fun e w' => ∃ v', e = .returned v' ∧ w'.ownsRow w.heap.size 5 1 v' (layA r).length ((layA r).map bV) ∧ Below w.heap.size w w' := by
 obtain ⟨ab, capb, av, capv, ad, capd, rfl, -, -, -⟩ := h.slices
 obtain ⟨vb, vv, vd, hE, hb, hv, hd⟩ := id h
 obtain ⟨-, hform, ⟨n1, n2, n3⟩, hlist⟩ := good_parts hr hc
 obtain ⟨f, k, a, c, s, bs, vs, m, o, ds⟩ := r
 simp only [rpV, Value.agg.injEq, Array.mk.injEq, List.cons.injEq, and_true, true_and] at hE
 obtain ⟨rfl, rfl, rfl⟩ := hE
 simp only at hc hf n1 n2 n3 hb hv hd hlist ⊢
 subst hc
 subst hf
 obtain ⟨er, el, -⟩ := echo_right hr rfl (by simp)
 have EQ := hidden el
 have QQ := hidden er
 clear er el
 clear hform hlist hr h
 have X0 := BoxP.new w 6 0 a c s (.slice ab bs.length capb) (.slice av vs.length capv) m o (.slice ad ds.length capd) 35
 have B1 := (Below.refl w.heap.size w).alloc (Nat.le_refl _) (.cells #[.int .i64 6, .int .i64 0, .int .i64 a, .int .i64 c, .int .i64 s, .slice ab bs.length capb, .slice av vs.length capv, .int .u16 m.toNat, .int .u16 o.toNat, .slice ad ds.length capd] 35)
 obtain ⟨w1, hw1⟩ : ∃ w1, w.alloc (.cells #[.int .i64 6, .int .i64 0, .int .i64 a, .int .i64 c, .int .i64 s, .slice ab bs.length capb, .slice av vs.length capv, .int .u16 m.toNat, .int .u16 o.toNat, .slice ad ds.length capd] 35) = w1 := ⟨_, rfl⟩
 have hw1' : w.alloc (.cells #[.int .i64 6, .int .i64 0, .int .i64 a, .int .i64 c, .int .i64 s, .slice ab bs.length capb, .slice av vs.length capv, wV m, wV o, .slice ad ds.length capd] 35) = w1 := hw1
 rw [hw1] at X0 B1
 have S0 := B1.size
 have O1 := owns_byte w1 6 6 rfl
 have E1 := (Below.refl w1.heap.size w1).alloc (Nat.le_refl _) (.cells #[.int .u8 6] 5)
 obtain ⟨lt', b0, b1, b2, b3, b4, b5, b6, b7, b8', b9⟩ := id X0
 replace X0 := X0.ext E1
 replace B1 := below_then B1 E1
 have S1 : w1.heap.size + 1 ≤ (w1.alloc (.cells #[.int .u8 6] 5)).heap.size := by simp
 obtain ⟨w2, hw2⟩ : ∃ w2, w1.alloc (.cells #[.int .u8 6] 5) = w2 := ⟨_, rfl⟩
 rw [hw2] at X0 B1 O1 S1
 have R1 := Row.of_owns O1
 clear E1 hw1
 obtain ⟨lt, c0, c1, c2, c3, c4, c5, c6, c7, c8, c9⟩ := id X0
 go_enter Try.func21, Try.ntmps21
 have IQ : IsRq w2 (rqV 6 a 0 0 s (.slice ab bs.length capb) (.slice av vs.length capv) m o) (echoQ ⟨6, 0, a, c, s, bs, vs, m, o, ds⟩) := ⟨_, _, rfl, hb.below B1, hv.below B1⟩
 have CW := hidden (write_ref _ _ _ IQ QQ.out)
 clear IQ QQ
 go_wp2_with fail
 clear hw1' hw2
 refine CW.out.mono ?_
 rintro e w3 ⟨v3, rfl, o3, E3⟩
 have BF := below_then B1 E3
 go_wp2
 go_ret
 refine ⟨_, rfl, ?_, BF⟩
 rw [EQ.out]
 exact (owns_base o3 (base' := w.heap.size) (by omega))
set_option maxRecDepth 100000 in
set_option maxHeartbeats 1000000 in
theorem lay_ref_8 (v : Value) (r : Rp) (w : World) (h : IsRp w v r) (hr : goodE r = 0) (hc : r.code = 0) (hf : r.fn = 8) :
  Calls Try.prog 21 #[v] w fun e w' => ∃ v', e = .returned v' ∧ w'.ownsRow w.heap.size 5 1 v' (layA r).length ((layA r).map bV) ∧ Below w.heap.size w w' := by
 obtain ⟨ab, capb, av, capv, ad, capd, rfl, -, -, -⟩ := h.slices
 obtain ⟨vb, vv, vd, hE, hb, hv, hd⟩ := id h
 obtain ⟨-, hform, ⟨n1, n2, n3⟩, hlist⟩ := good_parts hr hc
 obtain ⟨f, k, a, c, s, bs, vs, m, o, ds⟩ := r
 simp only [rpV, Value.agg.injEq, Array.mk.injEq, List.cons.injEq, and_true, true_and] at hE
 obtain ⟨rfl, rfl, rfl⟩ := hE
 simp only at hc hf n1 n2 n3 hb hv hd hlist ⊢
 subst hc
 subst hf
 obtain ⟨er, el, -⟩ := echo_right hr rfl (by simp)
 have EQ := hidden el
 have QQ := hidden er
 clear er el
 clear hform hlist hr h
 have X0 := BoxP.new w 8 0 a c s (.slice ab bs.length capb) (.slice av vs.length capv) m o (.slice ad ds.length capd) 35
 have B1 := (Below.refl w.heap.size w).alloc (Nat.le_refl _) (.cells #[.int .i64 8, .int .i64 0, .int .i64 a, .int .i64 c, .int .i64 s, .slice ab bs.length capb, .slice av vs.length capv, .int .u16 m.toNat, .int .u16 o.toNat, .slice ad ds.length capd] 35)
 obtain ⟨w1, hw1⟩ : ∃ w1, w.alloc (.cells #[.int .i64 8, .int .i64 0, .int .i64 a, .int .i64 c, .int .i64 s, .slice ab bs.length capb, .slice av vs.length capv, .int .u16 m.toNat, .int .u16 o.toNat, .slice ad ds.length capd] 35) = w1 := ⟨_, rfl⟩
 have hw1' : w.alloc (.cells #[.int .i64 8, .int .i64 0, .int .i64 a, .int .i64 c, .int .i64 s, .slice ab bs.length capb, .slice av vs.length capv, wV m, wV o, .slice ad ds.length capd] 35) = w1 := hw1
 rw [hw1] at X0 B1
 have S0 := B1.size
 have O1 := owns_byte w1 8 8 rfl
 have E1 := (Below.refl w1.heap.size w1).alloc (Nat.le_refl _) (.cells #[.int .u8 8] 5)
 obtain ⟨lt', b0, b1, b2, b3, b4, b5, b6, b7, b8', b9⟩ := id X0
 replace X0 := X0.ext E1
 replace B1 := below_then B1 E1
 have S1 : w1.heap.size + 1 ≤ (w1.alloc (.cells #[.int .u8 8] 5)).heap.size := by simp
 obtain ⟨w2, hw2⟩ : ∃ w2, w1.alloc (.cells #[.int .u8 8] 5) = w2 := ⟨_, rfl⟩
 rw [hw2] at X0 B1 O1 S1
 have R1 := Row.of_owns O1
 clear E1 hw1
 obtain ⟨lt, c0, c1, c2, c3, c4, c5, c6, c7, c8, c9⟩ := id X0
 go_enter Try.func21, Try.ntmps21
 have IQ : IsRq w2 (rqV 8 a 0 0 s (.slice ab bs.length capb) (.slice av vs.length capv) m o) (echoQ ⟨8, 0, a, c, s, bs, vs, m, o, ds⟩) := ⟨_, _, rfl, hb.below B1, hv.below B1⟩
 have CW := hidden (write_ref _ _ _ IQ QQ.out)
 clear IQ QQ
 go_wp2_with fail
 clear hw1' hw2
 refine CW.out.mono ?_
 rintro e w3 ⟨v3, rfl, o3, E3⟩
 have BF := below_then B1 E3
 go_wp2
 go_ret
 refine ⟨_, rfl, ?_, BF⟩
 rw [EQ.out]
 exact (owns_base o3 (base' := w.heap.size) (by omega))
set_option maxRecDepth 100000 in
set_option maxHeartbeats 1000000 in
theorem lay_ref_22 (v : Value) (r : Rp) (w : World) (h : IsRp w v r) (hr : goodE r = 0) (hc : r.code = 0) (hf : r.fn = 22) :
  Calls Try.prog 21 #[v] w fun e w' => ∃ v', e = .returned v' ∧ w'.ownsRow w.heap.size 5 1 v' (layA r).length ((layA r).map bV) ∧ Below w.heap.size w w' := by
 obtain ⟨ab, capb, av, capv, ad, capd, rfl, -, -, -⟩ := h.slices
 obtain ⟨vb, vv, vd, hE, hb, hv, hd⟩ := id h
 obtain ⟨-, hform, ⟨n1, n2, n3⟩, hlist⟩ := good_parts hr hc
 obtain ⟨f, k, a, c, s, bs, vs, m, o, ds⟩ := r
 simp only [rpV, Value.agg.injEq, Array.mk.injEq, List.cons.injEq, and_true, true_and] at hE
 obtain ⟨rfl, rfl, rfl⟩ := hE
 simp only at hc hf n1 n2 n3 hb hv hd hlist ⊢
 subst hc
 subst hf
 obtain ⟨er, el, -⟩ := echo_right hr rfl (by simp)
 have EQ := hidden el
 have QQ := hidden er
 clear er el
 clear hform hlist hr h
 have X0 := BoxP.new w 22 0 a c s (.slice ab bs.length capb) (.slice av vs.length capv) m o (.slice ad ds.length capd) 35
 have B1 := (Below.refl w.heap.size w).alloc (Nat.le_refl _) (.cells #[.int .i64 22, .int .i64 0, .int .i64 a, .int .i64 c, .int .i64 s, .slice ab bs.length capb, .slice av vs.length capv, .int .u16 m.toNat, .int .u16 o.toNat, .slice ad ds.length capd] 35)
 obtain ⟨w1, hw1⟩ : ∃ w1, w.alloc (.cells #[.int .i64 22, .int .i64 0, .int .i64 a, .int .i64 c, .int .i64 s, .slice ab bs.length capb, .slice av vs.length capv, .int .u16 m.toNat, .int .u16 o.toNat, .slice ad ds.length capd] 35) = w1 := ⟨_, rfl⟩
 have hw1' : w.alloc (.cells #[.int .i64 22, .int .i64 0, .int .i64 a, .int .i64 c, .int .i64 s, .slice ab bs.length capb, .slice av vs.length capv, wV m, wV o, .slice ad ds.length capd] 35) = w1 := hw1
 rw [hw1] at X0 B1
 have S0 := B1.size
 have O1 := owns_byte w1 22 22 rfl
 have E1 := (Below.refl w1.heap.size w1).alloc (Nat.le_refl _) (.cells #[.int .u8 22] 5)
 obtain ⟨lt', b0, b1, b2, b3, b4, b5, b6, b7, b8', b9⟩ := id X0
 replace X0 := X0.ext E1
 replace B1 := below_then B1 E1
 have S1 : w1.heap.size + 1 ≤ (w1.alloc (.cells #[.int .u8 22] 5)).heap.size := by simp
 obtain ⟨w2, hw2⟩ : ∃ w2, w1.alloc (.cells #[.int .u8 22] 5) = w2 := ⟨_, rfl⟩
 rw [hw2] at X0 B1 O1 S1
 have R1 := Row.of_owns O1
 clear E1 hw1
 obtain ⟨lt, c0, c1, c2, c3, c4, c5, c6, c7, c8, c9⟩ := id X0
 go_enter Try.func21, Try.ntmps21
 have IQ : IsRq w2 (rqV 22 a 0 0 s (.slice ab bs.length capb) (.slice av vs.length capv) m o) (echoQ ⟨22, 0, a, c, s, bs, vs, m, o, ds⟩) := ⟨_, _, rfl, hb.below B1, hv.below B1⟩
 have CW := hidden (write_ref _ _ _ IQ QQ.out)
 clear IQ QQ
 go_wp2_with fail
 clear hw1' hw2
 refine CW.out.mono ?_
 rintro e w3 ⟨v3, rfl, o3, E3⟩
 have BF := below_then B1 E3
 go_wp2
 go_ret
 refine ⟨_, rfl, ?_, BF⟩
 rw [EQ.out]
 exact (owns_base o3 (base' := w.heap.size) (by omega))
theorem lay_ref (v : Value) (r : Rp) (w : World) (h : IsRp w v r) (hr : goodE r = 0) :
  Calls Try.prog 21 #[v] w fun e w' => ∃ v', e = .returned v' ∧ w'.ownsRow w.heap.size 5 1 v' (layA r).length ((layA r).map bV) ∧ Below w.heap.size w w' := by
 by_cases hc : r.code = 0
 ·
  rcases known_cases (good_parts hr hc).1 with e | e | e | e | e | e | e | e | e | e | e | e
  ·
   exact lay_ref_1 v r w h hr hc e
  ·
   exact lay_ref_2 v r w h hr hc e
  ·
   exact lay_ref_3 v r w h hr hc e
  ·
   exact lay_ref_4 v r w h hr hc e
  ·
   exact lay_ref_5 v r w h hr hc e
  ·
   exact lay_ref_6 v r w h hr hc e
  ·
   exact lay_ref_8 v r w h hr hc e
  ·
   exact lay_ref_15 v r w h hr hc e
  ·
   exact lay_ref_16 v r w h hr hc e
  ·
   exact lay_ref_17 v r w h hr hc e
  ·
   exact lay_ref_22 v r w h hr hc e
  ·
   exact lay_ref_23 v r w h hr hc e
 ·
  exact lay_ref_c v r w h hr hc
end Go.Proofs.Ytbajlhpmmmhkoaa
