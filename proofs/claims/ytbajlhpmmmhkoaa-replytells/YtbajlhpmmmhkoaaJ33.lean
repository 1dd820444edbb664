/- Contract of burgageref3.write, by function. -/
import Derived.Test.YtbajlhpmmmhkoaaJ32
namespace Go.Proofs.Ytbajlhpmmmhkoaa
open Go.RowKit
theorem owns_byte (w : World) (x : UInt8) (n : Int) (h : n = x.toNat) : (w.alloc (.cells #[.int .u8 n] 5)).ownsRow w.heap.size 5 1 (.slice (some ⟨w.heap.size, 0, none⟩) 1 1) 1 ([x].map bV) := by
 subst h
 exact ⟨rfl, .inr ⟨w.heap.size, 1, #[bV x], rfl, Nat.le_refl _, heap_alloc_new w _, Nat.le_refl _, by unfold maxLen; omega, by simp, by simp⟩⟩
theorem owns_base {w : World} {base base' : Nat} {e : TypeId} {v : Value} {n : Nat} {xs : List Value} (h : w.ownsRow base e 1 v n xs) (hb : base' ≤ base) : w.ownsRow base' e 1 v n xs := by
 refine ⟨h.1, ?_⟩
 rcases h.2 with h0 | ⟨g, cap, cur, e1, h1, h2⟩
 ·
  exact .inl h0
 ·
  exact .inr ⟨g, cap, cur, e1, Nat.le_trans hb h1, h2⟩
set_option maxRecDepth 100000 in
set_option maxHeartbeats 2000000 in
theorem write_ref_1 (v : Value) (q : Rq) (w : World) (h : IsRq w v q) (hr : rightE q = 0) (hf : q.fn = 1) :
  Calls Try.prog 37 #[v] w fun e w' => ∃ v', e = .returned v' ∧ w'.ownsRow w.heap.size 5 1 v' (bytesQ q).length ((bytesQ q).map bV) ∧ Below w.heap.size w w' := by
 obtain ⟨ab, capb, av, capv, rfl, -, -⟩ := h.slices
 have W0 := hidden (fun o => (Below.refl w.heap.size w).alloc (Nat.le_refl _) o)
 obtain ⟨vb, vv, hE, hb, hv⟩ := id h
 obtain ⟨-, hform, ⟨n1, n2, n3, n4⟩, hlist⟩ := right_parts hr
 obtain ⟨f, a, c, p, s, bs, vs, m, o⟩ := q
 simp only [rqV, Value.agg.injEq, Array.mk.injEq, List.cons.injEq, and_true, true_and] at hE
 obtain ⟨rfl, rfl⟩ := hE
 simp only at hf n1 n2 n3 n4 hb hv hlist ⊢
 subst hf
 have EQ := hidden (show bytesQ ⟨1, a, c, p, s, bs, vs, m, o⟩ = ([1] ++ pw a) ++ pw c by simp [bytesQ, bodyQ])
 clear hr h hform hlist
 have X0 := Box.new w 1 a c p s (.slice ab bs.length capb) (.slice av vs.length capv) m o 26
 go_enter Try.func37, Try.ntmps37
 go_wp2_with fail
 have B1 := W0.out (.cells #[.int .i64 1, .int .i64 a, .int .i64 c, .int .i64 p, .int .i64 s, .slice ab bs.length capb, .slice av vs.length capv, wV m, wV o] 26)
 have R1 := row_byte (w.alloc (.cells #[.int .i64 1, .int .i64 a, .int .i64 c, .int .i64 p, .int .i64 s, .slice ab bs.length capb, .slice av vs.length capv, wV m, wV o] 26)) 1 1 rfl
 have O1 := owns_byte (w.alloc (.cells #[.int .i64 1, .int .i64 a, .int .i64 c, .int .i64 p, .int .i64 s, .slice ab bs.length capb, .slice av vs.length capv, wV m, wV o] 26)) 1 1 rfl
 have E1 := (Below.refl (w.alloc (.cells #[.int .i64 1, .int .i64 a, .int .i64 c, .int .i64 p, .int .i64 s, .slice ab bs.length capb, .slice av vs.length capv, wV m, wV o] 26)).heap.size (w.alloc (.cells #[.int .i64 1, .int .i64 a, .int .i64 c, .int .i64 p, .int .i64 s, .slice ab bs.length capb, .slice av vs.length capv, wV m, wV o] 26))).alloc (Nat.le_refl _) (.cells #[.int .u8 1] 5)
 simp only [World.size_alloc] at R1 O1
 replace X0 := X0.ext E1
 replace B1 := below_then B1 E1
 refine (rput_own _ [1] a _ (numB_in n1) R1 (by decide)).mono ?_
 rintro e w1 ⟨v1, rfl, o1, E2⟩
 have R2 := Row.of_owns o1
 replace R1 := R1.below E2
 replace O1 := owns_below O1 E2
 replace X0 := X0.ext E2
 replace B1 := below_then B1 E2
 have X2 := hidden X0
 have S1 : w.heap.size ≤ w1.heap.size := B1.size
 clear E1 E2 o1
 obtain ⟨lt, c0, c1, c2, c3, c4, c5, c6, c7, c8⟩ := X0
 go_wp2_with fail
 refine (rput_own _ ([1] ++ pw a) c _ (numB_in n4) R2 (by simp [pw])).mono ?_
 rintro e w2 ⟨v2, rfl, o2, E2⟩
 have BF := below_then B1 E2
 go_wp2
 go_ret
 refine ⟨_, rfl, ?_, BF⟩
 rw [EQ.out]
 have := owns_base o2 (base' := w.heap.size) (by omega)
 simpa [pw] using this
set_option maxRecDepth 100000 in
set_option maxHeartbeats 2000000 in
theorem write_ref_2 (v : Value) (q : Rq) (w : World) (h : IsRq w v q) (hr : rightE q = 0) (hf : q.fn = 2) :
  Calls Try.prog 37 #[v] w fun e w' => ∃ v', e = .returned v' ∧ w'.ownsRow w.heap.size 5 1 v' (bytesQ q).length ((bytesQ q).map bV) ∧ Below w.heap.size w w' := by
 obtain ⟨ab, capb, av, capv, rfl, -, -⟩ := h.slices
 have W0 := hidden (fun o => (Below.refl w.heap.size w).alloc (Nat.le_refl _) o)
 obtain ⟨vb, vv, hE, hb, hv⟩ := id h
 obtain ⟨-, hform, ⟨n1, n2, n3, n4⟩, hlist⟩ := right_parts hr
 obtain ⟨f, a, c, p, s, bs, vs, m, o⟩ := q
 simp only [rqV, Value.agg.injEq, Array.mk.injEq, List.cons.injEq, and_true, true_and] at hE
 obtain ⟨rfl, rfl⟩ := hE
 simp only at hf n1 n2 n3 n4 hb hv hlist ⊢
 subst hf
 have EQ := hidden (show bytesQ ⟨2, a, c, p, s, bs, vs, m, o⟩ = ([2] ++ pw a) ++ pw c by simp [bytesQ, bodyQ])
 clear hr h hform hlist
 have X0 := Box.new w 2 a c p s (.slice ab bs.length capb) (.slice av vs.length capv) m o 26
 go_enter Try.func37, Try.ntmps37
 go_wp2_with fail
 have B1 := W0.out (.cells #[.int .i64 2, .int .i64 a, .int .i64 c, .int .i64 p, .int .i64 s, .slice ab bs.length capb, .slice av vs.length capv, wV m, wV o] 26)
 have R1 := row_byte (w.alloc (.cells #[.int .i64 2, .int .i64 a, .int .i64 c, .int .i64 p, .int .i64 s, .slice ab bs.length capb, .slice av vs.length capv, wV m, wV o] 26)) 2 2 rfl
 have O1 := owns_byte (w.alloc (.cells #[.int .i64 2, .int .i64 a, .int .i64 c, .int .i64 p, .int .i64 s, .slice ab bs.length capb, .slice av vs.length capv, wV m, wV o] 26)) 2 2 rfl
 have E1 := (Below.refl (w.alloc (.cells #[.int .i64 2, .int .i64 a, .int .i64 c, .int .i64 p, .int .i64 s, .slice ab bs.length capb, .slice av vs.length capv, wV m, wV o] 26)).heap.size (w.alloc (.cells #[.int .i64 2, .int .i64 a, .int .i64 c, .int .i64 p, .int .i64 s, .slice ab bs.length capb, .slice av vs.length capv, wV m, wV o] 26))).alloc (Nat.le_refl _) (.cells #[.int .u8 2] 5)
 simp only [World.size_alloc] at R1 O1
 replace X0 := X0.ext E1
 replace B1 := below_then B1 E1
 refine (rput_own _ [2] a _ (numB_in n1) R1 (by decide)).mono ?_
 rintro e w1 ⟨v1, rfl, o1, E2⟩
 have R2 := Row.of_owns o1
 replace R1 := R1.below E2
 replace O1 := owns_below O1 E2
 replace X0 := X0.ext E2
 replace B1 := below_then B1 E2
 have X2 := hidden X0
 have S1 : w.heap.size ≤ w1.heap.size := B1.size
 clear E1 E2 o1
 obtain ⟨lt, c0, c1, c2, c3, c4, c5, c6, c7, c8⟩ := X0
 go_wp2_with fail
 refine (rput_own _ ([2] ++ pw a) c _ (numB_in n4) R2 (by simp [pw])).mono ?_
 rintro e w2 ⟨v2, rfl, o2, E2⟩
 have BF := below_then B1 E2
 go_wp2
 go_ret
 refine ⟨_, rfl, ?_, BF⟩
 rw [EQ.out]
 have := owns_base o2 (base' := w.heap.size) (by omega)
 simpa [pw] using this
set_option maxRecDepth 100000 in
set_option maxHeartbeats 2000000 in
theorem write_ref_3 (v : Value) (q : Rq) (w : World) (h : IsRq w v q) (hr : rightE q = 0) (hf : q.fn = 3) :
  Calls Try.prog 37 #[v] w fun e w' => ∃ v', e = .returned v' ∧ w'.ownsRow w.heap.size 5 1 v' (bytesQ q).length ((bytesQ q).map bV) ∧ Below w.heap.size w w' := by
 obtain ⟨ab, capb, av, capv, rfl, -, -⟩ := h.slices
 have W0 := hidden (fun o => (Below.refl w.heap.size w).alloc (Nat.le_refl _) o)
 obtain ⟨vb, vv, hE, hb, hv⟩ := id h
 obtain ⟨-, hform, ⟨n1, n2, n3, n4⟩, hlist⟩ := right_parts hr
 obtain ⟨f, a, c, p, s, bs, vs, m, o⟩ := q
 simp only [rqV, Value.agg.injEq, Array.mk.injEq, List.cons.injEq, and_true, true_and] at hE
 obtain ⟨rfl, rfl⟩ := hE
 simp only at hf n1 n2 n3 n4 hb hv hlist ⊢
 subst hf
 have EQ := hidden (show bytesQ ⟨3, a, c, p, s, bs, vs, m, o⟩ = ([3] ++ pw a) ++ pw c by simp [bytesQ, bodyQ])
 clear hr h hform hlist
 have X0 := Box.new w 3 a c p s (.slice ab bs.length capb) (.slice av vs.length capv) m o 26
 go_enter Try.func37, Try.ntmps37
 go_wp2_with fail
 have B1 := W0.out (.cells #[.int .i64 3, .int .i64 a, .int .i64 c, .int .i64 p, .int .i64 s, .slice ab bs.length capb, .slice av vs.length capv, wV m, wV o] 26)
 have R1 := row_byte (w.alloc (.cells #[.int .i64 3, .int .i64 a, .int .i64 c, .int .i64 p, .int .i64 s, .slice ab bs.length capb, .slice av vs.length capv, wV m, wV o] 26)) 3 3 rfl
 have O1 := owns_byte (w.alloc (.cells #[.int .i64 3, .int .i64 a, .int .i64 c, .int .i64 p, .int .i64 s, .slice ab bs.length capb, .slice av vs.length capv, wV m, wV o] 26)) 3 3 rfl
 have E1 := (Below.refl (w.alloc (.cells #[.int .i64 3, .int .i64 a, .int .i64 c, .int .i64 p, .int .i64 s, .slice ab bs.length capb, .slice av vs.length capv, wV m, wV o] 26)).heap.size (w.alloc (.cells #[.int .i64 3, .int .i64 a, .int .i64 c, .int .i64 p, .int .i64 s, .slice ab bs.length capb, .slice av vs.length capv, wV m, wV o] 26))).alloc (Nat.le_refl _) (.cells #[.int .u8 3] 5)
 simp only [World.size_alloc] at R1 O1
 replace X0 := X0.ext E1
 replace B1 := below_then B1 E1
 refine (rput_own _ [3] a _ (numB_in n1) R1 (by decide)).mono ?_
 rintro e w1 ⟨v1, rfl, o1, E2⟩
 have R2 := Row.of_owns o1
 replace R1 := R1.below E2
 replace O1 := owns_below O1 E2
 replace X0 := X0.ext E2
 replace B1 := below_then B1 E2
 have X2 := hidden X0
 have S1 : w.heap.size ≤ w1.heap.size := B1.size
 clear E1 E2 o1
 obtain ⟨lt, c0, c1, c2, c3, c4, c5, c6, c7, c8⟩ := X0
 go_wp2_with fail
 refine (rput_own _ ([3] ++ pw a) c _ (numB_in n4) R2 (by simp [pw])).mono ?_
 rintro e w2 ⟨v2, rfl, o2, E2⟩
 have BF := below_then B1 E2
 go_wp2
 go_ret
 refine ⟨_, rfl, ?_, BF⟩
 rw [EQ.out]
 have := owns_base o2 (base' := w.heap.size) (by omega)
 simpa [pw] using this
set_option maxRecDepth 100000 in
set_option maxHeartbeats 2000000 in
theorem write_ref_4 (v : Value) (q : Rq) (w : World) (h : IsRq w v q) (hr : rightE q = 0) (hf : q.fn = 4) :
  Calls Try.prog 37 #[v] w fun e w' => ∃ v', e = .returned v' ∧ w'.ownsRow w.heap.size 5 1 v' (bytesQ q).length ((bytesQ q).map bV) ∧ Below w.heap.size w w' := by
 obtain ⟨ab, capb, av, capv, rfl, -, -⟩ := h.slices
 have W0 := hidden (fun o => (Below.refl w.heap.size w).alloc (Nat.le_refl _) o)
 obtain ⟨vb, vv, hE, hb, hv⟩ := id h
 obtain ⟨-, hform, ⟨n1, n2, n3, n4⟩, hlist⟩ := right_parts hr
 obtain ⟨f, a, c, p, s, bs, vs, m, o⟩ := q
 simp only [rqV, Value.agg.injEq, Array.mk.injEq, List.cons.injEq, and_true, true_and] at hE
 obtain ⟨rfl, rfl⟩ := hE
 simp only at hf n1 n2 n3 n4 hb hv hlist ⊢
 subst hf
 have EQ := hidden (show bytesQ ⟨4, a, c, p, s, bs, vs, m, o⟩ = ([4] ++ pw a) ++ pw c by simp [bytesQ, bodyQ])
 clear hr h hform hlist
 have X0 := Box.new w 4 a c p s (.slice ab bs.length capb) (.slice av vs.length capv) m o 26
 go_enter Try.func37, Try.ntmps37
 go_wp2_with fail
 have B1 := W0.out (.cells #[.int .i64 4, .int .i64 a, .int .i64 c, .int .i64 p, .int .i64 s, .slice ab bs.length capb, .slice av vs.length capv, wV m, wV o] 26)
 have R1 := row_byte (w.alloc (.cells #[.int .i64 4, .int .i64 a, .int .i64 c, .int .i64 p, .int .i64 s, .slice ab bs.length capb, .slice av vs.length capv, wV m, wV o] 26)) 4 4 rfl
 have O1 := owns_byte (w.alloc (.cells #[.int .i64 4, .int .i64 a, .int .i64 c, .int .i64 p, .int .i64 s, .slice ab bs.length capb, .slice av vs.length capv, wV m, wV o] 26)) 4 4 rfl
 have E1 := (Below.refl (w.alloc (.cells #[.int .i64 4, .int .i64 a, .int .i64 c, .int .i64 p, .int .i64 s, .slice ab bs.length capb, .slice av vs.length capv, wV m, wV o] 26)).heap.size (w.alloc (.cells #[.int .i64 4, .int .i64 a, .int .i64 c, .int .i64 p, .int .i64 s, .slice ab bs.length capb, .slice av vs.length capv, wV m, wV o] 26))).alloc (Nat.le_refl _) (.cells #[.int .u8 4] 5)
 simp only [World.size_alloc] at R1 O1
 replace X0 := X0.ext E1
 replace B1 := below_then B1 E1
 refine (rput_own _ [4] a _ (numB_in n1) R1 (by decide)).mono ?_
 rintro e w1 ⟨v1, rfl, o1, E2⟩
 have R2 := Row.of_owns o1
 replace R1 := R1.below E2
 replace O1 := owns_below O1 E2
 replace X0 := X0.ext E2
 replace B1 := below_then B1 E2
 have X2 := hidden X0
 have S1 : w.heap.size ≤ w1.heap.size := B1.size
 clear E1 E2 o1
 obtain ⟨lt, c0, c1, c2, c3, c4, c5, c6, c7, c8⟩ := X0
 go_wp2_with fail
 refine (rput_own _ ([4] ++ pw a) c _ (numB_in n4) R2 (by simp [pw])).mono ?_
 rintro e w2 ⟨v2, rfl, o2, E2⟩
 have BF := below_then B1 E2
 go_wp2
 go_ret
 refine ⟨_, rfl, ?_, BF⟩
 rw [EQ.out]
 have := owns_base o2 (base' := w.heap.size) (by omega)
 simpa [pw] using this
set_option maxRecDepth 100000 in
set_option maxHeartbeats 2000000 in
theorem write_ref_17 (v : Value) (q : Rq) (w : World) (h : IsRq w v q) (hr : rightE q = 0) (hf : q.fn = 17) :
  Calls Try.prog 37 #[v] w fun e w' => ∃ v', e = .returned v' ∧ w'.ownsRow w.heap.size 5 1 v' (bytesQ q).length ((bytesQ q).map bV) ∧ Below w.heap.size w w' := by
 obtain ⟨ab, capb, av, capv, rfl, -, -⟩ := h.slices
 have W0 := hidden (fun o => (Below.refl w.heap.size w).alloc (Nat.le_refl _) o)
 obtain ⟨vb, vv, hE, hb, hv⟩ := id h
 obtain ⟨-, hform, ⟨n1, n2, n3, n4⟩, hlist⟩ := right_parts hr
 obtain ⟨f, a, c, p, s, bs, vs, m, o⟩ := q
 simp only [rqV, Value.agg.injEq, Array.mk.injEq, List.cons.injEq, and_true, true_and] at hE
 obtain ⟨rfl, rfl⟩ := hE
 simp only at hf n1 n2 n3 n4 hb hv hlist ⊢
 subst hf
 have EQ := hidden (show bytesQ ⟨17, a, c, p, s, bs, vs, m, o⟩ = [17] by simp [bytesQ, bodyQ])
 clear hr h hform hlist
 have X0 := Box.new w 17 a c p s (.slice ab bs.length capb) (.slice av vs.length capv) m o 26
 go_enter Try.func37, Try.ntmps37
 go_wp2_with fail
 have B1 := W0.out (.cells #[.int .i64 17, .int .i64 a, .int .i64 c, .int .i64 p, .int .i64 s, .slice ab bs.length capb, .slice av vs.length capv, wV m, wV o] 26)
 have R1 := row_byte (w.alloc (.cells #[.int .i64 17, .int .i64 a, .int .i64 c, .int .i64 p, .int .i64 s, .slice ab bs.length capb, .slice av vs.length capv, wV m, wV o] 26)) 17 17 rfl
 have O1 := owns_byte (w.alloc (.cells #[.int .i64 17, .int .i64 a, .int .i64 c, .int .i64 p, .int .i64 s, .slice ab bs.length capb, .slice av vs.length capv, wV m, wV o] 26)) 17 17 rfl
 have E1 := (Below.refl (w.alloc (.cells #[.int .i64 17, .int .i64 a, .int .i64 c, .int .i64 p, .int .i64 s, .slice ab bs.length capb, .slice av vs.length capv, wV m, wV o] 26)).heap.size (w.alloc (.cells #[.int .i64 17, .int .i64 a, .int .i64 c, .int .i64 p, .int .i64 s, .slice ab bs.length capb, .slice av vs.length capv, wV m, wV o] 26))).alloc (Nat.le_refl _) (.cells #[.int .u8 17] 5)
 simp only [World.size_alloc] at R1 O1
 replace X0 := X0.ext E1
 replace B1 := below_then B1 E1
 refine (rput_own _ [17] a _ (numB_in n1) R1 (by decide)).mono ?_
 rintro e w1 ⟨v1, rfl, o1, E2⟩
 have R2 := Row.of_owns o1
 replace R1 := R1.below E2
 replace O1 := owns_below O1 E2
 replace X0 := X0.ext E2
 replace B1 := below_then B1 E2
 have X2 := hidden X0
 have S1 : w.heap.size ≤ w1.heap.size := B1.size
 clear E1 E2 o1
 obtain ⟨lt, c0, c1, c2, c3, c4, c5, c6, c7, c8⟩ := X0
 have BF := B1
 go_wp2
 go_ret
 refine ⟨_, rfl, ?_, BF⟩
 rw [EQ.out]
 have := owns_base O1 (base' := w.heap.size) (by omega)
 simpa [pw] using this
set_option maxRecDepth 100000 in
set_option maxHeartbeats 2000000 in
theorem write_ref_5 (v : Value) (q : Rq) (w : World) (h : IsRq w v q) (hr : rightE q = 0) (hf : q.fn = 5) :
  Calls Try.prog 37 #[v] w fun e w' => ∃ v', e = .returned v' ∧ w'.ownsRow w.heap.size 5 1 v' (bytesQ q).length ((bytesQ q).map bV) ∧ Below w.heap.size w w' := by
 obtain ⟨ab, capb, av, capv, rfl, -, -⟩ := h.slices
 have W0 := hidden (fun o => (Below.refl w.heap.size w).alloc (Nat.le_refl _) o)
 obtain ⟨vb, vv, hE, hb, hv⟩ := id h
 obtain ⟨-, hform, ⟨n1, n2, n3, n4⟩, hlist⟩ := right_parts hr
 obtain ⟨f, a, c, p, s, bs, vs, m, o⟩ := q
 simp only [rqV, Value.agg.injEq, Array.mk.injEq, List.cons.injEq, and_true, true_and] at hE
 obtain ⟨rfl, rfl⟩ := hE
 simp only at hf n1 n2 n3 n4 hb hv hlist ⊢
 subst hf
 obtain ⟨x, rfl⟩ := one_of_len (show bs.length = 1 by simpa [listB] using hlist)
 have EQ := hidden (show bytesQ ⟨5, a, c, p, s, [x], vs, m, o⟩ = ([5] ++ pw a) ++ pw (if x then 65280 else 0) by simp [bytesQ, bodyQ])
 clear hr h hform hlist
 have X0 := Box.new w 5 a c p s (.slice ab [x].length capb) (.slice av vs.length capv) m o 26
 go_enter Try.func37, Try.ntmps37
 go_wp2_with fail
 have B1 := W0.out (.cells #[.int .i64 5, .int .i64 a, .int .i64 c, .int .i64 p, .int .i64 s, .slice ab [x].length capb, .slice av vs.length capv, wV m, wV o] 26)
 have R1 := row_byte (w.alloc (.cells #[.int .i64 5, .int .i64 a, .int .i64 c, .int .i64 p, .int .i64 s, .slice ab [x].length capb, .slice av vs.length capv, wV m, wV o] 26)) 5 5 rfl
 have O1 := owns_byte (w.alloc (.cells #[.int .i64 5, .int .i64 a, .int .i64 c, .int .i64 p, .int .i64 s, .slice ab [x].length capb, .slice av vs.length capv, wV m, wV o] 26)) 5 5 rfl
 have E1 := (Below.refl (w.alloc (.cells #[.int .i64 5, .int .i64 a, .int .i64 c, .int .i64 p, .int .i64 s, .slice ab [x].length capb, .slice av vs.length capv, wV m, wV o] 26)).heap.size (w.alloc (.cells #[.int .i64 5, .int .i64 a, .int .i64 c, .int .i64 p, .int .i64 s, .slice ab [x].length capb, .slice av vs.length capv, wV m, wV o] 26))).alloc (Nat.le_refl _) (.cells #[.int .u8 5] 5)
 simp only [World.size_alloc] at R1 O1
 replace X0 := X0.ext E1
 replace B1 := below_then B1 E1
 refine (rput_own _ [5] a _ (numB_in n1) R1 (by decide)).mono ?_
 rintro e w1 ⟨v1, rfl, o1, E2⟩
 have R2 := Row.of_owns o1
 replace R1 := R1.below E2
 replace O1 := owns_below O1 E2
 replace X0 := X0.ext E2
 replace B1 := below_then B1 E2
 have X2 := hidden X0
 have S1 : w.heap.size ≤ w1.heap.size := B1.size
 clear E1 E2 o1
 obtain ⟨lt, c0, c1, c2, c3, c4, c5, c6, c7, c8⟩ := X0
 obtain ⟨b, off, capx, hE, cb⟩ := row_one (hb.below B1)
 simp only [List.length_cons, List.length_nil, Nat.zero_add, Value.slice.injEq] at hE
 obtain ⟨rfl, -, rfl⟩ := hE
 have lb := lt_of_cell cb
 cases x
 ·
  go_wp2_with fail
  refine (rput_own _ ([5] ++ pw a) 0 _ (by decide) R2 (by simp [pw])).mono ?_
  rintro e w2 ⟨v2, rfl, o2, E2⟩
  have BF := below_then B1 E2
  go_wp2
  go_ret
  refine ⟨_, rfl, ?_, BF⟩
  rw [EQ.out]
  have := owns_base o2 (base' := w.heap.size) (by omega)
  simpa [pw] using this
 ·
  go_wp2_with fail
  refine (rput_own _ ([5] ++ pw a) 65280 _ (by decide) R2 (by simp [pw])).mono ?_
  rintro e w2 ⟨v2, rfl, o2, E2⟩
  have BF := below_then B1 E2
  go_wp2
  go_ret
  refine ⟨_, rfl, ?_, BF⟩
  rw [EQ.out]
  have := owns_base o2 (base' := w.heap.size) (by omega)
  simpa [pw] using this
set_option maxRecDepth 100000 in
set_option maxHeartbeats 2000000 in
theorem write_ref_6 (v : Value) (q : Rq) (w : World) (h : IsRq w v q) (hr : rightE q = 0) (hf : q.fn = 6) :
  Calls Try.prog 37 #[v] w fun e w' => ∃ v', e = .returned v' ∧ w'.ownsRow w.heap.size 5 1 v' (bytesQ q).length ((bytesQ q).map bV) ∧ Below w.heap.size w w' := by
 obtain ⟨ab, capb, av, capv, rfl, -, -⟩ := h.slices
 have W0 := hidden (fun o => (Below.refl w.heap.size w).alloc (Nat.le_refl _) o)
 obtain ⟨vb, vv, hE, hb, hv⟩ := id h
 obtain ⟨-, hform, ⟨n1, n2, n3, n4⟩, hlist⟩ := right_parts hr
 obtain ⟨f, a, c, p, s, bs, vs, m, o⟩ := q
 simp only [rqV, Value.agg.injEq, Array.mk.injEq, List.cons.injEq, and_true, true_and] at hE
 obtain ⟨rfl, rfl⟩ := hE
 simp only at hf n1 n2 n3 n4 hb hv hlist ⊢
 subst hf
 obtain ⟨x, rfl⟩ := one_of_len (show vs.length = 1 by simpa [listB] using hlist)
 have EQ := hidden (show bytesQ ⟨6, a, c, p, s, bs, [x], m, o⟩ = ([6] ++ pw a) ++ pw (x.toNat : Int) by simp [bytesQ, bodyQ])
 have hxl := x.toNat_lt
 clear hr h hform hlist
 have X0 := Box.new w 6 a c p s (.slice ab bs.length capb) (.slice av [x].length capv) m o 26
 go_enter Try.func37, Try.ntmps37
 go_wp2_with fail
 have B1 := W0.out (.cells #[.int .i64 6, .int .i64 a, .int .i64 c, .int .i64 p, .int .i64 s, .slice ab bs.length capb, .slice av [x].length capv, wV m, wV o] 26)
 have R1 := row_byte (w.alloc (.cells #[.int .i64 6, .int .i64 a, .int .i64 c, .int .i64 p, .int .i64 s, .slice ab bs.length capb, .slice av [x].length capv, wV m, wV o] 26)) 6 6 rfl
 have O1 := owns_byte (w.alloc (.cells #[.int .i64 6, .int .i64 a, .int .i64 c, .int .i64 p, .int .i64 s, .slice ab bs.length capb, .slice av [x].length capv, wV m, wV o] 26)) 6 6 rfl
 have E1 := (Below.refl (w.alloc (.cells #[.int .i64 6, .int .i64 a, .int .i64 c, .int .i64 p, .int .i64 s, .slice ab bs.length capb, .slice av [x].length capv, wV m, wV o] 26)).heap.size (w.alloc (.cells #[.int .i64 6, .int .i64 a, .int .i64 c, .int .i64 p, .int .i64 s, .slice ab bs.length capb, .slice av [x].length capv, wV m, wV o] 26))).alloc (Nat.le_refl _) (.cells #[.int .u8 6] 5)
 simp only [World.size_alloc] at R1 O1
 replace X0 := X0.ext E1
 replace B1 := below_then B1 E1
 refine (rput_own _ [6] a _ (numB_in n1) R1 (by decide)).mono ?_
 rintro e w1 ⟨v1, rfl, o1, E2⟩
 have R2 := Row.of_owns o1
 replace R1 := R1.below E2
 replace O1 := owns_below O1 E2
 replace X0 := X0.ext E2
 replace B1 := below_then B1 E2
 have X2 := hidden X0
 have S1 : w.heap.size ≤ w1.heap.size := B1.size
 clear E1 E2 o1
 obtain ⟨lt, c0, c1, c2, c3, c4, c5, c6, c7, c8⟩ := X0
 obtain ⟨b, off, capx, hE, cb⟩ := row_one (hv.below B1)
 simp only [List.length_cons, List.length_nil, Nat.zero_add, Value.slice.injEq] at hE
 obtain ⟨rfl, -, rfl⟩ := hE
 have lb := lt_of_cell cb
 go_wp2_with fail
 refine (rput_own _ ([6] ++ pw a) (x.toNat : Int) _ (val_in x) R2 (by simp [pw])).mono ?_
 rintro e w2 ⟨v2, rfl, o2, E2⟩
 have BF := below_then B1 E2
 go_wp2
 go_ret
 refine ⟨_, rfl, ?_, BF⟩
 rw [EQ.out]
 have := owns_base o2 (base' := w.heap.size) (by omega)
 simpa [pw] using this
set_option maxRecDepth 100000 in
set_option maxHeartbeats 2000000 in
theorem write_ref_8 (v : Value) (q : Rq) (w : World) (h : IsRq w v q) (hr : rightE q = 0) (hf : q.fn = 8) :
  Calls Try.prog 37 #[v] w fun e w' => ∃ v', e = .returned v' ∧ w'.ownsRow w.heap.size 5 1 v' (bytesQ q).length ((bytesQ q).map bV) ∧ Below w.heap.size w w' := by
 obtain ⟨ab, capb, av, capv, rfl, -, -⟩ := h.slices
 have W0 := hidden (fun o => (Below.refl w.heap.size w).alloc (Nat.le_refl _) o)
 obtain ⟨vb, vv, hE, hb, hv⟩ := id h
 obtain ⟨-, hform, ⟨n1, n2, n3, n4⟩, hlist⟩ := right_parts hr
 obtain ⟨f, a, c, p, s, bs, vs, m, o⟩ := q
 simp only [rqV, Value.agg.injEq, Array.mk.injEq, List.cons.injEq, and_true, true_and] at hE
 obtain ⟨rfl, rfl⟩ := hE
 simp only at hf n1 n2 n3 n4 hb hv hlist ⊢
 subst hf
 obtain ⟨x, rfl⟩ := one_of_len (show vs.length = 1 by simpa [listB] using hlist)
 have EQ := hidden (show bytesQ ⟨8, a, c, p, s, bs, [x], m, o⟩ = ([8] ++ pw s) ++ pw (x.toNat : Int) by simp [bytesQ, bodyQ])
 have hxl := x.toNat_lt
 have WX := hidden (show IntKind.i64.wrap (x.toNat : Int) = x.toNat by rw [IntKind.wrap_i64]; omega)
 clear hr h hform hlist
 have X0 := Box.new w 8 a c p s (.slice ab bs.length capb) (.slice av [x].length capv) m o 26
 go_enter Try.func37, Try.ntmps37
 go_wp2_with fail
 have B1 := W0.out (.cells #[.int .i64 8, .int .i64 a, .int .i64 c, .int .i64 p, .int .i64 s, .slice ab bs.length capb, .slice av [x].length capv, wV m, wV o] 26)
 have R1 := row_byte (w.alloc (.cells #[.int .i64 8, .int .i64 a, .int .i64 c, .int .i64 p, .int .i64 s, .slice ab bs.length capb, .slice av [x].length capv, wV m, wV o] 26)) 8 8 rfl
 have O1 := owns_byte (w.alloc (.cells #[.int .i64 8, .int .i64 a, .int .i64 c, .int .i64 p, .int .i64 s, .slice ab bs.length capb, .slice av [x].length capv, wV m, wV o] 26)) 8 8 rfl
 have E1 := (Below.refl (w.alloc (.cells #[.int .i64 8, .int .i64 a, .int .i64 c, .int .i64 p, .int .i64 s, .slice ab bs.length capb, .slice av [x].length capv, wV m, wV o] 26)).heap.size (w.alloc (.cells #[.int .i64 8, .int .i64 a, .int .i64 c, .int .i64 p, .int .i64 s, .slice ab bs.length capb, .slice av [x].length capv, wV m, wV o] 26))).alloc (Nat.le_refl _) (.cells #[.int .u8 8] 5)
 simp only [World.size_alloc] at R1 O1
 replace X0 := X0.ext E1
 replace B1 := below_then B1 E1
 refine (rput_own _ [8] a _ (numB_in n1) R1 (by decide)).mono ?_
 rintro e w1 ⟨v1, rfl, o1, E2⟩
 have R2 := Row.of_owns o1
 replace R1 := R1.below E2
 replace O1 := owns_below O1 E2
 replace X0 := X0.ext E2
 replace B1 := below_then B1 E2
 have X2 := hidden X0
 have S1 : w.heap.size ≤ w1.heap.size := B1.size
 clear E1 E2 o1
 obtain ⟨lt, c0, c1, c2, c3, c4, c5, c6, c7, c8⟩ := X0
 go_wp2
 refine wp_region_pi [(0, true), (1, true), (2, true), (4, true), (5, true), (6, true), (7, true), (8, true), (3, false), (9, false), (10, true)] (by kernel_rfl) (by kernel_rfl) (by kernel_rfl) (fun _ _ _ d _ h => by cases d <;> exact h) ?_
 replace B1 := B1.drew
 replace R1 := R1.drew
 replace R2 := R2.drew
 replace X2 := hidden (X2.out.ext (Below.refl _ _).drew)
 replace hb := hidden (hb.below B1)
 replace hv := hidden (hv.below B1)
 replace S1 : w.heap.size ≤ w1.drew.heap.size := S1
 clear lt c0 c1 c2 c3 c4 c5 c6 c7 c8 O1
 generalize w1.drew = w2 at *
 have x2 := Ext.refl w2
 obtain ⟨b, off, capx, hE, -⟩ := row_one hv.out
 simp only [List.length_cons, List.length_nil, Nat.zero_add, Value.slice.injEq] at hE
 obtain ⟨rfl, -, rfl⟩ := hE
 have Y2 : Hid (∀ w', Ext w2 w' → w'.cell? ⟨b, off, none⟩ = some (wV x)) := fun w' hx => by
  obtain ⟨_, _, _, hE, h⟩ := row_one (hv.out.below hx)
  simp at hE; obtain ⟨⟨rfl, rfl⟩, -⟩ := hE; exact h
 iterate 8 (first | (refine pi_pure x2 rfl (by kernel_rfl) (fun w' => by have wx := WX.out; go_simp; with_reducible rfl) ?_; try simp only [Act.put, PuA, PuB, PuC]) | (refine pi_R x2 rfl (fun w' hx => by obtain ⟨d, c0, c1, c2, c3, c4, c5, c6, c7, c8⟩ := X2.out.ext hx; have y := Y2.out w' hx; have wx := WX.out; go_simp; with_reducible rfl) ?_))
 refine pi_move rfl (by kernel_rfl) (fun K hK => ?_)
 go_wp2_with fail
 refine (rput_own _ [8] s _ (numB_in n3) R1 (by decide)).mono ?_
 rintro e w3 ⟨v3, rfl, o3, E3⟩
 go_simp
 refine hK.out _ _ E3 ?_
 clear K hK
 try simp only [Act.put, PuA, PuB, PuC]
 replace o3 := Row.of_owns o3
 refine pi_move rfl (by kernel_rfl) (fun K hK => ?_)
 go_wp2_with fail
 refine (rput_own _ ([8] ++ pw s) (x.toNat : Int) _ (val_in x) o3 (by simp [pw])).mono ?_
 rintro e w4 ⟨v4, rfl, o4, E4⟩
 go_simp
 refine hK.out _ _ (Ext.trans E3 E4) ?_
 clear K hK
 try simp only [Act.put, PuA, PuB, PuC]
 have S3 := E3.size
 have E34 := Ext.trans E3 E4
 have BF := below_then B1 E34
 refine pi_P E34 rfl ?_
 refine pi_nil ?_
 go_wp2
 go_ret
 refine ⟨_, rfl, ?_, BF⟩
 rw [EQ.out]
 have := owns_base o4 (base' := w.heap.size) (by omega)
 simpa [pw] using this
set_option maxRecDepth 100000 in
set_option maxHeartbeats 2000000 in
theorem write_ref_22 (v : Value) (q : Rq) (w : World) (h : IsRq w v q) (hr : rightE q = 0) (hf : q.fn = 22) :
  Calls Try.prog 37 #[v] w fun e w' => ∃ v', e = .returned v' ∧ w'.ownsRow w.heap.size 5 1 v' (bytesQ q).length ((bytesQ q).map bV) ∧ Below w.heap.size w w' := by
 obtain ⟨ab, capb, av, capv, rfl, -, -⟩ := h.slices
 have W0 := hidden (fun o => (Below.refl w.heap.size w).alloc (Nat.le_refl _) o)
 obtain ⟨vb, vv, hE, hb, hv⟩ := id h
 obtain ⟨-, hform, ⟨n1, n2, n3, n4⟩, hlist⟩ := right_parts hr
 obtain ⟨f, a, c, p, s, bs, vs, m, o⟩ := q
 simp only [rqV, Value.agg.injEq, Array.mk.injEq, List.cons.injEq, and_true, true_and] at hE
 obtain ⟨rfl, rfl⟩ := hE
 simp only at hf n1 n2 n3 n4 hb hv hlist ⊢
 subst hf
 have EQ := hidden (show bytesQ ⟨22, a, c, p, s, bs, vs, m, o⟩ = (([22] ++ pw a) ++ pw (m.toNat : Int)) ++ pw (o.toNat : Int) by simp [bytesQ, bodyQ])
 have hm := m.toNat_lt
 have ho := o.toNat_lt
 have WX : Hid (IntKind.i64.wrap (m.toNat : Int) = m.toNat ∧ IntKind.i64.wrap (o.toNat : Int) = o.toNat) := ⟨by rw [IntKind.wrap_i64]; omega, by rw [IntKind.wrap_i64]; omega⟩
 clear hr h hform hlist
 have X0 := Box.new w 22 a c p s (.slice ab bs.length capb) (.slice av vs.length capv) m o 26
 go_enter Try.func37, Try.ntmps37
 go_wp2_with fail
 have B1 := W0.out (.cells #[.int .i64 22, .int .i64 a, .int .i64 c, .int .i64 p, .int .i64 s, .slice ab bs.length capb, .slice av vs.length capv, wV m, wV o] 26)
 have R1 := row_byte (w.alloc (.cells #[.int .i64 22, .int .i64 a, .int .i64 c, .int .i64 p, .int .i64 s, .slice ab bs.length capb, .slice av vs.length capv, wV m, wV o] 26)) 22 22 rfl
 have O1 := owns_byte (w.alloc (.cells #[.int .i64 22, .int .i64 a, .int .i64 c, .int .i64 p, .int .i64 s, .slice ab bs.length capb, .slice av vs.length capv, wV m, wV o] 26)) 22 22 rfl
 have E1 := (Below.refl (w.alloc (.cells #[.int .i64 22, .int .i64 a, .int .i64 c, .int .i64 p, .int .i64 s, .slice ab bs.length capb, .slice av vs.length capv, wV m, wV o] 26)).heap.size (w.alloc (.cells #[.int .i64 22, .int .i64 a, .int .i64 c, .int .i64 p, .int .i64 s, .slice ab bs.length capb, .slice av vs.length capv, wV m, wV o] 26))).alloc (Nat.le_refl _) (.cells #[.int .u8 22] 5)
 simp only [World.size_alloc] at R1 O1
 replace X0 := X0.ext E1
 replace B1 := below_then B1 E1
 refine (rput_own _ [22] a _ (numB_in n1) R1 (by decide)).mono ?_
 rintro e w1 ⟨v1, rfl, o1, E2⟩
 have R2 := Row.of_owns o1
 replace R1 := R1.below E2
 replace O1 := owns_below O1 E2
 replace X0 := X0.ext E2
 replace B1 := below_then B1 E2
 have X2 := hidden X0
 have S1 : w.heap.size ≤ w1.heap.size := B1.size
 clear E1 E2 o1
 obtain ⟨lt, c0, c1, c2, c3, c4, c5, c6, c7, c8⟩ := X0
 go_wp2
 refine wp_region_pi [(0, true), (1, true), (2, true), (3, true), (5, true), (6, true), (7, true), (4, false), (8, false), (9, true)] (by kernel_rfl) (by kernel_rfl) (by kernel_rfl) (fun _ _ _ d _ h => by cases d <;> exact h) ?_
 replace B1 := B1.drew
 replace R1 := R1.drew
 replace R2 := R2.drew
 replace X2 := hidden (X2.out.ext (Below.refl _ _).drew)
 replace hb := hidden (hb.below B1)
 replace hv := hidden (hv.below B1)
 replace S1 : w.heap.size ≤ w1.drew.heap.size := S1
 clear lt c0 c1 c2 c3 c4 c5 c6 c7 c8 O1
 generalize w1.drew = w2 at *
 have x2 := Ext.refl w2
 iterate 7 (first | (refine pi_pure x2 rfl (by kernel_rfl) (fun w' => by obtain ⟨wm, wo⟩ := WX.out; go_simp; with_reducible rfl) ?_; try simp only [Act.put, PuA, PuB, PuC]) | (refine pi_R x2 rfl (fun w' hx => by obtain ⟨d, c0, c1, c2, c3, c4, c5, c6, c7, c8⟩ := X2.out.ext hx; go_simp; with_reducible rfl) ?_))
 refine pi_move rfl (by kernel_rfl) (fun K hK => ?_)
 go_wp2_with fail
 refine (rput_own _ ([22] ++ pw a) (m.toNat : Int) _ (val_in m) R2 (by simp [pw])).mono ?_
 rintro e w3 ⟨v3, rfl, o3, E3⟩
 go_simp
 refine hK.out _ _ E3 ?_
 clear K hK
 try simp only [Act.put, PuA, PuB, PuC]
 replace o3 := Row.of_owns o3
 refine pi_move rfl (by kernel_rfl) (fun K hK => ?_)
 go_wp2_with fail
 refine (rput_own _ (([22] ++ pw a) ++ pw (m.toNat : Int)) (o.toNat : Int) _ (val_in o) o3 (by simp [pw])).mono ?_
 rintro e w4 ⟨v4, rfl, o4, E4⟩
 go_simp
 refine hK.out _ _ (Ext.trans E3 E4) ?_
 clear K hK
 try simp only [Act.put, PuA, PuB, PuC]
 have S3 := E3.size
 have E34 := Ext.trans E3 E4
 have BF := below_then B1 E34
 refine pi_P E34 rfl ?_
 refine pi_nil ?_
 go_wp2
 go_ret
 refine ⟨_, rfl, ?_, BF⟩
 rw [EQ.out]
 have := owns_base o4 (base' := w.heap.size) (by omega)
 simpa [pw] using this
set_option maxRecDepth 100000 in
set_option maxHeartbeats 2000000 in
theorem write_ref_15 (v : Value) (q : Rq) (w : World) (h : IsRq w v q) (hr : rightE q = 0) (hf : q.fn = 15) :
  Calls Try.prog 37 #[v] w fun e w' => ∃ v', e = .returned v' ∧ w'.ownsRow w.heap.size 5 1 v' (bytesQ q).length ((bytesQ q).map bV) ∧ Below w.heap.size w w' := by
 obtain ⟨ab, capb, av, capv, rfl, -, -⟩ := h.slices
 have W0 := hidden (fun o => (Below.refl w.heap.size w).alloc (Nat.le_refl _) o)
 obtain ⟨vb, vv, hE, hb, hv⟩ := id h
 obtain ⟨-, hform, ⟨n1, n2, n3, n4⟩, hlist⟩ := right_parts hr
 obtain ⟨f, a, c, p, s, bs, vs, m, o⟩ := q
 simp only [rqV, Value.agg.injEq, Array.mk.injEq, List.cons.injEq, and_true, true_and] at hE
 obtain ⟨rfl, rfl⟩ := hE
 simp only at hf n1 n2 n3 n4 hb hv hlist ⊢
 subst hf
 have hl2 : bs.length ≤ 2040 := by simp [listB] at hlist; omega
 have EQ := hidden (show bytesQ ⟨15, a, c, p, s, bs, vs, m, o⟩ = (([15] ++ pw a) ++ pw c) ++ cntL (packL bs) by simp [bytesQ, bodyQ])
 clear hr h hform hlist
 have X0 := Box.new w 15 a c p s (.slice ab bs.length capb) (.slice av vs.length capv) m o 26
 go_enter Try.func37, Try.ntmps37
 go_wp2_with fail
 have B1 := W0.out (.cells #[.int .i64 15, .int .i64 a, .int .i64 c, .int .i64 p, .int .i64 s, .slice ab bs.length capb, .slice av vs.length capv, wV m, wV o] 26)
 have R1 := row_byte (w.alloc (.cells #[.int .i64 15, .int .i64 a, .int .i64 c, .int .i64 p, .int .i64 s, .slice ab bs.length capb, .slice av vs.length capv, wV m, wV o] 26)) 15 15 rfl
 have O1 := owns_byte (w.alloc (.cells #[.int .i64 15, .int .i64 a, .int .i64 c, .int .i64 p, .int .i64 s, .slice ab bs.length capb, .slice av vs.length capv, wV m, wV o] 26)) 15 15 rfl
 have E1 := (Below.refl (w.alloc (.cells #[.int .i64 15, .int .i64 a, .int .i64 c, .int .i64 p, .int .i64 s, .slice ab bs.length capb, .slice av vs.length capv, wV m, wV o] 26)).heap.size (w.alloc (.cells #[.int .i64 15, .int .i64 a, .int .i64 c, .int .i64 p, .int .i64 s, .slice ab bs.length capb, .slice av vs.length capv, wV m, wV o] 26))).alloc (Nat.le_refl _) (.cells #[.int .u8 15] 5)
 simp only [World.size_alloc] at R1 O1
 replace X0 := X0.ext E1
 replace B1 := below_then B1 E1
 refine (rput_own _ [15] a _ (numB_in n1) R1 (by decide)).mono ?_
 rintro e w1 ⟨v1, rfl, o1, E2⟩
 have R2 := Row.of_owns o1
 replace R1 := R1.below E2
 replace O1 := owns_below O1 E2
 replace X0 := X0.ext E2
 replace B1 := below_then B1 E2
 have X2 := hidden X0
 have S1 : w.heap.size ≤ w1.heap.size := B1.size
 clear E1 E2 o1
 obtain ⟨lt, c0, c1, c2, c3, c4, c5, c6, c7, c8⟩ := X0
 go_wp2
 refine wp_region_pi [(0, true), (1, true), (2, true), (4, true), (5, true), (3, false), (6, false), (7, false), (8, true)] (by kernel_rfl) (by kernel_rfl) (by kernel_rfl) (fun _ _ _ d _ h => by cases d <;> exact h) ?_
 replace B1 := B1.drew
 replace R1 := R1.drew
 replace R2 := R2.drew
 replace X2 := hidden (X2.out.ext (Below.refl _ _).drew)
 replace hb := hidden (hb.below B1)
 replace hv := hidden (hv.below B1)
 replace S1 : w.heap.size ≤ w1.drew.heap.size := S1
 clear lt c0 c1 c2 c3 c4 c5 c6 c7 c8 O1
 generalize w1.drew = w2 at *
 have x2 := Ext.refl w2
 iterate 5 (first | (refine pi_P x2 rfl ?_) | (refine pi_R x2 rfl (fun w' hx => by obtain ⟨d, c0, c1, c2, c3, c4, c5, c6, c7, c8⟩ := X2.out.ext hx; go_simp; with_reducible rfl) ?_))
 refine pi_move rfl (by kernel_rfl) (fun K hK => ?_)
 go_wp2_with fail
 refine (rput_own _ ([15] ++ pw a) c _ (numB_in n4) R2 (by simp [pw])).mono ?_
 rintro e w3 ⟨v3, rfl, o3, E3⟩
 go_simp
 refine hK.out _ _ E3 ?_
 clear K hK
 try simp only [Act.put, PuA, PuB, PuC]
 have S3 := E3.size
 refine pi_move rfl (by kernel_rfl) (fun K hK => ?_)
 go_wp2_with fail
 refine (rpack_any _ bs _ (hb.out.below E3) (by omega)).mono ?_
 rintro e w4 ⟨v4, rfl, r4, E4, nv4⟩
 go_simp
 refine hK.out _ _ (Ext.trans E3 E4) ?_
 clear K hK
 try simp only [Act.put, PuA, PuB, PuC]
 have S4 := E4.size
 have AP := hidden (owns_occ o3 nv4 (Nat.le_refl _) r4)
 replace o3 := owns_below o3 E4
 have E34 := Ext.trans E3 E4
 refine pi_move rfl (by kernel_rfl) (fun K hK => ?_)
 go_wp2_with fail
 refine (row_ref _ _ (([15] ++ pw a) ++ pw c) (packL bs) _ w2.heap.size (by simpa [pw] using o3) (by omega) r4 AP.out (by simp [pw]) (by rw [packL_len]; omega)).mono ?_
 rintro e w5 ⟨v5, rfl, o5, E5⟩
 go_simp
 refine hK.out _ _ (Below.trans E34 E5) ?_
 clear K hK
 try simp only [Act.put, PuA, PuB, PuC]
 have E35 : Ext w2 w5 := Below.trans E34 E5
 have BF := below_then B1 E35
 refine pi_P E35 rfl ?_
 refine pi_nil ?_
 go_wp2
 go_ret
 refine ⟨_, rfl, ?_, BF⟩
 rw [EQ.out]
 have := owns_base o5 (base' := w.heap.size) (by omega)
 simpa [pw] using this
set_option maxRecDepth 100000 in
set_option maxHeartbeats 2000000 in
theorem write_ref_16 (v : Value) (q : Rq) (w : World) (h : IsRq w v q) (hr : rightE q = 0) (hf : q.fn = 16) :
  Calls Try.prog 37 #[v] w fun e w' => ∃ v', e = .returned v' ∧ w'.ownsRow w.heap.size 5 1 v' (bytesQ q).length ((bytesQ q).map bV) ∧ Below w.heap.size w w' := by
 obtain ⟨ab, capb, av, capv, rfl, -, -⟩ := h.slices
 have W0 := hidden (fun o => (Below.refl w.heap.size w).alloc (Nat.le_refl _) o)
 obtain ⟨vb, vv, hE, hb, hv⟩ := id h
 obtain ⟨-, hform, ⟨n1, n2, n3, n4⟩, hlist⟩ := right_parts hr
 obtain ⟨f, a, c, p, s, bs, vs, m, o⟩ := q
 simp only [rqV, Value.agg.injEq, Array.mk.injEq, List.cons.injEq, and_true, true_and] at hE
 obtain ⟨rfl, rfl⟩ := hE
 simp only at hf n1 n2 n3 n4 hb hv hlist ⊢
 subst hf
 have hl2 : vs.length ≤ 127 := by simp [listB] at hlist; omega
 have EQ := hidden (show bytesQ ⟨16, a, c, p, s, bs, vs, m, o⟩ = (([16] ++ pw a) ++ pw c) ++ cntL (bytesL vs) by simp [bytesQ, bodyQ])
 clear hr h hform hlist
 have X0 := Box.new w 16 a c p s (.slice ab bs.length capb) (.slice av vs.length capv) m o 26
 go_enter Try.func37, Try.ntmps37
 go_wp2_with fail
 have B1 := W0.out (.cells #[.int .i64 16, .int .i64 a, .int .i64 c, .int .i64 p, .int .i64 s, .slice ab bs.length capb, .slice av vs.length capv, wV m, wV o] 26)
 have R1 := row_byte (w.alloc (.cells #[.int .i64 16, .int .i64 a, .int .i64 c, .int .i64 p, .int .i64 s, .slice ab bs.length capb, .slice av vs.length capv, wV m, wV o] 26)) 16 16 rfl
 have O1 := owns_byte (w.alloc (.cells #[.int .i64 16, .int .i64 a, .int .i64 c, .int .i64 p, .int .i64 s, .slice ab bs.length capb, .slice av vs.length capv, wV m, wV o] 26)) 16 16 rfl
 have E1 := (Below.refl (w.alloc (.cells #[.int .i64 16, .int .i64 a, .int .i64 c, .int .i64 p, .int .i64 s, .slice ab bs.length capb, .slice av vs.length capv, wV m, wV o] 26)).heap.size (w.alloc (.cells #[.int .i64 16, .int .i64 a, .int .i64 c, .int .i64 p, .int .i64 s, .slice ab bs.length capb, .slice av vs.length capv, wV m, wV o] 26))).alloc (Nat.le_refl _) (.cells #[.int .u8 16] 5)
 simp only [World.size_alloc] at R1 O1
 replace X0 := X0.ext E1
 replace B1 := below_then B1 E1
 refine (rput_own _ [16] a _ (numB_in n1) R1 (by decide)).mono ?_
 rintro e w1 ⟨v1, rfl, o1, E2⟩
 have R2 := Row.of_owns o1
 replace R1 := R1.below E2
 replace O1 := owns_below O1 E2
 replace X0 := X0.ext E2
 replace B1 := below_then B1 E2
 have X2 := hidden X0
 have S1 : w.heap.size ≤ w1.heap.size := B1.size
 clear E1 E2 o1
 obtain ⟨lt, c0, c1, c2, c3, c4, c5, c6, c7, c8⟩ := X0
 go_wp2
 refine wp_region_pi [(0, true), (1, true), (2, true), (4, true), (5, true), (3, false), (6, false), (7, false), (8, true)] (by kernel_rfl) (by kernel_rfl) (by kernel_rfl) (fun _ _ _ d _ h => by cases d <;> exact h) ?_
 replace B1 := B1.drew
 replace R1 := R1.drew
 replace R2 := R2.drew
 replace X2 := hidden (X2.out.ext (Below.refl _ _).drew)
 replace hb := hidden (hb.below B1)
 replace hv := hidden (hv.below B1)
 replace S1 : w.heap.size ≤ w1.drew.heap.size := S1
 clear lt c0 c1 c2 c3 c4 c5 c6 c7 c8 O1
 generalize w1.drew = w2 at *
 have x2 := Ext.refl w2
 iterate 5 (first | (refine pi_P x2 rfl ?_) | (refine pi_R x2 rfl (fun w' hx => by obtain ⟨d, c0, c1, c2, c3, c4, c5, c6, c7, c8⟩ := X2.out.ext hx; go_simp; with_reducible rfl) ?_))
 refine pi_move rfl (by kernel_rfl) (fun K hK => ?_)
 go_wp2_with fail
 refine (rput_own _ ([16] ++ pw a) c _ (numB_in n4) R2 (by simp [pw])).mono ?_
 rintro e w3 ⟨v3, rfl, o3, E3⟩
 go_simp
 refine hK.out _ _ E3 ?_
 clear K hK
 try simp only [Act.put, PuA, PuB, PuC]
 have S3 := E3.size
 refine pi_move rfl (by kernel_rfl) (fun K hK => ?_)
 go_wp2_with fail
 refine (rbytes_any _ vs _ (hv.out.below E3) (by omega)).mono ?_
 rintro e w4 ⟨v4, rfl, r4, E4, nv4⟩
 go_simp
 refine hK.out _ _ (Ext.trans E3 E4) ?_
 clear K hK
 try simp only [Act.put, PuA, PuB, PuC]
 have S4 := E4.size
 have AP := hidden (owns_occ o3 nv4 (Nat.le_refl _) r4)
 replace o3 := owns_below o3 E4
 have E34 := Ext.trans E3 E4
 refine pi_move rfl (by kernel_rfl) (fun K hK => ?_)
 go_wp2_with fail
 refine (row_ref _ _ (([16] ++ pw a) ++ pw c) (bytesL vs) _ w2.heap.size (by simpa [pw] using o3) (by omega) r4 AP.out (by simp [pw]) (by rw [bytesL_len]; omega)).mono ?_
 rintro e w5 ⟨v5, rfl, o5, E5⟩
 go_simp
 refine hK.out _ _ (Below.trans E34 E5) ?_
 clear K hK
 try simp only [Act.put, PuA, PuB, PuC]
 have E35 : Ext w2 w5 := Below.trans E34 E5
 have BF := below_then B1 E35
 refine pi_P E35 rfl ?_
 refine pi_nil ?_
 go_wp2
 go_ret
 refine ⟨_, rfl, ?_, BF⟩
 rw [EQ.out]
 have := owns_base o5 (base' := w.heap.size) (by omega)
 simpa [pw] using this
set_option maxRecDepth 100000 in
set_option maxHeartbeats 2000000 in
theorem write_ref_23 (v : Value) (q : Rq) (w : World) (h : IsRq w v q) (hr : rightE q = 0) (hf : q.fn = 23) :
  Calls Try.prog 37 #[v] w fun e w' => ∃ v', e = .returned v' ∧ w'.ownsRow w.heap.size 5 1 v' (bytesQ q).length ((bytesQ q).map bV) ∧ Below w.heap.size w w' := by
 obtain ⟨ab, capb, av, capv, rfl, -, -⟩ := h.slices
 have W0 := hidden (fun o => (Below.refl w.heap.size w).alloc (Nat.le_refl _) o)
 obtain ⟨vb, vv, hE, hb, hv⟩ := id h
 obtain ⟨-, hform, ⟨n1, n2, n3, n4⟩, hlist⟩ := right_parts hr
 obtain ⟨f, a, c, p, s, bs, vs, m, o⟩ := q
 simp only [rqV, Value.agg.injEq, Array.mk.injEq, List.cons.injEq, and_true, true_and] at hE
 obtain ⟨rfl, rfl⟩ := hE
 simp only at hf n1 n2 n3 n4 hb hv hlist ⊢
 subst hf
 have hl2 : vs.length ≤ 127 := by simp [listB] at hlist; omega
 have EQ := hidden (show bytesQ ⟨23, a, c, p, s, bs, vs, m, o⟩ = (((([23] ++ pw a) ++ pw c) ++ pw p) ++ pw (vs.length : Int)) ++ cntL (bytesL vs) by simp [bytesQ, bodyQ])
 clear hr h hform hlist
 have X0 := Box.new w 23 a c p s (.slice ab bs.length capb) (.slice av vs.length capv) m o 26
 go_enter Try.func37, Try.ntmps37
 go_wp2_with fail
 have B1 := W0.out (.cells #[.int .i64 23, .int .i64 a, .int .i64 c, .int .i64 p, .int .i64 s, .slice ab bs.length capb, .slice av vs.length capv, wV m, wV o] 26)
 have R1 := row_byte (w.alloc (.cells #[.int .i64 23, .int .i64 a, .int .i64 c, .int .i64 p, .int .i64 s, .slice ab bs.length capb, .slice av vs.length capv, wV m, wV o] 26)) 23 23 rfl
 have O1 := owns_byte (w.alloc (.cells #[.int .i64 23, .int .i64 a, .int .i64 c, .int .i64 p, .int .i64 s, .slice ab bs.length capb, .slice av vs.length capv, wV m, wV o] 26)) 23 23 rfl
 have E1 := (Below.refl (w.alloc (.cells #[.int .i64 23, .int .i64 a, .int .i64 c, .int .i64 p, .int .i64 s, .slice ab bs.length capb, .slice av vs.length capv, wV m, wV o] 26)).heap.size (w.alloc (.cells #[.int .i64 23, .int .i64 a, .int .i64 c, .int .i64 p, .int .i64 s, .slice ab bs.length capb, .slice av vs.length capv, wV m, wV o] 26))).alloc (Nat.le_refl _) (.cells #[.int .u8 23] 5)
 simp only [World.size_alloc] at R1 O1
 replace X0 := X0.ext E1
 replace B1 := below_then B1 E1
 refine (rput_own _ [23] a _ (numB_in n1) R1 (by decide)).mono ?_
 rintro e w1 ⟨v1, rfl, o1, E2⟩
 have R2 := Row.of_owns o1
 replace R1 := R1.below E2
 replace O1 := owns_below O1 E2
 replace X0 := X0.ext E2
 replace B1 := below_then B1 E2
 have X2 := hidden X0
 have S1 : w.heap.size ≤ w1.heap.size := B1.size
 clear E1 E2 o1
 obtain ⟨lt, c0, c1, c2, c3, c4, c5, c6, c7, c8⟩ := X0
 go_wp2
 refine wp_region_pi [(0, true), (1, true), (2, true), (4, true), (5, true), (7, true), (8, true), (9, true), (3, false), (6, false), (10, false), (11, true)] (by kernel_rfl) (by kernel_rfl) (by kernel_rfl) (fun _ _ _ d _ h => by cases d <;> exact h) ?_
 replace B1 := B1.drew
 replace R1 := R1.drew
 replace R2 := R2.drew
 replace X2 := hidden (X2.out.ext (Below.refl _ _).drew)
 replace hb := hidden (hb.below B1)
 replace hv := hidden (hv.below B1)
 replace S1 : w.heap.size ≤ w1.drew.heap.size := S1
 clear lt c0 c1 c2 c3 c4 c5 c6 c7 c8 O1
 generalize w1.drew = w2 at *
 have x2 := Ext.refl w2
 iterate 8 (first | (refine pi_P x2 rfl ?_) | (refine pi_R x2 rfl (fun w' hx => by obtain ⟨d, c0, c1, c2, c3, c4, c5, c6, c7, c8⟩ := X2.out.ext hx; go_simp; with_reducible rfl) ?_))
 refine pi_move rfl (by kernel_rfl) (fun K hK => ?_)
 go_wp2_with fail
 refine (rput_own _ ([23] ++ pw a) c _ (numB_in n4) R2 (by simp [pw])).mono ?_
 rintro e w3 ⟨v3, rfl, o3, E3⟩
 go_simp
 refine hK.out _ _ E3 ?_
 clear K hK
 try simp only [Act.put, PuA, PuB, PuC]
 replace o3 := Row.of_owns o3
 refine pi_move rfl (by kernel_rfl) (fun K hK => ?_)
 go_wp2_with fail
 refine (rput_own _ (([23] ++ pw a) ++ pw c) p _ (numB_in n2) o3 (by simp [pw])).mono ?_
 rintro e w4 ⟨v4, rfl, o4, E4⟩
 go_simp
 refine hK.out _ _ (Ext.trans E3 E4) ?_
 clear K hK
 try simp only [Act.put, PuA, PuB, PuC]
 replace o4 := Row.of_owns o4
 have E34 := Ext.trans E3 E4
 clear o3
 refine pi_move rfl (by kernel_rfl) (fun K hK => ?_)
 go_wp2_with fail
 refine (rput_own _ ((([23] ++ pw a) ++ pw c) ++ pw p) (vs.length : Int) _ (by omega) o4 (by simp [pw])).mono ?_
 rintro e w5 ⟨v5, rfl, o5, E5⟩
 go_simp
 refine hK.out _ _ (Ext.trans E34 E5) ?_
 clear K hK
 try simp only [Act.put, PuA, PuB, PuC]
 have E35 := Ext.trans E34 E5
 have S4 := E34.size
 have S5 := E5.size
 have BE := below_then B1 E35
 refine pi_P E35 rfl ?_
 refine pi_nil ?_
 obtain ⟨lt, c0, c1, c2, c3, c4, c5, c6, c7, c8⟩ := X2.out.ext E35
 go_wp2_with fail
 refine (rbytes_any _ vs _ (hv.out.below E35) (by omega)).mono ?_
 rintro e w6 ⟨v6, rfl, r6, E6, nv6⟩
 have AP := hidden (owns_occ o5 nv6 (Nat.le_refl _) r6)
 replace o5 := owns_below o5 E6
 have S6 := E6.size
 replace BE := below_then BE E6
 clear lt c0 c1 c2 c3 c4 c5 c6 c7 c8
 go_wp2_with fail
 refine (row_ref _ _ (((([23] ++ pw a) ++ pw c) ++ pw p) ++ pw (vs.length : Int)) (bytesL vs) _ w4.heap.size (by simpa [pw] using o5) (by omega) r6 AP.out (by simp [pw]) (by rw [bytesL_len]; omega)).mono ?_
 rintro e w7 ⟨v7, rfl, o7, E7⟩
 have BF := BE.trans (E7.mono (by omega))
 go_wp2
 go_ret
 refine ⟨_, rfl, ?_, BF⟩
 rw [EQ.out]
 have := owns_base o7 (base' := w.heap.size) (by omega)
 simpa [pw] using this
theorem write_ref (v : Value) (q : Rq) (w : World) (h : IsRq w v q) (hr : rightE q = 0) :
  Calls Try.prog 37 #[v] w fun e w' => ∃ v', e = .returned v' ∧ w'.ownsRow w.heap.size 5 1 v' (bytesQ q).length ((bytesQ q).map bV) ∧ Below w.heap.size w w' := by
 rcases known_cases (right_parts hr).1 with e | e | e | e | e | e | e | e | e | e | e | e
 ·
  exact write_ref_1 v q w h hr e
 ·
  exact write_ref_2 v q w h hr e
 ·
  exact write_ref_3 v q w h hr e
 ·
  exact write_ref_4 v q w h hr e
 ·
  exact write_ref_5 v q w h hr e
 ·
  exact write_ref_6 v q w h hr e
 ·
  exact write_ref_8 v q w h hr e
 ·
  exact write_ref_15 v q w h hr e
 ·
  exact write_ref_16 v q w h hr e
 ·
  exact write_ref_17 v q w h hr e
 ·
  exact write_ref_22 v q w h hr e
 ·
  exact write_ref_23 v q w h hr e
end Go.Proofs.Ytbajlhpmmmhkoaa
