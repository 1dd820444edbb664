/- Contract of pdu.Bytes, by function. -/
import Derived.Test.YtdihcdphgiaepaaGreatZZ6
namespace Go.Proofs.YtdihcdphgiaepaaGreat
open Go.RowKit
theorem row_ints (w : World) (l : List Int) (n : Nat) (hn : n = l.length) (h : n ≤ 1000) (C : Array Value) (hC : C = (l.map iV).toArray) : Row (w.alloc (.cells C 3)) (.slice (some ⟨w.heap.size, 0, none⟩) n n) (l.map iV) := by
 subst hC; exact row_new w (l.map iV) 3 n (by simpa using hn) (by unfold maxLen; omega)
theorem row_byte (w : World) (x : UInt8) (n : Int) (h : n = x.toNat) : Row (w.alloc (.cells #[.int .u8 n] 5)) (.slice (some ⟨w.heap.size, 0, none⟩) 1 1) ([x].map bV) := by
 subst h; exact row_new w _ 5 1 rfl (by decide)
theorem numB_in {n : Int} (h : numB n = true) : -9223372036854775808 ≤ n ∧ n ≤ 9223372036854775807 := by simp [numB] at h; omega
theorem val_in (x : UInt16) : -9223372036854775808 ≤ (x.toNat : Int) ∧ (x.toNat : Int) ≤ 9223372036854775807 := numB_in (val_num x)
theorem all_in1 {a b : Int} (h1 : -9223372036854775808 ≤ a ∧ a ≤ 9223372036854775807) (h2 : -9223372036854775808 ≤ b ∧ b ≤ 9223372036854775807) : ∀ i, i < [a, b].length → -9223372036854775808 ≤ [a, b].getD i 0 ∧ [a, b].getD i 0 ≤ 9223372036854775807 := by
 intro i hi
 match i, hi with
 | 0, _ => exact h1
 | 1, _ => exact h2
theorem all_in3 {a b c : Int} (h1 : -9223372036854775808 ≤ a ∧ a ≤ 9223372036854775807) (h2 : -9223372036854775808 ≤ b ∧ b ≤ 9223372036854775807) (h3 : -9223372036854775808 ≤ c ∧ c ≤ 9223372036854775807) : ∀ i, i < [a, b, c].length → -9223372036854775808 ≤ [a, b, c].getD i 0 ∧ [a, b, c].getD i 0 ≤ 9223372036854775807 := by
 intro i hi
 match i, hi with
 | 0, _ => exact h1
 | 1, _ => exact h2
 | 2, _ => exact h3
theorem all_in4 {a b c d : Int} (h1 : -9223372036854775808 ≤ a ∧ a ≤ 9223372036854775807) (h2 : -9223372036854775808 ≤ b ∧ b ≤ 9223372036854775807) (h3 : -9223372036854775808 ≤ c ∧ c ≤ 9223372036854775807) (h4 : -9223372036854775808 ≤ d ∧ d ≤ 9223372036854775807) : ∀ i, i < [a, b, c, d].length → -9223372036854775808 ≤ [a, b, c, d].getD i 0 ∧ [a, b, c, d].getD i 0 ≤ 9223372036854775807 := by
 intro i hi
 match i, hi with
 | 0, _ => exact h1
 | 1, _ => exact h2
 | 2, _ => exact h3
 | 3, _ => exact h4
set_option maxRecDepth 100000 in
set_option maxHeartbeats 2000000 in
theorem bytes_pdu_1 (v : Value) (q : Rq) (w : World) (h : IsRq w v q) (hr : rightE q = 0) (hf : q.fn = 1) :
  Calls Tryz.prog 77 #[v] w fun e w' => ∃ v', e = .returned (.tuple #[v', .int .i64 0]) ∧ Row w' v' ((bytesQ q).map bV) ∧ Below w.heap.size w w' := by
 obtain ⟨ab, capb, av, capv, rfl, -, -⟩ := h.slices;have W0 := hidden (fun o => (Below.refl w.heap.size w).alloc (Nat.le_refl _) o);have HQ := hidden (fun w' (hb : Below w.heap.size w w') => h.below hb);obtain ⟨vb, vv, hE, hb, hv⟩ := id h;obtain ⟨-, hform, ⟨n1, n2, n3, n4⟩, hlist⟩ := right_parts hr;have HR := hidden hr;obtain ⟨f, a, c, p, s, bs, vs, m, o⟩ := q;simp only [rqV, Value.agg.injEq, Array.mk.injEq, List.cons.injEq, and_true, true_and] at hE;obtain ⟨rfl, rfl⟩ := hE;simp only at hf n1 n2 n3 n4 HR HQ hb hv hlist ⊢;subst hf;have EQ := hidden (show bytesQ ⟨1, a, c, p, s, bs, vs, m, o⟩ = [1] ++ pwL [a, c] by simp [bytesQ, bodyQ, pwL]);clear hr h hform hlist;go_enter Tryz.func77, Tryz.ntmps77;go_wp2_with fail
 refine (right_pdu _ _ _ (HQ.out _ (W0.out _))).mono ?_;rintro e w1 ⟨rfl, B1⟩;rw [HR.out];have X := (Box.new w _ _ _ _ _ _ _ _ _ _).ext B1;replace B1 := below_then (W0.out _) B1;have X1 := hidden X;obtain ⟨lt, c0, c1, c2, c3, c4, c5, c6, c7, c8⟩ := X;go_wp2_with fail
 refine (put_pdu _ _ [1] [a, c] _ ((row_byte w1 1 _ rfl).below ((Below.refl _ _).alloc (Nat.le_refl _) _)) (by simpa using row_ints (w1.alloc (.cells #[.int .u8 1] 5)) [a, c] 2 rfl (by decide) _ rfl) (all_in1 (numB_in n1) (numB_in n4)) (by decide) (by simp)).mono ?_;rintro e w2 ⟨v2, rfl, hr2, B2⟩;replace B2 := below_then ((B1.alloc B1.size _).alloc (by have := B1.size; simp; omega) _) B2;go_wp2;go_ret2
 rw [EQ.out];exact ⟨_, rfl, hr2, B2⟩
set_option maxRecDepth 100000 in
set_option maxHeartbeats 2000000 in
theorem bytes_pdu_2 (v : Value) (q : Rq) (w : World) (h : IsRq w v q) (hr : rightE q = 0) (hf : q.fn = 2) :
  Calls Tryz.prog 77 #[v] w fun e w' => ∃ v', e = .returned (.tuple #[v', .int .i64 0]) ∧ Row w' v' ((bytesQ q).map bV) ∧ Below w.heap.size w w' := by
 obtain ⟨ab, capb, av, capv, rfl, -, -⟩ := h.slices;have W0 := hidden (fun o => (Below.refl w.heap.size w).alloc (Nat.le_refl _) o);have HQ := hidden (fun w' (hb : Below w.heap.size w w') => h.below hb);obtain ⟨vb, vv, hE, hb, hv⟩ := id h;obtain ⟨-, hform, ⟨n1, n2, n3, n4⟩, hlist⟩ := right_parts hr;have HR := hidden hr;obtain ⟨f, a, c, p, s, bs, vs, m, o⟩ := q;simp only [rqV, Value.agg.injEq, Array.mk.injEq, List.cons.injEq, and_true, true_and] at hE;obtain ⟨rfl, rfl⟩ := hE;simp only at hf n1 n2 n3 n4 HR HQ hb hv hlist ⊢;subst hf;have EQ := hidden (show bytesQ ⟨2, a, c, p, s, bs, vs, m, o⟩ = [2] ++ pwL [a, c] by simp [bytesQ, bodyQ, pwL]);clear hr h hform hlist;go_enter Tryz.func77, Tryz.ntmps77;go_wp2_with fail
 refine (right_pdu _ _ _ (HQ.out _ (W0.out _))).mono ?_;rintro e w1 ⟨rfl, B1⟩;rw [HR.out];have X := (Box.new w _ _ _ _ _ _ _ _ _ _).ext B1;replace B1 := below_then (W0.out _) B1;have X1 := hidden X;obtain ⟨lt, c0, c1, c2, c3, c4, c5, c6, c7, c8⟩ := X;go_wp2_with fail
 refine (put_pdu _ _ [2] [a, c] _ ((row_byte w1 2 _ rfl).below ((Below.refl _ _).alloc (Nat.le_refl _) _)) (by simpa using row_ints (w1.alloc (.cells #[.int .u8 2] 5)) [a, c] 2 rfl (by decide) _ rfl) (all_in1 (numB_in n1) (numB_in n4)) (by decide) (by simp)).mono ?_;rintro e w2 ⟨v2, rfl, hr2, B2⟩;replace B2 := below_then ((B1.alloc B1.size _).alloc (by have := B1.size; simp; omega) _) B2;go_wp2;go_ret2
 rw [EQ.out];exact ⟨_, rfl, hr2, B2⟩
set_option maxRecDepth 100000 in
set_option maxHeartbeats 2000000 in
theorem bytes_pdu_3 (v : Value) (q : Rq) (w : World) (h : IsRq w v q) (hr : rightE q = 0) (hf : q.fn = 3) :
  Calls Tryz.prog 77 #[v] w fun e w' => ∃ v', e = .returned (.tuple #[v', .int .i64 0]) ∧ Row w' v' ((bytesQ q).map bV) ∧ Below w.heap.size w w' := by
 obtain ⟨ab, capb, av, capv, rfl, -, -⟩ := h.slices;have W0 := hidden (fun o => (Below.refl w.heap.size w).alloc (Nat.le_refl _) o);have HQ := hidden (fun w' (hb : Below w.heap.size w w') => h.below hb);obtain ⟨vb, vv, hE, hb, hv⟩ := id h;obtain ⟨-, hform, ⟨n1, n2, n3, n4⟩, hlist⟩ := right_parts hr;have HR := hidden hr;obtain ⟨f, a, c, p, s, bs, vs, m, o⟩ := q;simp only [rqV, Value.agg.injEq, Array.mk.injEq, List.cons.injEq, and_true, true_and] at hE;obtain ⟨rfl, rfl⟩ := hE;simp only at hf n1 n2 n3 n4 HR HQ hb hv hlist ⊢;subst hf;have EQ := hidden (show bytesQ ⟨3, a, c, p, s, bs, vs, m, o⟩ = [3] ++ pwL [a, c] by simp [bytesQ, bodyQ, pwL]);clear hr h hform hlist;go_enter Tryz.func77, Tryz.ntmps77;go_wp2_with fail
 refine (right_pdu _ _ _ (HQ.out _ (W0.out _))).mono ?_;rintro e w1 ⟨rfl, B1⟩;rw [HR.out];have X := (Box.new w _ _ _ _ _ _ _ _ _ _).ext B1;replace B1 := below_then (W0.out _) B1;have X1 := hidden X;obtain ⟨lt, c0, c1, c2, c3, c4, c5, c6, c7, c8⟩ := X;go_wp2_with fail
 refine (put_pdu _ _ [3] [a, c] _ ((row_byte w1 3 _ rfl).below ((Below.refl _ _).alloc (Nat.le_refl _) _)) (by simpa using row_ints (w1.alloc (.cells #[.int .u8 3] 5)) [a, c] 2 rfl (by decide) _ rfl) (all_in1 (numB_in n1) (numB_in n4)) (by decide) (by simp)).mono ?_;rintro e w2 ⟨v2, rfl, hr2, B2⟩;replace B2 := below_then ((B1.alloc B1.size _).alloc (by have := B1.size; simp; omega) _) B2;go_wp2;go_ret2
 rw [EQ.out];exact ⟨_, rfl, hr2, B2⟩
set_option maxRecDepth 100000 in
set_option maxHeartbeats 2000000 in
theorem bytes_pdu_4 (v : Value) (q : Rq) (w : World) (h : IsRq w v q) (hr : rightE q = 0) (hf : q.fn = 4) :
  Calls Tryz.prog 77 #[v] w fun e w' => ∃ v', e = .returned (.tuple #[v', .int .i64 0]) ∧ Row w' v' ((bytesQ q).map bV) ∧ Below w.heap.size w w' := by
 obtain ⟨ab, capb, av, capv, rfl, -, -⟩ := h.slices;have W0 := hidden (fun o => (Below.refl w.heap.size w).alloc (Nat.le_refl _) o);have HQ := hidden (fun w' (hb : Below w.heap.size w w') => h.below hb);obtain ⟨vb, vv, hE, hb, hv⟩ := id h;obtain ⟨-, hform, ⟨n1, n2, n3, n4⟩, hlist⟩ := right_parts hr;have HR := hidden hr;obtain ⟨f, a, c, p, s, bs, vs, m, o⟩ := q;simp only [rqV, Value.agg.injEq, Array.mk.injEq, List.cons.injEq, and_true, true_and] at hE;obtain ⟨rfl, rfl⟩ := hE;simp only at hf n1 n2 n3 n4 HR HQ hb hv hlist ⊢;subst hf;have EQ := hidden (show bytesQ ⟨4, a, c, p, s, bs, vs, m, o⟩ = [4] ++ pwL [a, c] by simp [bytesQ, bodyQ, pwL]);clear hr h hform hlist;go_enter Tryz.func77, Tryz.ntmps77;go_wp2_with fail
 refine (right_pdu _ _ _ (HQ.out _ (W0.out _))).mono ?_;rintro e w1 ⟨rfl, B1⟩;rw [HR.out];have X := (Box.new w _ _ _ _ _ _ _ _ _ _).ext B1;replace B1 := below_then (W0.out _) B1;have X1 := hidden X;obtain ⟨lt, c0, c1, c2, c3, c4, c5, c6, c7, c8⟩ := X;go_wp2_with fail
 refine (put_pdu _ _ [4] [a, c] _ ((row_byte w1 4 _ rfl).below ((Below.refl _ _).alloc (Nat.le_refl _) _)) (by simpa using row_ints (w1.alloc (.cells #[.int .u8 4] 5)) [a, c] 2 rfl (by decide) _ rfl) (all_in1 (numB_in n1) (numB_in n4)) (by decide) (by simp)).mono ?_;rintro e w2 ⟨v2, rfl, hr2, B2⟩;replace B2 := below_then ((B1.alloc B1.size _).alloc (by have := B1.size; simp; omega) _) B2;go_wp2;go_ret2
 rw [EQ.out];exact ⟨_, rfl, hr2, B2⟩
set_option maxRecDepth 100000 in
set_option maxHeartbeats 2000000 in
theorem bytes_pdu_17 (v : Value) (q : Rq) (w : World) (h : IsRq w v q) (hr : rightE q = 0) (hf : q.fn = 17) :
  Calls Tryz.prog 77 #[v] w fun e w' => ∃ v', e = .returned (.tuple #[v', .int .i64 0]) ∧ Row w' v' ((bytesQ q).map bV) ∧ Below w.heap.size w w' := by
 obtain ⟨ab, capb, av, capv, rfl, -, -⟩ := h.slices;have W0 := hidden (fun o => (Below.refl w.heap.size w).alloc (Nat.le_refl _) o);have HQ := hidden (fun w' (hb : Below w.heap.size w w') => h.below hb);obtain ⟨vb, vv, hE, hb, hv⟩ := id h;obtain ⟨-, hform, ⟨n1, n2, n3, n4⟩, hlist⟩ := right_parts hr;have HR := hidden hr;obtain ⟨f, a, c, p, s, bs, vs, m, o⟩ := q;simp only [rqV, Value.agg.injEq, Array.mk.injEq, List.cons.injEq, and_true, true_and] at hE;obtain ⟨rfl, rfl⟩ := hE;simp only at hf n1 n2 n3 n4 HR HQ hb hv hlist ⊢;subst hf;have EQ := hidden (show bytesQ ⟨17, a, c, p, s, bs, vs, m, o⟩ = [17] by simp [bytesQ, bodyQ]);clear hr h hform hlist;go_enter Tryz.func77, Tryz.ntmps77;go_wp2_with fail
 refine (right_pdu _ _ _ (HQ.out _ (W0.out _))).mono ?_;rintro e w1 ⟨rfl, B1⟩;rw [HR.out];have X := (Box.new w _ _ _ _ _ _ _ _ _ _).ext B1;replace B1 := below_then (W0.out _) B1;have X1 := hidden X;obtain ⟨lt, c0, c1, c2, c3, c4, c5, c6, c7, c8⟩ := X;go_wp2;go_ret2
 rw [EQ.out];exact ⟨_, rfl, row_byte w1 17 _ rfl, B1.alloc B1.size _⟩
set_option maxRecDepth 100000 in
set_option maxHeartbeats 2000000 in
theorem bytes_pdu_22 (v : Value) (q : Rq) (w : World) (h : IsRq w v q) (hr : rightE q = 0) (hf : q.fn = 22) :
  Calls Tryz.prog 77 #[v] w fun e w' => ∃ v', e = .returned (.tuple #[v', .int .i64 0]) ∧ Row w' v' ((bytesQ q).map bV) ∧ Below w.heap.size w w' := by
 obtain ⟨ab, capb, av, capv, rfl, -, -⟩ := h.slices;have W0 := hidden (fun o => (Below.refl w.heap.size w).alloc (Nat.le_refl _) o);have HQ := hidden (fun w' (hb : Below w.heap.size w w') => h.below hb);obtain ⟨vb, vv, hE, hb, hv⟩ := id h;obtain ⟨-, hform, ⟨n1, n2, n3, n4⟩, hlist⟩ := right_parts hr;have HR := hidden hr;obtain ⟨f, a, c, p, s, bs, vs, m, o⟩ := q;simp only [rqV, Value.agg.injEq, Array.mk.injEq, List.cons.injEq, and_true, true_and] at hE;obtain ⟨rfl, rfl⟩ := hE;simp only at hf n1 n2 n3 n4 HR HQ hb hv hlist ⊢;subst hf;have EQ := hidden (show bytesQ ⟨22, a, c, p, s, bs, vs, m, o⟩ = [22] ++ pwL [a, (m.toNat : Int), (o.toNat : Int)] by simp [bytesQ, bodyQ, pwL]);have hm := m.toNat_lt;have ho := o.toNat_lt;clear hr h hform hlist;go_enter Tryz.func77, Tryz.ntmps77;go_wp2_with fail
 refine (right_pdu _ _ _ (HQ.out _ (W0.out _))).mono ?_;rintro e w1 ⟨rfl, B1⟩;rw [HR.out];have X := (Box.new w _ _ _ _ _ _ _ _ _ _).ext B1;replace B1 := below_then (W0.out _) B1;have X1 := hidden X;obtain ⟨lt, c0, c1, c2, c3, c4, c5, c6, c7, c8⟩ := X;go_wp2_with fail
 refine (put_pdu _ _ [22] [a, (m.toNat : Int), (o.toNat : Int)] _ ((row_byte w1 22 _ rfl).below ((Below.refl _ _).alloc (Nat.le_refl _) _)) (by simpa using row_ints (w1.alloc (.cells #[.int .u8 22] 5)) [a, (m.toNat : Int), (o.toNat : Int)] 3 rfl (by decide) _ rfl) (all_in3 (numB_in n1) (val_in m) (val_in o)) (by decide) (by simp)).mono ?_;rintro e w2 ⟨v2, rfl, hr2, B2⟩;replace B2 := below_then ((B1.alloc B1.size _).alloc (by have := B1.size; simp; omega) _) B2;go_wp2;go_ret2
 rw [EQ.out];exact ⟨_, rfl, hr2, B2⟩
set_option maxRecDepth 100000 in
set_option maxHeartbeats 2000000 in
theorem bytes_pdu_5 (v : Value) (q : Rq) (w : World) (h : IsRq w v q) (hr : rightE q = 0) (hf : q.fn = 5) :
  Calls Tryz.prog 77 #[v] w fun e w' => ∃ v', e = .returned (.tuple #[v', .int .i64 0]) ∧ Row w' v' ((bytesQ q).map bV) ∧ Below w.heap.size w w' := by
 obtain ⟨ab, capb, av, capv, rfl, -, -⟩ := h.slices;have W0 := hidden (fun o => (Below.refl w.heap.size w).alloc (Nat.le_refl _) o);have HQ := hidden (fun w' (hb : Below w.heap.size w w') => h.below hb);obtain ⟨vb, vv, hE, hb, hv⟩ := id h;obtain ⟨-, hform, ⟨n1, n2, n3, n4⟩, hlist⟩ := right_parts hr;have HR := hidden hr;obtain ⟨f, a, c, p, s, bs, vs, m, o⟩ := q;simp only [rqV, Value.agg.injEq, Array.mk.injEq, List.cons.injEq, and_true, true_and] at hE;obtain ⟨rfl, rfl⟩ := hE;simp only at hf n1 n2 n3 n4 HR HQ hb hv hlist ⊢;subst hf;obtain ⟨x, rfl⟩ := one_of_len (show bs.length = 1 by simpa [listB] using hlist);have EQ := hidden (show bytesQ ⟨5, a, c, p, s, [x], vs, m, o⟩ = [5] ++ pwL [a, if x then 65280 else 0] by simp [bytesQ, bodyQ, pwL]);clear hr h hform hlist;go_enter Tryz.func77, Tryz.ntmps77;go_wp2_with fail
 refine (right_pdu _ _ _ (HQ.out _ (W0.out _))).mono ?_;rintro e w1 ⟨rfl, B1⟩;rw [HR.out];have X := (Box.new w _ _ _ _ _ _ _ _ _ _).ext B1;replace B1 := below_then (W0.out _) B1;have X1 := hidden X;obtain ⟨lt, c0, c1, c2, c3, c4, c5, c6, c7, c8⟩ := X;go_wp2;refine wp_region_pi [(0, true), (1, true), (2, true), (3, true), (4, true), (5, true), (6, true), (7, false), (8, false), (9, false), (10, true)] (by kernel_rfl) (by kernel_rfl) (by kernel_rfl) (fun _ _ _ d _ h => by cases d <;> exact h) ?_;have B2 := (B1.alloc B1.size (.cells #[.int .u8 5] 5)).drew;have R2 := (row_byte w1 5 5 rfl).drew;have X2 := hidden (X1.out.below ((Below.refl w1.heap.size w1).alloc (Nat.le_refl _) (.cells #[.int .u8 5] 5)).drew lt);have x2 := Ext.refl (w1.alloc (.cells #[.int .u8 5] 5)).drew;clear c0 c1 c2 c3 c4 c5 c6 c7 c8 X1;generalize hw2 : (w1.alloc (.cells #[.int .u8 5] 5)).drew = w2 at *;have hb2 := hidden (hb.below B2);have hv2 := hidden (hv.below B2);obtain ⟨b, off, capx, hE, -⟩ := row_one hb2.out;simp only [List.length_cons, List.length_nil, Nat.zero_add, Value.slice.injEq] at hE;obtain ⟨rfl, -, rfl⟩ := hE;have Y2 : Hid (∀ w', Ext w2 w' → w'.cell? ⟨b, off, none⟩ = some (.bool x)) := fun w' hx => by
  obtain ⟨_, _, _, hE, h⟩ := row_one (hb2.out.below hx);simp at hE; obtain ⟨⟨rfl, rfl⟩, -⟩ := hE; exact h
 iterate 7 (first | (refine pi_P x2 rfl ?_) | (refine pi_R x2 rfl (fun w' hx => by obtain ⟨d, c0, c1, c2, c3, c4, c5, c6, c7, c8⟩ := X2.out.ext hx; have y := Y2.out w' hx; go_simp; with_reducible rfl) ?_))
 refine pi_move rfl (by kernel_rfl) (fun K hK => ?_);go_wp2_with fail
 refine (coil_pdu _ _).mono ?_;rintro e w3 ⟨rfl, rfl⟩;go_simp;refine hK.out _ _ x2 ?_;clear K hK;try simp only [Act.put, PuA, PuB, PuC]
 obtain ⟨n, hn⟩ : ∃ n : Int, (if x then 65280 else 0) = n := ⟨_, rfl⟩;have hn2 : numB n = true := by subst hn; cases x <;> decide
 simp only [hn] at EQ ⊢;refine pi_move rfl (by kernel_rfl) (fun K hK => ?_);go_simp;have B3 := B2.alloc B2.size (.cells #[.int .i64 a, .int .i64 n] 3);have E3 := (Below.refl w2.heap.size w2).alloc (Nat.le_refl _) (.cells #[.int .i64 a, .int .i64 n] 3);refine hK.out _ _ E3 ?_;clear K hK;try simp only [Act.put, PuA, PuB, PuC]
 refine pi_move rfl (by kernel_rfl) (fun K hK => ?_);go_wp2_with fail
 refine (put_pdu _ _ [5] [a, n] _ (R2.below E3) (row_ints w2 [a, n] 2 rfl (by decide) #[.int .i64 a, .int .i64 n] rfl) (all_in1 (numB_in n1) (numB_in hn2)) (by decide) (by simp)).mono ?_;rintro e w4 ⟨v4, rfl, hr2, B4⟩;go_simp;have E4 := Ext.trans E3 B4;refine hK.out _ _ E4 ?_;clear K hK;try simp only [Act.put, PuA, PuB, PuC]
 replace B2 := below_then B3 B4;iterate 1 (refine pi_P E4 rfl ?_)
 refine pi_nil ?_;go_wp2;go_ret2
 rw [EQ.out];exact ⟨_, rfl, hr2, B2⟩
set_option maxRecDepth 100000 in
set_option maxHeartbeats 2000000 in
theorem bytes_pdu_6 (v : Value) (q : Rq) (w : World) (h : IsRq w v q) (hr : rightE q = 0) (hf : q.fn = 6) :
  Calls Tryz.prog 77 #[v] w fun e w' => ∃ v', e = .returned (.tuple #[v', .int .i64 0]) ∧ Row w' v' ((bytesQ q).map bV) ∧ Below w.heap.size w w' := by
 obtain ⟨ab, capb, av, capv, rfl, -, -⟩ := h.slices;have W0 := hidden (fun o => (Below.refl w.heap.size w).alloc (Nat.le_refl _) o);have HQ := hidden (fun w' (hb : Below w.heap.size w w') => h.below hb);obtain ⟨vb, vv, hE, hb, hv⟩ := id h;obtain ⟨-, hform, ⟨n1, n2, n3, n4⟩, hlist⟩ := right_parts hr;have HR := hidden hr;obtain ⟨f, a, c, p, s, bs, vs, m, o⟩ := q;simp only [rqV, Value.agg.injEq, Array.mk.injEq, List.cons.injEq, and_true, true_and] at hE;obtain ⟨rfl, rfl⟩ := hE;simp only at hf n1 n2 n3 n4 HR HQ hb hv hlist ⊢;subst hf;obtain ⟨x, rfl⟩ := one_of_len (show vs.length = 1 by simpa [listB] using hlist);have EQ := hidden (show bytesQ ⟨6, a, c, p, s, bs, [x], m, o⟩ = [6] ++ pwL [a, (x.toNat : Int)] by simp [bytesQ, bodyQ, pwL]);have hxl := x.toNat_lt;have WX := hidden (show IntKind.i64.wrap (x.toNat : Int) = x.toNat by rw [IntKind.wrap_i64]; omega);clear hr h hform hlist;go_enter Tryz.func77, Tryz.ntmps77;go_wp2_with fail
 refine (right_pdu _ _ _ (HQ.out _ (W0.out _))).mono ?_;rintro e w1 ⟨rfl, B1⟩;rw [HR.out];have X := (Box.new w _ _ _ _ _ _ _ _ _ _).ext B1;replace B1 := below_then (W0.out _) B1;have X1 := hidden X;obtain ⟨lt, c0, c1, c2, c3, c4, c5, c6, c7, c8⟩ := X;go_wp2;refine wp_region_pi [(0, true), (1, true), (2, true), (3, true), (4, true), (5, true), (6, true), (7, true), (8, false), (9, false), (10, true)] (by kernel_rfl) (by kernel_rfl) (by kernel_rfl) (fun _ _ _ d _ h => by cases d <;> exact h) ?_;have B2 := (B1.alloc B1.size (.cells #[.int .u8 6] 5)).drew;have R2 := (row_byte w1 6 6 rfl).drew;have X2 := hidden (X1.out.below ((Below.refl w1.heap.size w1).alloc (Nat.le_refl _) (.cells #[.int .u8 6] 5)).drew lt);have x2 := Ext.refl (w1.alloc (.cells #[.int .u8 6] 5)).drew;clear c0 c1 c2 c3 c4 c5 c6 c7 c8 X1;generalize hw2 : (w1.alloc (.cells #[.int .u8 6] 5)).drew = w2 at *;have hb2 := hidden (hb.below B2);have hv2 := hidden (hv.below B2);obtain ⟨b, off, capx, hE, -⟩ := row_one hv2.out;simp only [List.length_cons, List.length_nil, Nat.zero_add, Value.slice.injEq] at hE;obtain ⟨rfl, -, rfl⟩ := hE;have Y2 : Hid (∀ w', Ext w2 w' → w'.cell? ⟨b, off, none⟩ = some (wV x)) := fun w' hx => by
  obtain ⟨_, _, _, hE, h⟩ := row_one (hv2.out.below hx);simp at hE; obtain ⟨⟨rfl, rfl⟩, -⟩ := hE; exact h
 iterate 8 (first | (refine pi_pure x2 rfl (by kernel_rfl) (fun w' => by have wx := WX.out; go_simp; with_reducible rfl) ?_; try simp only [Act.put, PuA, PuB, PuC]) | (refine pi_R x2 rfl (fun w' hx => by obtain ⟨d, c0, c1, c2, c3, c4, c5, c6, c7, c8⟩ := X2.out.ext hx; have y := Y2.out w' hx; have wx := WX.out; go_simp; with_reducible rfl) ?_))
 refine pi_move rfl (by kernel_rfl) (fun K hK => ?_);go_simp;have B3 := B2.alloc B2.size (.cells #[.int .i64 a, .int .i64 x.toNat] 3);have E3 := (Below.refl w2.heap.size w2).alloc (Nat.le_refl _) (.cells #[.int .i64 a, .int .i64 x.toNat] 3);refine hK.out _ _ E3 ?_;clear K hK;try simp only [Act.put, PuA, PuB, PuC]
 refine pi_move rfl (by kernel_rfl) (fun K hK => ?_);go_wp2_with fail
 refine (put_pdu _ _ [6] [a, (x.toNat : Int)] _ (R2.below E3) (row_ints w2 [a, (x.toNat : Int)] 2 rfl (by decide) #[.int .i64 a, .int .i64 x.toNat] rfl) (all_in1 (numB_in n1) (val_in x)) (by decide) (by simp)).mono ?_;rintro e w4 ⟨v4, rfl, hr2, B4⟩;go_simp;have E4 := Ext.trans E3 B4;refine hK.out _ _ E4 ?_;clear K hK;try simp only [Act.put, PuA, PuB, PuC]
 replace B2 := below_then B3 B4;iterate 1 (refine pi_P E4 rfl ?_)
 refine pi_nil ?_;go_wp2;go_ret2
 rw [EQ.out];exact ⟨_, rfl, hr2, B2⟩
set_option maxRecDepth 100000 in
set_option maxHeartbeats 2000000 in
theorem bytes_pdu_8 (v : Value) (q : Rq) (w : World) (h : IsRq w v q) (hr : rightE q = 0) (hf : q.fn = 8) :
  Calls Tryz.prog 77 #[v] w fun e w' => ∃ v', e = .returned (.tuple #[v', .int .i64 0]) ∧ Row w' v' ((bytesQ q).map bV) ∧ Below w.heap.size w w' := by
 obtain ⟨ab, capb, av, capv, rfl, -, -⟩ := h.slices;have W0 := hidden (fun o => (Below.refl w.heap.size w).alloc (Nat.le_refl _) o);have HQ := hidden (fun w' (hb : Below w.heap.size w w') => h.below hb);obtain ⟨vb, vv, hE, hb, hv⟩ := id h;obtain ⟨-, hform, ⟨n1, n2, n3, n4⟩, hlist⟩ := right_parts hr;have HR := hidden hr;obtain ⟨f, a, c, p, s, bs, vs, m, o⟩ := q;simp only [rqV, Value.agg.injEq, Array.mk.injEq, List.cons.injEq, and_true, true_and] at hE;obtain ⟨rfl, rfl⟩ := hE;simp only at hf n1 n2 n3 n4 HR HQ hb hv hlist ⊢;subst hf;obtain ⟨x, rfl⟩ := one_of_len (show vs.length = 1 by simpa [listB] using hlist);have EQ := hidden (show bytesQ ⟨8, a, c, p, s, bs, [x], m, o⟩ = [8] ++ pwL [s, (x.toNat : Int)] by simp [bytesQ, bodyQ, pwL]);have hxl := x.toNat_lt;have WX := hidden (show IntKind.i64.wrap (x.toNat : Int) = x.toNat by rw [IntKind.wrap_i64]; omega);clear hr h hform hlist;go_enter Tryz.func77, Tryz.ntmps77;go_wp2_with fail
 refine (right_pdu _ _ _ (HQ.out _ (W0.out _))).mono ?_;rintro e w1 ⟨rfl, B1⟩;rw [HR.out];have X := (Box.new w _ _ _ _ _ _ _ _ _ _).ext B1;replace B1 := below_then (W0.out _) B1;have X1 := hidden X;obtain ⟨lt, c0, c1, c2, c3, c4, c5, c6, c7, c8⟩ := X;go_wp2;refine wp_region_pi [(0, true), (1, true), (2, true), (3, true), (4, true), (5, true), (6, true), (7, true), (8, false), (9, false), (10, true)] (by kernel_rfl) (by kernel_rfl) (by kernel_rfl) (fun _ _ _ d _ h => by cases d <;> exact h) ?_;have B2 := (B1.alloc B1.size (.cells #[.int .u8 8] 5)).drew;have R2 := (row_byte w1 8 8 rfl).drew;have X2 := hidden (X1.out.below ((Below.refl w1.heap.size w1).alloc (Nat.le_refl _) (.cells #[.int .u8 8] 5)).drew lt);have x2 := Ext.refl (w1.alloc (.cells #[.int .u8 8] 5)).drew;clear c0 c1 c2 c3 c4 c5 c6 c7 c8 X1;generalize hw2 : (w1.alloc (.cells #[.int .u8 8] 5)).drew = w2 at *;have hb2 := hidden (hb.below B2);have hv2 := hidden (hv.below B2);obtain ⟨b, off, capx, hE, -⟩ := row_one hv2.out;simp only [List.length_cons, List.length_nil, Nat.zero_add, Value.slice.injEq] at hE;obtain ⟨rfl, -, rfl⟩ := hE;have Y2 : Hid (∀ w', Ext w2 w' → w'.cell? ⟨b, off, none⟩ = some (wV x)) := fun w' hx => by
  obtain ⟨_, _, _, hE, h⟩ := row_one (hv2.out.below hx);simp at hE; obtain ⟨⟨rfl, rfl⟩, -⟩ := hE; exact h
 iterate 8 (first | (refine pi_pure x2 rfl (by kernel_rfl) (fun w' => by have wx := WX.out; go_simp; with_reducible rfl) ?_; try simp only [Act.put, PuA, PuB, PuC]) | (refine pi_R x2 rfl (fun w' hx => by obtain ⟨d, c0, c1, c2, c3, c4, c5, c6, c7, c8⟩ := X2.out.ext hx; have y := Y2.out w' hx; have wx := WX.out; go_simp; with_reducible rfl) ?_))
 refine pi_move rfl (by kernel_rfl) (fun K hK => ?_);go_simp;have B3 := B2.alloc B2.size (.cells #[.int .i64 s, .int .i64 x.toNat] 3);have E3 := (Below.refl w2.heap.size w2).alloc (Nat.le_refl _) (.cells #[.int .i64 s, .int .i64 x.toNat] 3);refine hK.out _ _ E3 ?_;clear K hK;try simp only [Act.put, PuA, PuB, PuC]
 refine pi_move rfl (by kernel_rfl) (fun K hK => ?_);go_wp2_with fail
 refine (put_pdu _ _ [8] [s, (x.toNat : Int)] _ (R2.below E3) (row_ints w2 [s, (x.toNat : Int)] 2 rfl (by decide) #[.int .i64 s, .int .i64 x.toNat] rfl) (all_in1 (numB_in n3) (val_in x)) (by decide) (by simp)).mono ?_;rintro e w4 ⟨v4, rfl, hr2, B4⟩;go_simp;have E4 := Ext.trans E3 B4;refine hK.out _ _ E4 ?_;clear K hK;try simp only [Act.put, PuA, PuB, PuC]
 replace B2 := below_then B3 B4;iterate 1 (refine pi_P E4 rfl ?_)
 refine pi_nil ?_;go_wp2;go_ret2
 rw [EQ.out];exact ⟨_, rfl, hr2, B2⟩
set_option maxRecDepth 100000 in
set_option maxHeartbeats 2000000 in
theorem bytes_pdu_15 (v : Value) (q : Rq) (w : World) (h : IsRq w v q) (hr : rightE q = 0) (hf : q.fn = 15) :
  Calls Tryz.prog 77 #[v] w fun e w' => ∃ v', e = .returned (.tuple #[v', .int .i64 0]) ∧ Row w' v' ((bytesQ q).map bV) ∧ Below w.heap.size w w' := by
 obtain ⟨ab, capb, av, capv, rfl, -, -⟩ := h.slices;have W0 := hidden (fun o => (Below.refl w.heap.size w).alloc (Nat.le_refl _) o);have HQ := hidden (fun w' (hb : Below w.heap.size w w') => h.below hb);obtain ⟨vb, vv, hE, hb, hv⟩ := id h;obtain ⟨-, hform, ⟨n1, n2, n3, n4⟩, hlist⟩ := right_parts hr;have HR := hidden hr;obtain ⟨f, a, c, p, s, bs, vs, m, o⟩ := q;simp only [rqV, Value.agg.injEq, Array.mk.injEq, List.cons.injEq, and_true, true_and] at hE;obtain ⟨rfl, rfl⟩ := hE;simp only at hf n1 n2 n3 n4 HR HQ hb hv hlist ⊢;subst hf;have hl2 : bs.length ≤ 2040 := by simp [listB] at hlist; omega
 have EQ := hidden (show bytesQ ⟨15, a, c, p, s, bs, vs, m, o⟩ = ([15] ++ pwL [a, c]) ++ cntL (packL bs) by simp [bytesQ, bodyQ, pwL]);clear hr h hform hlist;go_enter Tryz.func77, Tryz.ntmps77;go_wp2_with fail
 refine (right_pdu _ _ _ (HQ.out _ (W0.out _))).mono ?_;rintro e w1 ⟨rfl, B1⟩;rw [HR.out];have X := (Box.new w _ _ _ _ _ _ _ _ _ _).ext B1;replace B1 := below_then (W0.out _) B1;have X1 := hidden X;obtain ⟨lt, c0, c1, c2, c3, c4, c5, c6, c7, c8⟩ := X;go_wp2;refine wp_region_pi [(0, true), (1, true), (2, true), (3, true), (4, true), (7, true), (8, true), (5, false), (6, false), (9, false), (10, false), (11, true)] (by kernel_rfl) (by kernel_rfl) (by kernel_rfl) (fun _ _ _ d _ h => by cases d <;> exact h) ?_;have B2 := (B1.alloc B1.size (.cells #[.int .u8 15] 5)).drew;have R2 := (row_byte w1 15 15 rfl).drew;have X2 := hidden (X1.out.below ((Below.refl w1.heap.size w1).alloc (Nat.le_refl _) (.cells #[.int .u8 15] 5)).drew lt);have x2 := Ext.refl (w1.alloc (.cells #[.int .u8 15] 5)).drew;clear c0 c1 c2 c3 c4 c5 c6 c7 c8 X1;generalize hw2 : (w1.alloc (.cells #[.int .u8 15] 5)).drew = w2 at *;have hb2 := hidden (hb.below B2);have hv2 := hidden (hv.below B2);iterate 7 (first | (refine pi_P x2 rfl ?_) | (refine pi_R x2 rfl (fun w' hx => by obtain ⟨d, c0, c1, c2, c3, c4, c5, c6, c7, c8⟩ := X2.out.ext hx; go_simp; with_reducible rfl) ?_))
 refine pi_move rfl (by kernel_rfl) (fun K hK => ?_);go_simp;have B3 := B2.alloc B2.size (.cells #[.int .i64 a, .int .i64 c] 3);have E3 := (Below.refl w2.heap.size w2).alloc (Nat.le_refl _) (.cells #[.int .i64 a, .int .i64 c] 3);refine hK.out _ _ E3 ?_;clear K hK;try simp only [Act.put, PuA, PuB, PuC]
 refine pi_move rfl (by kernel_rfl) (fun K hK => ?_);go_wp2_with fail
 refine (put_pdu _ _ [15] [a, c] _ (R2.below E3) (row_ints w2 [a, c] 2 rfl (by decide) #[.int .i64 a, .int .i64 c] rfl) (all_in1 (numB_in n1) (numB_in n4)) (by decide) (by simp)).mono ?_;rintro e w4 ⟨v4, rfl, hr4, B4⟩;go_simp;have E4 := Ext.trans E3 B4;refine hK.out _ _ E4 ?_;clear K hK;try simp only [Act.put, PuA, PuB, PuC]
 replace B4 := below_then B3 B4;refine pi_move rfl (by kernel_rfl) (fun K hK => ?_);go_wp2_with fail
 refine (pack_any _ bs _ (hb2.out.below E4) (by omega)).mono ?_;rintro e w5 ⟨v5, rfl, hr5, B5⟩;go_simp;have E5 := Ext.trans E4 B5;refine hK.out _ _ E5 ?_;clear K hK;try simp only [Act.put, PuA, PuB, PuC]
 replace hr4 := hr4.below B5;replace B5 := below_then B4 B5;refine pi_move rfl (by kernel_rfl) (fun K hK => ?_);go_wp2_with fail
 refine (counted_pdu _ _ _ (packL bs) _ hr4 hr5 (by simp [pwL_len]) (by rw [packL_len]; omega)).mono ?_;rintro e w6 ⟨v6, rfl, hr2, B6⟩;go_simp;have E6 := Ext.trans E5 B6;refine hK.out _ _ E6 ?_;clear K hK;try simp only [Act.put, PuA, PuB, PuC]
 replace B2 := below_then B5 B6;iterate 1 (refine pi_P E6 rfl ?_)
 refine pi_nil ?_;go_wp2;go_ret2
 rw [EQ.out];exact ⟨_, rfl, hr2, B2⟩
set_option maxRecDepth 100000 in
set_option maxHeartbeats 2000000 in
theorem bytes_pdu_16 (v : Value) (q : Rq) (w : World) (h : IsRq w v q) (hr : rightE q = 0) (hf : q.fn = 16) :
  Calls Tryz.prog 77 #[v] w fun e w' => ∃ v', e = .returned (.tuple #[v', .int .i64 0]) ∧ Row w' v' ((bytesQ q).map bV) ∧ Below w.heap.size w w' := by
 obtain ⟨ab, capb, av, capv, rfl, -, -⟩ := h.slices;have W0 := hidden (fun o => (Below.refl w.heap.size w).alloc (Nat.le_refl _) o);have HQ := hidden (fun w' (hb : Below w.heap.size w w') => h.below hb);obtain ⟨vb, vv, hE, hb, hv⟩ := id h;obtain ⟨-, hform, ⟨n1, n2, n3, n4⟩, hlist⟩ := right_parts hr;have HR := hidden hr;obtain ⟨f, a, c, p, s, bs, vs, m, o⟩ := q;simp only [rqV, Value.agg.injEq, Array.mk.injEq, List.cons.injEq, and_true, true_and] at hE;obtain ⟨rfl, rfl⟩ := hE;simp only at hf n1 n2 n3 n4 HR HQ hb hv hlist ⊢;subst hf;have hl2 : vs.length ≤ 127 := by simp [listB] at hlist; omega
 have EQ := hidden (show bytesQ ⟨16, a, c, p, s, bs, vs, m, o⟩ = ([16] ++ pwL [a, c]) ++ cntL (bytesL vs) by simp [bytesQ, bodyQ, pwL]);clear hr h hform hlist;go_enter Tryz.func77, Tryz.ntmps77;go_wp2_with fail
 refine (right_pdu _ _ _ (HQ.out _ (W0.out _))).mono ?_;rintro e w1 ⟨rfl, B1⟩;rw [HR.out];have X := (Box.new w _ _ _ _ _ _ _ _ _ _).ext B1;replace B1 := below_then (W0.out _) B1;have X1 := hidden X;obtain ⟨lt, c0, c1, c2, c3, c4, c5, c6, c7, c8⟩ := X;go_wp2;refine wp_region_pi [(0, true), (1, true), (2, true), (3, true), (4, true), (7, true), (8, true), (5, false), (6, false), (9, false), (10, false), (11, true)] (by kernel_rfl) (by kernel_rfl) (by kernel_rfl) (fun _ _ _ d _ h => by cases d <;> exact h) ?_;have B2 := (B1.alloc B1.size (.cells #[.int .u8 16] 5)).drew;have R2 := (row_byte w1 16 16 rfl).drew;have X2 := hidden (X1.out.below ((Below.refl w1.heap.size w1).alloc (Nat.le_refl _) (.cells #[.int .u8 16] 5)).drew lt);have x2 := Ext.refl (w1.alloc (.cells #[.int .u8 16] 5)).drew;clear c0 c1 c2 c3 c4 c5 c6 c7 c8 X1;generalize hw2 : (w1.alloc (.cells #[.int .u8 16] 5)).drew = w2 at *;have hb2 := hidden (hb.below B2);have hv2 := hidden (hv.below B2);iterate 7 (first | (refine pi_P x2 rfl ?_) | (refine pi_R x2 rfl (fun w' hx => by obtain ⟨d, c0, c1, c2, c3, c4, c5, c6, c7, c8⟩ := X2.out.ext hx; go_simp; with_reducible rfl) ?_))
 refine pi_move rfl (by kernel_rfl) (fun K hK => ?_);go_simp;have B3 := B2.alloc B2.size (.cells #[.int .i64 a, .int .i64 c] 3);have E3 := (Below.refl w2.heap.size w2).alloc (Nat.le_refl _) (.cells #[.int .i64 a, .int .i64 c] 3);refine hK.out _ _ E3 ?_;clear K hK;try simp only [Act.put, PuA, PuB, PuC]
 refine pi_move rfl (by kernel_rfl) (fun K hK => ?_);go_wp2_with fail
 refine (put_pdu _ _ [16] [a, c] _ (R2.below E3) (row_ints w2 [a, c] 2 rfl (by decide) #[.int .i64 a, .int .i64 c] rfl) (all_in1 (numB_in n1) (numB_in n4)) (by decide) (by simp)).mono ?_;rintro e w4 ⟨v4, rfl, hr4, B4⟩;go_simp;have E4 := Ext.trans E3 B4;refine hK.out _ _ E4 ?_;clear K hK;try simp only [Act.put, PuA, PuB, PuC]
 replace B4 := below_then B3 B4;refine pi_move rfl (by kernel_rfl) (fun K hK => ?_);go_wp2_with fail
 refine (bytes_any _ vs _ (hv2.out.below E4) (by omega)).mono ?_;rintro e w5 ⟨v5, rfl, hr5, B5⟩;go_simp;have E5 := Ext.trans E4 B5;refine hK.out _ _ E5 ?_;clear K hK;try simp only [Act.put, PuA, PuB, PuC]
 replace hr4 := hr4.below B5;replace B5 := below_then B4 B5;refine pi_move rfl (by kernel_rfl) (fun K hK => ?_);go_wp2_with fail
 refine (counted_pdu _ _ _ (bytesL vs) _ hr4 hr5 (by simp [pwL_len]) (by rw [bytesL_len]; omega)).mono ?_;rintro e w6 ⟨v6, rfl, hr2, B6⟩;go_simp;have E6 := Ext.trans E5 B6;refine hK.out _ _ E6 ?_;clear K hK;try simp only [Act.put, PuA, PuB, PuC]
 replace B2 := below_then B5 B6;iterate 1 (refine pi_P E6 rfl ?_)
 refine pi_nil ?_;go_wp2;go_ret2
 rw [EQ.out];exact ⟨_, rfl, hr2, B2⟩
set_option maxRecDepth 100000 in
set_option maxHeartbeats 2000000 in
theorem bytes_pdu_23 (v : Value) (q : Rq) (w : World) (h : IsRq w v q) (hr : rightE q = 0) (hf : q.fn = 23) :
  Calls Tryz.prog 77 #[v] w fun e w' => ∃ v', e = .returned (.tuple #[v', .int .i64 0]) ∧ Row w' v' ((bytesQ q).map bV) ∧ Below w.heap.size w w' := by
 obtain ⟨ab, capb, av, capv, rfl, -, -⟩ := h.slices;have W0 := hidden (fun o => (Below.refl w.heap.size w).alloc (Nat.le_refl _) o);have HQ := hidden (fun w' (hb : Below w.heap.size w w') => h.below hb);obtain ⟨vb, vv, hE, hb, hv⟩ := id h;obtain ⟨-, hform, ⟨n1, n2, n3, n4⟩, hlist⟩ := right_parts hr;have HR := hidden hr;obtain ⟨f, a, c, p, s, bs, vs, m, o⟩ := q;simp only [rqV, Value.agg.injEq, Array.mk.injEq, List.cons.injEq, and_true, true_and] at hE;obtain ⟨rfl, rfl⟩ := hE;simp only at hf n1 n2 n3 n4 HR HQ hb hv hlist ⊢;subst hf;have hl2 : vs.length ≤ 127 := by simp [listB] at hlist; omega
 have EQ := hidden (show bytesQ ⟨23, a, c, p, s, bs, vs, m, o⟩ = ([23] ++ pwL [a, c, p, (vs.length : Int)]) ++ cntL (bytesL vs) by simp [bytesQ, bodyQ, pwL]);clear hr h hform hlist;go_enter Tryz.func77, Tryz.ntmps77;go_wp2_with fail
 refine (right_pdu _ _ _ (HQ.out _ (W0.out _))).mono ?_;rintro e w1 ⟨rfl, B1⟩;rw [HR.out];have X := (Box.new w _ _ _ _ _ _ _ _ _ _).ext B1;replace B1 := below_then (W0.out _) B1;have X1 := hidden X;obtain ⟨lt, c0, c1, c2, c3, c4, c5, c6, c7, c8⟩ := X;go_wp2;refine wp_region_pi [(0, true), (1, true), (2, true), (3, true), (4, true), (5, true), (6, true), (7, true), (8, true), (9, true), (12, true), (13, true), (10, false), (11, false), (14, false), (15, false), (16, true)] (by kernel_rfl) (by kernel_rfl) (by kernel_rfl) (fun _ _ _ d _ h => by cases d <;> exact h) ?_;have B2 := (B1.alloc B1.size (.cells #[.int .u8 23] 5)).drew;have R2 := (row_byte w1 23 23 rfl).drew;have X2 := hidden (X1.out.below ((Below.refl w1.heap.size w1).alloc (Nat.le_refl _) (.cells #[.int .u8 23] 5)).drew lt);have x2 := Ext.refl (w1.alloc (.cells #[.int .u8 23] 5)).drew;clear c0 c1 c2 c3 c4 c5 c6 c7 c8 X1;generalize hw2 : (w1.alloc (.cells #[.int .u8 23] 5)).drew = w2 at *;have hb2 := hidden (hb.below B2);have hv2 := hidden (hv.below B2);iterate 12 (first | (refine pi_P x2 rfl ?_) | (refine pi_R x2 rfl (fun w' hx => by obtain ⟨d, c0, c1, c2, c3, c4, c5, c6, c7, c8⟩ := X2.out.ext hx; go_simp; with_reducible rfl) ?_))
 refine pi_move rfl (by kernel_rfl) (fun K hK => ?_);go_simp;have B3 := B2.alloc B2.size (.cells #[.int .i64 a, .int .i64 c, .int .i64 p, .int .i64 vs.length] 3);have E3 := (Below.refl w2.heap.size w2).alloc (Nat.le_refl _) (.cells #[.int .i64 a, .int .i64 c, .int .i64 p, .int .i64 vs.length] 3);refine hK.out _ _ E3 ?_;clear K hK;try simp only [Act.put, PuA, PuB, PuC]
 refine pi_move rfl (by kernel_rfl) (fun K hK => ?_);go_wp2_with fail
 refine (put_pdu _ _ [23] [a, c, p, (vs.length : Int)] _ (R2.below E3) (row_ints w2 [a, c, p, (vs.length : Int)] 4 rfl (by decide) #[.int .i64 a, .int .i64 c, .int .i64 p, .int .i64 vs.length] rfl) (all_in4 (numB_in n1) (numB_in n4) (numB_in n2) (by omega)) (by decide) (by simp)).mono ?_;rintro e w4 ⟨v4, rfl, hr4, B4⟩;go_simp;have E4 := Ext.trans E3 B4;refine hK.out _ _ E4 ?_;clear K hK;try simp only [Act.put, PuA, PuB, PuC]
 replace B4 := below_then B3 B4;refine pi_move rfl (by kernel_rfl) (fun K hK => ?_);go_wp2_with fail
 refine (bytes_any _ vs _ (hv2.out.below E4) (by omega)).mono ?_;rintro e w5 ⟨v5, rfl, hr5, B5⟩;go_simp;have E5 := Ext.trans E4 B5;refine hK.out _ _ E5 ?_;clear K hK;try simp only [Act.put, PuA, PuB, PuC]
 replace hr4 := hr4.below B5;replace B5 := below_then B4 B5;refine pi_move rfl (by kernel_rfl) (fun K hK => ?_);go_wp2_with fail
 refine (counted_pdu _ _ _ (bytesL vs) _ hr4 hr5 (by simp [pwL_len]) (by rw [bytesL_len]; omega)).mono ?_;rintro e w6 ⟨v6, rfl, hr2, B6⟩;go_simp;have E6 := Ext.trans E5 B6;refine hK.out _ _ E6 ?_;clear K hK;try simp only [Act.put, PuA, PuB, PuC]
 replace B2 := below_then B5 B6;iterate 1 (refine pi_P E6 rfl ?_)
 refine pi_nil ?_;go_wp2;go_ret2
 rw [EQ.out];exact ⟨_, rfl, hr2, B2⟩
set_option maxHeartbeats 1000000 in
theorem bytes_pdu (v : Value) (q : Rq) (w : World) (h : IsRq w v q) :
  Calls Tryz.prog 77 #[v] w fun e w' => ∃ v', e = .returned (.tuple #[v', .int .i64 (rightE q)]) ∧ Row w' v' ((bytesR q).map bV) ∧ Below w.heap.size w w' := by
 by_cases hr : rightE q = 0
 ·
  rw [bytesR_0 hr, hr];rcases known_cases (right_parts hr).1 with e | e | e | e | e | e | e | e | e | e | e | e
  ·
   exact bytes_pdu_1 v q w h hr e
  ·
   exact bytes_pdu_2 v q w h hr e
  ·
   exact bytes_pdu_3 v q w h hr e
  ·
   exact bytes_pdu_4 v q w h hr e
  ·
   exact bytes_pdu_5 v q w h hr e
  ·
   exact bytes_pdu_6 v q w h hr e
  ·
   exact bytes_pdu_8 v q w h hr e
  ·
   exact bytes_pdu_15 v q w h hr e
  ·
   exact bytes_pdu_16 v q w h hr e
  ·
   exact bytes_pdu_17 v q w h hr e
  ·
   exact bytes_pdu_22 v q w h hr e
  ·
   exact bytes_pdu_23 v q w h hr e
 ·
  rw [bytesR_no hr];obtain ⟨ab, capb, av, capv, rfl, -, -⟩ := h.slices;have W0 := hidden (fun o => (Below.refl w.heap.size w).alloc (Nat.le_refl _) o);have HQ := hidden (fun w' (hb : Below w.heap.size w w') => h.below hb);have C := hidden (fun w' (hb : Below w.heap.size w w') => right_pdu _ _ _ (h.below hb));have t : (rightE q != 0) = true := by simpa using hr
  generalize rightE q = E at *;clear hr h;go_enter Tryz.func77, Tryz.ntmps77;go_wp2_with fail
  refine (C.out _ (W0.out _)).mono ?_;rintro e w1 ⟨rfl, B1⟩;replace B1 := below_then (W0.out _) B1;go_wp2;go_ret2
  exact ⟨_, rfl, Row.nil _, B1⟩
end Go.Proofs.YtdihcdphgiaepaaGreat
