/- The walk of burgagelaw7.SpanMeets. -/
import Derived.Test.YtdclbknahialcaaZC
namespace Go.Proofs.Ytdclbknahialcaa
open Go.RowKit

def NewBx (base : Nat) (t : TypeId) (v : Value) (w : World) : Prop := ∃ g, v = .pointer (some ⟨g, 0, none⟩) ∧ base ≤ g ∧ Bx w g t 0 0
theorem NewBx.ext {base : Nat} {t : TypeId} {v : Value} {w w' : World} (h : NewBx base t v w) (hx : Ext w w') : NewBx base t v w' := by
  obtain ⟨g, e, h1, h2⟩ := h
  exact ⟨g, e, h1, Bx.ext h2 hx⟩
theorem NewBx.mk {w0 : World} {t : TypeId} (w : World) (hx : Ext w0 w) : NewBx w0.heap.size t (.pointer (some ⟨w.heap.size, 0, none⟩)) (w.alloc (.cells #[.int .i64 0, .int .i64 0] t)) := ⟨_, rfl, hx.size, Bx.new w t 0 0⟩
theorem NewBx.ne {base : Nat} {t : TypeId} {u : Value} {w : World} (h : NewBx base t u w) : (.pointer (some ⟨w.heap.size, 0, none⟩) : Value) ≠ u := by
  obtain ⟨g, rfl, h1, h2⟩ := h
  intro e
  simp only [Value.pointer.injEq, Option.some.injEq, Addr.mk.injEq, and_true] at e
  have := h2.lt
  omega
def PsB (base : Nat) (t : TypeId) (_ : Nat) (v : Value) (w : World) : Prop := NewBx base t v w
def NeV (u v : Value) : Prop := u ≠ v
theorem NeV.symm (u v : Value) (h : NeV u v) : NeV v u := fun e => h e.symm
theorem mask_any (a : Int) (k : Nat) (hk : k < 62) (M : Int) (hM : M = ((2 ^ k - 1 : Nat) : Int)) : ∃ x, Hid (bits .and .i64 a M = x) ∧ 0 ≤ x ∧ x ≤ M := by
  subst hM
  refine ⟨_, i64_and_mask a k hk, Int.emod_nonneg _ (by have := Nat.two_pow_pos k; omega), ?_⟩
  have := Int.emod_lt_of_pos a (show (0 : Int) < ((2 ^ k : Nat) : Int) by have := Nat.two_pow_pos k; omega)
  have := Nat.two_pow_pos k
  omega

theorem three' (w : World) (t : TypeId) (a n b m c k : Int) : Bx (((w.alloc (.cells #[.int .i64 a, .int .i64 n] t)).alloc (.cells #[.int .i64 b, .int .i64 m] t)).alloc (.cells #[.int .i64 c, .int .i64 k] t)) w.heap.size t a n ∧
    Bx (((w.alloc (.cells #[.int .i64 a, .int .i64 n] t)).alloc (.cells #[.int .i64 b, .int .i64 m] t)).alloc (.cells #[.int .i64 c, .int .i64 k] t)) (w.heap.size + 1) t b m ∧
    Bx (((w.alloc (.cells #[.int .i64 a, .int .i64 n] t)).alloc (.cells #[.int .i64 b, .int .i64 m] t)).alloc (.cells #[.int .i64 c, .int .i64 k] t)) (w.heap.size + 1 + 1) t c k ∧
    Below w.heap.size w (((w.alloc (.cells #[.int .i64 a, .int .i64 n] t)).alloc (.cells #[.int .i64 b, .int .i64 m] t)).alloc (.cells #[.int .i64 c, .int .i64 k] t)) := by
  refine ⟨((Bx.new w t a n).alloc _).alloc _, ?_, ?_, (((Below.refl w.heap.size w).alloc (Nat.le_refl _) _).alloc (by simp) _).alloc (by simp; omega) _⟩
  · have := (Bx.new (w.alloc (.cells #[.int .i64 a, .int .i64 n] t)) t b m).alloc (.cells #[.int .i64 c, .int .i64 k] t)
    simpa using this
  · have := Bx.new ((w.alloc (.cells #[.int .i64 a, .int .i64 n] t)).alloc (.cells #[.int .i64 b, .int .i64 m] t)) t c k
    simpa using this
theorem tk_small {x y : Int} (h1 : 0 ≤ x) (h2 : x ≤ 63) (h3 : 0 ≤ y) (h4 : y ≤ 63) : tk x (1 + y) = true := tk_iff.2 ⟨h1, by omega, by omega⟩
theorem meet_sym {a n b m : Int} : meetE a n b m = meetE b m a n ∧ meetA a n b m = meetA b m a n ∧ meetN a n b m = meetN b m a n := by
  have e : meetE a n b m = meetE b m a n := by
    unfold meetE
    rw [Bool.and_comm (tk a n), Int.max_comm, Int.min_comm]
  unfold meetA meetN
  rw [e, Int.max_comm, Int.min_comm]
  exact ⟨rfl, rfl, rfl⟩
theorem meetE_iff {a n b m : Int} (h1 : tk a n = true) (h2 : tk b m = true) : meetE a n b m = true ↔ max a b < min (a + n) (b + m) := by simp [meetE, h1, h2]
theorem inB_iff {a n b m : Int} (h1 : tk a n = true) (h2 : tk b m = true) : inB a n b m = true ↔ b ≤ a ∧ a + n ≤ b + m := by
  obtain ⟨p1, p2, p3⟩ := tk_iff.1 h1
  obtain ⟨q1, q2, q3⟩ := tk_iff.1 h2
  unfold inB meetA meetN
  cases e : meetE a n b m
  · have := mt (meetE_iff h1 h2).2 (by simp [e])
    simp
    omega
  · have := (meetE_iff h1 h2).1 e
    simp
    omega
theorem meet_tk {a n b m : Int} (h1 : tk a n = true) (h2 : tk b m = true) (h : meetE a n b m = true) : tk (meetA a n b m) (meetN a n b m) = true := by
  obtain ⟨p1, p2, p3⟩ := tk_iff.1 h1
  obtain ⟨q1, q2, q3⟩ := tk_iff.1 h2
  have := (meetE_iff h1 h2).1 h
  refine tk_iff.2 ?_
  simp only [meetA, meetN, h, if_true]
  omega
theorem in_self {a n : Int} (h : tk a n = true) : inB a n a n = true := (inB_iff h h).2 ⟨by omega, by omega⟩
theorem in_meet {a n b m : Int} (h1 : tk a n = true) (h2 : tk b m = true) (h : meetE a n b m = true) : inB (meetA a n b m) (meetN a n b m) a n = true ∧ inB (meetA a n b m) (meetN a n b m) b m = true := by
  have ht := meet_tk h1 h2 h
  have := (meetE_iff h1 h2).1 h
  rw [inB_iff ht h1, inB_iff ht h2]
  simp only [meetA, meetN, h, if_true]
  omega
theorem in_both {a n b m c k : Int} (h1 : tk a n = true) (h2 : tk b m = true) (h3 : tk c k = true) (h : meetE a n b m = true) : inB c k (meetA a n b m) (meetN a n b m) = (inB c k a n && inB c k b m) := by
  have ht := meet_tk h1 h2 h
  have := (meetE_iff h1 h2).1 h
  have e : inB c k (meetA a n b m) (meetN a n b m) = true ↔ (inB c k a n && inB c k b m) = true := by
    rw [Bool.and_eq_true, inB_iff h3 ht, inB_iff h3 h1, inB_iff h3 h2]
    simp only [meetA, meetN, h, if_true]
    omega
  cases h5 : inB c k (meetA a n b m) (meetN a n b m) <;> cases h6 : (inB c k a n && inB c k b m) <;> simp_all
theorem in_none {a n b m c k : Int} (h1 : tk a n = true) (h2 : tk b m = true) (h3 : tk c k = true) (h : meetE a n b m = false) : (inB c k a n && inB c k b m) = false := by
  have := mt (meetE_iff h1 h2).2 (by simp [h])
  obtain ⟨p1, p2, p3⟩ := tk_iff.1 h3
  cases h5 : inB c k a n && inB c k b m
  · rfl
  · rw [Bool.and_eq_true, inB_iff h3 h1, inB_iff h3 h2] at h5
    omega

set_option maxHeartbeats 8000000 in
theorem meets_law (a n b m c k : Int) (w : World) :
    Calls Try.prog 6 #[spV a n, spV b m, spV c k] w fun e w' => e = .returned (.bool true) ∧ Below w.heap.size w w' := by
  obtain ⟨p1, P1, r1, s1⟩ := mask_any a 6 (by decide) 63 rfl
  obtain ⟨p2, P2, r2, s2⟩ := mask_any b 6 (by decide) 63 rfl
  obtain ⟨p3, P3, r3, s3⟩ := mask_any c 6 (by decide) 63 rfl
  obtain ⟨y1, Y1, r4, s4⟩ := mask_any n 4 (by decide) 15 rfl
  obtain ⟨y2, Y2, r5, s5⟩ := mask_any m 4 (by decide) 15 rfl
  obtain ⟨y3, Y3, r6, s6⟩ := mask_any k 2 (by decide) 3 rfl
  have k1 : -9223372036854775808 ≤ 1 + y1 ∧ 1 + y1 ≤ 9223372036854775807 := by omega
  have k2 : -9223372036854775808 ≤ 1 + y2 ∧ 1 + y2 ≤ 9223372036854775807 := by omega
  have k3 : -9223372036854775808 ≤ 1 + y3 ∧ 1 + y3 ≤ 9223372036854775807 := by omega
  have XB := hidden (three' w 24 a n b m c k)
  go_enter Try.func6, Try.ntmps6
  go_upto_region 1 with fail
  go_cut [7, 8, 9] from 15 to 38 (fun s7 s8 s9 wx => ∃ (b7 b8 b9 : Nat), s7 = .pointer (some ⟨b7, 0, none⟩) ∧ s8 = .pointer (some ⟨b8, 0, none⟩) ∧ s9 = .pointer (some ⟨b9, 0, none⟩) ∧ Bx wx b7 24 p1 (1 + y1) ∧ Bx wx b8 24 p2 (1 + y2) ∧ Bx wx b9 24 p3 (1 + y3) ∧ Below w.heap.size w wx)
  case first =>
    refine c_begin 30 rfl (by kernel_rfl) ?_
    obtain ⟨x1, x2, x3, B0⟩ := XB.out
    replace x1 := x1.drew
    replace x2 := x2.drew
    replace x3 := x3.drew
    replace B0 := B0.drew
    have xx := Ext.refl (((w.alloc (.cells #[.int .i64 a, .int .i64 n] 24)).alloc (.cells #[.int .i64 b, .int .i64 m] 24)).alloc (.cells #[.int .i64 c, .int .i64 k] 24)).drew
    generalize (((w.alloc (.cells #[.int .i64 a, .int .i64 n] 24)).alloc (.cells #[.int .i64 b, .int .i64 m] 24)).alloc (.cells #[.int .i64 c, .int .i64 k] 24)).drew = w0 at *

    refine c_pure trivial (by kernel_rfl) (fun _ _ _ d _ h => by cases d <;> exact h) 0 rfl (by kernel_rfl) (by kernel_rfl) (fun w' => by go_simp; with_reducible rfl) ?_; try simp only [Act.put, List.setIfInBounds_toArray, List.set_cons_zero, List.set_cons_succ]
    refine c_read (fun w' => Ext w0 w') xx trivial (by kernel_rfl) (fun _ _ _ d _ h => by cases d <;> exact h) 1 rfl (by kernel_rfl) (by kernel_rfl) (fun w' hx => by obtain ⟨q1, q2⟩ := (x1.ext hx).cells2; go_simp; with_reducible rfl) ?_; try simp only [Act.put, List.setIfInBounds_toArray, List.set_cons_zero, List.set_cons_succ]
    refine c_pure (v := .int .i64 p1) ⟨xx, trivial⟩ (by kernel_rfl) (fun _ _ _ d _ h => by cases d <;> exact h) 2 rfl (by kernel_rfl) (by kernel_rfl) (fun w' => by go_simp; rw [P1.out]) ?_; try simp only [Act.put, List.setIfInBounds_toArray, List.set_cons_zero, List.set_cons_succ]
    refine c_pure ⟨xx, trivial⟩ (by kernel_rfl) (fun _ _ _ d _ h => by cases d <;> exact h) 3 rfl (by kernel_rfl) (by kernel_rfl) (fun w' => by go_simp; with_reducible rfl) ?_; try simp only [Act.put, List.setIfInBounds_toArray, List.set_cons_zero, List.set_cons_succ]
    refine c_read (fun w' => Ext w0 w') xx ⟨xx, trivial⟩ (by kernel_rfl) (fun _ _ _ d _ h => by cases d <;> exact h) 4 rfl (by kernel_rfl) (by kernel_rfl) (fun w' hx => by obtain ⟨q1, q2⟩ := (x1.ext hx).cells2; go_simp; with_reducible rfl) ?_; try simp only [Act.put, List.setIfInBounds_toArray, List.set_cons_zero, List.set_cons_succ]
    refine c_pure (v := .int .i64 y1) ⟨xx, xx, trivial⟩ (by kernel_rfl) (fun _ _ _ d _ h => by cases d <;> exact h) 5 rfl (by kernel_rfl) (by kernel_rfl) (fun w' => by go_simp; rw [Y1.out]) ?_; try simp only [Act.put, List.setIfInBounds_toArray, List.set_cons_zero, List.set_cons_succ]
    refine c_pure (v := .int .i64 (1 + y1)) ⟨xx, xx, trivial⟩ (by kernel_rfl) (fun _ _ _ d _ h => by cases d <;> exact h) 6 rfl (by kernel_rfl) (by kernel_rfl) (fun w' => by go_simp; rw [IntWalk.i64_in _ k1]) ?_; try simp only [Act.put, List.setIfInBounds_toArray, List.set_cons_zero, List.set_cons_succ]
    refine c_pure ⟨xx, xx, trivial⟩ (by kernel_rfl) (fun _ _ _ d _ h => by cases d <;> exact h) 7 rfl (by kernel_rfl) (by kernel_rfl) (fun w' => by go_simp; with_reducible rfl) ?_; try simp only [Act.put, List.setIfInBounds_toArray, List.set_cons_zero, List.set_cons_succ]
    refine c_pure ⟨xx, xx, trivial⟩ (by kernel_rfl) (fun _ _ _ d _ h => by cases d <;> exact h) 8 rfl (by kernel_rfl) (by kernel_rfl) (fun w' => by go_simp; with_reducible rfl) ?_; try simp only [Act.put, List.setIfInBounds_toArray, List.set_cons_zero, List.set_cons_succ]
    refine c_read (fun w' => Ext w0 w') xx ⟨xx, xx, trivial⟩ (by kernel_rfl) (fun _ _ _ d _ h => by cases d <;> exact h) 9 rfl (by kernel_rfl) (by kernel_rfl) (fun w' hx => by obtain ⟨q1, q2⟩ := (x2.ext hx).cells2; go_simp; with_reducible rfl) ?_; try simp only [Act.put, List.setIfInBounds_toArray, List.set_cons_zero, List.set_cons_succ]
    refine c_pure (v := .int .i64 p2) ⟨xx, xx, xx, trivial⟩ (by kernel_rfl) (fun _ _ _ d _ h => by cases d <;> exact h) 10 rfl (by kernel_rfl) (by kernel_rfl) (fun w' => by go_simp; rw [P2.out]) ?_; try simp only [Act.put, List.setIfInBounds_toArray, List.set_cons_zero, List.set_cons_succ]
    refine c_pure ⟨xx, xx, xx, trivial⟩ (by kernel_rfl) (fun _ _ _ d _ h => by cases d <;> exact h) 11 rfl (by kernel_rfl) (by kernel_rfl) (fun w' => by go_simp; with_reducible rfl) ?_; try simp only [Act.put, List.setIfInBounds_toArray, List.set_cons_zero, List.set_cons_succ]
    refine c_read (fun w' => Ext w0 w') xx ⟨xx, xx, xx, trivial⟩ (by kernel_rfl) (fun _ _ _ d _ h => by cases d <;> exact h) 12 rfl (by kernel_rfl) (by kernel_rfl) (fun w' hx => by obtain ⟨q1, q2⟩ := (x2.ext hx).cells2; go_simp; with_reducible rfl) ?_; try simp only [Act.put, List.setIfInBounds_toArray, List.set_cons_zero, List.set_cons_succ]
    refine c_pure (v := .int .i64 y2) ⟨xx, xx, xx, xx, trivial⟩ (by kernel_rfl) (fun _ _ _ d _ h => by cases d <;> exact h) 13 rfl (by kernel_rfl) (by kernel_rfl) (fun w' => by go_simp; rw [Y2.out]) ?_; try simp only [Act.put, List.setIfInBounds_toArray, List.set_cons_zero, List.set_cons_succ]
    refine c_pure (v := .int .i64 (1 + y2)) ⟨xx, xx, xx, xx, trivial⟩ (by kernel_rfl) (fun _ _ _ d _ h => by cases d <;> exact h) 14 rfl (by kernel_rfl) (by kernel_rfl) (fun w' => by go_simp; rw [IntWalk.i64_in _ k2]) ?_; try simp only [Act.put, List.setIfInBounds_toArray, List.set_cons_zero, List.set_cons_succ]
    refine c_pure ⟨xx, xx, xx, xx, trivial⟩ (by kernel_rfl) (fun _ _ _ d _ h => by cases d <;> exact h) 15 rfl (by kernel_rfl) (by kernel_rfl) (fun w' => by go_simp; with_reducible rfl) ?_; try simp only [Act.put, List.setIfInBounds_toArray, List.set_cons_zero, List.set_cons_succ]
    refine c_pure ⟨xx, xx, xx, xx, trivial⟩ (by kernel_rfl) (fun _ _ _ d _ h => by cases d <;> exact h) 16 rfl (by kernel_rfl) (by kernel_rfl) (fun w' => by go_simp; with_reducible rfl) ?_; try simp only [Act.put, List.setIfInBounds_toArray, List.set_cons_zero, List.set_cons_succ]
    refine c_read (fun w' => Ext w0 w') xx ⟨xx, xx, xx, xx, trivial⟩ (by kernel_rfl) (fun _ _ _ d _ h => by cases d <;> exact h) 17 rfl (by kernel_rfl) (by kernel_rfl) (fun w' hx => by obtain ⟨q1, q2⟩ := (x3.ext hx).cells2; go_simp; with_reducible rfl) ?_; try simp only [Act.put, List.setIfInBounds_toArray, List.set_cons_zero, List.set_cons_succ]
    refine c_pure (v := .int .i64 p3) ⟨xx, xx, xx, xx, xx, trivial⟩ (by kernel_rfl) (fun _ _ _ d _ h => by cases d <;> exact h) 18 rfl (by kernel_rfl) (by kernel_rfl) (fun w' => by go_simp; rw [P3.out]) ?_; try simp only [Act.put, List.setIfInBounds_toArray, List.set_cons_zero, List.set_cons_succ]
    refine c_pure ⟨xx, xx, xx, xx, xx, trivial⟩ (by kernel_rfl) (fun _ _ _ d _ h => by cases d <;> exact h) 19 rfl (by kernel_rfl) (by kernel_rfl) (fun w' => by go_simp; with_reducible rfl) ?_; try simp only [Act.put, List.setIfInBounds_toArray, List.set_cons_zero, List.set_cons_succ]
    refine c_read (fun w' => Ext w0 w') xx ⟨xx, xx, xx, xx, xx, trivial⟩ (by kernel_rfl) (fun _ _ _ d _ h => by cases d <;> exact h) 20 rfl (by kernel_rfl) (by kernel_rfl) (fun w' hx => by obtain ⟨q1, q2⟩ := (x3.ext hx).cells2; go_simp; with_reducible rfl) ?_; try simp only [Act.put, List.setIfInBounds_toArray, List.set_cons_zero, List.set_cons_succ]
    refine c_pure (v := .int .i64 y3) ⟨xx, xx, xx, xx, xx, xx, trivial⟩ (by kernel_rfl) (fun _ _ _ d _ h => by cases d <;> exact h) 21 rfl (by kernel_rfl) (by kernel_rfl) (fun w' => by go_simp; rw [Y3.out]) ?_; try simp only [Act.put, List.setIfInBounds_toArray, List.set_cons_zero, List.set_cons_succ]
    refine c_pure (v := .int .i64 (1 + y3)) ⟨xx, xx, xx, xx, xx, xx, trivial⟩ (by kernel_rfl) (fun _ _ _ d _ h => by cases d <;> exact h) 22 rfl (by kernel_rfl) (by kernel_rfl) (fun w' => by go_simp; rw [IntWalk.i64_in _ k3]) ?_; try simp only [Act.put, List.setIfInBounds_toArray, List.set_cons_zero, List.set_cons_succ]
    refine c_pure ⟨xx, xx, xx, xx, xx, xx, trivial⟩ (by kernel_rfl) (fun _ _ _ d _ h => by cases d <;> exact h) 23 rfl (by kernel_rfl) (by kernel_rfl) (fun w' => by go_simp; with_reducible rfl) ?_; try simp only [Act.put, List.setIfInBounds_toArray, List.set_cons_zero, List.set_cons_succ]
    refine c_phase (n := 3) [24, 25, 26] [(some 7, 24), (some 8, 25), (some 9, 26)] (PsB w0.heap.size 24) NeV NeV.symm (by kernel_rfl) (by kernel_rfl) ?mono ?hC ?hops ?hend
    case mono => exact fun i v w w' h hx => NewBx.ext h hx
    case hC => exact fun w' hx => ⟨hx, hx, hx, hx, hx, hx, trivial⟩
    case hops =>
      intro i hi vs w3 hx hd
      simp only [List.mem_cons, List.not_mem_nil, or_false] at hi
      rcases hi with rfl | rfl | rfl
      · refine phase_op 24 [] (by kernel_rfl) rfl (fun K hK => ?_)
        simp only [putsD]
        go_simp
        exact hK.out _ _ ((Below.refl _ _).alloc (Nat.le_refl _) _) (NewBx.mk w3 hx) (fun j _ _ u hu => NewBx.ne hu)
      · refine phase_op 25 [] (by kernel_rfl) rfl (fun K hK => ?_)
        simp only [putsD]
        go_simp
        exact hK.out _ _ ((Below.refl _ _).alloc (Nat.le_refl _) _) (NewBx.mk w3 hx) (fun j _ _ u hu => NewBx.ne hu)
      · refine phase_op 26 [] (by kernel_rfl) rfl (fun K hK => ?_)
        simp only [putsD]
        go_simp
        exact hK.out _ _ ((Below.refl _ _).alloc (Nat.le_refl _) _) (NewBx.mk w3 hx) (fun j _ _ u hu => NewBx.ne hu)
    case hend =>
      intro vs w3 BZ hP hR
      obtain ⟨g0, e0, l0, z0⟩ := hP 24 (by simp)
      obtain ⟨g1, e1, l1, z1⟩ := hP 25 (by simp)
      obtain ⟨g2, e2, l2, z2⟩ := hP 26 (by simp)
      have n01 : g0 ≠ g1 := fun e => hR 24 (by simp) 25 (by simp) (by decide) (by rw [e0, e1, e])
      have n02 : g0 ≠ g2 := fun e => hR 24 (by simp) 26 (by simp) (by decide) (by rw [e0, e2, e])
      have n12 : g1 ≠ g2 := fun e => hR 25 (by simp) 26 (by simp) (by decide) (by rw [e1, e2, e])
      simp only [putsD, e0, e1, e2]
      try simp only [Act.put, List.setIfInBounds_toArray, List.set_cons_zero, List.set_cons_succ]
      clear hP hR e0 e1 e2
      clear vs
      obtain ⟨c0, c1, f0, f1⟩ := z0.cells
      refine c_move 27 (by kernel_rfl) (c_op 27 [(20, fun w' => Ext w0 w'), (17, fun w' => Ext w0 w'), (12, fun w' => Ext w0 w'), (9, fun w' => Ext w0 w')] (by kernel_rfl) rfl (by kernel_rfl) (fun K hK => ?_))
      go_simp
      have zn := z0.set p1 (1 + y1)
      have BN := (BZ.setCell (p := ⟨g0, 0, none⟩) l0 (.int .i64 p1)).setCell (p := ⟨g0, 1, none⟩) l0 (.int .i64 (1 + y1))
      replace z1 := (z1.set_ne (o := 0) (.int .i64 p1) n01).set_ne (o := 1) (.int .i64 (1 + y1)) n01
      replace z2 := (z2.set_ne (o := 0) (.int .i64 p1) n02).set_ne (o := 1) (.int .i64 (1 + y1)) n02
      refine hK.out _ _ ⟨BN, BN, BN, BN, trivial⟩ ?_
      clear K hK c0 c1 f0 f1 BZ
      clear z0
      try simp only [Act.put, List.setIfInBounds_toArray, List.set_cons_zero, List.set_cons_succ]
      generalize (w3.setCell ⟨g0, 0, none⟩ (.int .i64 p1)).setCell ⟨g0, 1, none⟩ (.int .i64 (1 + y1)) = w3a at *
      have BZ := BN
      have z0 := zn
      clear BN zn
      obtain ⟨c0, c1, f0, f1⟩ := z1.cells
      refine c_move 28 (by kernel_rfl) (c_op 28 [(20, fun w' => Ext w0 w'), (17, fun w' => Ext w0 w')] (by kernel_rfl) rfl (by kernel_rfl) (fun K hK => ?_))
      go_simp
      have zn := z1.set p2 (1 + y2)
      have BN := (BZ.setCell (p := ⟨g1, 0, none⟩) l1 (.int .i64 p2)).setCell (p := ⟨g1, 1, none⟩) l1 (.int .i64 (1 + y2))
      replace z0 := (z0.set_ne (o := 0) (.int .i64 p2) n01.symm).set_ne (o := 1) (.int .i64 (1 + y2)) n01.symm
      replace z2 := (z2.set_ne (o := 0) (.int .i64 p2) n12).set_ne (o := 1) (.int .i64 (1 + y2)) n12
      refine hK.out _ _ ⟨BN, BN, trivial⟩ ?_
      clear K hK c0 c1 f0 f1 BZ
      clear z1
      try simp only [Act.put, List.setIfInBounds_toArray, List.set_cons_zero, List.set_cons_succ]
      generalize (w3a.setCell ⟨g1, 0, none⟩ (.int .i64 p2)).setCell ⟨g1, 1, none⟩ (.int .i64 (1 + y2)) = w3b at *
      have BZ := BN
      have z1 := zn
      clear BN zn
      obtain ⟨c0, c1, f0, f1⟩ := z2.cells
      refine c_move 29 (by kernel_rfl) (c_op 29 [] (by kernel_rfl) rfl (by kernel_rfl) (fun K hK => ?_))
      go_simp
      have zn := z2.set p3 (1 + y3)
      have BN := (BZ.setCell (p := ⟨g2, 0, none⟩) l2 (.int .i64 p3)).setCell (p := ⟨g2, 1, none⟩) l2 (.int .i64 (1 + y3))
      replace z0 := (z0.set_ne (o := 0) (.int .i64 p3) n02.symm).set_ne (o := 1) (.int .i64 (1 + y3)) n02.symm
      replace z1 := (z1.set_ne (o := 0) (.int .i64 p3) n12.symm).set_ne (o := 1) (.int .i64 (1 + y3)) n12.symm
      refine hK.out _ _ trivial ?_
      clear K hK c0 c1 f0 f1 BZ
      clear z2
      try simp only [Act.put, List.setIfInBounds_toArray, List.set_cons_zero, List.set_cons_succ]
      generalize (w3b.setCell ⟨g2, 0, none⟩ (.int .i64 p3)).setCell ⟨g2, 1, none⟩ (.int .i64 (1 + y3)) = w3c at *
      have BZ := BN
      have z2 := zn
      clear BN zn
      refine c_done (by kernel_rfl) ?_
      go_wp2
      go_meet
      exact ⟨_, _, _, rfl, rfl, rfl, z0, z1, z2, below_then B0 BZ⟩
  case rest =>
    obtain ⟨b7, b8, b9, rfl, rfl, rfl, x1, x2, x3, B0⟩ := hcut
    clear XB P1 P2 P3 Y1 Y2 Y3
    have t1 := tk_small r1 s1 r4 (by omega)
    have t2 := tk_small r2 s2 r5 (by omega)
    have t3 := tk_small r3 s3 r6 (by omega)
    obtain ⟨n1, hn1⟩ : ∃ n1, 1 + y1 = n1 := ⟨_, rfl⟩
    obtain ⟨n2, hn2⟩ : ∃ n2, 1 + y2 = n2 := ⟨_, rfl⟩
    obtain ⟨n3, hn3⟩ : ∃ n3, 1 + y3 = n3 := ⟨_, rfl⟩
    rw [hn1] at x1 k1 t1
    rw [hn2] at x2 k2 t2
    rw [hn3] at x3 k3 t3
    clear hn1 hn2 hn3 r1 r2 r3 r4 r5 r6 s1 s2 s3 s4 s5 s6 y1 y2 y3
    have S := hidden (meet_sym (a := p1) (n := n1) (b := p2) (m := n2))
    have MT := hidden (fun h => meet_tk t1 t2 h)
    have IM := hidden (fun h => in_meet t1 t2 h)
    have IB := hidden (fun h => in_both t1 t2 t3 h)
    have IN := hidden (fun h => in_none t1 t2 t3 h)
    have C1 := hidden (fun w => meet_any p1 n1 p2 n2 w k1 k2)
    have C2 := hidden (fun w => meet_any p2 n2 p1 n1 w k2 k1)
    rw [← S.out.1, ← S.out.2.1, ← S.out.2.2] at C2
    have C3 := hidden (fun w => in_any p3 n3 p1 n1 w k3 k1)
    have C4 := hidden (fun w => in_any p3 n3 p2 n2 w k3 k2)
    have C5 := hidden (fun w => in_any p1 n1 p1 n1 w k1 k1)
    rw [in_self t1] at C5
    have C6 := hidden (fun w h => in_any (meetA p1 n1 p2 n2) (meetN p1 n1 p2 n2) p1 n1 w h k1)
    have C7 := hidden (fun w h => in_any (meetA p1 n1 p2 n2) (meetN p1 n1 p2 n2) p2 n2 w h k2)
    have C8 := hidden (fun w h => in_any p3 n3 (meetA p1 n1 p2 n2) (meetN p1 n1 p2 n2) w k3 h)
    have HM := hidden (fun (h : tk (meetA p1 n1 p2 n2) (meetN p1 n1 p2 n2) = true) => show i64 (meetN p1 n1 p2 n2) from by
      obtain ⟨q1, q2, q3⟩ := tk_iff.1 h
      unfold i64
      omega)
    clear S t1 t2 t3 k1 k2 k3
    generalize inB (meetA p1 n1 p2 n2) (meetN p1 n1 p2 n2) p1 n1 = J1 at *
    generalize inB (meetA p1 n1 p2 n2) (meetN p1 n1 p2 n2) p2 n2 = J2 at *
    generalize inB p3 n3 (meetA p1 n1 p2 n2) (meetN p1 n1 p2 n2) = J3 at *
    generalize meetA p1 n1 p2 n2 = A at *
    generalize meetN p1 n1 p2 n2 = N at *
    generalize inB p3 n3 p1 n1 = I1 at *
    generalize inB p3 n3 p2 n2 = I2 at *
    cases e : meetE p1 n1 p2 n2
    · rw [e] at C1 C2
      have I0 := IN.out e
      clear IN IB IM MT HM C6 C7 C8 J1 J2 J3
      clear e
      cases I1

      · clear C4 I0
        obtain ⟨cx10, cx11⟩ := x1.cells2
        obtain ⟨cx20, cx21⟩ := x2.cells2
        go_wp2_with fail
        refine (C1.out _).mono ?_
        rintro e v1 ⟨rfl, BE⟩
        replace x1 := x1.ext BE
        replace x2 := x2.ext BE
        replace x3 := x3.ext BE
        replace B0 := below_then B0 BE
        clear BE
        clear cx10 cx11 cx20 cx21
        have EA := (Below.refl v1.heap.size v1).alloc (Nat.le_refl _) (.cells #[.int .i64 A, .int .i64 N] 24)
        replace x1 := x1.ext EA
        replace x2 := x2.ext EA
        replace x3 := x3.ext EA
        have m1 := Bx.new v1 24 A N
        replace B0 := below_then B0 EA
        clear EA
        obtain ⟨cx10, cx11⟩ := x1.cells2
        obtain ⟨cx20, cx21⟩ := x2.cells2
        go_wp2_with fail
        refine (C2.out _).mono ?_
        rintro e v2 ⟨rfl, BE⟩
        replace x1 := x1.ext BE
        replace x2 := x2.ext BE
        replace x3 := x3.ext BE
        replace m1 := m1.ext BE
        replace B0 := below_then B0 BE
        clear BE
        clear cx10 cx11 cx20 cx21
        have EA := (Below.refl v2.heap.size v2).alloc (Nat.le_refl _) (.cells #[.int .i64 A, .int .i64 N] 24)
        replace x1 := x1.ext EA
        replace x2 := x2.ext EA
        replace x3 := x3.ext EA
        replace m1 := m1.ext EA
        have m2 := Bx.new v2 24 A N
        replace B0 := below_then B0 EA
        clear EA
        obtain ⟨cx10, cx11⟩ := x1.cells2
        obtain ⟨cx30, cx31⟩ := x3.cells2
        go_wp2_with fail
        refine (C3.out _).mono ?_
        rintro e v3 ⟨rfl, BE⟩
        replace x1 := x1.ext BE
        replace x2 := x2.ext BE
        replace x3 := x3.ext BE
        replace m1 := m1.ext BE
        replace m2 := m2.ext BE
        replace B0 := below_then B0 BE
        clear BE
        clear cx10 cx11 cx30 cx31
        have eA : (A == A) = true := by simp
        have eN : (N == N) = true := by simp
        obtain ⟨cx10, cx11⟩ := x1.cells2
        obtain ⟨cm10, cm11⟩ := m1.cells2
        obtain ⟨cm20, cm21⟩ := m2.cells2
        go_wp2_with fail
        refine (C5.out _).mono ?_
        rintro e v4 ⟨rfl, BE⟩
        replace x1 := x1.ext BE
        replace x2 := x2.ext BE
        replace x3 := x3.ext BE
        replace m1 := m1.ext BE
        replace m2 := m2.ext BE
        replace B0 := below_then B0 BE
        clear BE
        clear cx10 cx11 cm10 cm11 cm20 cm21
        go_wp2_with fail
        refine (known_any _).mono ?_
        rintro e v5 ⟨rfl, BE⟩
        replace x1 := x1.ext BE
        replace x2 := x2.ext BE
        replace x3 := x3.ext BE
        replace m1 := m1.ext BE
        replace m2 := m2.ext BE
        replace B0 := below_then B0 BE
        clear BE
        go_wp2
        go_ret
        exact ⟨rfl, B0⟩
      · have i2 : I2 = false := by simpa using I0
        subst i2
        clear I0
        obtain ⟨cx10, cx11⟩ := x1.cells2
        obtain ⟨cx20, cx21⟩ := x2.cells2
        go_wp2_with fail
        refine (C1.out _).mono ?_
        rintro e v1 ⟨rfl, BE⟩
        replace x1 := x1.ext BE
        replace x2 := x2.ext BE
        replace x3 := x3.ext BE
        replace B0 := below_then B0 BE
        clear BE
        clear cx10 cx11 cx20 cx21
        have EA := (Below.refl v1.heap.size v1).alloc (Nat.le_refl _) (.cells #[.int .i64 A, .int .i64 N] 24)
        replace x1 := x1.ext EA
        replace x2 := x2.ext EA
        replace x3 := x3.ext EA
        have m1 := Bx.new v1 24 A N
        replace B0 := below_then B0 EA
        clear EA
        obtain ⟨cx10, cx11⟩ := x1.cells2
        obtain ⟨cx20, cx21⟩ := x2.cells2
        go_wp2_with fail
        refine (C2.out _).mono ?_
        rintro e v2 ⟨rfl, BE⟩
        replace x1 := x1.ext BE
        replace x2 := x2.ext BE
        replace x3 := x3.ext BE
        replace m1 := m1.ext BE
        replace B0 := below_then B0 BE
        clear BE
        clear cx10 cx11 cx20 cx21
        have EA := (Below.refl v2.heap.size v2).alloc (Nat.le_refl _) (.cells #[.int .i64 A, .int .i64 N] 24)
        replace x1 := x1.ext EA
        replace x2 := x2.ext EA
        replace x3 := x3.ext EA
        replace m1 := m1.ext EA
        have m2 := Bx.new v2 24 A N
        replace B0 := below_then B0 EA
        clear EA
        obtain ⟨cx10, cx11⟩ := x1.cells2
        obtain ⟨cx30, cx31⟩ := x3.cells2
        go_wp2_with fail
        refine (C3.out _).mono ?_
        rintro e v3 ⟨rfl, BE⟩
        replace x1 := x1.ext BE
        replace x2 := x2.ext BE
        replace x3 := x3.ext BE
        replace m1 := m1.ext BE
        replace m2 := m2.ext BE
        replace B0 := below_then B0 BE
        clear BE
        clear cx10 cx11 cx30 cx31
        obtain ⟨cx20, cx21⟩ := x2.cells2
        obtain ⟨cx30, cx31⟩ := x3.cells2
        go_wp2_with fail
        refine (C4.out _).mono ?_
        rintro e v4 ⟨rfl, BE⟩
        replace x1 := x1.ext BE
        replace x2 := x2.ext BE
        replace x3 := x3.ext BE
        replace m1 := m1.ext BE
        replace m2 := m2.ext BE
        replace B0 := below_then B0 BE
        clear BE
        clear cx20 cx21 cx30 cx31
        have eA : (A == A) = true := by simp
        have eN : (N == N) = true := by simp
        obtain ⟨cx10, cx11⟩ := x1.cells2
        obtain ⟨cm10, cm11⟩ := m1.cells2
        obtain ⟨cm20, cm21⟩ := m2.cells2
        go_wp2_with fail
        refine (C5.out _).mono ?_
        rintro e v5 ⟨rfl, BE⟩
        replace x1 := x1.ext BE
        replace x2 := x2.ext BE
        replace x3 := x3.ext BE
        replace m1 := m1.ext BE
        replace m2 := m2.ext BE
        replace B0 := below_then B0 BE
        clear BE
        clear cx10 cx11 cm10 cm11 cm20 cm21
        go_wp2_with fail
        refine (known_any _).mono ?_
        rintro e v6 ⟨rfl, BE⟩
        replace x1 := x1.ext BE
        replace x2 := x2.ext BE
        replace x3 := x3.ext BE
        replace m1 := m1.ext BE
        replace m2 := m2.ext BE
        replace B0 := below_then B0 BE
        clear BE
        go_wp2
        go_ret
        exact ⟨rfl, B0⟩
    · rw [e] at C1 C2
      have hm := HM.out (MT.out e)
      obtain ⟨i1, i2⟩ := IM.out e
      have i3 := IB.out e
      subst i1 i2 i3
      clear IN IB IM MT HM
      clear e
      cases I1
      · simp only [Bool.false_and] at C8
        clear C4
        obtain ⟨cx10, cx11⟩ := x1.cells2
        obtain ⟨cx20, cx21⟩ := x2.cells2
        go_wp2_with fail
        refine (C1.out _).mono ?_
        rintro e v1 ⟨rfl, BE⟩
        replace x1 := x1.ext BE
        replace x2 := x2.ext BE
        replace x3 := x3.ext BE
        replace B0 := below_then B0 BE
        clear BE
        clear cx10 cx11 cx20 cx21
        have EA := (Below.refl v1.heap.size v1).alloc (Nat.le_refl _) (.cells #[.int .i64 A, .int .i64 N] 24)
        replace x1 := x1.ext EA
        replace x2 := x2.ext EA
        replace x3 := x3.ext EA
        have m1 := Bx.new v1 24 A N
        replace B0 := below_then B0 EA
        clear EA
        obtain ⟨cx10, cx11⟩ := x1.cells2
        obtain ⟨cx20, cx21⟩ := x2.cells2
        go_wp2_with fail
        refine (C2.out _).mono ?_
        rintro e v2 ⟨rfl, BE⟩
        replace x1 := x1.ext BE
        replace x2 := x2.ext BE
        replace x3 := x3.ext BE
        replace m1 := m1.ext BE
        replace B0 := below_then B0 BE
        clear BE
        clear cx10 cx11 cx20 cx21
        have EA := (Below.refl v2.heap.size v2).alloc (Nat.le_refl _) (.cells #[.int .i64 A, .int .i64 N] 24)
        replace x1 := x1.ext EA
        replace x2 := x2.ext EA
        replace x3 := x3.ext EA
        replace m1 := m1.ext EA
        have m2 := Bx.new v2 24 A N
        replace B0 := below_then B0 EA
        clear EA
        obtain ⟨cx10, cx11⟩ := x1.cells2
        obtain ⟨cx30, cx31⟩ := x3.cells2
        go_wp2_with fail
        refine (C3.out _).mono ?_
        rintro e v3 ⟨rfl, BE⟩
        replace x1 := x1.ext BE
        replace x2 := x2.ext BE
        replace x3 := x3.ext BE
        replace m1 := m1.ext BE
        replace m2 := m2.ext BE
        replace B0 := below_then B0 BE
        clear BE
        clear cx10 cx11 cx30 cx31
        have eA : (A == A) = true := by simp
        have eN : (N == N) = true := by simp
        obtain ⟨cx10, cx11⟩ := x1.cells2
        obtain ⟨cm10, cm11⟩ := m1.cells2
        obtain ⟨cm20, cm21⟩ := m2.cells2
        go_wp2_with fail
        refine (C5.out _).mono ?_
        rintro e v4 ⟨rfl, BE⟩
        replace x1 := x1.ext BE
        replace x2 := x2.ext BE
        replace x3 := x3.ext BE
        replace m1 := m1.ext BE
        replace m2 := m2.ext BE
        replace B0 := below_then B0 BE
        clear BE
        clear cx10 cx11 cm10 cm11 cm20 cm21
        obtain ⟨cx10, cx11⟩ := x1.cells2
        obtain ⟨cm10, cm11⟩ := m1.cells2
        go_wp2_with fail
        refine (C6.out _ hm).mono ?_
        rintro e v5 ⟨rfl, BE⟩
        replace x1 := x1.ext BE
        replace x2 := x2.ext BE
        replace x3 := x3.ext BE
        replace m1 := m1.ext BE
        replace m2 := m2.ext BE
        replace B0 := below_then B0 BE
        clear BE
        clear cx10 cx11 cm10 cm11
        obtain ⟨cx20, cx21⟩ := x2.cells2
        obtain ⟨cm10, cm11⟩ := m1.cells2
        go_wp2_with fail
        refine (C7.out _ hm).mono ?_
        rintro e v6 ⟨rfl, BE⟩
        replace x1 := x1.ext BE
        replace x2 := x2.ext BE
        replace x3 := x3.ext BE
        replace m1 := m1.ext BE
        replace m2 := m2.ext BE
        replace B0 := below_then B0 BE
        clear BE
        clear cx20 cx21 cm10 cm11
        obtain ⟨cx30, cx31⟩ := x3.cells2
        obtain ⟨cm10, cm11⟩ := m1.cells2
        go_wp2_with fail
        refine (C8.out _ hm).mono ?_
        rintro e v7 ⟨rfl, BE⟩
        replace x1 := x1.ext BE
        replace x2 := x2.ext BE
        replace x3 := x3.ext BE
        replace m1 := m1.ext BE
        replace m2 := m2.ext BE
        replace B0 := below_then B0 BE
        clear BE
        clear cx30 cx31 cm10 cm11
        go_wp2_with fail
        refine (known_any _).mono ?_
        rintro e v8 ⟨rfl, BE⟩
        replace x1 := x1.ext BE
        replace x2 := x2.ext BE
        replace x3 := x3.ext BE
        replace m1 := m1.ext BE
        replace m2 := m2.ext BE
        replace B0 := below_then B0 BE
        clear BE
        go_wp2
        go_ret
        exact ⟨rfl, B0⟩
      · cases I2
        · simp only [Bool.true_and] at C8
          obtain ⟨cx10, cx11⟩ := x1.cells2
          obtain ⟨cx20, cx21⟩ := x2.cells2
          go_wp2_with fail
          refine (C1.out _).mono ?_
          rintro e v1 ⟨rfl, BE⟩
          replace x1 := x1.ext BE
          replace x2 := x2.ext BE
          replace x3 := x3.ext BE
          replace B0 := below_then B0 BE
          clear BE
          clear cx10 cx11 cx20 cx21
          have EA := (Below.refl v1.heap.size v1).alloc (Nat.le_refl _) (.cells #[.int .i64 A, .int .i64 N] 24)
          replace x1 := x1.ext EA
          replace x2 := x2.ext EA
          replace x3 := x3.ext EA
          have m1 := Bx.new v1 24 A N
          replace B0 := below_then B0 EA
          clear EA
          obtain ⟨cx10, cx11⟩ := x1.cells2
          obtain ⟨cx20, cx21⟩ := x2.cells2
          go_wp2_with fail
          refine (C2.out _).mono ?_
          rintro e v2 ⟨rfl, BE⟩
          replace x1 := x1.ext BE
          replace x2 := x2.ext BE
          replace x3 := x3.ext BE
          replace m1 := m1.ext BE
          replace B0 := below_then B0 BE
          clear BE
          clear cx10 cx11 cx20 cx21
          have EA := (Below.refl v2.heap.size v2).alloc (Nat.le_refl _) (.cells #[.int .i64 A, .int .i64 N] 24)
          replace x1 := x1.ext EA
          replace x2 := x2.ext EA
          replace x3 := x3.ext EA
          replace m1 := m1.ext EA
          have m2 := Bx.new v2 24 A N
          replace B0 := below_then B0 EA
          clear EA
          obtain ⟨cx10, cx11⟩ := x1.cells2
          obtain ⟨cx30, cx31⟩ := x3.cells2
          go_wp2_with fail
          refine (C3.out _).mono ?_
          rintro e v3 ⟨rfl, BE⟩
          replace x1 := x1.ext BE
          replace x2 := x2.ext BE
          replace x3 := x3.ext BE
          replace m1 := m1.ext BE
          replace m2 := m2.ext BE
          replace B0 := below_then B0 BE
          clear BE
          clear cx10 cx11 cx30 cx31
          obtain ⟨cx20, cx21⟩ := x2.cells2
          obtain ⟨cx30, cx31⟩ := x3.cells2
          go_wp2_with fail
          refine (C4.out _).mono ?_
          rintro e v4 ⟨rfl, BE⟩
          replace x1 := x1.ext BE
          replace x2 := x2.ext BE
          replace x3 := x3.ext BE
          replace m1 := m1.ext BE
          replace m2 := m2.ext BE
          replace B0 := below_then B0 BE
          clear BE
          clear cx20 cx21 cx30 cx31
          have eA : (A == A) = true := by simp
          have eN : (N == N) = true := by simp
          obtain ⟨cx10, cx11⟩ := x1.cells2
          obtain ⟨cm10, cm11⟩ := m1.cells2
          obtain ⟨cm20, cm21⟩ := m2.cells2
          go_wp2_with fail
          refine (C5.out _).mono ?_
          rintro e v5 ⟨rfl, BE⟩
          replace x1 := x1.ext BE
          replace x2 := x2.ext BE
          replace x3 := x3.ext BE
          replace m1 := m1.ext BE
          replace m2 := m2.ext BE
          replace B0 := below_then B0 BE
          clear BE
          clear cx10 cx11 cm10 cm11 cm20 cm21
          obtain ⟨cx10, cx11⟩ := x1.cells2
          obtain ⟨cm10, cm11⟩ := m1.cells2
          go_wp2_with fail
          refine (C6.out _ hm).mono ?_
          rintro e v6 ⟨rfl, BE⟩
          replace x1 := x1.ext BE
          replace x2 := x2.ext BE
          replace x3 := x3.ext BE
          replace m1 := m1.ext BE
          replace m2 := m2.ext BE
          replace B0 := below_then B0 BE
          clear BE
          clear cx10 cx11 cm10 cm11
          obtain ⟨cx20, cx21⟩ := x2.cells2
          obtain ⟨cm10, cm11⟩ := m1.cells2
          go_wp2_with fail
          refine (C7.out _ hm).mono ?_
          rintro e v7 ⟨rfl, BE⟩
          replace x1 := x1.ext BE
          replace x2 := x2.ext BE
          replace x3 := x3.ext BE
          replace m1 := m1.ext BE
          replace m2 := m2.ext BE
          replace B0 := below_then B0 BE
          clear BE
          clear cx20 cx21 cm10 cm11
          obtain ⟨cx30, cx31⟩ := x3.cells2
          obtain ⟨cm10, cm11⟩ := m1.cells2
          go_wp2_with fail
          refine (C8.out _ hm).mono ?_
          rintro e v8 ⟨rfl, BE⟩
          replace x1 := x1.ext BE
          replace x2 := x2.ext BE
          replace x3 := x3.ext BE
          replace m1 := m1.ext BE
          replace m2 := m2.ext BE
          replace B0 := below_then B0 BE
          clear BE
          clear cx30 cx31 cm10 cm11
          go_wp2_with fail
          refine (known_any _).mono ?_
          rintro e v9 ⟨rfl, BE⟩
          replace x1 := x1.ext BE
          replace x2 := x2.ext BE
          replace x3 := x3.ext BE
          replace m1 := m1.ext BE
          replace m2 := m2.ext BE
          replace B0 := below_then B0 BE
          clear BE
          go_wp2
          go_ret
          exact ⟨rfl, B0⟩
        · simp only [Bool.true_and] at C8
          obtain ⟨cx10, cx11⟩ := x1.cells2
          obtain ⟨cx20, cx21⟩ := x2.cells2
          go_wp2_with fail
          refine (C1.out _).mono ?_
          rintro e v1 ⟨rfl, BE⟩
          replace x1 := x1.ext BE
          replace x2 := x2.ext BE
          replace x3 := x3.ext BE
          replace B0 := below_then B0 BE
          clear BE
          clear cx10 cx11 cx20 cx21
          have EA := (Below.refl v1.heap.size v1).alloc (Nat.le_refl _) (.cells #[.int .i64 A, .int .i64 N] 24)
          replace x1 := x1.ext EA
          replace x2 := x2.ext EA
          replace x3 := x3.ext EA
          have m1 := Bx.new v1 24 A N
          replace B0 := below_then B0 EA
          clear EA
          obtain ⟨cx10, cx11⟩ := x1.cells2
          obtain ⟨cx20, cx21⟩ := x2.cells2
          go_wp2_with fail
          refine (C2.out _).mono ?_
          rintro e v2 ⟨rfl, BE⟩
          replace x1 := x1.ext BE
          replace x2 := x2.ext BE
          replace x3 := x3.ext BE
          replace m1 := m1.ext BE
          replace B0 := below_then B0 BE
          clear BE
          clear cx10 cx11 cx20 cx21
          have EA := (Below.refl v2.heap.size v2).alloc (Nat.le_refl _) (.cells #[.int .i64 A, .int .i64 N] 24)
          replace x1 := x1.ext EA
          replace x2 := x2.ext EA
          replace x3 := x3.ext EA
          replace m1 := m1.ext EA
          have m2 := Bx.new v2 24 A N
          replace B0 := below_then B0 EA
          clear EA
          obtain ⟨cx10, cx11⟩ := x1.cells2
          obtain ⟨cx30, cx31⟩ := x3.cells2
          go_wp2_with fail
          refine (C3.out _).mono ?_
          rintro e v3 ⟨rfl, BE⟩
          replace x1 := x1.ext BE
          replace x2 := x2.ext BE
          replace x3 := x3.ext BE
          replace m1 := m1.ext BE
          replace m2 := m2.ext BE
          replace B0 := below_then B0 BE
          clear BE
          clear cx10 cx11 cx30 cx31
          obtain ⟨cx20, cx21⟩ := x2.cells2
          obtain ⟨cx30, cx31⟩ := x3.cells2
          go_wp2_with fail
          refine (C4.out _).mono ?_
          rintro e v4 ⟨rfl, BE⟩
          replace x1 := x1.ext BE
          replace x2 := x2.ext BE
          replace x3 := x3.ext BE
          replace m1 := m1.ext BE
          replace m2 := m2.ext BE
          replace B0 := below_then B0 BE
          clear BE
          clear cx20 cx21 cx30 cx31
          have eA : (A == A) = true := by simp
          have eN : (N == N) = true := by simp
          obtain ⟨cx10, cx11⟩ := x1.cells2
          obtain ⟨cm10, cm11⟩ := m1.cells2
          obtain ⟨cm20, cm21⟩ := m2.cells2
          go_wp2_with fail
          refine (C5.out _).mono ?_
          rintro e v5 ⟨rfl, BE⟩
          replace x1 := x1.ext BE
          replace x2 := x2.ext BE
          replace x3 := x3.ext BE
          replace m1 := m1.ext BE
          replace m2 := m2.ext BE
          replace B0 := below_then B0 BE
          clear BE
          clear cx10 cx11 cm10 cm11 cm20 cm21
          obtain ⟨cx10, cx11⟩ := x1.cells2
          obtain ⟨cm10, cm11⟩ := m1.cells2
          go_wp2_with fail
          refine (C6.out _ hm).mono ?_
          rintro e v6 ⟨rfl, BE⟩
          replace x1 := x1.ext BE
          replace x2 := x2.ext BE
          replace x3 := x3.ext BE
          replace m1 := m1.ext BE
          replace m2 := m2.ext BE
          replace B0 := below_then B0 BE
          clear BE
          clear cx10 cx11 cm10 cm11
          obtain ⟨cx20, cx21⟩ := x2.cells2
          obtain ⟨cm10, cm11⟩ := m1.cells2
          go_wp2_with fail
          refine (C7.out _ hm).mono ?_
          rintro e v7 ⟨rfl, BE⟩
          replace x1 := x1.ext BE
          replace x2 := x2.ext BE
          replace x3 := x3.ext BE
          replace m1 := m1.ext BE
          replace m2 := m2.ext BE
          replace B0 := below_then B0 BE
          clear BE
          clear cx20 cx21 cm10 cm11
          obtain ⟨cx30, cx31⟩ := x3.cells2
          obtain ⟨cm10, cm11⟩ := m1.cells2
          go_wp2_with fail
          refine (C8.out _ hm).mono ?_
          rintro e v8 ⟨rfl, BE⟩
          replace x1 := x1.ext BE
          replace x2 := x2.ext BE
          replace x3 := x3.ext BE
          replace m1 := m1.ext BE
          replace m2 := m2.ext BE
          replace B0 := below_then B0 BE
          clear BE
          clear cx30 cx31 cm10 cm11
          go_wp2_with fail
          refine (known_any _).mono ?_
          rintro e v9 ⟨rfl, BE⟩
          replace x1 := x1.ext BE
          replace x2 := x2.ext BE
          replace x3 := x3.ext BE
          replace m1 := m1.ext BE
          replace m2 := m2.ext BE
          replace B0 := below_then B0 BE
          clear BE
          go_wp2
          go_ret
          exact ⟨rfl, B0⟩

end Go.Proofs.Ytdclbknahialcaa
