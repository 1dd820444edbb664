/- Contracts of span.Meet, In and burgageref7's. -/
import Derived.Test.YtffjhimdamdenaaZ1
import Derived.Deep.Cut
namespace Go.Proofs.Ytffjhimdamdenaa
open Go.RowKit

def meetE (a n b m : Int) : Bool := tk a n && tk b m && decide (max a b < min (a + n) (b + m))
def meetA (a n b m : Int) : Int := if meetE a n b m then max a b else 0
def meetN (a n b m : Int) : Int := if meetE a n b m then min (a + n) (b + m) - max a b else 0
/-- a box that holds a span -/
def Bx (w : World) (g : Nat) (t : TypeId) (a n : Int) : Prop := Blk w g t [.int .i64 a, .int .i64 n]
theorem Bx.cells {w : World} {g : Nat} {t : TypeId} {a n : Int} (h : Bx w g t a n) : w.cell? ⟨g, 0, none⟩ = some (.int .i64 a) ∧ w.cell? ⟨g, 1, none⟩ = some (.int .i64 n) ∧ w.frozen? ⟨g, 0, none⟩ = false ∧ w.frozen? ⟨g, 1, none⟩ = false :=
  ⟨Blk.cell h 0, Blk.cell h 1, Blk.frozen h 0, Blk.frozen h 1⟩
theorem Bx.cells2 {w : World} {g : Nat} {t : TypeId} {a n : Int} (h : Bx w g t a n) : w.cell? ⟨g, 0, none⟩ = some (.int .i64 a) ∧ w.cell? ⟨g, 1, none⟩ = some (.int .i64 n) := ⟨Blk.cell h 0, Blk.cell h 1⟩
theorem Bx.lt {w : World} {g : Nat} {t : TypeId} {a n : Int} (h : Bx w g t a n) : g < w.heap.size := Blk.lt h
theorem Bx.new (w : World) (t : TypeId) (a n : Int) : Bx (w.alloc (.cells #[.int .i64 a, .int .i64 n] t)) w.heap.size t a n := Blk.new w t [.int .i64 a, .int .i64 n]
theorem Bx.ext {w w' : World} {g : Nat} {t : TypeId} {a n : Int} (h : Bx w g t a n) (hb : Below w.heap.size w w') : Bx w' g t a n := Blk.below h hb (Blk.lt h)
theorem Bx.alloc {w : World} {g : Nat} {t : TypeId} {a n : Int} (h : Bx w g t a n) (o : Obj) : Bx (w.alloc o) g t a n := Blk.alloc h o
theorem Bx.drew {w : World} {g : Nat} {t : TypeId} {a n : Int} (h : Bx w g t a n) : Bx w.drew g t a n := h
theorem Bx.set {w : World} {g : Nat} {t : TypeId} {a n : Int} (h : Bx w g t a n) (b m : Int) : Bx ((w.setCell ⟨g, 0, none⟩ (.int .i64 b)).setCell ⟨g, 1, none⟩ (.int .i64 m)) g t b m := Blk.set (Blk.set h 0 (.int .i64 b)) 1 (.int .i64 m)
/-- two spans that came in, and the span that goes out, in boxes -/
theorem three (w : World) (t : TypeId) (a n b m : Int) : Bx (((w.alloc (.cells #[.int .i64 a, .int .i64 n] t)).alloc (.cells #[.int .i64 b, .int .i64 m] t)).alloc (.cells #[.int .i64 0, .int .i64 0] t)) w.heap.size t a n ∧
    Bx (((w.alloc (.cells #[.int .i64 a, .int .i64 n] t)).alloc (.cells #[.int .i64 b, .int .i64 m] t)).alloc (.cells #[.int .i64 0, .int .i64 0] t)) (w.heap.size + 1) t b m ∧
    Bx (((w.alloc (.cells #[.int .i64 a, .int .i64 n] t)).alloc (.cells #[.int .i64 b, .int .i64 m] t)).alloc (.cells #[.int .i64 0, .int .i64 0] t)) (w.heap.size + 1 + 1) t 0 0 ∧
    Below w.heap.size w (((w.alloc (.cells #[.int .i64 a, .int .i64 n] t)).alloc (.cells #[.int .i64 b, .int .i64 m] t)).alloc (.cells #[.int .i64 0, .int .i64 0] t)) := by
  refine ⟨((Bx.new w t a n).alloc _).alloc _, ?_, ?_, (((Below.refl w.heap.size w).alloc (Nat.le_refl _) _).alloc (by simp) _).alloc (by simp; omega) _⟩
  · have := (Bx.new (w.alloc (.cells #[.int .i64 a, .int .i64 n] t)) t b m).alloc (.cells #[.int .i64 0, .int .i64 0] t)
    simpa using this
  · have := Bx.new ((w.alloc (.cells #[.int .i64 a, .int .i64 n] t)).alloc (.cells #[.int .i64 b, .int .i64 m] t)) t 0 0
    simpa using this

set_option maxHeartbeats 1000000 in
theorem rmeet_any (a n b m : Int) (w : World) (hn : i64 n) (hm : i64 m) :
    Calls Try.prog 52 #[spV a n, spV b m] w fun e w' => e = .returned (.tuple #[spV (meetA a n b m) (meetN a n b m), .bool (meetE a n b m)]) ∧ Below w.heap.size w w' := by
  have C1 := hidden (fun w => rright_any a n 2147483648 w hn (by unfold i64; omega))
  have C2 := hidden (fun w => rright_any b m 2147483648 w hm (by unfold i64; omega))
  have T := hidden (three w 85 a n b m)
  cases t1 : okR a n 2147483648
  · rw [t1] at C1
    have e1 : meetE a n b m = false := by simp [meetE, tk, t1]
    simp only [meetA, meetN, e1]
    clear C2 e1 t1
    go_enter Try.func52, Try.ntmps52
    go_wp2_with fail
    refine (C1.out _).mono ?_
    rintro e w1 ⟨rfl, B1⟩
    obtain ⟨-, -, x3, B0⟩ := T.out
    replace x3 := x3.ext B1
    replace B0 := below_then B0 B1
    obtain ⟨c4, c5, f4, f5⟩ := x3.cells
    clear B1
    go_wp2
    have z := x3.set 0 0
    have BB := (B0.setCell (p := ⟨w.heap.size + 1 + 1, 0, none⟩) (by simp; omega) (.int .i64 0)).setCell (p := ⟨w.heap.size + 1 + 1, 1, none⟩) (by simp; omega) (.int .i64 0)
    generalize (w1.setCell ⟨w.heap.size + 1 + 1, 0, none⟩ (.int .i64 0)).setCell ⟨w.heap.size + 1 + 1, 1, none⟩ (.int .i64 0) = wS at *
    obtain ⟨q0, q1⟩ := z.cells2
    refine bodyPost_ret (v := _) (by simp [results, Try.results52, go_sem, q0, q1]; with_reducible rfl) rfl ?_
    exact ⟨rfl, BB⟩
  · rw [t1] at C1
    cases t2 : okR b m 2147483648
    · rw [t2] at C2
      have e1 : meetE a n b m = false := by simp [meetE, tk, t2]
      simp only [meetA, meetN, e1]
      clear e1 t1 t2
      go_enter Try.func52, Try.ntmps52
      go_wp2_with fail
      refine (C1.out _).mono ?_
      rintro e w1 ⟨rfl, B1⟩
      obtain ⟨-, x2, x3, B0⟩ := T.out
      replace x3 := x3.ext B1
      replace x2 := x2.ext B1
      replace B0 := below_then B0 B1
      obtain ⟨c2, c3⟩ := x2.cells2
      clear B1
      go_wp2_with fail
      refine (C2.out _).mono ?_
      rintro e w2 ⟨rfl, B1⟩
      replace x3 := x3.ext B1
      replace B0 := below_then B0 B1
      obtain ⟨c4, c5, f4, f5⟩ := x3.cells
      clear B1 x2 c2 c3
      go_wp2
      have z := x3.set 0 0
      have BB := (B0.setCell (p := ⟨w.heap.size + 1 + 1, 0, none⟩) (by simp; omega) (.int .i64 0)).setCell (p := ⟨w.heap.size + 1 + 1, 1, none⟩) (by simp; omega) (.int .i64 0)
      generalize (w2.setCell ⟨w.heap.size + 1 + 1, 0, none⟩ (.int .i64 0)).setCell ⟨w.heap.size + 1 + 1, 1, none⟩ (.int .i64 0) = wS at *
      obtain ⟨q0, q1⟩ := z.cells2
      refine bodyPost_ret (v := _) (by simp [results, Try.results52, go_sem, q0, q1]; with_reducible rfl) rfl ?_
      exact ⟨rfl, BB⟩
    · rw [t2] at C2
      obtain ⟨g1, g2, g3⟩ := tk_iff.1 (show tk a n = true from t1)
      obtain ⟨g4, g5, g6⟩ := tk_iff.1 (show tk b m = true from t2)
      have e0 : meetE a n b m = decide (max a b < min (a + n) (b + m)) := by simp [meetE, tk, t1, t2]
      simp only [meetA, meetN, e0]
      obtain ⟨M, hM⟩ : ∃ M, max a b = M := ⟨_, rfl⟩
      obtain ⟨N, hN⟩ : ∃ N, min (a + n) (b + m) = N := ⟨_, rfl⟩
      rw [hM, hN]
      have HM : Hid ((if a < b then b else a) = M) := by show _ = _; split <;> omega
      have HN : Hid ((if b + m < a + n then b + m else a + n) = N) := by show _ = _; split <;> omega
      have m0 : 0 ≤ M := by omega
      have m1 : M ≤ 2147483648 := by omega
      have m2 : N ≤ 2147483648 := by omega
      have m3 : 0 ≤ N := by omega
      have k1 : -9223372036854775808 ≤ a + n ∧ a + n ≤ 9223372036854775807 := by omega
      have k2 : -9223372036854775808 ≤ b + m ∧ b + m ≤ 9223372036854775807 := by omega
      have k3 : -9223372036854775808 ≤ N - M ∧ N - M ≤ 9223372036854775807 := by omega
      clear t1 t2 e0 hM hN
      by_cases hMN : M < N
      · simp only [hMN, decide_true, if_true]
        go_enter Try.func52, Try.ntmps52
        go_wp2_with fail
        refine (C1.out _).mono ?_
        rintro e w1 ⟨rfl, B1⟩
        obtain ⟨x1, x2, x3, B0⟩ := T.out
        replace x3 := x3.ext B1
        replace x2 := x2.ext B1
        replace x1 := x1.ext B1
        replace B0 := below_then B0 B1
        obtain ⟨c2, c3⟩ := x2.cells2
        clear B1
        go_wp2_with fail
        refine (C2.out _).mono ?_
        rintro e w2 ⟨rfl, B1⟩
        replace x3 := x3.ext B1
        replace x2 := x2.ext B1
        replace x1 := x1.ext B1
        replace B0 := below_then B0 B1
        clear B1 c2 c3 C1 C2 T
        go_wp2
        replace x3 := x3.drew
        replace x2 := x2.drew
        replace x1 := x1.drew
        replace B0 := B0.drew
        refine wp_region_pi [(0, true), (1, true), (2, true), (3, true), (4, true), (5, true), (6, true), (7, true), (8, true), (9, true), (10, true), (11, true), (12, true), (13, true), (14, true), (15, true), (16, true), (17, true)] (by kernel_rfl) (by kernel_rfl) (by kernel_rfl) (fun _ _ _ d _ h => by cases d <;> exact h) ?_
        have xx := Ext.refl w2.drew
        generalize w2.drew = w3 at *
        iterate 4 (first | refine pi_pure xx rfl (by kernel_rfl) (fun w' => by go_simp; with_reducible rfl) ?_ | refine pi_read xx rfl (by kernel_rfl) (fun w' hw' => by obtain ⟨q1, q2⟩ := (x1.ext hw').cells2; obtain ⟨q3, q4⟩ := (x2.ext hw').cells2; go_simp; with_reducible rfl) ?_; try simp only [Act.put, List.setIfInBounds_toArray, List.set_cons_zero, List.set_cons_succ])
        refine pi_pure (v := .int .i64 M) xx rfl (by kernel_rfl) (fun w' => by go_simp; exact HM.out) ?_; try simp only [Act.put, List.setIfInBounds_toArray, List.set_cons_zero, List.set_cons_succ]
        iterate 10 (first | refine pi_pure xx rfl (by kernel_rfl) (fun w' => by go_simp; with_reducible rfl) ?_ | refine pi_read xx rfl (by kernel_rfl) (fun w' hw' => by obtain ⟨q1, q2⟩ := (x1.ext hw').cells2; obtain ⟨q3, q4⟩ := (x2.ext hw').cells2; go_simp; with_reducible rfl) ?_; try simp only [Act.put, List.setIfInBounds_toArray, List.set_cons_zero, List.set_cons_succ])
        refine pi_pure (v := .int .i64 N) xx rfl (by kernel_rfl) (fun w' => by go_simp; rw [IntWalk.i64_in _ k1, IntWalk.i64_in _ k2]; exact HN.out) ?_; try simp only [Act.put, List.setIfInBounds_toArray, List.set_cons_zero, List.set_cons_succ]
        iterate 2 (first | refine pi_pure xx rfl (by kernel_rfl) (fun w' => by go_simp; with_reducible rfl) ?_ | refine pi_read xx rfl (by kernel_rfl) (fun w' hw' => by obtain ⟨q1, q2⟩ := (x1.ext hw').cells2; obtain ⟨q3, q4⟩ := (x2.ext hw').cells2; go_simp; with_reducible rfl) ?_; try simp only [Act.put, List.setIfInBounds_toArray, List.set_cons_zero, List.set_cons_succ])
        refine pi_nil ?_
        obtain ⟨c4, c5, f4, f5⟩ := x3.cells
        go_wp2
        have z := x3.set M (N - M)
        have BB := (B0.setCell (p := ⟨w.heap.size + 1 + 1, 0, none⟩) (by simp; omega) (.int .i64 M)).setCell (p := ⟨w.heap.size + 1 + 1, 1, none⟩) (by simp; omega) (.int .i64 (N - M))
        generalize (w3.setCell ⟨w.heap.size + 1 + 1, 0, none⟩ (.int .i64 M)).setCell ⟨w.heap.size + 1 + 1, 1, none⟩ (.int .i64 (N - M)) = wS at *
        obtain ⟨q0, q1⟩ := z.cells2
        refine bodyPost_ret (v := _) (by simp [results, Try.results52, go_sem, q0, q1]; with_reducible rfl) rfl ?_
        exact ⟨rfl, BB⟩
      · simp only [hMN, decide_false]
        go_enter Try.func52, Try.ntmps52
        go_wp2_with fail
        refine (C1.out _).mono ?_
        rintro e w1 ⟨rfl, B1⟩
        obtain ⟨x1, x2, x3, B0⟩ := T.out
        replace x3 := x3.ext B1
        replace x2 := x2.ext B1
        replace x1 := x1.ext B1
        replace B0 := below_then B0 B1
        obtain ⟨c2, c3⟩ := x2.cells2
        clear B1
        go_wp2_with fail
        refine (C2.out _).mono ?_
        rintro e w2 ⟨rfl, B1⟩
        replace x3 := x3.ext B1
        replace x2 := x2.ext B1
        replace x1 := x1.ext B1
        replace B0 := below_then B0 B1
        clear B1 c2 c3 C1 C2 T
        go_wp2
        replace x3 := x3.drew
        replace x2 := x2.drew
        replace x1 := x1.drew
        replace B0 := B0.drew
        refine wp_region_pi [(0, true), (1, true), (2, true), (3, true), (4, true), (5, true), (6, true), (7, true), (8, true), (9, true), (10, true), (11, true), (12, true), (13, true), (14, true), (15, true), (16, true), (17, true)] (by kernel_rfl) (by kernel_rfl) (by kernel_rfl) (fun _ _ _ d _ h => by cases d <;> exact h) ?_
        have xx := Ext.refl w2.drew
        generalize w2.drew = w3 at *
        iterate 4 (first | refine pi_pure xx rfl (by kernel_rfl) (fun w' => by go_simp; with_reducible rfl) ?_ | refine pi_read xx rfl (by kernel_rfl) (fun w' hw' => by obtain ⟨q1, q2⟩ := (x1.ext hw').cells2; obtain ⟨q3, q4⟩ := (x2.ext hw').cells2; go_simp; with_reducible rfl) ?_; try simp only [Act.put, List.setIfInBounds_toArray, List.set_cons_zero, List.set_cons_succ])
        refine pi_pure (v := .int .i64 M) xx rfl (by kernel_rfl) (fun w' => by go_simp; exact HM.out) ?_; try simp only [Act.put, List.setIfInBounds_toArray, List.set_cons_zero, List.set_cons_succ]
        iterate 10 (first | refine pi_pure xx rfl (by kernel_rfl) (fun w' => by go_simp; with_reducible rfl) ?_ | refine pi_read xx rfl (by kernel_rfl) (fun w' hw' => by obtain ⟨q1, q2⟩ := (x1.ext hw').cells2; obtain ⟨q3, q4⟩ := (x2.ext hw').cells2; go_simp; with_reducible rfl) ?_; try simp only [Act.put, List.setIfInBounds_toArray, List.set_cons_zero, List.set_cons_succ])
        refine pi_pure (v := .int .i64 N) xx rfl (by kernel_rfl) (fun w' => by go_simp; rw [IntWalk.i64_in _ k1, IntWalk.i64_in _ k2]; exact HN.out) ?_; try simp only [Act.put, List.setIfInBounds_toArray, List.set_cons_zero, List.set_cons_succ]
        iterate 2 (first | refine pi_pure xx rfl (by kernel_rfl) (fun w' => by go_simp; with_reducible rfl) ?_ | refine pi_read xx rfl (by kernel_rfl) (fun w' hw' => by obtain ⟨q1, q2⟩ := (x1.ext hw').cells2; obtain ⟨q3, q4⟩ := (x2.ext hw').cells2; go_simp; with_reducible rfl) ?_; try simp only [Act.put, List.setIfInBounds_toArray, List.set_cons_zero, List.set_cons_succ])
        refine pi_nil ?_
        obtain ⟨c4, c5, f4, f5⟩ := x3.cells
        go_wp2
        have z := x3.set 0 0
        have BB := (B0.setCell (p := ⟨w.heap.size + 1 + 1, 0, none⟩) (by simp; omega) (.int .i64 0)).setCell (p := ⟨w.heap.size + 1 + 1, 1, none⟩) (by simp; omega) (.int .i64 0)
        generalize (w3.setCell ⟨w.heap.size + 1 + 1, 0, none⟩ (.int .i64 0)).setCell ⟨w.heap.size + 1 + 1, 1, none⟩ (.int .i64 0) = wS at *
        obtain ⟨q0, q1⟩ := z.cells2
        refine bodyPost_ret (v := _) (by simp [results, Try.results52, go_sem, q0, q1]; with_reducible rfl) rfl ?_
        exact ⟨rfl, BB⟩

set_option maxHeartbeats 1000000 in
theorem meet_any (a n b m : Int) (w : World) (hn : i64 n) (hm : i64 m) :
    Calls Try.prog 49 #[spV a n, spV b m] w fun e w' => e = .returned (.tuple #[spV (meetA a n b m) (meetN a n b m), .bool (meetE a n b m)]) ∧ Below w.heap.size w w' := by
  have C1 : Hid (∀ w, Calls Try.prog 54 #[spV a n] w fun e w' => e = .returned (.bool (okR a n 2147483648)) ∧ Below w.heap.size w w') := fun w => taken_any a n w hn
  have C2 : Hid (∀ w, Calls Try.prog 54 #[spV b m] w fun e w' => e = .returned (.bool (okR b m 2147483648)) ∧ Below w.heap.size w w') := fun w => taken_any b m w hm
  have T := hidden (three w 79 a n b m)
  cases t1 : okR a n 2147483648
  · rw [t1] at C1
    have e1 : meetE a n b m = false := by simp [meetE, tk, t1]
    simp only [meetA, meetN, e1]
    clear C2 e1 t1
    go_enter Try.func49, Try.ntmps49
    go_wp2_with fail
    refine (C1.out _).mono ?_
    rintro e w1 ⟨rfl, B1⟩
    obtain ⟨-, -, x3, B0⟩ := T.out
    replace x3 := x3.ext B1
    replace B0 := below_then B0 B1
    obtain ⟨c4, c5, f4, f5⟩ := x3.cells
    clear B1
    go_wp2
    have z := x3.set 0 0
    have BB := (B0.setCell (p := ⟨w.heap.size + 1 + 1, 0, none⟩) (by simp; omega) (.int .i64 0)).setCell (p := ⟨w.heap.size + 1 + 1, 1, none⟩) (by simp; omega) (.int .i64 0)
    generalize (w1.setCell ⟨w.heap.size + 1 + 1, 0, none⟩ (.int .i64 0)).setCell ⟨w.heap.size + 1 + 1, 1, none⟩ (.int .i64 0) = wS at *
    obtain ⟨q0, q1⟩ := z.cells2
    refine bodyPost_ret (v := _) (by simp [results, Try.results49, go_sem, q0, q1]; with_reducible rfl) rfl ?_
    exact ⟨rfl, BB⟩
  · rw [t1] at C1
    cases t2 : okR b m 2147483648
    · rw [t2] at C2
      have e1 : meetE a n b m = false := by simp [meetE, tk, t2]
      simp only [meetA, meetN, e1]
      clear e1 t1 t2
      go_enter Try.func49, Try.ntmps49
      go_wp2_with fail
      refine (C1.out _).mono ?_
      rintro e w1 ⟨rfl, B1⟩
      obtain ⟨-, x2, x3, B0⟩ := T.out
      replace x3 := x3.ext B1
      replace x2 := x2.ext B1
      replace B0 := below_then B0 B1
      obtain ⟨c2, c3⟩ := x2.cells2
      clear B1
      go_wp2_with fail
      refine (C2.out _).mono ?_
      rintro e w2 ⟨rfl, B1⟩
      replace x3 := x3.ext B1
      replace B0 := below_then B0 B1
      obtain ⟨c4, c5, f4, f5⟩ := x3.cells
      clear B1 x2 c2 c3
      go_wp2
      have z := x3.set 0 0
      have BB := (B0.setCell (p := ⟨w.heap.size + 1 + 1, 0, none⟩) (by simp; omega) (.int .i64 0)).setCell (p := ⟨w.heap.size + 1 + 1, 1, none⟩) (by simp; omega) (.int .i64 0)
      generalize (w2.setCell ⟨w.heap.size + 1 + 1, 0, none⟩ (.int .i64 0)).setCell ⟨w.heap.size + 1 + 1, 1, none⟩ (.int .i64 0) = wS at *
      obtain ⟨q0, q1⟩ := z.cells2
      refine bodyPost_ret (v := _) (by simp [results, Try.results49, go_sem, q0, q1]; with_reducible rfl) rfl ?_
      exact ⟨rfl, BB⟩
    · rw [t2] at C2
      obtain ⟨g1, g2, g3⟩ := tk_iff.1 (show tk a n = true from t1)
      obtain ⟨g4, g5, g6⟩ := tk_iff.1 (show tk b m = true from t2)
      have e0 : meetE a n b m = decide (max a b < min (a + n) (b + m)) := by simp [meetE, tk, t1, t2]
      simp only [meetA, meetN, e0]
      obtain ⟨M, hM⟩ : ∃ M, max a b = M := ⟨_, rfl⟩
      obtain ⟨N, hN⟩ : ∃ N, min (a + n) (b + m) = N := ⟨_, rfl⟩
      rw [hM, hN]
      have HM : Hid ((if a < b then b else a) = M) := by show _ = _; split <;> omega
      have HN : Hid ((if b + m < a + n then b + m else a + n) = N) := by show _ = _; split <;> omega
      have m0 : 0 ≤ M := by omega
      have m1 : M ≤ 2147483648 := by omega
      have m2 : N ≤ 2147483648 := by omega
      have m3 : 0 ≤ N := by omega
      have k1 : -9223372036854775808 ≤ a + n ∧ a + n ≤ 9223372036854775807 := by omega
      have k2 : -9223372036854775808 ≤ b + m ∧ b + m ≤ 9223372036854775807 := by omega
      have k3 : -9223372036854775808 ≤ N - M ∧ N - M ≤ 9223372036854775807 := by omega
      clear t1 t2 e0 hM hN
      by_cases hMN : M < N
      · simp only [hMN, decide_true, if_true]
        go_enter Try.func49, Try.ntmps49
        go_wp2_with fail
        refine (C1.out _).mono ?_
        rintro e w1 ⟨rfl, B1⟩
        obtain ⟨x1, x2, x3, B0⟩ := T.out
        replace x3 := x3.ext B1
        replace x2 := x2.ext B1
        replace x1 := x1.ext B1
        replace B0 := below_then B0 B1
        obtain ⟨c2, c3⟩ := x2.cells2
        clear B1
        go_wp2_with fail
        refine (C2.out _).mono ?_
        rintro e w2 ⟨rfl, B1⟩
        replace x3 := x3.ext B1
        replace x2 := x2.ext B1
        replace x1 := x1.ext B1
        replace B0 := below_then B0 B1
        clear B1 c2 c3 C1 C2 T
        go_wp2
        replace x3 := x3.drew
        replace x2 := x2.drew
        replace x1 := x1.drew
        replace B0 := B0.drew
        refine wp_region_pi [(0, true), (1, true), (2, true), (3, true), (4, true), (5, true), (7, true), (6, false), (8, false), (9, true), (10, true), (11, true)] (by kernel_rfl) (by kernel_rfl) (by kernel_rfl) (fun _ _ _ d _ h => by cases d <;> exact h) ?_
        have xx := Ext.refl w2.drew
        generalize w2.drew = w3 at *
        iterate 4 (first | refine pi_pure xx rfl (by kernel_rfl) (fun w' => by go_simp; with_reducible rfl) ?_ | refine pi_read xx rfl (by kernel_rfl) (fun w' hw' => by obtain ⟨q1, q2⟩ := (x1.ext hw').cells2; obtain ⟨q3, q4⟩ := (x2.ext hw').cells2; go_simp; with_reducible rfl) ?_; try simp only [Act.put, List.setIfInBounds_toArray, List.set_cons_zero, List.set_cons_succ])
        refine pi_pure (v := .int .i64 M) xx rfl (by kernel_rfl) (fun w' => by go_simp; exact HM.out) ?_; try simp only [Act.put, List.setIfInBounds_toArray, List.set_cons_zero, List.set_cons_succ]
        iterate 2 (first | refine pi_pure xx rfl (by kernel_rfl) (fun w' => by go_simp; with_reducible rfl) ?_ | refine pi_read xx rfl (by kernel_rfl) (fun w' hw' => by obtain ⟨q1, q2⟩ := (x1.ext hw').cells2; obtain ⟨q3, q4⟩ := (x2.ext hw').cells2; go_simp; with_reducible rfl) ?_; try simp only [Act.put, List.setIfInBounds_toArray, List.set_cons_zero, List.set_cons_succ])
        refine pi_move rfl (by kernel_rfl) (fun K hK => ?_)
        go_wp2_with fail
        refine (end_any a n _ (by unfold i64; omega)).mono ?_
        rintro e w4 ⟨rfl, B4⟩
        replace x3 := x3.ext B4
        replace B0 := below_then B0 B4
        have x4 := xx.trans B4
        go_simp
        refine hK.out _ _ x4 ?_
        try simp only [Act.put, List.setIfInBounds_toArray, List.set_cons_zero, List.set_cons_succ]
        clear hK
        refine pi_move rfl (by kernel_rfl) (fun K hK => ?_)
        go_wp2_with fail
        refine (end_any b m _ (by unfold i64; omega)).mono ?_
        rintro e w5 ⟨rfl, B5⟩
        replace x3 := x3.ext B5
        replace B0 := below_then B0 B5
        have x5 := x4.trans B5
        go_simp
        refine hK.out _ _ x5 ?_
        try simp only [Act.put, List.setIfInBounds_toArray, List.set_cons_zero, List.set_cons_succ]
        clear hK
        refine pi_pure (v := .int .i64 N) x5 rfl (by kernel_rfl) (fun w' => by go_simp; exact HN.out) ?_; try simp only [Act.put, List.setIfInBounds_toArray, List.set_cons_zero, List.set_cons_succ]
        iterate 2 (refine pi_pure x5 rfl (by kernel_rfl) (fun w' => by go_simp; with_reducible rfl) ?_; try simp only [Act.put, List.setIfInBounds_toArray, List.set_cons_zero, List.set_cons_succ])
        refine pi_nil ?_
        clear xx x4 x5 B4 B5 x1 x2
        obtain ⟨c4, c5, f4, f5⟩ := x3.cells
        go_wp2
        have z := x3.set M (N - M)
        have BB := (B0.setCell (p := ⟨w.heap.size + 1 + 1, 0, none⟩) (by simp; omega) (.int .i64 M)).setCell (p := ⟨w.heap.size + 1 + 1, 1, none⟩) (by simp; omega) (.int .i64 (N - M))
        generalize (w5.setCell ⟨w.heap.size + 1 + 1, 0, none⟩ (.int .i64 M)).setCell ⟨w.heap.size + 1 + 1, 1, none⟩ (.int .i64 (N - M)) = wS at *
        obtain ⟨q0, q1⟩ := z.cells2
        refine bodyPost_ret (v := _) (by simp [results, Try.results49, go_sem, q0, q1]; with_reducible rfl) rfl ?_
        exact ⟨rfl, BB⟩
      · simp only [hMN, decide_false]
        go_enter Try.func49, Try.ntmps49
        go_wp2_with fail
        refine (C1.out _).mono ?_
        rintro e w1 ⟨rfl, B1⟩
        obtain ⟨x1, x2, x3, B0⟩ := T.out
        replace x3 := x3.ext B1
        replace x2 := x2.ext B1
        replace x1 := x1.ext B1
        replace B0 := below_then B0 B1
        obtain ⟨c2, c3⟩ := x2.cells2
        clear B1
        go_wp2_with fail
        refine (C2.out _).mono ?_
        rintro e w2 ⟨rfl, B1⟩
        replace x3 := x3.ext B1
        replace x2 := x2.ext B1
        replace x1 := x1.ext B1
        replace B0 := below_then B0 B1
        clear B1 c2 c3 C1 C2 T
        go_wp2
        replace x3 := x3.drew
        replace x2 := x2.drew
        replace x1 := x1.drew
        replace B0 := B0.drew
        refine wp_region_pi [(0, true), (1, true), (2, true), (3, true), (4, true), (5, true), (7, true), (6, false), (8, false), (9, true), (10, true), (11, true)] (by kernel_rfl) (by kernel_rfl) (by kernel_rfl) (fun _ _ _ d _ h => by cases d <;> exact h) ?_
        have xx := Ext.refl w2.drew
        generalize w2.drew = w3 at *
        iterate 4 (first | refine pi_pure xx rfl (by kernel_rfl) (fun w' => by go_simp; with_reducible rfl) ?_ | refine pi_read xx rfl (by kernel_rfl) (fun w' hw' => by obtain ⟨q1, q2⟩ := (x1.ext hw').cells2; obtain ⟨q3, q4⟩ := (x2.ext hw').cells2; go_simp; with_reducible rfl) ?_; try simp only [Act.put, List.setIfInBounds_toArray, List.set_cons_zero, List.set_cons_succ])
        refine pi_pure (v := .int .i64 M) xx rfl (by kernel_rfl) (fun w' => by go_simp; exact HM.out) ?_; try simp only [Act.put, List.setIfInBounds_toArray, List.set_cons_zero, List.set_cons_succ]
        iterate 2 (first | refine pi_pure xx rfl (by kernel_rfl) (fun w' => by go_simp; with_reducible rfl) ?_ | refine pi_read xx rfl (by kernel_rfl) (fun w' hw' => by obtain ⟨q1, q2⟩ := (x1.ext hw').cells2; obtain ⟨q3, q4⟩ := (x2.ext hw').cells2; go_simp; with_reducible rfl) ?_; try simp only [Act.put, List.setIfInBounds_toArray, List.set_cons_zero, List.set_cons_succ])
        refine pi_move rfl (by kernel_rfl) (fun K hK => ?_)
        go_wp2_with fail
        refine (end_any a n _ (by unfold i64; omega)).mono ?_
        rintro e w4 ⟨rfl, B4⟩
        replace x3 := x3.ext B4
        replace B0 := below_then B0 B4
        have x4 := xx.trans B4
        go_simp
        refine hK.out _ _ x4 ?_
        try simp only [Act.put, List.setIfInBounds_toArray, List.set_cons_zero, List.set_cons_succ]
        clear hK
        refine pi_move rfl (by kernel_rfl) (fun K hK => ?_)
        go_wp2_with fail
        refine (end_any b m _ (by unfold i64; omega)).mono ?_
        rintro e w5 ⟨rfl, B5⟩
        replace x3 := x3.ext B5
        replace B0 := below_then B0 B5
        have x5 := x4.trans B5
        go_simp
        refine hK.out _ _ x5 ?_
        try simp only [Act.put, List.setIfInBounds_toArray, List.set_cons_zero, List.set_cons_succ]
        clear hK
        refine pi_pure (v := .int .i64 N) x5 rfl (by kernel_rfl) (fun w' => by go_simp; exact HN.out) ?_; try simp only [Act.put, List.setIfInBounds_toArray, List.set_cons_zero, List.set_cons_succ]
        iterate 2 (refine pi_pure x5 rfl (by kernel_rfl) (fun w' => by go_simp; with_reducible rfl) ?_; try simp only [Act.put, List.setIfInBounds_toArray, List.set_cons_zero, List.set_cons_succ])
        refine pi_nil ?_
        clear xx x4 x5 B4 B5 x1 x2
        obtain ⟨c4, c5, f4, f5⟩ := x3.cells
        go_wp2
        have z := x3.set 0 0
        have BB := (B0.setCell (p := ⟨w.heap.size + 1 + 1, 0, none⟩) (by simp; omega) (.int .i64 0)).setCell (p := ⟨w.heap.size + 1 + 1, 1, none⟩) (by simp; omega) (.int .i64 0)
        generalize (w5.setCell ⟨w.heap.size + 1 + 1, 0, none⟩ (.int .i64 0)).setCell ⟨w.heap.size + 1 + 1, 1, none⟩ (.int .i64 0) = wS at *
        obtain ⟨q0, q1⟩ := z.cells2
        refine bodyPost_ret (v := _) (by simp [results, Try.results49, go_sem, q0, q1]; with_reducible rfl) rfl ?_
        exact ⟨rfl, BB⟩

end Go.Proofs.Ytffjhimdamdenaa
