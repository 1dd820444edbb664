/- Contracts of window's small functions: virtualSpan, physicalSpan, Right, has, meet; of burgageref7.Window. -/
import Derived.Test.YtffjhimdamdenaaWA
namespace Go.Proofs.Ytffjhimdamdenaa
open Go.RowKit

/-- a box that holds a window -/
def BxW (w : World) (g : Nat) (s v p n : Int) : Prop := Blk w g 45 [.int .i64 s, .int .i64 v, .int .i64 p, .int .i64 n]
abbrev boxW (s v p n : Int) : Obj := .cells #[.int .i64 s, .int .i64 v, .int .i64 p, .int .i64 n] 45
theorem BxW.cells {w : World} {g : Nat} {s v p n : Int} (h : BxW w g s v p n) : w.cell? ⟨g, 0, none⟩ = some (.int .i64 s) ∧ w.cell? ⟨g, 1, none⟩ = some (.int .i64 v) ∧ w.cell? ⟨g, 2, none⟩ = some (.int .i64 p) ∧ w.cell? ⟨g, 3, none⟩ = some (.int .i64 n) := ⟨Blk.cell h 0, Blk.cell h 1, Blk.cell h 2, Blk.cell h 3⟩
theorem BxW.lt {w : World} {g : Nat} {s v p n : Int} (h : BxW w g s v p n) : g < w.heap.size := Blk.lt h
theorem BxW.new (w : World) (s v p n : Int) : BxW (w.alloc (boxW s v p n)) w.heap.size s v p n := Blk.new w _ [.int .i64 s, .int .i64 v, .int .i64 p, .int .i64 n]
theorem BxW.ext {w w' : World} {g : Nat} {s v p n : Int} (h : BxW w g s v p n) (hb : Below w.heap.size w w') : BxW w' g s v p n := Blk.below h hb (Blk.lt h)
theorem BxW.alloc {w : World} {g : Nat} {s v p n : Int} (h : BxW w g s v p n) (o : Obj) : BxW (w.alloc o) g s v p n := Blk.alloc h o
theorem BxW.drew {w : World} {g : Nat} {s v p n : Int} (h : BxW w g s v p n) : BxW w.drew g s v p n := h

theorem wnsp (w : World) (s v p n a b : Int) : BxW ((w.alloc (boxW s v p n)).alloc (.cells #[.int .i64 a, .int .i64 b] 79)) w.heap.size s v p n ∧ Bx ((w.alloc (boxW s v p n)).alloc (.cells #[.int .i64 a, .int .i64 b] 79)) (w.heap.size + 1) 79 a b ∧ Below w.heap.size w ((w.alloc (boxW s v p n)).alloc (.cells #[.int .i64 a, .int .i64 b] 79)) := by
  refine ⟨(BxW.new w s v p n).alloc _, ?_, ((Below.refl w.heap.size w).alloc (Nat.le_refl _) _).alloc (by simp) _⟩
  have := Bx.new (w.alloc (boxW s v p n)) 79 a b
  simpa using this

theorem vspan_any (s v p n : Int) (w : World) :
    Calls Try.prog 53 #[wnV s v p n] w fun e w' => e = .returned (spV v n) ∧ Below w.heap.size w w' := by
  have T := hidden (wnsp w s v p n v n)
  obtain ⟨b1, b2, -⟩ := wnsp w s v p n 0 0
  obtain ⟨c0, c1, c2, c3⟩ := b1.cells
  obtain ⟨q0, q1, f0, f1⟩ := b2.cells
  go_enter Try.func53, Try.ntmps53
  go_wp2
  obtain ⟨-, z, BB⟩ := T.out
  clear q0 q1 f0 f1 b1 b2 c0 c1 c2 c3
  obtain ⟨q0, q1⟩ := z.cells2
  refine bodyPost_ret (v := _) (by simp [results, Try.results53, go_sem, q0, q1]; with_reducible rfl) rfl ?_
  exact ⟨rfl, BB⟩

theorem pspan_any (s v p n : Int) (w : World) :
    Calls Try.prog 48 #[wnV s v p n] w fun e w' => e = .returned (spV p n) ∧ Below w.heap.size w w' := by
  have T := hidden (wnsp w s v p n p n)
  obtain ⟨b1, b2, -⟩ := wnsp w s v p n 0 0
  obtain ⟨c0, c1, c2, c3⟩ := b1.cells
  obtain ⟨q0, q1, f0, f1⟩ := b2.cells
  go_enter Try.func48, Try.ntmps48
  go_wp2
  obtain ⟨-, z, BB⟩ := T.out
  clear q0 q1 f0 f1 b1 b2 c0 c1 c2 c3
  obtain ⟨q0, q1⟩ := z.cells2
  refine bodyPost_ret (v := _) (by simp [results, Try.results48, go_sem, q0, q1]; with_reducible rfl) rfl ?_
  exact ⟨rfl, BB⟩

theorem meet1_any (a n b m : Int) (w : World) (hn : i64 n) (hm : i64 m) :
    Calls Try.prog 47 #[spV a n, spV b m] w fun e w' => e = .returned (.bool (meetE a n b m)) ∧ Below w.heap.size w w' := by
  have C := hidden (fun w => meet_any a n b m w hn hm)
  generalize meetA a n b m = ma at *
  generalize meetN a n b m = mn at *
  generalize meetE a n b m = me at *
  have T := hidden (two w 79 a n b m)
  obtain ⟨b1, b2, -⟩ := two w 79 a n b m
  obtain ⟨q0, q1⟩ := b1.cells2
  obtain ⟨q2, q3⟩ := b2.cells2
  go_enter Try.func47, Try.ntmps47
  go_wp2_with fail
  refine (C.out _).mono ?_
  rintro e w1 ⟨rfl, B1⟩
  have B0 := below_then T.out.2.2 B1
  clear q0 q1 q2 q3 b1 b2
  go_wp2
  go_ret
  exact ⟨rfl, B0.alloc B0.size _⟩

theorem wright_any (s v p n : Int) (w : World) (hn : i64 n) :
    Calls Try.prog 42 #[wnV s v p n] w fun e w' => e = .returned (.bool (wR (s, v, p, n))) ∧ Below w.heap.size w w' := by
  have C1 := hidden (fun w => vspan_any s v p n w)
  have C2 := hidden (fun w => right_any v n 65536 w hn (by unfold i64; omega))
  have C3 := hidden (fun w => pspan_any s v p n w)
  have C4 := hidden (fun w => right_any p n 512 w hn (by unfold i64; omega))
  have b1 := BxW.new w s v p n
  have B0 := (Below.refl w.heap.size w).alloc (Nat.le_refl _) (boxW s v p n)
  obtain ⟨c0, c1, c2, c3⟩ := b1.cells
  have E : Hid (wR (s, v, p, n) = (decide (0 ≤ s) && decide (s ≤ 3) && okR v n 65536 && okR p n 512)) := rfl
  generalize wR (s, v, p, n) = R at *
  generalize okR v n 65536 = o1 at *
  generalize okR p n 512 = o2 at *
  by_cases h1 : 0 ≤ s
  · by_cases h2 : s ≤ 3
    · have d1 : decide (s < 0) = false := by simp; omega
      have d2 : decide (3 < s) = false := by simp; omega
      have E2 : R = (o1 && o2) := by rw [E.out]; simp [h1, h2]
      have E3 := hidden E2
      clear E2 E
      cases o1
      · obtain rfl := E3.out
        go_enter Try.func42, Try.ntmps42
        go_wp2_with fail
        refine (C1.out _).mono ?_
        rintro e w1 ⟨rfl, B1⟩
        replace B0 := below_then B0 B1
        go_wp2_with fail
        refine (C2.out _).mono ?_
        rintro e w2 ⟨rfl, B2⟩
        replace B0 := below_then B0 B2
        go_wp2
        go_ret
        exact ⟨rfl, B0⟩
      · obtain rfl := E3.out
        go_enter Try.func42, Try.ntmps42
        go_wp2_with fail
        refine (C1.out _).mono ?_
        rintro e w1 ⟨rfl, B1⟩
        replace B0 := below_then B0 B1
        replace b1 := b1.ext B1
        go_wp2_with fail
        refine (C2.out _).mono ?_
        rintro e w2 ⟨rfl, B2⟩
        replace B0 := below_then B0 B2
        replace b1 := b1.ext B2
        clear c0 c1 c2 c3
        obtain ⟨c0, c1, c2, c3⟩ := b1.cells
        go_wp2_with fail
        refine (C3.out _).mono ?_
        rintro e w3 ⟨rfl, B3⟩
        replace B0 := below_then B0 B3
        go_wp2_with fail
        refine (C4.out _).mono ?_
        rintro e w4 ⟨rfl, B4⟩
        replace B0 := below_then B0 B4
        go_wp2
        go_ret
        exact ⟨rfl, B0⟩
    · have d1 : decide (s < 0) = false := by simp; omega
      have d2 : decide (3 < s) = true := by simp; omega
      have E2 : R = false := by rw [E.out]; simp [h2]
      subst E2
      go_enter Try.func42, Try.ntmps42
      go_wp2
      go_ret
      exact ⟨rfl, B0⟩
  · have d1 : decide (s < 0) = true := by simp; omega
    have E2 : R = false := by rw [E.out]; simp [h1]
    subst E2
    go_enter Try.func42, Try.ntmps42
    go_wp2
    go_ret
    exact ⟨rfl, B0⟩

theorem rwindow_any (s v p n : Int) (w : World) (hn : i64 n) :
    Calls Try.prog 50 #[wnV s v p n] w fun e w' => e = .returned (.bool (wR (s, v, p, n))) ∧ Below w.heap.size w w' := by
  have C2 := hidden (fun w => rright_any v n 65536 w hn (by unfold i64; omega))
  have C4 := hidden (fun w => rright_any p n 512 w hn (by unfold i64; omega))
  have b1 := BxW.new w s v p n
  have B0 := (Below.refl w.heap.size w).alloc (Nat.le_refl _) (boxW s v p n)
  obtain ⟨c0, c1, c2, c3⟩ := b1.cells
  have E : Hid (wR (s, v, p, n) = (decide (0 ≤ s) && decide (s ≤ 3) && okR v n 65536 && okR p n 512)) := rfl
  generalize wR (s, v, p, n) = R at *
  generalize okR v n 65536 = o1 at *
  generalize okR p n 512 = o2 at *
  by_cases h1 : 0 ≤ s
  · by_cases h2 : s ≤ 3
    · have d1 : decide (0 ≤ s) = true := by simpa using h1
      have d2 : decide (s ≤ 3) = true := by simpa using h2
      have E2 : R = (o1 && o2) := by rw [E.out]; simp [h1, h2]
      have E3 := hidden E2
      clear E2 E
      cases o1
      · obtain rfl := E3.out
        go_enter Try.func50, Try.ntmps50
        go_wp2_with fail
        refine (C2.out _).mono ?_
        rintro e w2 ⟨rfl, B2⟩
        replace B0 := below_then B0 B2
        go_wp2
        go_ret
        exact ⟨rfl, B0⟩
      · obtain rfl := E3.out
        go_enter Try.func50, Try.ntmps50
        go_wp2_with fail
        refine (C2.out _).mono ?_
        rintro e w2 ⟨rfl, B2⟩
        replace B0 := below_then B0 B2
        replace b1 := b1.ext B2
        clear c0 c1 c2 c3
        obtain ⟨c0, c1, c2, c3⟩ := b1.cells
        go_wp2_with fail
        refine (C4.out _).mono ?_
        rintro e w4 ⟨rfl, B4⟩
        replace B0 := below_then B0 B4
        go_wp2
        go_ret
        exact ⟨rfl, B0⟩
    · have d1 : decide (0 ≤ s) = true := by simpa using h1
      have d2 : decide (s ≤ 3) = false := by simp; omega
      have E2 : R = false := by rw [E.out]; simp [h2]
      subst E2
      go_enter Try.func50, Try.ntmps50
      go_wp2
      go_ret
      exact ⟨rfl, B0⟩
  · have d1 : decide (0 ≤ s) = false := by simp; omega
    have E2 : R = false := by rw [E.out]; simp [h1]
    subst E2
    go_enter Try.func50, Try.ntmps50
    go_wp2
    go_ret
    exact ⟨rfl, B0⟩

end Go.Proofs.Ytffjhimdamdenaa
