/- Contract of span.piece. -/
import Derived.Test.YtpahipoooiaoeaaZ5
namespace Go.Proofs.Ytpahipoooiaoeaa
open Go.RowKit

def pieceV (l : SL) (a n : Int) : Value := match fnd l a with
  | none => .tuple #[spV 0 0, .bool false]
  | some x => .tuple #[spV a (pcN x a n), .bool true]
theorem tk_i64 {a n : Int} (h : tk a n = true) : i64 a ∧ i64 n := by
  obtain ⟨h1, h2, h3⟩ := tk_iff.1 h
  unfold i64; omega
set_option maxHeartbeats 1000000 in
theorem piece_any (v : Value) (l : SL) (a n : Int) (w : World) (hv : Sps w v l) (ha : allB l = true) (hs : tk a n = true) :
    Calls Try.prog 41 #[v, spV a n] w fun e w' => e = .returned (pieceV l a n) ∧ Below w.heap.size w w' := by
  obtain ⟨av, cap, rfl, -⟩ := id hv
  obtain ⟨hl, hc, hm, -⟩ := hv.at
  unfold maxLen at hm
  obtain ⟨Z, hZ⟩ : ∃ Z, pieceV l a n = Z := ⟨_, rfl⟩
  rw [hZ]
  have HZ := hidden hZ
  clear hZ
  have T := hidden (two w 67 a n 0 0)
  have HA := hidden ha
  have HS := hidden hs
  clear ha hs
  go_enter Try.func41, Try.ntmps41
  go_wp2
  go_loopw [10] (fun i wr => ∃ k : Nat, k ≤ l.length ∧ i = .int .i64 k ∧ Hid (fnd (l.take k) a = none) ∧ Bx wr w.heap.size 67 a n ∧ Bx wr (w.heap.size + 1) 67 0 0 ∧ Below w.heap.size w wr) (fun i _ => l.length - (intOf i).toNat)
  case atStart =>
    obtain ⟨b1, b2, B0⟩ := T.out
    exact ⟨0, Nat.zero_le _, rfl, hidden rfl, b1, b2, B0⟩
  case round =>
    obtain ⟨k, hk, rfl, HE, b1, b2, hb⟩ := hrel
    by_cases hlt : k < l.length
    · obtain ⟨-, -, -, hcell⟩ := (hv.ext hb).at
      obtain ⟨b, off, rfl, hcl⟩ := hcell k hlt
      obtain ⟨c0, c1⟩ := hcl k hlt
      clear hcl hcell
      have hlt' : (k : Int) < (l.length : Int) := by omega
      have TA := hidden (fun h => fnd_hit (l := l) (a := a) hlt HE.out h)
      have TB := hidden (fun h => fnd_miss (l := l) (a := a) hlt HE.out h)
      have tx := allB_at HA.out hlt
      have ex : (l.getD k (0, 0)) = ((l.getD k (0, 0)).1, (l.getD k (0, 0)).2) := rfl
      rw [ex] at TA TB
      clear ex
      generalize (l.getD k (0, 0)).1 = x at *
      generalize (l.getD k (0, 0)).2 = y at *
      have oy := (tk_i64 tx).2
      obtain ⟨t1, t2, t3⟩ := tk_iff.1 tx
      have TX := hidden tx
      clear tx
      have on := (tk_i64 HS.out).2
      by_cases g1 : x ≤ a
      · by_cases g2 : a < x + y
        · have hh : hasB (x, y) a = true := hasB_iff.2 ⟨g1, g2⟩
          obtain ⟨M1, M2, M3⟩ := meet_piece TX.out HS.out hh
          have C := hidden (fun w => meet_any x y a n w oy on)
          rw [M1, M2, M3] at C
          have e2 : Hid (Z = .tuple #[spV a (pcN (x, y) a n), .bool true]) := by
            show _ = _
            rw [← HZ.out]; simp only [pieceV, TA.out hh]
          clear M1 M2 M3 hh TA TB
          obtain ⟨P, hP⟩ : ∃ P, pcN (x, y) a n = P := ⟨_, rfl⟩
          rw [hP] at C e2
          clear hP
          obtain rfl := e2.out
          have d1 : decide (x ≤ a) = true := by simpa using g1
          have d2 : decide (a < x + y) = true := by simpa using g2
          go_wp2
          refine wp_region_pi [(0, true), (1, true), (2, true), (3, true), (4, true), (5, true), (6, true), (7, true), (8, true), (9, false), (10, true), (11, true)] (by kernel_rfl) (by kernel_rfl) (by kernel_rfl) (fun _ _ _ d _ h => by cases d <;> exact h) ?_
          have x1 := (Bx.new wr 67 x y).drew
          have x2 := (b1.alloc (.cells #[.int .i64 x, .int .i64 y] 67)).drew
          have x3 := (b2.alloc (.cells #[.int .i64 x, .int .i64 y] 67)).drew
          have B0 := (hb.alloc hb.size (.cells #[.int .i64 x, .int .i64 y] 67)).drew
          obtain ⟨gx, hgx⟩ : ∃ g, wr.heap.size = g := ⟨_, rfl⟩
          rw [hgx] at x1 ⊢
          have xx := Ext.refl (wr.alloc (.cells #[.int .i64 x, .int .i64 y] 67)).drew
          generalize (wr.alloc (.cells #[.int .i64 x, .int .i64 y] 67)).drew = w3 at *
          clear hgx
          iterate 9 (first | refine pi_pure xx rfl (by kernel_rfl) (fun w' => by go_simp; with_reducible rfl) ?_ | refine pi_read xx rfl (by kernel_rfl) (fun w' hw' => by obtain ⟨q1, q2⟩ := (x1.ext hw').cells2; obtain ⟨q3, q4⟩ := (x2.ext hw').cells2; go_simp; with_reducible rfl) ?_; try simp only [Act.put, List.setIfInBounds_toArray, List.set_cons_zero, List.set_cons_succ])
          refine pi_move rfl (by kernel_rfl) (fun K hK => ?_)
          go_wp2_with fail
          refine (end_any x y _ (by unfold i64; omega)).mono ?_
          rintro e w4 ⟨rfl, B4⟩
          replace x1 := x1.ext B4
          replace x2 := x2.ext B4
          replace x3 := x3.ext B4
          replace B0 := below_then B0 B4
          have x4 := xx.trans B4
          go_simp
          refine hK.out _ _ x4 ?_
          try simp only [Act.put, List.setIfInBounds_toArray, List.set_cons_zero, List.set_cons_succ]
          clear hK
          iterate 2 (refine pi_pure x4 rfl (by kernel_rfl) (fun w' => by go_simp; with_reducible rfl) ?_; try simp only [Act.put, List.setIfInBounds_toArray, List.set_cons_zero, List.set_cons_succ])
          refine pi_nil ?_
          clear xx x4 B4
          obtain ⟨q1, q2⟩ := x1.cells2
          obtain ⟨q3, q4⟩ := x2.cells2
          go_wp2_with fail
          refine (C.out _).mono ?_
          rintro e w5 ⟨rfl, B5⟩
          replace x3 := x3.ext B5
          replace B0 := below_then B0 B5
          obtain ⟨c4, c5, f4, f5⟩ := x3.cells
          clear q1 q2 q3 q4 B5
          go_wp2
          have z := x3.set a P
          have BB := (B0.setCell (p := ⟨w.heap.size + 1, 0, none⟩) (by simp) (.int .i64 a)).setCell (p := ⟨w.heap.size + 1, 1, none⟩) (by simp) (.int .i64 P)
          generalize (w5.setCell ⟨w.heap.size + 1, 0, none⟩ (.int .i64 a)).setCell ⟨w.heap.size + 1, 1, none⟩ (.int .i64 P) = wS at *
          obtain ⟨q0, q1⟩ := z.cells2
          refine bodyPost_ret (v := _) (by simp [results, Try.results41, go_sem, q0, q1]; with_reducible rfl) rfl ?_
          exact ⟨rfl, BB⟩
        · have hh : hasB (x, y) a = false := hasB_f.2 (by omega)
          have E2 := hidden (TB.out hh)
          have d1 : decide (x ≤ a) = true := by simpa using g1
          have d2 : decide (a < x + y) = false := by simpa using g2
          clear TA TB hh
          go_wp2
          refine wp_region_pi [(0, true), (1, true), (2, true), (3, true), (4, true), (5, true), (6, true), (7, true), (8, true), (9, false), (10, true), (11, true)] (by kernel_rfl) (by kernel_rfl) (by kernel_rfl) (fun _ _ _ d _ h => by cases d <;> exact h) ?_
          have x1 := (Bx.new wr 67 x y).drew
          have x2 := (b1.alloc (.cells #[.int .i64 x, .int .i64 y] 67)).drew
          have x3 := (b2.alloc (.cells #[.int .i64 x, .int .i64 y] 67)).drew
          have B0 := (hb.alloc hb.size (.cells #[.int .i64 x, .int .i64 y] 67)).drew
          obtain ⟨gx, hgx⟩ : ∃ g, wr.heap.size = g := ⟨_, rfl⟩
          rw [hgx] at x1 ⊢
          have xx := Ext.refl (wr.alloc (.cells #[.int .i64 x, .int .i64 y] 67)).drew
          generalize (wr.alloc (.cells #[.int .i64 x, .int .i64 y] 67)).drew = w3 at *
          clear hgx
          iterate 9 (first | refine pi_pure xx rfl (by kernel_rfl) (fun w' => by go_simp; with_reducible rfl) ?_ | refine pi_read xx rfl (by kernel_rfl) (fun w' hw' => by obtain ⟨q1, q2⟩ := (x1.ext hw').cells2; obtain ⟨q3, q4⟩ := (x2.ext hw').cells2; go_simp; with_reducible rfl) ?_; try simp only [Act.put, List.setIfInBounds_toArray, List.set_cons_zero, List.set_cons_succ])
          refine pi_move rfl (by kernel_rfl) (fun K hK => ?_)
          go_wp2_with fail
          refine (end_any x y _ (by unfold i64; omega)).mono ?_
          rintro e w4 ⟨rfl, B4⟩
          replace x2 := x2.ext B4
          replace x3 := x3.ext B4
          replace B0 := below_then B0 B4
          have x4 := xx.trans B4
          go_simp
          refine hK.out _ _ x4 ?_
          try simp only [Act.put, List.setIfInBounds_toArray, List.set_cons_zero, List.set_cons_succ]
          clear hK
          iterate 2 (refine pi_pure x4 rfl (by kernel_rfl) (fun w' => by go_simp; with_reducible rfl) ?_; try simp only [Act.put, List.setIfInBounds_toArray, List.set_cons_zero, List.set_cons_succ])
          refine pi_nil ?_
          go_wp2
          go_roundw
          case rel => exact ⟨k + 1, by omega, by go_num, E2, x2, x3, B0⟩
          case measure => simp [intOf]; omega
      · have hh : hasB (x, y) a = false := hasB_f.2 (by omega)
        have E2 := hidden (TB.out hh)
        have d1 : decide (x ≤ a) = false := by simpa using g1
        clear TA TB hh
        go_wp2
        refine wp_region_pi [(0, true), (1, true), (2, true), (3, true), (4, true), (5, true), (6, true), (7, true), (8, true), (9, false), (10, true), (11, true)] (by kernel_rfl) (by kernel_rfl) (by kernel_rfl) (fun _ _ _ d _ h => by cases d <;> exact h) ?_
        have x1 := (Bx.new wr 67 x y).drew
        have x2 := (b1.alloc (.cells #[.int .i64 x, .int .i64 y] 67)).drew
        have x3 := (b2.alloc (.cells #[.int .i64 x, .int .i64 y] 67)).drew
        have B0 := (hb.alloc hb.size (.cells #[.int .i64 x, .int .i64 y] 67)).drew
        obtain ⟨gx, hgx⟩ : ∃ g, wr.heap.size = g := ⟨_, rfl⟩
        rw [hgx] at x1 ⊢
        have xx := Ext.refl (wr.alloc (.cells #[.int .i64 x, .int .i64 y] 67)).drew
        generalize (wr.alloc (.cells #[.int .i64 x, .int .i64 y] 67)).drew = w3 at *
        clear hgx
        iterate 6 (first | refine pi_pure xx rfl (by kernel_rfl) (fun w' => by go_simp; with_reducible rfl) ?_ | refine pi_read xx rfl (by kernel_rfl) (fun w' hw' => by obtain ⟨q1, q2⟩ := (x1.ext hw').cells2; obtain ⟨q3, q4⟩ := (x2.ext hw').cells2; go_simp; with_reducible rfl) ?_; try simp only [Act.put, List.setIfInBounds_toArray, List.set_cons_zero, List.set_cons_succ])
        iterate 3 (refine pi_skip xx rfl (by kernel_rfl) ?_; try simp only [Act.put, List.setIfInBounds_toArray, List.set_cons_zero, List.set_cons_succ])
        refine pi_pass xx rfl (by kernel_rfl) ?_; try simp only [Act.put, List.setIfInBounds_toArray, List.set_cons_zero, List.set_cons_succ]
        iterate 1 (refine pi_skip xx rfl (by kernel_rfl) ?_; try simp only [Act.put, List.setIfInBounds_toArray, List.set_cons_zero, List.set_cons_succ])
        iterate 1 (refine pi_pure xx rfl (by kernel_rfl) (fun w' => by go_simp; with_reducible rfl) ?_; try simp only [Act.put, List.setIfInBounds_toArray, List.set_cons_zero, List.set_cons_succ])
        refine pi_nil ?_
        go_wp2
        go_roundw
        case rel => exact ⟨k + 1, by omega, by go_num, E2, x2, x3, B0⟩
        case measure => simp [intOf]; omega
    · have e : l.take k = l := List.take_of_length_le (by omega)
      rw [e] at HE
      have e2 : Hid (Z = .tuple #[spV 0 0, .bool false]) := by
        show _ = _
        rw [← HZ.out]; simp only [pieceV, HE.out]
      obtain rfl := e2.out
      obtain ⟨c4, c5, f4, f5⟩ := b2.cells
      have x3 := b2
      have B0 := hb
      go_wp2
      have z := x3.set 0 0
      have BB := (B0.setCell (p := ⟨w.heap.size + 1, 0, none⟩) (by simp) (.int .i64 0)).setCell (p := ⟨w.heap.size + 1, 1, none⟩) (by simp) (.int .i64 0)
      generalize (wr.setCell ⟨w.heap.size + 1, 0, none⟩ (.int .i64 0)).setCell ⟨w.heap.size + 1, 1, none⟩ (.int .i64 0) = wS at *
      obtain ⟨q0, q1⟩ := z.cells2
      refine bodyPost_ret (v := _) (by simp [results, Try.results41, go_sem, q0, q1]; with_reducible rfl) rfl ?_
      exact ⟨rfl, BB⟩

end Go.Proofs.Ytpahipoooiaoeaa
