/- The walk of burgagelaw7.SpanCells. -/
import Derived.Test.YtdclbknahialcaaZF
import Derived.Test.YtdclbknahialcaaZM
namespace Go.Proofs.Ytdclbknahialcaa
open Go.RowKit

set_option maxRecDepth 100000 in
set_option maxHeartbeats 8000000 in
theorem cells_law (a n b m : Int) (v : Value) (l : SL) (w : World) (hv : Sps w v l) :
    Calls Try.prog 5 #[spV a n, spV b m, v] w fun e w' => e = .returned (.bool true) ∧ Below w.heap.size w w' := by
  obtain ⟨av, cap, rfl, -⟩ := id hv
  obtain ⟨-, hc, hmx, -⟩ := hv.at
  unfold maxLen at hmx
  obtain ⟨p1, P1, r1, s1⟩ := mask_any a 4 (by decide) 15 rfl
  obtain ⟨p2, P2, r2, s2⟩ := mask_any b 4 (by decide) 15 rfl
  obtain ⟨y1, Y1, r4, s4⟩ := mask_any n 4 (by decide) 15 rfl
  obtain ⟨y2, Y2, r5, s5⟩ := mask_any m 4 (by decide) 15 rfl
  have k1 : -9223372036854775808 ≤ 1 + y1 ∧ 1 + y1 ≤ 9223372036854775807 := by omega
  have k2 : -9223372036854775808 ≤ 1 + y2 ∧ 1 + y2 ≤ 9223372036854775807 := by omega
  have XB := hidden (two w 24 a n b m)
  go_enter Try.func5, Try.ntmps5
  go_upto_region 1 with fail
  go_cut [7, 8] from 30 to 45 (fun s7 s8 wx => ∃ (b7 b8 : Nat), s7 = .pointer (some ⟨b7, 0, none⟩) ∧ s8 = .pointer (some ⟨b8, 0, none⟩) ∧ Bx wx b7 24 p1 (1 + y1) ∧ Bx wx b8 24 p2 (1 + y2) ∧ Below w.heap.size w wx)
  case first =>
    refine c_begin 20 rfl (by kernel_rfl) ?_
    obtain ⟨x1, x2, B0⟩ := XB.out
    replace x1 := x1.drew
    replace x2 := x2.drew
    replace B0 := B0.drew
    have xx := Ext.refl ((w.alloc (.cells #[.int .i64 a, .int .i64 n] 24)).alloc (.cells #[.int .i64 b, .int .i64 m] 24)).drew
    generalize ((w.alloc (.cells #[.int .i64 a, .int .i64 n] 24)).alloc (.cells #[.int .i64 b, .int .i64 m] 24)).drew = w0 at *
    refine c_pure trivial (by kernel_rfl) (fun _ _ _ d _ h => by cases d <;> exact h) 0 rfl (by kernel_rfl) (by kernel_rfl) (fun w' => by go_simp; with_reducible rfl) ?_; try simp only [Act.put, List.setIfInBounds_toArray, List.set_cons_zero, List.set_cons_succ]
    refine c_read (fun w' => Ext w0 w') xx trivial (by kernel_rfl) (fun _ _ _ d _ h => by cases d <;> exact h) 1 rfl (by kernel_rfl) (by kernel_rfl) (fun w' hx => by obtain ⟨q1, q2⟩ := (x1.ext hx).cells2; go_simp; with_reducible rfl) ?_; try simp only [Act.put, List.setIfInBounds_toArray, List.set_cons_zero, List.set_cons_succ]
    refine c_pure (v := .int .i64 p1) ⟨xx, trivial⟩ (by kernel_rfl) (fun _ _ _ d _ h => by cases d <;> exact h) 2 rfl (by kernel_rfl) (by kernel_rfl) (fun w' => by go_simp; rw [P1.out]) ?_; try simp only [Act.put, List.setIfInBounds_toArray, List.set_cons_zero, List.set_cons_succ]
    refine c_pure ⟨xx, trivial⟩ (by kernel_rfl) (fun _ _ _ d _ h => by cases d <;> exact h) 3 rfl (by kernel_rfl) (by kernel_rfl) (fun w' => by go_simp; with_reducible rfl) ?_; try simp only [Act.put, List.setIfInBounds_toArray, List.set_cons_zero, List.set_cons_succ]
    refine c_read (fun w' => Ext w0 w') xx ⟨xx, trivial⟩ (by kernel_rfl) (fun _ _ _ d _ h => by cases d <;> exact h) 4 rfl (by kernel_rfl) (by kernel_rfl) (fun w' hx => by obtain ⟨q1, q2⟩ := (x1.ext hx).cells2; go_simp; with_reducible rfl) ?_; try simp only [Act.put, List.setIfInBounds_toArray, List.set_cons_zero, List.set_cons_succ]
    refine c_pure (v := .int .i64 y1) ⟨xx, xx, trivial⟩ (by kernel_rfl) (fun _ _ _ d _ h => by cases d <;> exact h) 5 rfl (by kernel_rfl) (by kernel_rfl) (fun w' => by go_simp; rw [Y1.out]) ?_; try simp only [Act.put, List.setIfInBounds_toArray, List.set_cons_zero, List.set_cons_succ]
    refine c_pure (v := .int .i64 (1 + y1)) ⟨xx, xx, trivial⟩ (by kernel_rfl) (fun _ _ _ d _ h => by cases d <;> exact h) 6 rfl (by kernel_rfl) (by kernel_rfl) (fun w' => by go_simp; rw [IntWalk.i64_in _ k1]) ?_; try simp only [Act.put, List.setIfInBounds_toArray, List.set_cons_zero, List.set_cons_succ]
    refine c_pure ⟨xx, xx, trivial⟩ (by kernel_rfl) (fun _ _ _ d _ h => by cases d <;> exact h) 7 rfl (by kernel_rfl) (by kernel_rfl) (fun w' => by go_simp; with_reducible rfl) ?_; try simp only [Act.put, List.setIfInBounds_toArray, List.set_cons_zero, List.set_cons_succ]
    refine c_pure ⟨xx, xx, trivial⟩ (by kernel_rfl) (fun _ _ _ d _ h => by cases d <;> exact h) 8 rfl (by kernel_rfl) (by kernel_rfl) (fun w' => by go_simp; with_reducible rfl) ?_; try simp only [Act.put, List.setIfInBounds_toArray, List.set_cons_zero, List.set_cons_succ]
    refine c_read (fun w' => Ext w0 w') xx ⟨xx, xx, trivial⟩ (by kernel_rfl) (fun _ _ _ d _ h => by cases d <;> exact h) 9 rfl (by kernel_rfl) (by kernel_rfl) (fun w' hx => by obtain ⟨q1, q2⟩ := (x2.ext hx).cells2; go_simp; with_reducible rfl) ?_; try simp only [Act.put, List.setIfInBounds_toArray, List.set_cons_zero, List.set_cons_succ]
    refine c_pure (v := .int .i64 p2) ⟨xx, xx, xx, trivial⟩ (by kernel_rfl) (fun _ _ _ d _ h => by cases d <;> exact h) 10 rfl (by kernel_rfl) (by kernel_rfl) (fun w' => by go_simp; rw [P2.out]) ?_; try simp only [Act.put, List.setIfInBounds_toArray, List.set_cons_zero, List.set_cons_succ]
    refine c_pure ⟨xx, xx, xx, trivial⟩ (by kernel_rfl) (fun _ _ _ d _ h => by cases d <;> exact h) 11 rfl (by kernel_rfl) (by kernel_rfl) (fun w' => by go_simp; with_reducible rfl) ?_; try simp only [Act.put, List.setIfInBounds_toArray, List.set_cons_zero, List.set_cons_succ]
    refine c_read (fun w' => Ext w0 w') xx ⟨xx, xx, xx, trivial⟩ (by kernel_rfl) (fun _ _ _ d _ h => by cases d <;> exact h) 12 rfl (by kernel_rfl) (by kernel_rfl) (fun w' hx => by obtain ⟨q1, q2⟩ := (x2.ext hx).cells2; go_simp; with_reducible rfl) ?_; try simp only [Act.put, List.setIfInBounds_toArray, List.set_cons_zero, List.set_cons_succ]
    refine c_pure (v := .int .i64 y2) ⟨xx, xx, xx, xx, trivial⟩ (by kernel_rfl) (fun _ _ _ d _ h => by cases d <;> exact h) 13 rfl (by kernel_rfl) (by kernel_rfl) (fun w' => by go_simp; rw [Y2.out]) ?_; try simp only [Act.put, List.setIfInBounds_toArray, List.set_cons_zero, List.set_cons_succ]
    refine c_pure (v := .int .i64 (1 + y2)) ⟨xx, xx, xx, xx, trivial⟩ (by kernel_rfl) (fun _ _ _ d _ h => by cases d <;> exact h) 14 rfl (by kernel_rfl) (by kernel_rfl) (fun w' => by go_simp; rw [IntWalk.i64_in _ k2]) ?_; try simp only [Act.put, List.setIfInBounds_toArray, List.set_cons_zero, List.set_cons_succ]
    refine c_pure ⟨xx, xx, xx, xx, trivial⟩ (by kernel_rfl) (fun _ _ _ d _ h => by cases d <;> exact h) 15 rfl (by kernel_rfl) (by kernel_rfl) (fun w' => by go_simp; with_reducible rfl) ?_; try simp only [Act.put, List.setIfInBounds_toArray, List.set_cons_zero, List.set_cons_succ]
    refine c_phase (n := 2) [16, 17] [(some 7, 16), (some 8, 17)] (PsB w0.heap.size 24) NeV NeV.symm (by kernel_rfl) (by kernel_rfl) ?mono ?hC ?hops ?hend
    case mono => exact fun i v w w' h hx => NewBx.ext h hx
    case hC => exact fun w' hx => ⟨hx, hx, hx, hx, trivial⟩
    case hops =>
      intro i hi vs w3 hx hd
      simp only [List.mem_cons, List.not_mem_nil, or_false] at hi
      rcases hi with rfl | rfl
      · refine phase_op 16 [] (by kernel_rfl) rfl (fun K hK => ?_)
        simp only [putsD]
        go_simp
        exact hK.out _ _ ((Below.refl _ _).alloc (Nat.le_refl _) _) (NewBx.mk w3 hx) (fun j _ _ u hu => NewBx.ne hu)
      · refine phase_op 17 [] (by kernel_rfl) rfl (fun K hK => ?_)
        simp only [putsD]
        go_simp
        exact hK.out _ _ ((Below.refl _ _).alloc (Nat.le_refl _) _) (NewBx.mk w3 hx) (fun j _ _ u hu => NewBx.ne hu)
    case hend =>
      intro vs w3 BZ hP hR
      obtain ⟨g0, e0, l0, z0⟩ := hP 16 (by simp)
      obtain ⟨g1, e1, l1, z1⟩ := hP 17 (by simp)
      have n01 : g0 ≠ g1 := fun e => hR 16 (by simp) 17 (by simp) (by decide) (by rw [e0, e1, e])
      simp only [putsD, e0, e1]
      try simp only [Act.put, List.setIfInBounds_toArray, List.set_cons_zero, List.set_cons_succ]
      clear hP hR e0 e1
      clear vs
      obtain ⟨c0, c1, f0, f1⟩ := z0.cells
      refine c_move 18 (by kernel_rfl) (c_op 18 [(12, fun w' => Ext w0 w'), (9, fun w' => Ext w0 w')] (by kernel_rfl) rfl (by kernel_rfl) (fun K hK => ?_))
      go_simp
      have zn := z0.set p1 (1 + y1)
      have BN := (BZ.setCell (p := ⟨g0, 0, none⟩) l0 (.int .i64 p1)).setCell (p := ⟨g0, 1, none⟩) l0 (.int .i64 (1 + y1))
      replace z1 := (z1.set_ne (o := 0) (.int .i64 p1) n01).set_ne (o := 1) (.int .i64 (1 + y1)) n01
      refine hK.out _ _ ⟨BN, BN, trivial⟩ ?_
      clear K hK c0 c1 f0 f1 BZ
      clear z0
      try simp only [Act.put, List.setIfInBounds_toArray, List.set_cons_zero, List.set_cons_succ]
      generalize (w3.setCell ⟨g0, 0, none⟩ (.int .i64 p1)).setCell ⟨g0, 1, none⟩ (.int .i64 (1 + y1)) = w3a at *
      have BZ := BN
      have z0 := zn
      clear BN zn
      obtain ⟨c0, c1, f0, f1⟩ := z1.cells
      refine c_move 19 (by kernel_rfl) (c_op 19 [] (by kernel_rfl) rfl (by kernel_rfl) (fun K hK => ?_))
      go_simp
      have zn := z1.set p2 (1 + y2)
      have BN := (BZ.setCell (p := ⟨g1, 0, none⟩) l1 (.int .i64 p2)).setCell (p := ⟨g1, 1, none⟩) l1 (.int .i64 (1 + y2))
      replace z0 := (z0.set_ne (o := 0) (.int .i64 p2) n01.symm).set_ne (o := 1) (.int .i64 (1 + y2)) n01.symm
      refine hK.out _ _ trivial ?_
      clear K hK c0 c1 f0 f1 BZ
      clear z1
      try simp only [Act.put, List.setIfInBounds_toArray, List.set_cons_zero, List.set_cons_succ]
      generalize (w3a.setCell ⟨g1, 0, none⟩ (.int .i64 p2)).setCell ⟨g1, 1, none⟩ (.int .i64 (1 + y2)) = w3b at *
      have BZ := BN
      have z1 := zn
      clear BN zn
      refine c_done (by kernel_rfl) ?_
      go_wp2
      go_meet
      exact ⟨_, _, rfl, rfl, z0, z1, below_then B0 BZ⟩
  case rest =>
    obtain ⟨b7, b8, rfl, rfl, x1, x2, B0⟩ := hcut
    clear XB P1 P2 Y1 Y2
    have t1 := tk_small r1 (by omega) r4 (by omega)
    have t2 := tk_small r2 (by omega) r5 (by omega)
    obtain ⟨n1, hn1⟩ : ∃ n1, 1 + y1 = n1 := ⟨_, rfl⟩
    obtain ⟨n2, hn2⟩ : ∃ n2, 1 + y2 = n2 := ⟨_, rfl⟩
    rw [hn1] at x1 k1 t1
    rw [hn2] at x2 k2 t2
    have m1 : 1 ≤ n1 := by omega
    have m2 : 1 ≤ n2 := by omega
    have m3 : n1 ≤ 16 := by omega
    have m4 : n2 ≤ 16 := by omega
    clear hn1 hn2 r4 r5 s4 s5 y1 y2
    have C1 := hidden (fun w => meet_any p1 n1 p2 n2 w k1 k2)
    have C3 := hidden (fun w => in_any p1 n1 p2 n2 w k1 k2)
    have HE : Hid (meetE p1 n1 p2 n2 = true ↔ max p1 p2 < min (p1 + n1) (p2 + n2)) := meetE_iff t1 t2
    have HA : Hid (meetE p1 n1 p2 n2 = true → meetA p1 n1 p2 n2 = max p1 p2 ∧ meetN p1 n1 p2 n2 = min (p1 + n1) (p2 + n2) - max p1 p2) := fun h => by unfold meetA meetN; rw [h]; exact ⟨rfl, rfl⟩
    have HI : Hid (inB p1 n1 p2 n2 = true ↔ p2 ≤ p1 ∧ p1 + n1 ≤ p2 + n2) := inB_iff t1 t2
    have HT := hidden t1
    clear t1 t2
    generalize inB p1 n1 p2 n2 = J at *
    generalize meetA p1 n1 p2 n2 = A at *
    generalize meetN p1 n1 p2 n2 = N at *
    generalize meetE p1 n1 p2 n2 = E at *
    obtain ⟨c70, c71⟩ := x1.cells2
    obtain ⟨c80, c81⟩ := x2.cells2
    go_wp2_with fail
    refine (C1.out _).mono ?_
    rintro e w1 ⟨rfl, BE⟩
    replace x1 := x1.ext BE
    replace x2 := x2.ext BE
    replace B0 := below_then B0 BE
    clear BE c70 c71 c80 c81 C1
    have EA := (Below.refl w1.heap.size w1).alloc (Nat.le_refl _) (.cells #[.int .i64 A, .int .i64 N] 24)
    replace x1 := x1.ext EA
    replace x2 := x2.ext EA
    replace B0 := below_then B0 EA
    have x9 := Bx.new w1 24 A N
    obtain ⟨c70, c71⟩ := x1.cells2
    go_wp2
    clear c70 c71 EA
    generalize w1.alloc (.cells #[.int .i64 A, .int .i64 N] 24) = w2 at *
    generalize w1.heap.size = b9 at *
    go_loopw [11, 12, 13] (fun z11 z12 z13 wr => ∃ (i bo : Int) (al : Bool), z11 = .int .i64 bo ∧ z12 = .bool al ∧ z13 = .int .i64 i ∧ p1 ≤ i ∧ i ≤ p1 + n1 ∧ Hid (bo = max 0 (min i (p2 + n2) - max p1 p2)) ∧ Hid (al = true ↔ (i ≤ p1 ∨ (p2 ≤ p1 ∧ i ≤ p2 + n2))) ∧ Ext w2 wr) (fun _ _ z _ => (p1 + n1 - intOf z).toNat)
    case atStart => exact ⟨p1, 0, true, rfl, rfl, rfl, by omega, by omega, (by show _ = _; omega), (by show _ ↔ _; simp), Ext.refl _⟩
    case round =>
      obtain ⟨i, bo, al, rfl, rfl, rfl, i0, i1, HB, HL, hx⟩ := hrel
      obtain ⟨c70, c71⟩ := (x1.ext hx).cells2
      obtain ⟨c80, c81⟩ := (x2.ext hx).cells2
      obtain ⟨c90, c91⟩ := (x9.ext hx).cells2
      have j1 : -9223372036854775808 ≤ p1 + n1 ∧ p1 + n1 ≤ 9223372036854775807 := by omega
      have j2 : -9223372036854775808 ≤ p2 + n2 ∧ p2 + n2 ≤ 9223372036854775807 := by omega
      have j3 : -9223372036854775808 ≤ i + 1 ∧ i + 1 ≤ 9223372036854775807 := by omega
      by_cases hi : i < p1 + n1
      · have d0 : decide (i < p1 + n1) = true := by simpa using hi
        have j4 : -9223372036854775808 ≤ bo + 1 ∧ bo + 1 ≤ 9223372036854775807 := by have := HB.out; omega
        cases E
        · by_cases h1 : p2 ≤ i
          · have d1 : decide (p2 ≤ i) = true := by simpa using h1
            by_cases h2 : i < p2 + n2
            · have d2 : decide (i < p2 + n2) = true := by simpa using h2
              cases al
              · exfalso
                have := mt HE.out.2 (by decide)
                omega
              · exfalso
                have := mt HE.out.2 (by decide)
                omega
            · have d2 : decide (i < p2 + n2) = false := by simpa using h2
              cases al
              · have HBn : Hid (bo = max 0 (min (i + 1) (p2 + n2) - max p1 p2)) := by have := HB.out; show _ = _; omega
                have HLn : Hid (false = true ↔ (i + 1 ≤ p1 ∨ (p2 ≤ p1 ∧ i + 1 ≤ p2 + n2))) := by have := HL.out; show _ ↔ _; simp at this ⊢; omega
                go_wp2
                go_roundw
                case rel => exact ⟨i + 1, bo, false, rfl, rfl, rfl, by omega, by omega, HBn, HLn, hx⟩
                case measure => simp [intOf]; omega
              · have HBn : Hid (bo = max 0 (min (i + 1) (p2 + n2) - max p1 p2)) := by have := HB.out; show _ = _; omega
                have HLn : Hid (false = true ↔ (i + 1 ≤ p1 ∨ (p2 ≤ p1 ∧ i + 1 ≤ p2 + n2))) := by have := HL.out; show _ ↔ _; simp at this ⊢; omega
                go_wp2
                go_roundw
                case rel => exact ⟨i + 1, bo, false, rfl, rfl, rfl, by omega, by omega, HBn, HLn, hx⟩
                case measure => simp [intOf]; omega
          · have d1 : decide (p2 ≤ i) = false := by simpa using h1
            cases al
            · have HBn : Hid (bo = max 0 (min (i + 1) (p2 + n2) - max p1 p2)) := by have := HB.out; show _ = _; omega
              have HLn : Hid (false = true ↔ (i + 1 ≤ p1 ∨ (p2 ≤ p1 ∧ i + 1 ≤ p2 + n2))) := by have := HL.out; show _ ↔ _; simp at this ⊢; omega
              go_wp2
              go_roundw
              case rel => exact ⟨i + 1, bo, false, rfl, rfl, rfl, by omega, by omega, HBn, HLn, hx⟩
              case measure => simp [intOf]; omega
            · have HBn : Hid (bo = max 0 (min (i + 1) (p2 + n2) - max p1 p2)) := by have := HB.out; show _ = _; omega
              have HLn : Hid (false = true ↔ (i + 1 ≤ p1 ∨ (p2 ≤ p1 ∧ i + 1 ≤ p2 + n2))) := by have := HL.out; show _ ↔ _; simp at this ⊢; omega
              go_wp2
              go_roundw
              case rel => exact ⟨i + 1, bo, false, rfl, rfl, rfl, by omega, by omega, HBn, HLn, hx⟩
              case measure => simp [intOf]; omega
        · by_cases h1 : p2 ≤ i
          · have d1 : decide (p2 ≤ i) = true := by simpa using h1
            by_cases h2 : i < p2 + n2
            · have d2 : decide (i < p2 + n2) = true := by simpa using h2
              cases al
              · obtain ⟨hA, hN⟩ := HA.out rfl
                have q1 := HE.out.1 rfl
                have d3 : decide (A ≤ i) = true := by rw [decide_eq_true_eq]; omega
                have d4 : decide (i < A + N) = true := by rw [decide_eq_true_eq]; omega
                have j5 : -9223372036854775808 ≤ A + N ∧ A + N ≤ 9223372036854775807 := by omega
                clear hA hN q1
                have HBn : Hid (bo + 1 = max 0 (min (i + 1) (p2 + n2) - max p1 p2)) := by have := HB.out; show _ = _; omega
                have HLn : Hid (false = true ↔ (i + 1 ≤ p1 ∨ (p2 ≤ p1 ∧ i + 1 ≤ p2 + n2))) := by have := HL.out; show _ ↔ _; simp at this ⊢; omega
                go_wp2
                go_roundw
                case rel => exact ⟨i + 1, bo + 1, false, rfl, rfl, rfl, by omega, by omega, HBn, HLn, hx⟩
                case measure => simp [intOf]; omega
              · obtain ⟨hA, hN⟩ := HA.out rfl
                have q1 := HE.out.1 rfl
                have d3 : decide (A ≤ i) = true := by rw [decide_eq_true_eq]; omega
                have d4 : decide (i < A + N) = true := by rw [decide_eq_true_eq]; omega
                have j5 : -9223372036854775808 ≤ A + N ∧ A + N ≤ 9223372036854775807 := by omega
                clear hA hN q1
                have HBn : Hid (bo + 1 = max 0 (min (i + 1) (p2 + n2) - max p1 p2)) := by have := HB.out; show _ = _; omega
                have HLn : Hid (true = true ↔ (i + 1 ≤ p1 ∨ (p2 ≤ p1 ∧ i + 1 ≤ p2 + n2))) := by have := HL.out; show _ ↔ _; simp at this ⊢; omega
                go_wp2
                go_roundw
                case rel => exact ⟨i + 1, bo + 1, true, rfl, rfl, rfl, by omega, by omega, HBn, HLn, hx⟩
                case measure => simp [intOf]; omega
            · have d2 : decide (i < p2 + n2) = false := by simpa using h2
              cases al
              · obtain ⟨hA, hN⟩ := HA.out rfl
                have q1 := HE.out.1 rfl
                have d3 : decide (A ≤ i) = true := by rw [decide_eq_true_eq]; omega
                have d4 : decide (i < A + N) = false := by rw [decide_eq_false_iff_not]; omega
                have j5 : -9223372036854775808 ≤ A + N ∧ A + N ≤ 9223372036854775807 := by omega
                clear hA hN q1
                have HBn : Hid (bo = max 0 (min (i + 1) (p2 + n2) - max p1 p2)) := by have := HB.out; show _ = _; omega
                have HLn : Hid (false = true ↔ (i + 1 ≤ p1 ∨ (p2 ≤ p1 ∧ i + 1 ≤ p2 + n2))) := by have := HL.out; show _ ↔ _; simp at this ⊢; omega
                go_wp2
                go_roundw
                case rel => exact ⟨i + 1, bo, false, rfl, rfl, rfl, by omega, by omega, HBn, HLn, hx⟩
                case measure => simp [intOf]; omega
              · obtain ⟨hA, hN⟩ := HA.out rfl
                have q1 := HE.out.1 rfl
                have d3 : decide (A ≤ i) = true := by rw [decide_eq_true_eq]; omega
                have d4 : decide (i < A + N) = false := by rw [decide_eq_false_iff_not]; omega
                have j5 : -9223372036854775808 ≤ A + N ∧ A + N ≤ 9223372036854775807 := by omega
                clear hA hN q1
                have HBn : Hid (bo = max 0 (min (i + 1) (p2 + n2) - max p1 p2)) := by have := HB.out; show _ = _; omega
                have HLn : Hid (false = true ↔ (i + 1 ≤ p1 ∨ (p2 ≤ p1 ∧ i + 1 ≤ p2 + n2))) := by have := HL.out; show _ ↔ _; simp at this ⊢; omega
                go_wp2
                go_roundw
                case rel => exact ⟨i + 1, bo, false, rfl, rfl, rfl, by omega, by omega, HBn, HLn, hx⟩
                case measure => simp [intOf]; omega
          · have d1 : decide (p2 ≤ i) = false := by simpa using h1
            cases al
            · obtain ⟨hA, hN⟩ := HA.out rfl
              have q1 := HE.out.1 rfl
              have d3 : decide (A ≤ i) = false := by rw [decide_eq_false_iff_not]; omega
              have j5 : -9223372036854775808 ≤ A + N ∧ A + N ≤ 9223372036854775807 := by omega
              clear hA hN q1
              have HBn : Hid (bo = max 0 (min (i + 1) (p2 + n2) - max p1 p2)) := by have := HB.out; show _ = _; omega
              have HLn : Hid (false = true ↔ (i + 1 ≤ p1 ∨ (p2 ≤ p1 ∧ i + 1 ≤ p2 + n2))) := by have := HL.out; show _ ↔ _; simp at this ⊢; omega
              go_wp2
              go_roundw
              case rel => exact ⟨i + 1, bo, false, rfl, rfl, rfl, by omega, by omega, HBn, HLn, hx⟩
              case measure => simp [intOf]; omega
            · obtain ⟨hA, hN⟩ := HA.out rfl
              have q1 := HE.out.1 rfl
              have d3 : decide (A ≤ i) = false := by rw [decide_eq_false_iff_not]; omega
              have j5 : -9223372036854775808 ≤ A + N ∧ A + N ≤ 9223372036854775807 := by omega
              clear hA hN q1
              have HBn : Hid (bo = max 0 (min (i + 1) (p2 + n2) - max p1 p2)) := by have := HB.out; show _ = _; omega
              have HLn : Hid (false = true ↔ (i + 1 ≤ p1 ∨ (p2 ≤ p1 ∧ i + 1 ≤ p2 + n2))) := by have := HL.out; show _ ↔ _; simp at this ⊢; omega
              go_wp2
              go_roundw
              case rel => exact ⟨i + 1, bo, false, rfl, rfl, rfl, by omega, by omega, HBn, HLn, hx⟩
              case measure => simp [intOf]; omega
      · have d0 : decide (i < p1 + n1) = false := by simpa using hi
        obtain rfl : i = p1 + n1 := by omega
        replace x1 := x1.ext hx
        replace x2 := x2.ext hx
        replace x9 := x9.ext hx
        replace B0 := below_then B0 hx
        clear hx
        obtain ⟨wb, hwb⟩ : ∃ wb, wb = wr := ⟨_, rfl⟩
        subst hwb
        have u7 := x1.lt
        have u8 := x2.lt
        have u9 := x9.lt
        have uw := B0.size
        go_wp2
        clear c70 c71 c80 c81 c90 c91
        go_loopw [15, 16] (fun z15 z16 wr => ∃ (k0 : Nat) (fl : SL) (vo : Value), vo = z15 ∧ k0 ≤ 8 ∧ z16 = .int .i64 k0 ∧ fl.length = k0 ∧ wb.heap.size ≤ wr.heap.size ∧ SmL fl ∧ wr.ownsRow wb.heap.size 24 2 vo fl.length (scs fl) ∧ Bx wr b7 24 p1 n1 ∧ Bx wr b8 24 p2 n2 ∧ Bx wr b9 24 A N ∧ Below w.heap.size w wr) (fun _ z _ => (8 - intOf z).toNat)
        case atStart => exact ⟨0, [], _, rfl, by omega, rfl, rfl, Nat.le_refl _, (fun x h => by cases h), owns_nilS _ _ _, x1, x2, x9, B0⟩
        case round =>
          clear x1 x2 x9 B0
          obtain ⟨k0, fl, vo, hvo, k3, rfl, hfl, hwr0, ol, own, x1, x2, x3, hb⟩ := hrel
          subst hvo
          have HFL := hidden hfl
          have HOL := hidden ol
          have lfl : fl.length ≤ 8 := by omega
          clear hfl ol
          go_upto_region 15 with fail
          go_cut [108] from 101 to 127 (fun s wx => s = .bool (decide (k0 < l.length ∧ k0 < 8)) ∧ wr = wx)
          case first =>
            by_cases hlt : k0 < l.length
            · have hlt' : (k0 : Int) < (l.length : Int) := by omega
              have g1 : decide ((k0 : Int) < (l.length : Int)) = true := by simpa using hlt'
              by_cases h8 : k0 < 8
              · have h8' : (k0 : Int) < 8 := by omega
                have g2 : decide ((k0 : Int) < 8) = true := by simpa using h8'
                go_wp2
                go_meet
                exact ⟨by simp [hlt, h8], rfl⟩
              · have h8' : ¬ (k0 : Int) < 8 := by omega
                have g2 : decide ((k0 : Int) < 8) = false := by simpa using h8'
                go_wp2
                go_meet
                exact ⟨by simp [h8], rfl⟩
            · have hlt' : ¬ (k0 : Int) < (l.length : Int) := by omega
              have g1 : decide ((k0 : Int) < (l.length : Int)) = false := by simpa using hlt'
              go_wp2
              go_meet
              exact ⟨by simp [hlt], rfl⟩
          case rest =>
            obtain ⟨rfl, hwc⟩ := hcut
            subst hwc
            by_cases hgo : k0 < l.length ∧ k0 < 8
            · rw [decide_eq_true hgo]
              obtain ⟨hlt, h8⟩ := hgo
              have CE : Hid (∃ b off, av = some ⟨b, off, none⟩ ∧ ∀ w', Below w.heap.size w w' → w'.cell? ⟨b, off + k0 * 2, none⟩ = some (.int .i64 (l.getD k0 (0, 0)).1) ∧ w'.cell? ⟨b, off + k0 * 2 + 1, none⟩ = some (.int .i64 (l.getD k0 (0, 0)).2)) := by
                obtain ⟨-, -, -, hcell⟩ := hv.at
                obtain ⟨b, off, e, -⟩ := hcell k0 hlt
                refine ⟨b, off, e, fun w' hw' => ?_⟩
                obtain ⟨-, -, -, hcell⟩ := (hv.ext hw').at
                obtain ⟨b', off', e', hcl⟩ := hcell k0 hlt
                rw [e] at e'
                cases e'
                exact hcl k0 hlt
              obtain ⟨bl, off, rfl, CF⟩ := CE.out
              clear CE
              have CE := hidden CF
              clear CF
              generalize (l.getD k0 (0, 0)).1 = ea at *
              generalize (l.getD k0 (0, 0)).2 = en at *
              obtain ⟨p, P1, q0, q1⟩ := mask_any ea 4 (by decide) 15 rfl
              obtain ⟨y, Y1, y0, y1⟩ := mask_any en 3 (by decide) 7 rfl
              have k1 : -9223372036854775808 ≤ 1 + y ∧ 1 + y ≤ 9223372036854775807 := by omega
              go_wp2
              refine c_begin 18 rfl (by kernel_rfl) ?_
              replace hb := hb.drew
              replace own := owns_belowS own (Below.refl _ _).drew
              replace x1 := x1.drew
              replace x2 := x2.drew
              replace x3 := x3.drew
              have hwq0 : wb.heap.size ≤ wr.drew.heap.size := hwr0
              generalize wr.drew = wq at *
              refine c_pure trivial (by kernel_rfl) (fun _ _ _ d _ h => by cases d <;> exact h) 0 rfl (by kernel_rfl) (by kernel_rfl) (fun w' => by go_simp; with_reducible rfl) ?_; try simp only [Act.put, List.setIfInBounds_toArray, List.set_cons_zero, List.set_cons_succ]
              refine c_pure trivial (by kernel_rfl) (fun _ _ _ d _ h => by cases d <;> exact h) 1 rfl (by kernel_rfl) (by kernel_rfl) (fun w' => by go_simp; with_reducible rfl) ?_; try simp only [Act.put, List.setIfInBounds_toArray, List.set_cons_zero, List.set_cons_succ]
              refine c_pure trivial (by kernel_rfl) (fun _ _ _ d _ h => by cases d <;> exact h) 2 rfl (by kernel_rfl) (by kernel_rfl) (fun w' => by go_simp; with_reducible rfl) ?_; try simp only [Act.put, List.setIfInBounds_toArray, List.set_cons_zero, List.set_cons_succ]
              refine c_pure trivial (by kernel_rfl) (fun _ _ _ d _ h => by cases d <;> exact h) 3 rfl (by kernel_rfl) (by kernel_rfl) (fun w' => by go_simp; with_reducible rfl) ?_; try simp only [Act.put, List.setIfInBounds_toArray, List.set_cons_zero, List.set_cons_succ]
              refine c_pure trivial (by kernel_rfl) (fun _ _ _ d _ h => by cases d <;> exact h) 4 rfl (by kernel_rfl) (by kernel_rfl) (fun w' => by go_simp; with_reducible rfl) ?_; try simp only [Act.put, List.setIfInBounds_toArray, List.set_cons_zero, List.set_cons_succ]
              refine c_read (fun w' => Below w.heap.size w w') hb trivial (by kernel_rfl) (fun _ _ _ d _ h => by cases d <;> exact h) 5 rfl (by kernel_rfl) (by kernel_rfl) (fun w' hx => by obtain ⟨q1, q2⟩ := CE.out w' hx; go_simp; with_reducible rfl) ?_; try simp only [Act.put, List.setIfInBounds_toArray, List.set_cons_zero, List.set_cons_succ]
              refine c_pure (v := .int .i64 p) ⟨hb, trivial⟩ (by kernel_rfl) (fun _ _ _ d _ h => by cases d <;> exact h) 6 rfl (by kernel_rfl) (by kernel_rfl) (fun w' => by go_simp; rw [P1.out]) ?_; try simp only [Act.put, List.setIfInBounds_toArray, List.set_cons_zero, List.set_cons_succ]
              refine c_pure ⟨hb, trivial⟩ (by kernel_rfl) (fun _ _ _ d _ h => by cases d <;> exact h) 7 rfl (by kernel_rfl) (by kernel_rfl) (fun w' => by go_simp; with_reducible rfl) ?_; try simp only [Act.put, List.setIfInBounds_toArray, List.set_cons_zero, List.set_cons_succ]
              refine c_pure ⟨hb, trivial⟩ (by kernel_rfl) (fun _ _ _ d _ h => by cases d <;> exact h) 8 rfl (by kernel_rfl) (by kernel_rfl) (fun w' => by go_simp; with_reducible rfl) ?_; try simp only [Act.put, List.setIfInBounds_toArray, List.set_cons_zero, List.set_cons_succ]
              refine c_pure ⟨hb, trivial⟩ (by kernel_rfl) (fun _ _ _ d _ h => by cases d <;> exact h) 9 rfl (by kernel_rfl) (by kernel_rfl) (fun w' => by go_simp; with_reducible rfl) ?_; try simp only [Act.put, List.setIfInBounds_toArray, List.set_cons_zero, List.set_cons_succ]
              refine c_pure ⟨hb, trivial⟩ (by kernel_rfl) (fun _ _ _ d _ h => by cases d <;> exact h) 10 rfl (by kernel_rfl) (by kernel_rfl) (fun w' => by go_simp; with_reducible rfl) ?_; try simp only [Act.put, List.setIfInBounds_toArray, List.set_cons_zero, List.set_cons_succ]
              refine c_read (fun w' => Below w.heap.size w w') hb ⟨hb, trivial⟩ (by kernel_rfl) (fun _ _ _ d _ h => by cases d <;> exact h) 11 rfl (by kernel_rfl) (by kernel_rfl) (fun w' hx => by obtain ⟨q1, q2⟩ := CE.out w' hx; go_simp; with_reducible rfl) ?_; try simp only [Act.put, List.setIfInBounds_toArray, List.set_cons_zero, List.set_cons_succ]
              refine c_pure (v := .int .i64 y) ⟨hb, hb, trivial⟩ (by kernel_rfl) (fun _ _ _ d _ h => by cases d <;> exact h) 12 rfl (by kernel_rfl) (by kernel_rfl) (fun w' => by go_simp; rw [Y1.out]) ?_; try simp only [Act.put, List.setIfInBounds_toArray, List.set_cons_zero, List.set_cons_succ]
              refine c_pure (v := .int .i64 (1 + y)) ⟨hb, hb, trivial⟩ (by kernel_rfl) (fun _ _ _ d _ h => by cases d <;> exact h) 13 rfl (by kernel_rfl) (by kernel_rfl) (fun w' => by go_simp; rw [IntWalk.i64_in _ k1]) ?_; try simp only [Act.put, List.setIfInBounds_toArray, List.set_cons_zero, List.set_cons_succ]
              refine c_pure ⟨hb, hb, trivial⟩ (by kernel_rfl) (fun _ _ _ d _ h => by cases d <;> exact h) 14 rfl (by kernel_rfl) (by kernel_rfl) (fun w' => by go_simp; with_reducible rfl) ?_; try simp only [Act.put, List.setIfInBounds_toArray, List.set_cons_zero, List.set_cons_succ]
              refine c_move 15 (by kernel_rfl) (c_op 15 [(11, fun w' => Below w.heap.size w w'), (5, fun w' => Below w.heap.size w w')] (by kernel_rfl) rfl (by kernel_rfl) (fun K hK => ?_))
              go_simp
              have E1 := (Below.refl wq.heap.size wq).alloc (Nat.le_refl _) (.cells #[.int .i64 p, .int .i64 (1 + y)] 24)
              replace own := owns_belowS own E1
              have hs := hb.size
              replace hb := below_then hb E1
              have bz := Bx.new wq 24 p (1 + y)
              refine hK.out _ _ ⟨hb, hb, trivial⟩ ?_
              clear K hK
              try simp only [Act.put, List.setIfInBounds_toArray, List.set_cons_zero, List.set_cons_succ]
              replace x1 := x1.ext E1
              replace x2 := x2.ext E1
              replace x3 := x3.ext E1
              have szz := E1.size
              clear E1
              have wle : wb.heap.size ≤ wq.heap.size := hwq0
              generalize wq.alloc (.cells #[.int .i64 p, .int .i64 (1 + y)] 24) = wz at *
              generalize wq.heap.size = g0 at *
              refine c_move 16 (by kernel_rfl) (c_op 16 [(11, fun w' => Below w.heap.size w w'), (5, fun w' => Below w.heap.size w w')] (by kernel_rfl) rfl (by kernel_rfl) (fun K hK => ?_))
              refine wp_pushS (l := fl) (v := vo) (.tmp 111) (.tmp 126) 27 24 rfl wb.heap.size Try.underlying27 info_sp rfl own g0 1 p (1 + y) rfl bz (by omega) (by omega) ?_
              intro v' w8 own8 gr8 ob8
              have gs8 := gr8.size
              have wn : ∀ g, g < wb.heap.size → vo.ownBlock ≠ some g := fun g hg e => absurd (own.lt _ e).1 (by omega)
              replace x1 := x1.grown gr8 (wn _ (by omega))
              replace x2 := x2.grown gr8 (wn _ (by omega))
              replace x3 := x3.grown gr8 (wn _ (by omega))
              have B8 := hb.grown gr8 (by omega) (fun k hk => by have := (own.lt k hk).1; omega)
              refine hK.out _ _ ⟨B8, B8, trivial⟩ ?_
              clear K hK wn gr8 ob8
              try simp only [Act.put, List.setIfInBounds_toArray, List.set_cons_zero, List.set_cons_succ]
              refine c_pure ⟨B8, B8, trivial⟩ (by kernel_rfl) (fun _ _ _ d _ h => by cases d <;> exact h) 17 rfl (by kernel_rfl) (by kernel_rfl) (fun w' => by go_simp; with_reducible rfl) ?_; try simp only [Act.put, List.setIfInBounds_toArray, List.set_cons_zero, List.set_cons_succ]
              refine c_done (by kernel_rfl) ?_
              have HL2 : Hid ((fl ++ [(p, 1 + y)]).length = k0 + 1) := by show _ = _; rw [List.length_append, HFL.out]; rfl
              have HO2 := hidden (HOL.out.push q0 q1 y0 y1)
              generalize fl ++ [(p, 1 + y)] = f2 at *
              clear own hb bz
              go_wp2
              go_roundw
              case rel => exact ⟨k0 + 1, f2, _, rfl, by omega, by go_num, HL2.out, (by have := gs8; omega), HO2.out, own8, x1, x2, x3, B8⟩
              case measure => simp [intOf]; omega
            · rw [decide_eq_false hgo]
              have HOK := hidden HOL.out.ok
              have sp := Sps.of_owns own
              clear own
              obtain ⟨wd, hwd⟩ : ∃ wd, wd = wr := ⟨_, rfl⟩
              subst hwd
              have CV := hidden (cover_any vo fl p1 n1 wd sp HOK.out k1)
              have HC := hidden (cov_facts (a := p1) (n := n1) HOL.out HT.out)
              generalize (covR fl p1 n1).isSome = is at *
              generalize (covR fl p1 n1).getD [] = ps at *
              obtain ⟨c70, c71⟩ := x1.cells2
              go_wp2_with fail
              refine CV.out.mono ?_
              rintro e w4 ⟨v8, rfl, own2, B2⟩
              have s8 := Sps.of_owns own2
              replace sp := sp.ext B2
              replace x1 := x1.ext B2
              replace x2 := x2.ext B2
              replace x3 := x3.ext B2
              replace hb := below_then hb B2
              clear own2 B2 c70 c71 CV
              obtain ⟨a8, cap8, rfl, -⟩ := id s8
              obtain ⟨a2, cap2, rfl, -⟩ := id sp
              obtain ⟨-, hc8, hm8, -⟩ := s8.at
              obtain ⟨-, hc2, hm2, -⟩ := sp.at
              unfold maxLen at hm8 hm2
              obtain ⟨c70, c71⟩ := x1.cells2
              go_wp2
              clear c70 c71
              go_loopw [19, 138] (fun z19 z138 wr => ∃ (j : Nat) (at' : Int), z138 = .int .i64 j ∧ j ≤ ps.length ∧ z19 = .int .i64 at' ∧ Hid (at' = p1 + sumN (ps.take j)) ∧ Ext w4 wr) (fun _ z _ => (ps.length - intOf z).toNat)
              case atStart => exact ⟨0, p1, rfl, Nat.zero_le _, rfl, (by show _ = _; simp [sumN]), Ext.refl _⟩
              case round =>
                obtain ⟨j, at', rfl, hj, rfl, HS, hx⟩ := hrel
                by_cases hlt : j < ps.length
                · have hlt' : (j : Int) < (ps.length : Int) := by omega
                  obtain ⟨ch1, ch2, ch3, ch4, ch5⟩ := chain_at HOL.out HC.out.1 r1 hlt
                  have HSn := hidden (sumN_take hlt)
                  obtain ⟨-, -, -, hcell⟩ := (s8.ext hx).at
                  obtain ⟨b, off, rfl, hcl⟩ := hcell j hlt
                  obtain ⟨c0, c1⟩ := hcl j hlt
                  clear hcl hcell
                  rw [← HS.out] at ch1
                  generalize (ps.getD j (0, 0)).1 = pa at *
                  generalize (ps.getD j (0, 0)).2 = pn at *
                  subst ch1
                  have HAny := hidden ch5
                  clear ch5
                  obtain ⟨wo, hwo⟩ : ∃ wo, wo = wr := ⟨_, rfl⟩
                  subst hwo
                  have hxa := hx.alloc hx.size (.cells #[.int .i64 pa, .int .i64 pn] 24)
                  have bp := Bx.new wo 24 pa pn
                  have kp : i64 pn := by unfold i64; omega
                  go_wp2
                  generalize wo.alloc (.cells #[.int .i64 pa, .int .i64 pn] 24) = w5 at *
                  generalize wo.heap.size = gp at *
                  clear c0 c1
                  go_loopw [22, 144] (fun z22 z144 wr => ∃ (k : Nat) (so : Bool), z144 = .int .i64 k ∧ k ≤ fl.length ∧ z22 = .bool so ∧ Hid (so = (fl.take k).any fun f => inB pa pn f.1 f.2) ∧ Ext w5 wr) (fun _ z _ => (fl.length - intOf z).toNat)
                  case atStart => exact ⟨0, false, rfl, Nat.zero_le _, rfl, (by show _ = _; simp), Ext.refl _⟩
                  case round =>
                    obtain ⟨k, so, rfl, hk, rfl, HSo, hy⟩ := hrel
                    by_cases hkl : k < fl.length
                    · have hkl' : (k : Int) < (fl.length : Int) := by omega
                      have sp5 := (sp.ext hxa).ext hy
                      obtain ⟨-, -, -, hcell⟩ := sp5.at
                      obtain ⟨b2, off2, rfl, hcl⟩ := hcell k hkl
                      obtain ⟨e0, e1⟩ := hcl k hkl
                      clear hcl hcell sp5
                      obtain ⟨f1, f2, f3, f4⟩ := HOL.out.at hkl
                      have HTk := hidden (take_any hkl fun f => inB pa pn f.1 f.2)
                      rw [← HSo.out] at HTk
                      have kf : i64 (fl.getD k (0, 0)).2 := by unfold i64; omega
                      generalize (fl.getD k (0, 0)).1 = fa at *
                      generalize (fl.getD k (0, 0)).2 = fn at *
                      have hya := hy.alloc hy.size (.cells #[.int .i64 fa, .int .i64 fn] 24)
                      have bf := Bx.new wr 24 fa fn
                      have bp2 := (bp.ext hy).alloc (.cells #[.int .i64 fa, .int .i64 fn] 24)
                      have CI := hidden (fun w => in_any pa pn fa fn w kp kf)
                      generalize inB pa pn fa fn = ib at *
                      obtain ⟨d0, d1⟩ := bf.cells2
                      obtain ⟨d2, d3⟩ := bp2.cells2
                      cases so
                      · go_wp2_with fail
                        refine (CI.out _).mono ?_
                        rintro e w6 ⟨rfl, B6⟩
                        replace hya := Ext.trans hya B6
                        go_wp2
                        go_roundw
                        case rel => exact ⟨k + 1, ib, by go_num, by omega, rfl, (by show _ = _; rw [HTk.out]; simp), hya⟩
                        case measure => simp [intOf]; omega
                      · go_wp2
                        go_roundw
                        case rel => exact ⟨k + 1, true, by go_num, by omega, rfl, (by show _ = _; rw [HTk.out]; simp), hya⟩
                        case measure => simp [intOf]; omega
                    · have dk : decide ((k : Int) < (fl.length : Int)) = false := by simp; omega
                      have e : fl.take k = fl := List.take_of_length_le (by omega)
                      have hso : so = true := by rw [HSo.out, e]; exact HAny.out
                      clear e HSo
                      subst hso
                      have d1 : (pa != pa) = false := by simp
                      have d2 : decide (pn < 1) = false := by simp; omega
                      have j6 : -9223372036854775808 ≤ pa + pn ∧ pa + pn ≤ 9223372036854775807 := by omega
                      obtain ⟨d4, d5⟩ := (bp.ext hy).cells2
                      have hxn := Ext.trans hxa hy
                      go_wp2
                      go_roundw
                      case rel => exact ⟨j + 1, pa + pn, by go_num, by omega, rfl, (by show _ = _; rw [HSn.out]; have := HS.out; omega), hxn⟩
                      case measure => simp [intOf]; omega
                · have dj : decide ((j : Int) < (ps.length : Int)) = false := by simp; omega
                  have e : ps.take j = ps := List.take_of_length_le (by omega)
                  rw [e] at HS
                  clear e
                  replace sp := sp.ext hx
                  replace x1 := x1.ext hx
                  replace x2 := x2.ext hx
                  replace x3 := x3.ext hx
                  replace hb := below_then hb hx
                  clear hx s8
                  obtain ⟨wf, hwf⟩ : ∃ wf, wf = wr := ⟨_, rfl⟩
                  subst hwf
                  obtain ⟨c70, c71⟩ := x1.cells2
                  go_wp2
                  clear c70 c71
                  go_loopw [25, 26] (fun z25 z26 wr => ∃ (i : Int) (wh : Bool), z26 = .int .i64 i ∧ p1 ≤ i ∧ i ≤ p1 + n1 ∧ z25 = .bool wh ∧ Hid (wh = true ↔ ∀ t, p1 ≤ t → t < i → anyAt fl t = true) ∧ Ext wf wr) (fun _ z _ => (p1 + n1 - intOf z).toNat)
                  case atStart => exact ⟨p1, true, rfl, by omega, by omega, rfl, (by show _ ↔ _; simp; intro t h1 h2; omega), Ext.refl _⟩
                  case round =>
                    obtain ⟨i, wh, rfl, i0, i2, rfl, HW, hx⟩ := hrel
                    have j1 : -9223372036854775808 ≤ p1 + n1 ∧ p1 + n1 ≤ 9223372036854775807 := by omega
                    have j3 : -9223372036854775808 ≤ i + 1 ∧ i + 1 ≤ 9223372036854775807 := by omega
                    obtain ⟨c70, c71⟩ := (x1.ext hx).cells2
                    by_cases hi : i < p1 + n1
                    · have d0 : decide (i < p1 + n1) = true := by simpa using hi
                      obtain ⟨wo, hwo⟩ : ∃ wo, wo = wr := ⟨_, rfl⟩
                      subst hwo
                      go_wp2
                      clear c70 c71
                      go_loopw [27, 186] (fun z27 z186 wr => ∃ (k : Nat) (so : Bool), z186 = .int .i64 k ∧ k ≤ fl.length ∧ z27 = .bool so ∧ Hid (so = (fl.take k).any (hasB · i)) ∧ Ext wo wr) (fun _ z _ => (fl.length - intOf z).toNat)
                      case atStart => exact ⟨0, false, rfl, Nat.zero_le _, rfl, (by show _ = _; simp), Ext.refl _⟩
                      case round =>
                        obtain ⟨k, so, rfl, hk, rfl, HSo, hy⟩ := hrel
                        by_cases hkl : k < fl.length
                        · have hkl' : (k : Int) < (fl.length : Int) := by omega
                          have sp5 := (sp.ext hx).ext hy
                          obtain ⟨-, -, -, hcell⟩ := sp5.at
                          obtain ⟨b2, off2, rfl, hcl⟩ := hcell k hkl
                          obtain ⟨e0, e1⟩ := hcl k hkl
                          clear hcl hcell sp5
                          obtain ⟨f1, f2, f3, f4⟩ := HOL.out.at hkl
                          have HTk := hidden (take_any hkl (hasB · i))
                          rw [← HSo.out] at HTk
                          have HH := hidden (hasB_iff (x := fl.getD k (0, 0)) (a := i))
                          generalize (fl.getD k (0, 0)).1 = fa at *
                          generalize (fl.getD k (0, 0)).2 = fn at *
                          generalize hasB (fl.getD k (0, 0)) i = hB at *
                          have hya := hy.alloc hy.size (.cells #[.int .i64 fa, .int .i64 fn] 24)
                          have bf := Bx.new wr 24 fa fn
                          have j7 : -9223372036854775808 ≤ fa + fn ∧ fa + fn ≤ 9223372036854775807 := by omega
                          obtain ⟨d0, d1⟩ := bf.cells2
                          cases so
                          · by_cases h1 : fa ≤ i
                            · have d2 : decide (fa ≤ i) = true := by simpa using h1
                              by_cases h2 : i < fa + fn
                              · have d3 : decide (i < fa + fn) = true := by simpa using h2
                                have hT : hB = true := HH.out.2 ⟨h1, h2⟩
                                go_wp2
                                go_roundw
                                case rel => exact ⟨k + 1, true, by go_num, by omega, rfl, (by show _ = _; rw [HTk.out, hT]; rfl), hya⟩
                                case measure => simp [intOf]; omega
                              · have d3 : decide (i < fa + fn) = false := by simpa using h2
                                have hT : hB = false := by cases hB; rfl; exact absurd (HH.out.1 rfl).2 h2
                                go_wp2
                                go_roundw
                                case rel => exact ⟨k + 1, false, by go_num, by omega, rfl, (by show _ = _; rw [HTk.out, hT]; rfl), hya⟩
                                case measure => simp [intOf]; omega
                            · have d2 : decide (fa ≤ i) = false := by simpa using h1
                              have hT : hB = false := by cases hB; rfl; exact absurd (HH.out.1 rfl).1 h1
                              go_wp2
                              go_roundw
                              case rel => exact ⟨k + 1, false, by go_num, by omega, rfl, (by show _ = _; rw [HTk.out, hT]; rfl), hya⟩
                              case measure => simp [intOf]; omega
                          · go_wp2
                            go_roundw
                            case rel => exact ⟨k + 1, true, by go_num, by omega, rfl, (by show _ = _; rw [HTk.out]; simp), hya⟩
                            case measure => simp [intOf]; omega
                        · have dk : decide ((k : Int) < (fl.length : Int)) = false := by simp; omega
                          have e : fl.take k = fl := List.take_of_length_le (by omega)
                          rw [e] at HSo
                          clear e
                          have hxn := Ext.trans hx hy
                          have HWn : Hid ((wh && so) = true ↔ ∀ t, p1 ≤ t → t < i + 1 → anyAt fl t = true) := by
                            show _ ↔ _
                            rw [Bool.and_eq_true, HW.out]
                            have hso : so = anyAt fl i := HSo.out
                            constructor
                            · rintro ⟨h1, h2⟩ t h3 h4
                              by_cases h5 : t < i
                              · exact h1 t h3 h5
                              · obtain rfl : t = i := by omega
                                rw [← hso]; exact h2
                            · intro h
                              exact ⟨fun t h1 h2 => h t h1 (by omega), by rw [hso]; exact h i i0 (by omega)⟩
                          clear HSo HW
                          cases wh
                          · go_wp2
                            go_roundw
                            case rel => exact ⟨i + 1, false, rfl, by omega, by omega, rfl, HWn, hxn⟩
                            case measure => simp [intOf]; omega
                          · go_wp2
                            go_roundw
                            case rel => exact ⟨i + 1, so, rfl, by omega, by omega, rfl, (by rw [Bool.true_and] at HWn; exact HWn), hxn⟩
                            case measure => simp [intOf]; omega
                    · have d0 : decide (i < p1 + n1) = false := by simpa using hi
                      obtain rfl : i = p1 + n1 := by omega
                      replace x1 := x1.ext hx
                      replace x2 := x2.ext hx
                      replace x3 := x3.ext hx
                      replace hb := below_then hb hx
                      clear hx c70 c71 sp
                      have hJ : J = al := by
                        have h1 := HI.out
                        have h2 := HL.out
                        have h3 : J = true ↔ al = true := by rw [h1, h2]; omega
                        cases J <;> cases al <;> simp_all
                      have hW : wh = is := by
                        have h3 : wh = true ↔ is = true := by rw [HW.out, HC.out.2.2]
                        cases wh <;> cases is <;> simp_all
                      subst hJ hW
                      have HSm := hidden HC.out.2.1
                      clear HI HL HW HC
                      obtain ⟨c70, c71⟩ := x1.cells2
                      obtain ⟨c80, c81⟩ := x2.cells2
                      obtain ⟨c90, c91⟩ := x3.cells2
                      cases E
                      · cases J
                        · cases wh
                          · have q1 := mt HE.out.2 (by decide)
                            have g1 : decide (0 < bo) = false := by rw [decide_eq_false_iff_not]; have := HB.out; omega
                            clear q1 HB HA HE
                            clear HS HSm
                            go_wp2_with fail
                            refine (C3.out _).mono ?_
                            rintro e w8 ⟨rfl, B8⟩
                            replace x1 := x1.ext B8
                            replace hb := below_then hb B8
                            clear c70 c71 c80 c81 c90 c91 B8
                            obtain ⟨c70, c71⟩ := x1.cells2
                            go_wp2_with fail
                            refine (known_any _).mono ?_
                            rintro e w9 ⟨rfl, B8⟩
                            replace hb := below_then hb B8
                            go_wp2
                            go_ret
                            exact ⟨rfl, hb⟩
                          · have q1 := mt HE.out.2 (by decide)
                            have g1 : decide (0 < bo) = false := by rw [decide_eq_false_iff_not]; have := HB.out; omega
                            clear q1 HB HA HE
                            have hat : at' = p1 + n1 := by rw [HS.out, HSm.out rfl]
                            subst hat
                            have g3 : (p1 + n1 == p1 + n1) = true := by simp
                            clear HS HSm
                            go_wp2_with fail
                            refine (C3.out _).mono ?_
                            rintro e w8 ⟨rfl, B8⟩
                            replace x1 := x1.ext B8
                            replace hb := below_then hb B8
                            clear c70 c71 c80 c81 c90 c91 B8
                            obtain ⟨c70, c71⟩ := x1.cells2
                            go_wp2_with fail
                            refine (known_any _).mono ?_
                            rintro e w9 ⟨rfl, B8⟩
                            replace hb := below_then hb B8
                            go_wp2
                            go_ret
                            exact ⟨rfl, hb⟩
                        · cases wh
                          · have q1 := mt HE.out.2 (by decide)
                            have g1 : decide (0 < bo) = false := by rw [decide_eq_false_iff_not]; have := HB.out; omega
                            clear q1 HB HA HE
                            clear HS HSm
                            go_wp2_with fail
                            refine (C3.out _).mono ?_
                            rintro e w8 ⟨rfl, B8⟩
                            replace x1 := x1.ext B8
                            replace hb := below_then hb B8
                            clear c70 c71 c80 c81 c90 c91 B8
                            obtain ⟨c70, c71⟩ := x1.cells2
                            go_wp2_with fail
                            refine (known_any _).mono ?_
                            rintro e w9 ⟨rfl, B8⟩
                            replace hb := below_then hb B8
                            go_wp2
                            go_ret
                            exact ⟨rfl, hb⟩
                          · have q1 := mt HE.out.2 (by decide)
                            have g1 : decide (0 < bo) = false := by rw [decide_eq_false_iff_not]; have := HB.out; omega
                            clear q1 HB HA HE
                            have hat : at' = p1 + n1 := by rw [HS.out, HSm.out rfl]
                            subst hat
                            have g3 : (p1 + n1 == p1 + n1) = true := by simp
                            clear HS HSm
                            go_wp2_with fail
                            refine (C3.out _).mono ?_
                            rintro e w8 ⟨rfl, B8⟩
                            replace x1 := x1.ext B8
                            replace hb := below_then hb B8
                            clear c70 c71 c80 c81 c90 c91 B8
                            obtain ⟨c70, c71⟩ := x1.cells2
                            go_wp2_with fail
                            refine (known_any _).mono ?_
                            rintro e w9 ⟨rfl, B8⟩
                            replace hb := below_then hb B8
                            go_wp2
                            go_ret
                            exact ⟨rfl, hb⟩
                      · cases J
                        · cases wh
                          · obtain ⟨hA, hN⟩ := HA.out rfl
                            have q1 := HE.out.1 rfl
                            have hbo : N = bo := by have := HB.out; omega
                            have g1 : decide (0 < bo) = true := by rw [decide_eq_true_eq]; have := HB.out; omega
                            have g1' : 0 < bo := by simpa using g1
                            clear hA q1 HB HA HE
                            subst hbo
                            have g2 : (N == N) = true := by simp
                            clear HS HSm
                            go_wp2_with fail
                            refine (C3.out _).mono ?_
                            rintro e w8 ⟨rfl, B8⟩
                            replace x1 := x1.ext B8
                            replace hb := below_then hb B8
                            clear c70 c71 c80 c81 c90 c91 B8
                            obtain ⟨c70, c71⟩ := x1.cells2
                            go_wp2_with fail
                            refine (known_any _).mono ?_
                            rintro e w9 ⟨rfl, B8⟩
                            replace hb := below_then hb B8
                            go_wp2
                            go_ret
                            exact ⟨rfl, hb⟩
                          · obtain ⟨hA, hN⟩ := HA.out rfl
                            have q1 := HE.out.1 rfl
                            have hbo : N = bo := by have := HB.out; omega
                            have g1 : decide (0 < bo) = true := by rw [decide_eq_true_eq]; have := HB.out; omega
                            have g1' : 0 < bo := by simpa using g1
                            clear hA q1 HB HA HE
                            subst hbo
                            have g2 : (N == N) = true := by simp
                            have hat : at' = p1 + n1 := by rw [HS.out, HSm.out rfl]
                            subst hat
                            have g3 : (p1 + n1 == p1 + n1) = true := by simp
                            clear HS HSm
                            go_wp2_with fail
                            refine (C3.out _).mono ?_
                            rintro e w8 ⟨rfl, B8⟩
                            replace x1 := x1.ext B8
                            replace hb := below_then hb B8
                            clear c70 c71 c80 c81 c90 c91 B8
                            obtain ⟨c70, c71⟩ := x1.cells2
                            go_wp2_with fail
                            refine (known_any _).mono ?_
                            rintro e w9 ⟨rfl, B8⟩
                            replace hb := below_then hb B8
                            go_wp2
                            go_ret
                            exact ⟨rfl, hb⟩
                        · cases wh
                          · obtain ⟨hA, hN⟩ := HA.out rfl
                            have q1 := HE.out.1 rfl
                            have hbo : N = bo := by have := HB.out; omega
                            have g1 : decide (0 < bo) = true := by rw [decide_eq_true_eq]; have := HB.out; omega
                            have g1' : 0 < bo := by simpa using g1
                            clear hA q1 HB HA HE
                            subst hbo
                            have g2 : (N == N) = true := by simp
                            clear HS HSm
                            go_wp2_with fail
                            refine (C3.out _).mono ?_
                            rintro e w8 ⟨rfl, B8⟩
                            replace x1 := x1.ext B8
                            replace hb := below_then hb B8
                            clear c70 c71 c80 c81 c90 c91 B8
                            obtain ⟨c70, c71⟩ := x1.cells2
                            go_wp2_with fail
                            refine (known_any _).mono ?_
                            rintro e w9 ⟨rfl, B8⟩
                            replace hb := below_then hb B8
                            go_wp2
                            go_ret
                            exact ⟨rfl, hb⟩
                          · obtain ⟨hA, hN⟩ := HA.out rfl
                            have q1 := HE.out.1 rfl
                            have hbo : N = bo := by have := HB.out; omega
                            have g1 : decide (0 < bo) = true := by rw [decide_eq_true_eq]; have := HB.out; omega
                            have g1' : 0 < bo := by simpa using g1
                            clear hA q1 HB HA HE
                            subst hbo
                            have g2 : (N == N) = true := by simp
                            have hat : at' = p1 + n1 := by rw [HS.out, HSm.out rfl]
                            subst hat
                            have g3 : (p1 + n1 == p1 + n1) = true := by simp
                            clear HS HSm
                            go_wp2_with fail
                            refine (C3.out _).mono ?_
                            rintro e w8 ⟨rfl, B8⟩
                            replace x1 := x1.ext B8
                            replace hb := below_then hb B8
                            clear c70 c71 c80 c81 c90 c91 B8
                            obtain ⟨c70, c71⟩ := x1.cells2
                            go_wp2_with fail
                            refine (known_any _).mono ?_
                            rintro e w9 ⟨rfl, B8⟩
                            replace hb := below_then hb B8
                            go_wp2
                            go_ret
                            exact ⟨rfl, hb⟩

end Go.Proofs.Ytdclbknahialcaa
