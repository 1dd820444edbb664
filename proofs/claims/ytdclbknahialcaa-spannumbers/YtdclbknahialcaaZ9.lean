/- Contract of burgagelaw7.same. -/
import Derived.Test.YtdclbknahialcaaZ8
import Derived.Deep.CutRange
namespace Go.Proofs.Ytdclbknahialcaa
open Go.RowKit

theorem Bx.newAt (w : World) (t : TypeId) (a n : Int) (g : Nat) (hg : g = w.heap.size) : Bx (w.alloc (.cells #[.int .i64 a, .int .i64 n] t)) g t a n := by subst hg; exact Bx.new w t a n

set_option maxHeartbeats 4000000 in
theorem same_any (a n b m t : Int) (w : World) (hn : i64 n) (hm : i64 m) (ht : i64 t) :
    Calls Try.prog 7 #[spV a n, spV b m, .int .i64 t] w fun e w' => e = .returned (.bool true) ∧ Below w.heap.size w w' := by
  have C1 := hidden (fun w => meet_any a n b m w hn hm)
  have C2 := hidden (fun w => rmeet_any a n b m w hn hm)
  have C3 := hidden (fun w => in_any a n b m w hn hm)
  have C4 := hidden (fun w => rin_any a n b m w hn hm)
  have C5 := hidden (fun w => right_any a n t w hn ht)
  have C6 := hidden (fun w => rright_any a n t w hn ht)
  generalize meetA a n b m = A at *
  generalize meetN a n b m = N at *
  generalize meetE a n b m = E at *
  generalize inB a n b m = I at *
  generalize okR a n t = O at *
  have T := hidden (two w 24 a n b m)
  go_enter Try.func7, Try.ntmps7
  go_upto_region 1 with fail
  go_cut [7, 8] from 13 to 22 (fun s7 s8 wx => ∃ (b7 b8 : Nat), s7 = .pointer (some ⟨b7, 0, none⟩) ∧ s8 = .pointer (some ⟨b8, 0, none⟩) ∧ Bx wx b7 37 a n ∧ Bx wx b8 37 b m ∧ Bx wx w.heap.size 24 a n ∧ Bx wx (w.heap.size + 1) 24 b m ∧ Below w.heap.size w wx)
  case first =>
    go_region
    all_goals go_wp2
    all_goals go_meet
    all_goals refine ⟨_, _, rfl, rfl, ?_, ?_, ?_, ?_, ?_⟩
    all_goals repeat' first
      | exact Below.refl _ _
      | with_reducible refine Below.drew ?_
      | with_reducible refine Below.alloc ?_ (by simp <;> omega) _
      | with_reducible refine Bx.drew ?_
      | exact Bx.newAt _ _ _ _ _ (by simp; done)
      | with_reducible refine Bx.alloc ?_ _
  case rest =>
    obtain ⟨b7, b8, rfl, rfl, p7, p8, x1, x2, B0⟩ := hcut
    obtain ⟨c1, c2⟩ := x1.cells2
    obtain ⟨c3, c4⟩ := x2.cells2
    go_wp2_with fail
    refine (C1.out _).mono ?_
    rintro e w1 ⟨rfl, B1⟩
    replace p7 := p7.ext B1
    replace p8 := p8.ext B1
    replace x1 := x1.ext B1
    replace x2 := x2.ext B1
    replace B0 := below_then B0 B1
    have p9 := Bx.new w1 24 A N
    have E1 := (Below.refl w1.heap.size w1).alloc (Nat.le_refl _) (.cells #[.int .i64 A, .int .i64 N] 24)
    clear c1 c2 c3 c4
    have l7 := p7.lt
    have l8 := p8.lt
    obtain ⟨c1, c2⟩ := p7.cells2
    obtain ⟨c3, c4⟩ := p8.cells2
    go_wp2_with fail
    refine (C2.out _).mono ?_
    rintro e w2 ⟨rfl, B2⟩
    replace p7 := p7.ext E1
    replace p8 := p8.ext E1
    replace x1 := x1.ext E1
    replace x2 := x2.ext E1
    replace B0 := below_then B0 E1
    replace p7 := p7.ext B2
    replace p8 := p8.ext B2
    replace x1 := x1.ext B2
    replace x2 := x2.ext B2
    replace p9 := p9.ext B2
    replace B0 := below_then B0 B2
    have p11 := (Bx.new w2 37 A N).drew
    have E2 : Below w2.heap.size w2 (w2.alloc (.cells #[.int .i64 A, .int .i64 N] 37)).drew := ((Below.refl w2.heap.size w2).alloc (Nat.le_refl _) (.cells #[.int .i64 A, .int .i64 N] 37)).drew
    replace p7 := p7.ext E2
    replace p8 := p8.ext E2
    replace x1 := x1.ext E2
    replace x2 := x2.ext E2
    replace p9 := p9.ext E2
    replace B0 := below_then B0 E2
    clear c1 c2 c3 c4 E1 B2 l7 l8 C1 C2 T
    go_wp2
    refine wp_region_pi [(0, true), (1, true), (2, true), (3, true), (4, true), (5, true), (6, true), (7, true), (8, true), (9, true), (10, true), (11, true), (12, true), (13, true), (14, true), (15, true), (16, true), (17, true), (18, true), (19, true), (21, true), (22, true), (20, false), (23, false), (24, true), (25, true), (26, true), (27, true), (28, true), (30, true), (31, true), (29, false), (32, false), (33, true), (34, true), (35, true)] (by kernel_rfl) (by kernel_rfl) (by kernel_rfl) (fun _ _ _ d _ h => by cases d <;> exact h) ?_
    have X0 := Ext.refl (w2.alloc (.cells #[.int .i64 A, .int .i64 N] 37)).drew
    generalize (w2.alloc (.cells #[.int .i64 A, .int .i64 N] 37)).drew = w3 at *
    generalize w2.heap.size = g11 at *
    generalize w1.heap.size = g9 at *
    iterate 22 (first | refine pi_pure X0 rfl (by kernel_rfl) (fun w' => by go_simp; with_reducible rfl) ?_ | refine pi_read X0 rfl (by kernel_rfl) (fun w' hw' => by obtain ⟨q0, q0'⟩ := (x1.ext hw').cells2; obtain ⟨q1, q1'⟩ := (x2.ext hw').cells2; obtain ⟨q2, q2'⟩ := (p7.ext hw').cells2; obtain ⟨q3, q3'⟩ := (p8.ext hw').cells2; obtain ⟨q4, q4'⟩ := (p9.ext hw').cells2; obtain ⟨q5, q5'⟩ := (p11.ext hw').cells2; go_simp; with_reducible rfl) ?_; try simp only [Act.put, List.setIfInBounds_toArray, List.set_cons_zero, List.set_cons_succ])
    refine pi_move rfl (by kernel_rfl) (fun K hK => ?_)
    go_wp2_with fail
    refine (C3.out _).mono ?_
    rintro e w4 ⟨rfl, B4⟩
    replace x1 := x1.ext B4
    replace x2 := x2.ext B4
    replace p7 := p7.ext B4
    replace p8 := p8.ext B4
    replace p9 := p9.ext B4
    replace p11 := p11.ext B4
    replace B0 := below_then B0 B4
    have X4 := X0.trans B4
    go_simp
    refine hK.out _ _ X4 ?_
    try simp only [Act.put, List.setIfInBounds_toArray, List.set_cons_zero, List.set_cons_succ]
    clear hK K
    refine pi_move rfl (by kernel_rfl) (fun K hK => ?_)
    go_wp2_with fail
    refine (C4.out _).mono ?_
    rintro e w5 ⟨rfl, B5⟩
    replace x1 := x1.ext B5
    replace x2 := x2.ext B5
    replace p7 := p7.ext B5
    replace p8 := p8.ext B5
    replace p9 := p9.ext B5
    replace p11 := p11.ext B5
    replace B0 := below_then B0 B5
    have X5 := X4.trans B5
    go_simp
    refine hK.out _ _ X5 ?_
    try simp only [Act.put, List.setIfInBounds_toArray, List.set_cons_zero, List.set_cons_succ]
    clear hK K
    have Y5 := Ext.refl w5
    iterate 7 (first | (first | refine pi_pure X5 rfl (by kernel_rfl) (fun w' => by go_simp; with_reducible rfl) ?_ | refine pi_read X5 rfl (by kernel_rfl) (fun w' hw' => by obtain ⟨q0, q0'⟩ := (x1.ext hw').cells2; obtain ⟨q1, q1'⟩ := (x2.ext hw').cells2; obtain ⟨q2, q2'⟩ := (p7.ext hw').cells2; obtain ⟨q3, q3'⟩ := (p8.ext hw').cells2; obtain ⟨q4, q4'⟩ := (p9.ext hw').cells2; obtain ⟨q5, q5'⟩ := (p11.ext hw').cells2; go_simp; with_reducible rfl) ?_) | (first | refine pi_pure Y5 rfl (by kernel_rfl) (fun w' => by go_simp; with_reducible rfl) ?_ | refine pi_read Y5 rfl (by kernel_rfl) (fun w' hw' => by obtain ⟨q0, q0'⟩ := (x1.ext hw').cells2; obtain ⟨q1, q1'⟩ := (x2.ext hw').cells2; obtain ⟨q2, q2'⟩ := (p7.ext hw').cells2; obtain ⟨q3, q3'⟩ := (p8.ext hw').cells2; obtain ⟨q4, q4'⟩ := (p9.ext hw').cells2; obtain ⟨q5, q5'⟩ := (p11.ext hw').cells2; go_simp; with_reducible rfl) ?_); try simp only [Act.put, List.setIfInBounds_toArray, List.set_cons_zero, List.set_cons_succ])
    refine pi_move rfl (by kernel_rfl) (fun K hK => ?_)
    go_wp2_with fail
    refine (C5.out _).mono ?_
    rintro e w6 ⟨rfl, B6⟩
    
    replace B0 := below_then B0 B6
    have X6 := Y5.trans B6
    go_simp
    refine hK.out _ _ X6 ?_
    try simp only [Act.put, List.setIfInBounds_toArray, List.set_cons_zero, List.set_cons_succ]
    clear hK K
    refine pi_move rfl (by kernel_rfl) (fun K hK => ?_)
    go_wp2_with fail
    refine (C6.out _).mono ?_
    rintro e w7 ⟨rfl, B7⟩
    
    replace B0 := below_then B0 B7
    have X7 := X6.trans B7
    go_simp
    refine hK.out _ _ X7 ?_
    try simp only [Act.put, List.setIfInBounds_toArray, List.set_cons_zero, List.set_cons_succ]
    clear hK K
    iterate 3 (refine pi_pure X7 rfl (by kernel_rfl) (fun w' => by go_simp; with_reducible rfl) ?_; try simp only [Act.put, List.setIfInBounds_toArray, List.set_cons_zero, List.set_cons_succ])
    refine pi_nil ?_
    go_wp2
    go_ret
    exact ⟨rfl, B0⟩

end Go.Proofs.Ytdclbknahialcaa
