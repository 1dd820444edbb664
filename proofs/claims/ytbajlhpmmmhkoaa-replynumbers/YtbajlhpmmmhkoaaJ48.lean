/- Contract of burgagelaw4.made, by function. -/
import Derived.Test.YtbajlhpmmmhkoaaJ46
namespace Go.Proofs.Ytbajlhpmmmhkoaa
open Go.RowKit
set_option maxRecDepth 100000 in
set_option maxHeartbeats 2000000 in
theorem made_5 (tv qv : Value) (x : List Int) (q : Rq) (w : World) (ht : Row w tv (x.map iV)) (bx : ∀ n ∈ x, -9223372036854775808 ≤ n ∧ n ≤ 9223372036854775807) (hq : IsRq w qv q) (hr : rightE q = 0) (hc : q.cnt ≤ 30) (hf : q.fn = 5) :
  Calls Try.prog 7 #[tv, qv] w fun e w' => ∃ v', e = .returned v' ∧ ∃ r, IsRp w' v' r ∧ r.fn = q.fn ∧ goodE r = 0 ∧ askB r q.cnt = true ∧ Below w.heap.size w w' ∧ FromQ w.heap.size qv v' := by
 have HE : Hid (∀ (_ : q.fn = 5 ∨ q.fn = 6 ∨ q.fn = 8 ∨ q.fn = 22), goodE (echoP q) = 0) := fun h => echoP_good hr h
 obtain ⟨-, -, ⟨n1, n2, n3, n4⟩, hlst⟩ := right_parts hr
 obtain ⟨ta, tc, rfl, -⟩ := id ht
 obtain ⟨vb, vv, rfl, hb, hv⟩ := hq
 obtain ⟨ab, capb, rfl, -⟩ := id hb
 obtain ⟨av, capv, rfl, -⟩ := id hv
 obtain ⟨f, l, c, p, s, bb, vw, m, o⟩ := q
 simp only [List.length_map] at ht hb hv hf hc n1 n2 n3 n4 HE ⊢
 subst hf
 have HB := hidden hb
 have HV := hidden hv
 simp [numB] at n1 n2 n3 n4
 clear hr hb hv hlst
 generalize hnb : bb.length = nb at *
 generalize hnv : vw.length = nv at *
 have HNB := hidden hnb
 have HNV := hidden hnv
 clear hnb hnv
 have T0 := tap_new ((w.alloc (.cells #[.int .i64 5, .int .i64 l, .int .i64 c, .int .i64 p, .int .i64 s, .slice ab nb capb, .slice av nv capv, wV m, wV o] 26)).alloc (.cells #[.int .i64 0, .int .i64 0, .int .i64 0, .int .i64 0, .int .i64 0, .slice none 0 0, .slice none 0 0, .int .u16 0, .int .u16 0, .slice none 0 0] 35)) ta x.length tc x (ht.below (((Below.refl w.heap.size w).alloc (Nat.le_refl _) _).alloc (by simp <;> omega) _)) bx
 simp only [World.size_alloc] at T0
 have T1 := T0.below ((Below.refl (w.heap.size + 1 + 1 + 1) (((w.alloc (.cells #[.int .i64 5, .int .i64 l, .int .i64 c, .int .i64 p, .int .i64 s, .slice ab nb capb, .slice av nv capv, wV m, wV o] 26)).alloc (.cells #[.int .i64 0, .int .i64 0, .int .i64 0, .int .i64 0, .int .i64 0, .slice none 0 0, .slice none 0 0, .int .u16 0, .int .u16 0, .slice none 0 0] 35)).alloc (.cells #[.slice ta x.length tc, .int .i64 0] 31))).alloc (by simp) (.cells #[.int .i64 5, .int .i64 0, .int .i64 0, .int .i64 0, .int .i64 0, .slice none 0 0, .slice none 0 0, .int .u16 0, .int .u16 0, .slice none 0 0] 35))
 have X0 := (((Blk.new w 26 [.int .i64 5, .int .i64 l, .int .i64 c, .int .i64 p, .int .i64 s, .slice ab nb capb, .slice av nv capv, wV m, wV o]).alloc (.cells #[.int .i64 0, .int .i64 0, .int .i64 0, .int .i64 0, .int .i64 0, .slice none 0 0, .slice none 0 0, .int .u16 0, .int .u16 0, .slice none 0 0] 35)).alloc (.cells #[.slice ta x.length tc, .int .i64 0] 31)).alloc (.cells #[.int .i64 5, .int .i64 0, .int .i64 0, .int .i64 0, .int .i64 0, .slice none 0 0, .slice none 0 0, .int .u16 0, .int .u16 0, .slice none 0 0] 35)
 have X1 := ((Blk.new_at (w.alloc (.cells #[.int .i64 5, .int .i64 l, .int .i64 c, .int .i64 p, .int .i64 s, .slice ab nb capb, .slice av nv capv, wV m, wV o] 26)) 35 [.int .i64 0, .int .i64 0, .int .i64 0, .int .i64 0, .int .i64 0, .slice none 0 0, .slice none 0 0, .int .u16 0, .int .u16 0, .slice none 0 0] (w.heap.size + 1) (by simp)).alloc (.cells #[.slice ta x.length tc, .int .i64 0] 31)).alloc (.cells #[.int .i64 5, .int .i64 0, .int .i64 0, .int .i64 0, .int .i64 0, .slice none 0 0, .slice none 0 0, .int .u16 0, .int .u16 0, .slice none 0 0] 35)
 have X3 := Blk.new_at (((w.alloc (.cells #[.int .i64 5, .int .i64 l, .int .i64 c, .int .i64 p, .int .i64 s, .slice ab nb capb, .slice av nv capv, wV m, wV o] 26)).alloc (.cells #[.int .i64 0, .int .i64 0, .int .i64 0, .int .i64 0, .int .i64 0, .slice none 0 0, .slice none 0 0, .int .u16 0, .int .u16 0, .slice none 0 0] 35)).alloc (.cells #[.slice ta x.length tc, .int .i64 0] 31)) 35 [.int .i64 5, .int .i64 0, .int .i64 0, .int .i64 0, .int .i64 0, .slice none 0 0, .slice none 0 0, .int .u16 0, .int .u16 0, .slice none 0 0] (w.heap.size + 1 + 1 + 1) (by simp)
 have D := ((((Below.refl w.heap.size w).alloc (Nat.le_refl _) (.cells #[.int .i64 5, .int .i64 l, .int .i64 c, .int .i64 p, .int .i64 s, .slice ab nb capb, .slice av nv capv, wV m, wV o] 26)).alloc (by simp) (.cells #[.int .i64 0, .int .i64 0, .int .i64 0, .int .i64 0, .int .i64 0, .slice none 0 0, .slice none 0 0, .int .u16 0, .int .u16 0, .slice none 0 0] 35)).alloc (by simp <;> omega) (.cells #[.slice ta x.length tc, .int .i64 0] 31)).alloc (by simp <;> omega) (.cells #[.int .i64 5, .int .i64 0, .int .i64 0, .int .i64 0, .int .i64 0, .slice none 0 0, .slice none 0 0, .int .u16 0, .int .u16 0, .slice none 0 0] 35)
 clear T0 ht bx
 go_enter Try.func7, Try.ntmps7
 go_wp2_with fail
 refine (next_any (w.heap.size + 1 + 1 + 1) (w.heap.size + 1 + 1) x 5 _ T1 (by simp) (by decide)).mono ?_
 rintro e w4 ⟨my, rfl, my0, my1, T4, S4, D4⟩
 simp at S4
 replace X0 := X0.dev D4 (by simp <;> omega) (by omega)
 replace X1 := X1.dev D4 (by simp <;> omega) (by omega)
 replace X3 := X3.dev D4 (by simp <;> omega) (by omega)
 replace D := D.trans (D4.below (by simp <;> omega) (by omega))
 clear D4 T1
 have hz : w.heap.size + 1 + 1 + 1 + 1 ≤ w4.heap.size := by omega
 clear S4
 by_cases hm : my = 0
 ·
  subst hm
  go_wp2
  refine c_begin 7 rfl (by kernel_rfl) ?_
  replace X0 := X0.drew
  replace X1 := X1.drew
  replace T4 := T4.drew
  replace D := D.drew
  replace hz : w.heap.size + 1 + 1 + 1 + 1 ≤ w4.drew.heap.size := hz
  generalize w4.drew = w5 at *
  clear X3
  have c0 : w5.cell? ⟨w.heap.size, 0, none⟩ = some (.int .i64 5) := X0.cell 0
  refine c_P trivial 0 rfl ?_
  refine c_R (fun w' => w'.cell? ⟨w.heap.size, 0, none⟩ = some (.int .i64 5)) c0 trivial 1 rfl (fun w' hx => by go_simp; with_reducible rfl) ?_
  refine c_P ⟨c0, trivial⟩ 2 rfl ?_
  refine c_move 3 (by kernel_rfl) (c_op 3 [(1, fun w' => w'.cell? ⟨w.heap.size, 0, none⟩ = some (.int .i64 5))] (by kernel_rfl) rfl (by kernel_rfl) (fun K hK => ?_))
  go_wp2_with fail
  refine (next_any (w.heap.size + 1 + 1 + 1) (w.heap.size + 1 + 1) x 11 _ T4 (by omega) (by decide)).mono ?_
  rintro e w6 ⟨mz, rfl, mz0, mz1, T6, S6, D6⟩
  replace X0 := X0.dev D6 (by omega) (by omega)
  replace X1 := X1.dev D6 (by omega) (by omega)
  replace D := D.trans (D6.below (by omega) (by omega))
  have c6 : w6.cell? ⟨w.heap.size, 0, none⟩ = some (.int .i64 5) := X0.cell 0
  go_simp
  refine hK.out _ _ ⟨c6, trivial⟩ ?_
  clear K hK c0 D6 T4
  try simp only [Act.put, PuA, PuB, PuC]
  have wz : IntKind.i64.wrap (1 + mz) = 1 + mz := by rw [IntKind.wrap_i64]; omega
  refine c_P ⟨c6, trivial⟩ 4 rfl ?_
  refine c_move 5 (by kernel_rfl) (c_op 5 [] (by kernel_rfl) rfl (by kernel_rfl) (fun K hK => ?_))
  go_wp2_with fail
  refine (refuse_ref 5 (1 + mz) _).mono ?_
  rintro e w7 ⟨rfl, B7⟩
  rw [show (1 + mz) % 256 = 1 + mz by omega, show (5 : Int) % 128 = 5 from rfl]
  replace X1 := X1.below B7 X1.lt
  have sz7 := B7.size
  replace D := below_then D B7
  go_simp
  refine hK.out _ _ trivial ?_
  clear K hK B7
  try simp only [Act.put, PuA, PuB, PuC]
  have q0 := X1.cell 0
  have q1 := X1.cell 1
  have q2 := X1.cell 2
  have q3 := X1.cell 3
  have q4 := X1.cell 4
  have q5 := X1.cell 5
  have q6 := X1.cell 6
  have q7 := X1.cell 7
  have q8 := X1.cell 8
  have q9 := X1.cell 9
  simp at q0 q1 q2 q3 q4 q5 q6 q7 q8 q9
  have fq := X1.frozen
  have gq := X1.lt
  refine c_move 6 (by kernel_rfl) (c_op 6 [] (by kernel_rfl) rfl (by kernel_rfl) (fun K hK => ?_))
  go_simp
  refine hK.out _ _ trivial ?_
  clear K hK
  try simp only [Act.put, PuA, PuB, PuC]
  refine c_done (by kernel_rfl) ?_
  go_wp2
  refine bodyPost_ret (v := _) (by simp [results, Try.results7, go_sem, q0, q1, q2, q3, q4, q5, q6, q7, q8, q9]; with_reducible rfl) rfl ?_
  refine ⟨_, rfl, refP 5 (1 + mz), ref_rp _ _ _, rfl, ref_good 5 (1 + mz) (by decide) (by decide) (by omega) (by omega), ?_, ?_, ⟨_, _, _, _, _, _, _, _, _, _, _, _, _, _, _, _, _, _, _, rfl, rfl, .inl (NewV.none _ _ _), .inl (NewV.none _ _ _), NewV.none _ _ _⟩⟩
  ·
   unfold askB; rw [if_pos (by simp only [refP]; omega)]
  ·
   repeat' (refine Below.setCell ?_ (by simp <;> omega) _)
   exact D
 ·
  have hm' : (my == 0) = false := by rw [beq_eq_false_iff_ne]; exact hm
  clear hm
  have a0 := X0.cell 0
  have a1 := X0.cell 1
  have a2 := X0.cell 2
  have a3 := X0.cell 3
  have a4 := X0.cell 4
  have a5 := X0.cell 5
  have a6 := X0.cell 6
  have a7 := X0.cell 7
  have a8 := X0.cell 8
  simp at a0 a1 a2 a3 a4 a5 a6 a7 a8
  have fa := X0.frozen
  have ga := X0.lt
  have r0 := X3.cell 0
  have r1 := X3.cell 1
  have r2 := X3.cell 2
  have r3 := X3.cell 3
  have r4 := X3.cell 4
  have r5 := X3.cell 5
  have r6 := X3.cell 6
  have r7 := X3.cell 7
  have r8 := X3.cell 8
  have r9 := X3.cell 9
  simp at r0 r1 r2 r3 r4 r5 r6 r7 r8 r9
  have fr := X3.frozen
  have gr := X3.lt
  go_wp2
  clear a0 a1 a2 a3 a4 a5 a6 a7 a8 fa ga r0 r1 r2 r3 r4 r5 r6 r7 r8 r9 fr gr
  refine c_begin 24 rfl (by kernel_rfl) ?_
  replace X0 := X0.drew
  replace X1 := X1.drew
  replace X3 := X3.drew
  replace D := D.drew
  replace hz : w.heap.size + 1 + 1 + 1 + 1 ≤ w4.drew.heap.size := hz
  generalize w4.drew = w5 at *
  have a0 := X0.cell 0
  have a1 := X0.cell 1
  have a2 := X0.cell 2
  have a3 := X0.cell 3
  have a4 := X0.cell 4
  have a5 := X0.cell 5
  have a6 := X0.cell 6
  have a7 := X0.cell 7
  have a8 := X0.cell 8
  simp at a0 a1 a2 a3 a4 a5 a6 a7 a8
  have fa := X0.frozen
  have ga := X0.lt
  have r0 := X3.cell 0
  have r1 := X3.cell 1
  have r2 := X3.cell 2
  have r3 := X3.cell 3
  have r4 := X3.cell 4
  have r5 := X3.cell 5
  have r6 := X3.cell 6
  have r7 := X3.cell 7
  have r8 := X3.cell 8
  have r9 := X3.cell 9
  simp at r0 r1 r2 r3 r4 r5 r6 r7 r8 r9
  have fr := X3.frozen
  have gr := X3.lt
  have hne : w.heap.size + 1 + 1 + 1 ≠ w.heap.size := by omega
  refine c_P trivial 0 rfl ?_
  refine c_R (fun w' => w'.cell? ⟨w.heap.size, 1, none⟩ = some (.int .i64 l)) a1 trivial 1 rfl (fun w' hx => by go_simp; with_reducible rfl) ?_
  refine c_P (by refine ⟨?_, trivial⟩ <;> (repeat refine cell_set_ne hne ?_) <;> assumption) 2 rfl ?_
  refine c_R (fun w' => w'.cell? ⟨w.heap.size, 4, none⟩ = some (.int .i64 s)) a4 ⟨a1, trivial⟩ 3 rfl (fun w' hx => by go_simp; with_reducible rfl) ?_
  refine c_P (by refine ⟨?_, ?_, trivial⟩ <;> (repeat refine cell_set_ne hne ?_) <;> assumption) 4 rfl ?_
  refine c_R (fun w' => w'.cell? ⟨w.heap.size, 5, none⟩ = some (.slice ab nb capb)) a5 ⟨a4, a1, trivial⟩ 5 rfl (fun w' hx => by go_simp; with_reducible rfl) ?_
  refine c_P (by refine ⟨?_, ?_, ?_, trivial⟩ <;> (repeat refine cell_set_ne hne ?_) <;> assumption) 6 rfl ?_
  refine c_R (fun w' => w'.cell? ⟨w.heap.size, 6, none⟩ = some (.slice av nv capv)) a6 ⟨a5, a4, a1, trivial⟩ 7 rfl (fun w' hx => by go_simp; with_reducible rfl) ?_
  refine c_P (by refine ⟨?_, ?_, ?_, ?_, trivial⟩ <;> (repeat refine cell_set_ne hne ?_) <;> assumption) 8 rfl ?_
  refine c_R (fun w' => w'.cell? ⟨w.heap.size, 7, none⟩ = some (wV m)) a7 ⟨a6, a5, a4, a1, trivial⟩ 9 rfl (fun w' hx => by go_simp; with_reducible rfl) ?_
  refine c_P (by refine ⟨?_, ?_, ?_, ?_, ?_, trivial⟩ <;> (repeat refine cell_set_ne hne ?_) <;> assumption) 10 rfl ?_
  refine c_R (fun w' => w'.cell? ⟨w.heap.size, 8, none⟩ = some (wV o)) a8 ⟨a7, a6, a5, a4, a1, trivial⟩ 11 rfl (fun w' hx => by go_simp; with_reducible rfl) ?_
  refine c_P (by refine ⟨?_, ?_, ?_, ?_, ?_, ?_, trivial⟩ <;> (repeat refine cell_set_ne hne ?_) <;> assumption) 12 rfl ?_
  refine c_move 13 (by kernel_rfl) (c_op 13 [(11, fun w' => w'.cell? ⟨w.heap.size, 8, none⟩ = some (wV o)), (9, fun w' => w'.cell? ⟨w.heap.size, 7, none⟩ = some (wV m)), (7, fun w' => w'.cell? ⟨w.heap.size, 6, none⟩ = some (.slice av nv capv)), (5, fun w' => w'.cell? ⟨w.heap.size, 5, none⟩ = some (.slice ab nb capb)), (3, fun w' => w'.cell? ⟨w.heap.size, 4, none⟩ = some (.int .i64 s))] (by kernel_rfl) rfl (by kernel_rfl) (fun K hK => ?_))
  go_simp
  refine hK.out _ _ ?cc ?_
  case cc => refine ⟨?_, ?_, ?_, ?_, ?_, trivial⟩ <;> (repeat refine cell_set_ne hne ?_) <;> assumption
  clear K hK
  try simp only [Act.put, PuA, PuB, PuC]
  refine c_P (by refine ⟨?_, ?_, ?_, ?_, ?_, trivial⟩ <;> (repeat refine cell_set_ne hne ?_) <;> assumption) 14 rfl ?_
  refine c_move 15 (by kernel_rfl) (c_op 15 [(11, fun w' => w'.cell? ⟨w.heap.size, 8, none⟩ = some (wV o)), (9, fun w' => w'.cell? ⟨w.heap.size, 7, none⟩ = some (wV m)), (7, fun w' => w'.cell? ⟨w.heap.size, 6, none⟩ = some (.slice av nv capv)), (5, fun w' => w'.cell? ⟨w.heap.size, 5, none⟩ = some (.slice ab nb capb))] (by kernel_rfl) rfl (by kernel_rfl) (fun K hK => ?_))
  go_simp
  refine hK.out _ _ ?cc ?_
  case cc => refine ⟨?_, ?_, ?_, ?_, trivial⟩ <;> (repeat refine cell_set_ne hne ?_) <;> assumption
  clear K hK
  try simp only [Act.put, PuA, PuB, PuC]
  refine c_P (by refine ⟨?_, ?_, ?_, ?_, trivial⟩ <;> (repeat refine cell_set_ne hne ?_) <;> assumption) 16 rfl ?_
  refine c_move 17 (by kernel_rfl) (c_op 17 [(11, fun w' => w'.cell? ⟨w.heap.size, 8, none⟩ = some (wV o)), (9, fun w' => w'.cell? ⟨w.heap.size, 7, none⟩ = some (wV m)), (7, fun w' => w'.cell? ⟨w.heap.size, 6, none⟩ = some (.slice av nv capv))] (by kernel_rfl) rfl (by kernel_rfl) (fun K hK => ?_))
  go_simp
  refine hK.out _ _ ?cc ?_
  case cc => refine ⟨?_, ?_, ?_, trivial⟩ <;> (repeat refine cell_set_ne hne ?_) <;> assumption
  clear K hK
  try simp only [Act.put, PuA, PuB, PuC]
  refine c_P (by refine ⟨?_, ?_, ?_, trivial⟩ <;> (repeat refine cell_set_ne hne ?_) <;> assumption) 18 rfl ?_
  refine c_move 19 (by kernel_rfl) (c_op 19 [(11, fun w' => w'.cell? ⟨w.heap.size, 8, none⟩ = some (wV o)), (9, fun w' => w'.cell? ⟨w.heap.size, 7, none⟩ = some (wV m))] (by kernel_rfl) rfl (by kernel_rfl) (fun K hK => ?_))
  go_simp
  refine hK.out _ _ ?cc ?_
  case cc => refine ⟨?_, ?_, trivial⟩ <;> (repeat refine cell_set_ne hne ?_) <;> assumption
  clear K hK
  try simp only [Act.put, PuA, PuB, PuC]
  refine c_P (by refine ⟨?_, ?_, trivial⟩ <;> (repeat refine cell_set_ne hne ?_) <;> assumption) 20 rfl ?_
  refine c_move 21 (by kernel_rfl) (c_op 21 [(11, fun w' => w'.cell? ⟨w.heap.size, 8, none⟩ = some (wV o))] (by kernel_rfl) rfl (by kernel_rfl) (fun K hK => ?_))
  go_simp
  refine hK.out _ _ ?cc ?_
  case cc => refine ⟨?_, trivial⟩ <;> (repeat refine cell_set_ne hne ?_) <;> assumption
  clear K hK
  try simp only [Act.put, PuA, PuB, PuC]
  refine c_P (by refine ⟨?_, trivial⟩ <;> (repeat refine cell_set_ne hne ?_) <;> assumption) 22 rfl ?_
  refine c_move 23 (by kernel_rfl) (c_op 23 [] (by kernel_rfl) rfl (by kernel_rfl) (fun K hK => ?_))
  go_simp
  refine hK.out _ _ ?cc ?_
  case cc => trivial
  clear K hK
  try simp only [Act.put, PuA, PuB, PuC]
  refine c_done (by kernel_rfl) ?_
  have q0 := X1.cell 0
  have q1 := X1.cell 1
  have q2 := X1.cell 2
  have q3 := X1.cell 3
  have q4 := X1.cell 4
  have q5 := X1.cell 5
  have q6 := X1.cell 6
  have q7 := X1.cell 7
  have q8 := X1.cell 8
  have q9 := X1.cell 9
  simp at q0 q1 q2 q3 q4 q5 q6 q7 q8 q9
  have fq := X1.frozen
  have gq := X1.lt
  go_wp2
  refine bodyPost_ret (v := _) (by simp [results, Try.results7, go_sem, q0, q1, q2, q3, q4, q5, q6, q7, q8, q9]; with_reducible rfl) rfl ?_
  refine ⟨_, rfl, echoP ⟨5, l, c, p, s, bb, vw, m, o⟩, ⟨_, _, _, rfl, ?_, ?_, Row.nil _⟩, rfl, HE.out (by simp), by simp [askB, echoP], ?_, ⟨_, _, _, _, _, _, _, _, _, _, _, _, _, _, _, _, _, _, _, rfl, rfl, .inr rfl, .inr rfl, NewV.none _ _ _⟩⟩
  ·
   refine HB.out.below ?_
   repeat' (refine Below.setCell ?_ (by simp <;> omega) _)
   exact D
  ·
   refine HV.out.below ?_
   repeat' (refine Below.setCell ?_ (by simp <;> omega) _)
   exact D
  ·
   repeat' (refine Below.setCell ?_ (by simp <;> omega) _)
   exact D
set_option maxRecDepth 100000 in
set_option maxHeartbeats 2000000 in
theorem made_6 (tv qv : Value) (x : List Int) (q : Rq) (w : World) (ht : Row w tv (x.map iV)) (bx : ∀ n ∈ x, -9223372036854775808 ≤ n ∧ n ≤ 9223372036854775807) (hq : IsRq w qv q) (hr : rightE q = 0) (hc : q.cnt ≤ 30) (hf : q.fn = 6) :
  Calls Try.prog 7 #[tv, qv] w fun e w' => ∃ v', e = .returned v' ∧ ∃ r, IsRp w' v' r ∧ r.fn = q.fn ∧ goodE r = 0 ∧ askB r q.cnt = true ∧ Below w.heap.size w w' ∧ FromQ w.heap.size qv v' := by
 have HE : Hid (∀ (_ : q.fn = 5 ∨ q.fn = 6 ∨ q.fn = 8 ∨ q.fn = 22), goodE (echoP q) = 0) := fun h => echoP_good hr h
 obtain ⟨-, -, ⟨n1, n2, n3, n4⟩, hlst⟩ := right_parts hr
 obtain ⟨ta, tc, rfl, -⟩ := id ht
 obtain ⟨vb, vv, rfl, hb, hv⟩ := hq
 obtain ⟨ab, capb, rfl, -⟩ := id hb
 obtain ⟨av, capv, rfl, -⟩ := id hv
 obtain ⟨f, l, c, p, s, bb, vw, m, o⟩ := q
 simp only [List.length_map] at ht hb hv hf hc n1 n2 n3 n4 HE ⊢
 subst hf
 have HB := hidden hb
 have HV := hidden hv
 simp [numB] at n1 n2 n3 n4
 clear hr hb hv hlst
 generalize hnb : bb.length = nb at *
 generalize hnv : vw.length = nv at *
 have HNB := hidden hnb
 have HNV := hidden hnv
 clear hnb hnv
 have T0 := tap_new ((w.alloc (.cells #[.int .i64 6, .int .i64 l, .int .i64 c, .int .i64 p, .int .i64 s, .slice ab nb capb, .slice av nv capv, wV m, wV o] 26)).alloc (.cells #[.int .i64 0, .int .i64 0, .int .i64 0, .int .i64 0, .int .i64 0, .slice none 0 0, .slice none 0 0, .int .u16 0, .int .u16 0, .slice none 0 0] 35)) ta x.length tc x (ht.below (((Below.refl w.heap.size w).alloc (Nat.le_refl _) _).alloc (by simp <;> omega) _)) bx
 simp only [World.size_alloc] at T0
 have T1 := T0.below ((Below.refl (w.heap.size + 1 + 1 + 1) (((w.alloc (.cells #[.int .i64 6, .int .i64 l, .int .i64 c, .int .i64 p, .int .i64 s, .slice ab nb capb, .slice av nv capv, wV m, wV o] 26)).alloc (.cells #[.int .i64 0, .int .i64 0, .int .i64 0, .int .i64 0, .int .i64 0, .slice none 0 0, .slice none 0 0, .int .u16 0, .int .u16 0, .slice none 0 0] 35)).alloc (.cells #[.slice ta x.length tc, .int .i64 0] 31))).alloc (by simp) (.cells #[.int .i64 6, .int .i64 0, .int .i64 0, .int .i64 0, .int .i64 0, .slice none 0 0, .slice none 0 0, .int .u16 0, .int .u16 0, .slice none 0 0] 35))
 have X0 := (((Blk.new w 26 [.int .i64 6, .int .i64 l, .int .i64 c, .int .i64 p, .int .i64 s, .slice ab nb capb, .slice av nv capv, wV m, wV o]).alloc (.cells #[.int .i64 0, .int .i64 0, .int .i64 0, .int .i64 0, .int .i64 0, .slice none 0 0, .slice none 0 0, .int .u16 0, .int .u16 0, .slice none 0 0] 35)).alloc (.cells #[.slice ta x.length tc, .int .i64 0] 31)).alloc (.cells #[.int .i64 6, .int .i64 0, .int .i64 0, .int .i64 0, .int .i64 0, .slice none 0 0, .slice none 0 0, .int .u16 0, .int .u16 0, .slice none 0 0] 35)
 have X1 := ((Blk.new_at (w.alloc (.cells #[.int .i64 6, .int .i64 l, .int .i64 c, .int .i64 p, .int .i64 s, .slice ab nb capb, .slice av nv capv, wV m, wV o] 26)) 35 [.int .i64 0, .int .i64 0, .int .i64 0, .int .i64 0, .int .i64 0, .slice none 0 0, .slice none 0 0, .int .u16 0, .int .u16 0, .slice none 0 0] (w.heap.size + 1) (by simp)).alloc (.cells #[.slice ta x.length tc, .int .i64 0] 31)).alloc (.cells #[.int .i64 6, .int .i64 0, .int .i64 0, .int .i64 0, .int .i64 0, .slice none 0 0, .slice none 0 0, .int .u16 0, .int .u16 0, .slice none 0 0] 35)
 have X3 := Blk.new_at (((w.alloc (.cells #[.int .i64 6, .int .i64 l, .int .i64 c, .int .i64 p, .int .i64 s, .slice ab nb capb, .slice av nv capv, wV m, wV o] 26)).alloc (.cells #[.int .i64 0, .int .i64 0, .int .i64 0, .int .i64 0, .int .i64 0, .slice none 0 0, .slice none 0 0, .int .u16 0, .int .u16 0, .slice none 0 0] 35)).alloc (.cells #[.slice ta x.length tc, .int .i64 0] 31)) 35 [.int .i64 6, .int .i64 0, .int .i64 0, .int .i64 0, .int .i64 0, .slice none 0 0, .slice none 0 0, .int .u16 0, .int .u16 0, .slice none 0 0] (w.heap.size + 1 + 1 + 1) (by simp)
 have D := ((((Below.refl w.heap.size w).alloc (Nat.le_refl _) (.cells #[.int .i64 6, .int .i64 l, .int .i64 c, .int .i64 p, .int .i64 s, .slice ab nb capb, .slice av nv capv, wV m, wV o] 26)).alloc (by simp) (.cells #[.int .i64 0, .int .i64 0, .int .i64 0, .int .i64 0, .int .i64 0, .slice none 0 0, .slice none 0 0, .int .u16 0, .int .u16 0, .slice none 0 0] 35)).alloc (by simp <;> omega) (.cells #[.slice ta x.length tc, .int .i64 0] 31)).alloc (by simp <;> omega) (.cells #[.int .i64 6, .int .i64 0, .int .i64 0, .int .i64 0, .int .i64 0, .slice none 0 0, .slice none 0 0, .int .u16 0, .int .u16 0, .slice none 0 0] 35)
 clear T0 ht bx
 go_enter Try.func7, Try.ntmps7
 go_wp2_with fail
 refine (next_any (w.heap.size + 1 + 1 + 1) (w.heap.size + 1 + 1) x 5 _ T1 (by simp) (by decide)).mono ?_
 rintro e w4 ⟨my, rfl, my0, my1, T4, S4, D4⟩
 simp at S4
 replace X0 := X0.dev D4 (by simp <;> omega) (by omega)
 replace X1 := X1.dev D4 (by simp <;> omega) (by omega)
 replace X3 := X3.dev D4 (by simp <;> omega) (by omega)
 replace D := D.trans (D4.below (by simp <;> omega) (by omega))
 clear D4 T1
 have hz : w.heap.size + 1 + 1 + 1 + 1 ≤ w4.heap.size := by omega
 clear S4
 by_cases hm : my = 0
 ·
  subst hm
  go_wp2
  refine c_begin 7 rfl (by kernel_rfl) ?_
  replace X0 := X0.drew
  replace X1 := X1.drew
  replace T4 := T4.drew
  replace D := D.drew
  replace hz : w.heap.size + 1 + 1 + 1 + 1 ≤ w4.drew.heap.size := hz
  generalize w4.drew = w5 at *
  clear X3
  have c0 : w5.cell? ⟨w.heap.size, 0, none⟩ = some (.int .i64 6) := X0.cell 0
  refine c_P trivial 0 rfl ?_
  refine c_R (fun w' => w'.cell? ⟨w.heap.size, 0, none⟩ = some (.int .i64 6)) c0 trivial 1 rfl (fun w' hx => by go_simp; with_reducible rfl) ?_
  refine c_P ⟨c0, trivial⟩ 2 rfl ?_
  refine c_move 3 (by kernel_rfl) (c_op 3 [(1, fun w' => w'.cell? ⟨w.heap.size, 0, none⟩ = some (.int .i64 6))] (by kernel_rfl) rfl (by kernel_rfl) (fun K hK => ?_))
  go_wp2_with fail
  refine (next_any (w.heap.size + 1 + 1 + 1) (w.heap.size + 1 + 1) x 11 _ T4 (by omega) (by decide)).mono ?_
  rintro e w6 ⟨mz, rfl, mz0, mz1, T6, S6, D6⟩
  replace X0 := X0.dev D6 (by omega) (by omega)
  replace X1 := X1.dev D6 (by omega) (by omega)
  replace D := D.trans (D6.below (by omega) (by omega))
  have c6 : w6.cell? ⟨w.heap.size, 0, none⟩ = some (.int .i64 6) := X0.cell 0
  go_simp
  refine hK.out _ _ ⟨c6, trivial⟩ ?_
  clear K hK c0 D6 T4
  try simp only [Act.put, PuA, PuB, PuC]
  have wz : IntKind.i64.wrap (1 + mz) = 1 + mz := by rw [IntKind.wrap_i64]; omega
  refine c_P ⟨c6, trivial⟩ 4 rfl ?_
  refine c_move 5 (by kernel_rfl) (c_op 5 [] (by kernel_rfl) rfl (by kernel_rfl) (fun K hK => ?_))
  go_wp2_with fail
  refine (refuse_ref 6 (1 + mz) _).mono ?_
  rintro e w7 ⟨rfl, B7⟩
  rw [show (1 + mz) % 256 = 1 + mz by omega, show (6 : Int) % 128 = 6 from rfl]
  replace X1 := X1.below B7 X1.lt
  have sz7 := B7.size
  replace D := below_then D B7
  go_simp
  refine hK.out _ _ trivial ?_
  clear K hK B7
  try simp only [Act.put, PuA, PuB, PuC]
  have q0 := X1.cell 0
  have q1 := X1.cell 1
  have q2 := X1.cell 2
  have q3 := X1.cell 3
  have q4 := X1.cell 4
  have q5 := X1.cell 5
  have q6 := X1.cell 6
  have q7 := X1.cell 7
  have q8 := X1.cell 8
  have q9 := X1.cell 9
  simp at q0 q1 q2 q3 q4 q5 q6 q7 q8 q9
  have fq := X1.frozen
  have gq := X1.lt
  refine c_move 6 (by kernel_rfl) (c_op 6 [] (by kernel_rfl) rfl (by kernel_rfl) (fun K hK => ?_))
  go_simp
  refine hK.out _ _ trivial ?_
  clear K hK
  try simp only [Act.put, PuA, PuB, PuC]
  refine c_done (by kernel_rfl) ?_
  go_wp2
  refine bodyPost_ret (v := _) (by simp [results, Try.results7, go_sem, q0, q1, q2, q3, q4, q5, q6, q7, q8, q9]; with_reducible rfl) rfl ?_
  refine ⟨_, rfl, refP 6 (1 + mz), ref_rp _ _ _, rfl, ref_good 6 (1 + mz) (by decide) (by decide) (by omega) (by omega), ?_, ?_, ⟨_, _, _, _, _, _, _, _, _, _, _, _, _, _, _, _, _, _, _, rfl, rfl, .inl (NewV.none _ _ _), .inl (NewV.none _ _ _), NewV.none _ _ _⟩⟩
  ·
   unfold askB; rw [if_pos (by simp only [refP]; omega)]
  ·
   repeat' (refine Below.setCell ?_ (by simp <;> omega) _)
   exact D
 ·
  have hm' : (my == 0) = false := by rw [beq_eq_false_iff_ne]; exact hm
  clear hm
  have a0 := X0.cell 0
  have a1 := X0.cell 1
  have a2 := X0.cell 2
  have a3 := X0.cell 3
  have a4 := X0.cell 4
  have a5 := X0.cell 5
  have a6 := X0.cell 6
  have a7 := X0.cell 7
  have a8 := X0.cell 8
  simp at a0 a1 a2 a3 a4 a5 a6 a7 a8
  have fa := X0.frozen
  have ga := X0.lt
  have r0 := X3.cell 0
  have r1 := X3.cell 1
  have r2 := X3.cell 2
  have r3 := X3.cell 3
  have r4 := X3.cell 4
  have r5 := X3.cell 5
  have r6 := X3.cell 6
  have r7 := X3.cell 7
  have r8 := X3.cell 8
  have r9 := X3.cell 9
  simp at r0 r1 r2 r3 r4 r5 r6 r7 r8 r9
  have fr := X3.frozen
  have gr := X3.lt
  go_wp2
  clear a0 a1 a2 a3 a4 a5 a6 a7 a8 fa ga r0 r1 r2 r3 r4 r5 r6 r7 r8 r9 fr gr
  refine c_begin 24 rfl (by kernel_rfl) ?_
  replace X0 := X0.drew
  replace X1 := X1.drew
  replace X3 := X3.drew
  replace D := D.drew
  replace hz : w.heap.size + 1 + 1 + 1 + 1 ≤ w4.drew.heap.size := hz
  generalize w4.drew = w5 at *
  have a0 := X0.cell 0
  have a1 := X0.cell 1
  have a2 := X0.cell 2
  have a3 := X0.cell 3
  have a4 := X0.cell 4
  have a5 := X0.cell 5
  have a6 := X0.cell 6
  have a7 := X0.cell 7
  have a8 := X0.cell 8
  simp at a0 a1 a2 a3 a4 a5 a6 a7 a8
  have fa := X0.frozen
  have ga := X0.lt
  have r0 := X3.cell 0
  have r1 := X3.cell 1
  have r2 := X3.cell 2
  have r3 := X3.cell 3
  have r4 := X3.cell 4
  have r5 := X3.cell 5
  have r6 := X3.cell 6
  have r7 := X3.cell 7
  have r8 := X3.cell 8
  have r9 := X3.cell 9
  simp at r0 r1 r2 r3 r4 r5 r6 r7 r8 r9
  have fr := X3.frozen
  have gr := X3.lt
  have hne : w.heap.size + 1 + 1 + 1 ≠ w.heap.size := by omega
  refine c_P trivial 0 rfl ?_
  refine c_R (fun w' => w'.cell? ⟨w.heap.size, 1, none⟩ = some (.int .i64 l)) a1 trivial 1 rfl (fun w' hx => by go_simp; with_reducible rfl) ?_
  refine c_P (by refine ⟨?_, trivial⟩ <;> (repeat refine cell_set_ne hne ?_) <;> assumption) 2 rfl ?_
  refine c_R (fun w' => w'.cell? ⟨w.heap.size, 4, none⟩ = some (.int .i64 s)) a4 ⟨a1, trivial⟩ 3 rfl (fun w' hx => by go_simp; with_reducible rfl) ?_
  refine c_P (by refine ⟨?_, ?_, trivial⟩ <;> (repeat refine cell_set_ne hne ?_) <;> assumption) 4 rfl ?_
  refine c_R (fun w' => w'.cell? ⟨w.heap.size, 5, none⟩ = some (.slice ab nb capb)) a5 ⟨a4, a1, trivial⟩ 5 rfl (fun w' hx => by go_simp; with_reducible rfl) ?_
  refine c_P (by refine ⟨?_, ?_, ?_, trivial⟩ <;> (repeat refine cell_set_ne hne ?_) <;> assumption) 6 rfl ?_
  refine c_R (fun w' => w'.cell? ⟨w.heap.size, 6, none⟩ = some (.slice av nv capv)) a6 ⟨a5, a4, a1, trivial⟩ 7 rfl (fun w' hx => by go_simp; with_reducible rfl) ?_
  refine c_P (by refine ⟨?_, ?_, ?_, ?_, trivial⟩ <;> (repeat refine cell_set_ne hne ?_) <;> assumption) 8 rfl ?_
  refine c_R (fun w' => w'.cell? ⟨w.heap.size, 7, none⟩ = some (wV m)) a7 ⟨a6, a5, a4, a1, trivial⟩ 9 rfl (fun w' hx => by go_simp; with_reducible rfl) ?_
  refine c_P (by refine ⟨?_, ?_, ?_, ?_, ?_, trivial⟩ <;> (repeat refine cell_set_ne hne ?_) <;> assumption) 10 rfl ?_
  refine c_R (fun w' => w'.cell? ⟨w.heap.size, 8, none⟩ = some (wV o)) a8 ⟨a7, a6, a5, a4, a1, trivial⟩ 11 rfl (fun w' hx => by go_simp; with_reducible rfl) ?_
  refine c_P (by refine ⟨?_, ?_, ?_, ?_, ?_, ?_, trivial⟩ <;> (repeat refine cell_set_ne hne ?_) <;> assumption) 12 rfl ?_
  refine c_move 13 (by kernel_rfl) (c_op 13 [(11, fun w' => w'.cell? ⟨w.heap.size, 8, none⟩ = some (wV o)), (9, fun w' => w'.cell? ⟨w.heap.size, 7, none⟩ = some (wV m)), (7, fun w' => w'.cell? ⟨w.heap.size, 6, none⟩ = some (.slice av nv capv)), (5, fun w' => w'.cell? ⟨w.heap.size, 5, none⟩ = some (.slice ab nb capb)), (3, fun w' => w'.cell? ⟨w.heap.size, 4, none⟩ = some (.int .i64 s))] (by kernel_rfl) rfl (by kernel_rfl) (fun K hK => ?_))
  go_simp
  refine hK.out _ _ ?cc ?_
  case cc => refine ⟨?_, ?_, ?_, ?_, ?_, trivial⟩ <;> (repeat refine cell_set_ne hne ?_) <;> assumption
  clear K hK
  try simp only [Act.put, PuA, PuB, PuC]
  refine c_P (by refine ⟨?_, ?_, ?_, ?_, ?_, trivial⟩ <;> (repeat refine cell_set_ne hne ?_) <;> assumption) 14 rfl ?_
  refine c_move 15 (by kernel_rfl) (c_op 15 [(11, fun w' => w'.cell? ⟨w.heap.size, 8, none⟩ = some (wV o)), (9, fun w' => w'.cell? ⟨w.heap.size, 7, none⟩ = some (wV m)), (7, fun w' => w'.cell? ⟨w.heap.size, 6, none⟩ = some (.slice av nv capv)), (5, fun w' => w'.cell? ⟨w.heap.size, 5, none⟩ = some (.slice ab nb capb))] (by kernel_rfl) rfl (by kernel_rfl) (fun K hK => ?_))
  go_simp
  refine hK.out _ _ ?cc ?_
  case cc => refine ⟨?_, ?_, ?_, ?_, trivial⟩ <;> (repeat refine cell_set_ne hne ?_) <;> assumption
  clear K hK
  try simp only [Act.put, PuA, PuB, PuC]
  refine c_P (by refine ⟨?_, ?_, ?_, ?_, trivial⟩ <;> (repeat refine cell_set_ne hne ?_) <;> assumption) 16 rfl ?_
  refine c_move 17 (by kernel_rfl) (c_op 17 [(11, fun w' => w'.cell? ⟨w.heap.size, 8, none⟩ = some (wV o)), (9, fun w' => w'.cell? ⟨w.heap.size, 7, none⟩ = some (wV m)), (7, fun w' => w'.cell? ⟨w.heap.size, 6, none⟩ = some (.slice av nv capv))] (by kernel_rfl) rfl (by kernel_rfl) (fun K hK => ?_))
  go_simp
  refine hK.out _ _ ?cc ?_
  case cc => refine ⟨?_, ?_, ?_, trivial⟩ <;> (repeat refine cell_set_ne hne ?_) <;> assumption
  clear K hK
  try simp only [Act.put, PuA, PuB, PuC]
  refine c_P (by refine ⟨?_, ?_, ?_, trivial⟩ <;> (repeat refine cell_set_ne hne ?_) <;> assumption) 18 rfl ?_
  refine c_move 19 (by kernel_rfl) (c_op 19 [(11, fun w' => w'.cell? ⟨w.heap.size, 8, none⟩ = some (wV o)), (9, fun w' => w'.cell? ⟨w.heap.size, 7, none⟩ = some (wV m))] (by kernel_rfl) rfl (by kernel_rfl) (fun K hK => ?_))
  go_simp
  refine hK.out _ _ ?cc ?_
  case cc => refine ⟨?_, ?_, trivial⟩ <;> (repeat refine cell_set_ne hne ?_) <;> assumption
  clear K hK
  try simp only [Act.put, PuA, PuB, PuC]
  refine c_P (by refine ⟨?_, ?_, trivial⟩ <;> (repeat refine cell_set_ne hne ?_) <;> assumption) 20 rfl ?_
  refine c_move 21 (by kernel_rfl) (c_op 21 [(11, fun w' => w'.cell? ⟨w.heap.size, 8, none⟩ = some (wV o))] (by kernel_rfl) rfl (by kernel_rfl) (fun K hK => ?_))
  go_simp
  refine hK.out _ _ ?cc ?_
  case cc => refine ⟨?_, trivial⟩ <;> (repeat refine cell_set_ne hne ?_) <;> assumption
  clear K hK
  try simp only [Act.put, PuA, PuB, PuC]
  refine c_P (by refine ⟨?_, trivial⟩ <;> (repeat refine cell_set_ne hne ?_) <;> assumption) 22 rfl ?_
  refine c_move 23 (by kernel_rfl) (c_op 23 [] (by kernel_rfl) rfl (by kernel_rfl) (fun K hK => ?_))
  go_simp
  refine hK.out _ _ ?cc ?_
  case cc => trivial
  clear K hK
  try simp only [Act.put, PuA, PuB, PuC]
  refine c_done (by kernel_rfl) ?_
  have q0 := X1.cell 0
  have q1 := X1.cell 1
  have q2 := X1.cell 2
  have q3 := X1.cell 3
  have q4 := X1.cell 4
  have q5 := X1.cell 5
  have q6 := X1.cell 6
  have q7 := X1.cell 7
  have q8 := X1.cell 8
  have q9 := X1.cell 9
  simp at q0 q1 q2 q3 q4 q5 q6 q7 q8 q9
  have fq := X1.frozen
  have gq := X1.lt
  go_wp2
  refine bodyPost_ret (v := _) (by simp [results, Try.results7, go_sem, q0, q1, q2, q3, q4, q5, q6, q7, q8, q9]; with_reducible rfl) rfl ?_
  refine ⟨_, rfl, echoP ⟨6, l, c, p, s, bb, vw, m, o⟩, ⟨_, _, _, rfl, ?_, ?_, Row.nil _⟩, rfl, HE.out (by simp), by simp [askB, echoP], ?_, ⟨_, _, _, _, _, _, _, _, _, _, _, _, _, _, _, _, _, _, _, rfl, rfl, .inr rfl, .inr rfl, NewV.none _ _ _⟩⟩
  ·
   refine HB.out.below ?_
   repeat' (refine Below.setCell ?_ (by simp <;> omega) _)
   exact D
  ·
   refine HV.out.below ?_
   repeat' (refine Below.setCell ?_ (by simp <;> omega) _)
   exact D
  ·
   repeat' (refine Below.setCell ?_ (by simp <;> omega) _)
   exact D
set_option maxRecDepth 100000 in
set_option maxHeartbeats 2000000 in
theorem made_8 (tv qv : Value) (x : List Int) (q : Rq) (w : World) (ht : Row w tv (x.map iV)) (bx : ∀ n ∈ x, -9223372036854775808 ≤ n ∧ n ≤ 9223372036854775807) (hq : IsRq w qv q) (hr : rightE q = 0) (hc : q.cnt ≤ 30) (hf : q.fn = 8) :
  Calls Try.prog 7 #[tv, qv] w fun e w' => ∃ v', e = .returned v' ∧ ∃ r, IsRp w' v' r ∧ r.fn = q.fn ∧ goodE r = 0 ∧ askB r q.cnt = true ∧ Below w.heap.size w w' ∧ FromQ w.heap.size qv v' := by
 have HE : Hid (∀ (_ : q.fn = 5 ∨ q.fn = 6 ∨ q.fn = 8 ∨ q.fn = 22), goodE (echoP q) = 0) := fun h => echoP_good hr h
 obtain ⟨-, -, ⟨n1, n2, n3, n4⟩, hlst⟩ := right_parts hr
 obtain ⟨ta, tc, rfl, -⟩ := id ht
 obtain ⟨vb, vv, rfl, hb, hv⟩ := hq
 obtain ⟨ab, capb, rfl, -⟩ := id hb
 obtain ⟨av, capv, rfl, -⟩ := id hv
 obtain ⟨f, l, c, p, s, bb, vw, m, o⟩ := q
 simp only [List.length_map] at ht hb hv hf hc n1 n2 n3 n4 HE ⊢
 subst hf
 have HB := hidden hb
 have HV := hidden hv
 simp [numB] at n1 n2 n3 n4
 clear hr hb hv hlst
 generalize hnb : bb.length = nb at *
 generalize hnv : vw.length = nv at *
 have HNB := hidden hnb
 have HNV := hidden hnv
 clear hnb hnv
 have T0 := tap_new ((w.alloc (.cells #[.int .i64 8, .int .i64 l, .int .i64 c, .int .i64 p, .int .i64 s, .slice ab nb capb, .slice av nv capv, wV m, wV o] 26)).alloc (.cells #[.int .i64 0, .int .i64 0, .int .i64 0, .int .i64 0, .int .i64 0, .slice none 0 0, .slice none 0 0, .int .u16 0, .int .u16 0, .slice none 0 0] 35)) ta x.length tc x (ht.below (((Below.refl w.heap.size w).alloc (Nat.le_refl _) _).alloc (by simp <;> omega) _)) bx
 simp only [World.size_alloc] at T0
 have T1 := T0.below ((Below.refl (w.heap.size + 1 + 1 + 1) (((w.alloc (.cells #[.int .i64 8, .int .i64 l, .int .i64 c, .int .i64 p, .int .i64 s, .slice ab nb capb, .slice av nv capv, wV m, wV o] 26)).alloc (.cells #[.int .i64 0, .int .i64 0, .int .i64 0, .int .i64 0, .int .i64 0, .slice none 0 0, .slice none 0 0, .int .u16 0, .int .u16 0, .slice none 0 0] 35)).alloc (.cells #[.slice ta x.length tc, .int .i64 0] 31))).alloc (by simp) (.cells #[.int .i64 8, .int .i64 0, .int .i64 0, .int .i64 0, .int .i64 0, .slice none 0 0, .slice none 0 0, .int .u16 0, .int .u16 0, .slice none 0 0] 35))
 have X0 := (((Blk.new w 26 [.int .i64 8, .int .i64 l, .int .i64 c, .int .i64 p, .int .i64 s, .slice ab nb capb, .slice av nv capv, wV m, wV o]).alloc (.cells #[.int .i64 0, .int .i64 0, .int .i64 0, .int .i64 0, .int .i64 0, .slice none 0 0, .slice none 0 0, .int .u16 0, .int .u16 0, .slice none 0 0] 35)).alloc (.cells #[.slice ta x.length tc, .int .i64 0] 31)).alloc (.cells #[.int .i64 8, .int .i64 0, .int .i64 0, .int .i64 0, .int .i64 0, .slice none 0 0, .slice none 0 0, .int .u16 0, .int .u16 0, .slice none 0 0] 35)
 have X1 := ((Blk.new_at (w.alloc (.cells #[.int .i64 8, .int .i64 l, .int .i64 c, .int .i64 p, .int .i64 s, .slice ab nb capb, .slice av nv capv, wV m, wV o] 26)) 35 [.int .i64 0, .int .i64 0, .int .i64 0, .int .i64 0, .int .i64 0, .slice none 0 0, .slice none 0 0, .int .u16 0, .int .u16 0, .slice none 0 0] (w.heap.size + 1) (by simp)).alloc (.cells #[.slice ta x.length tc, .int .i64 0] 31)).alloc (.cells #[.int .i64 8, .int .i64 0, .int .i64 0, .int .i64 0, .int .i64 0, .slice none 0 0, .slice none 0 0, .int .u16 0, .int .u16 0, .slice none 0 0] 35)
 have X3 := Blk.new_at (((w.alloc (.cells #[.int .i64 8, .int .i64 l, .int .i64 c, .int .i64 p, .int .i64 s, .slice ab nb capb, .slice av nv capv, wV m, wV o] 26)).alloc (.cells #[.int .i64 0, .int .i64 0, .int .i64 0, .int .i64 0, .int .i64 0, .slice none 0 0, .slice none 0 0, .int .u16 0, .int .u16 0, .slice none 0 0] 35)).alloc (.cells #[.slice ta x.length tc, .int .i64 0] 31)) 35 [.int .i64 8, .int .i64 0, .int .i64 0, .int .i64 0, .int .i64 0, .slice none 0 0, .slice none 0 0, .int .u16 0, .int .u16 0, .slice none 0 0] (w.heap.size + 1 + 1 + 1) (by simp)
 have D := ((((Below.refl w.heap.size w).alloc (Nat.le_refl _) (.cells #[.int .i64 8, .int .i64 l, .int .i64 c, .int .i64 p, .int .i64 s, .slice ab nb capb, .slice av nv capv, wV m, wV o] 26)).alloc (by simp) (.cells #[.int .i64 0, .int .i64 0, .int .i64 0, .int .i64 0, .int .i64 0, .slice none 0 0, .slice none 0 0, .int .u16 0, .int .u16 0, .slice none 0 0] 35)).alloc (by simp <;> omega) (.cells #[.slice ta x.length tc, .int .i64 0] 31)).alloc (by simp <;> omega) (.cells #[.int .i64 8, .int .i64 0, .int .i64 0, .int .i64 0, .int .i64 0, .slice none 0 0, .slice none 0 0, .int .u16 0, .int .u16 0, .slice none 0 0] 35)
 clear T0 ht bx
 go_enter Try.func7, Try.ntmps7
 go_wp2_with fail
 refine (next_any (w.heap.size + 1 + 1 + 1) (w.heap.size + 1 + 1) x 5 _ T1 (by simp) (by decide)).mono ?_
 rintro e w4 ⟨my, rfl, my0, my1, T4, S4, D4⟩
 simp at S4
 replace X0 := X0.dev D4 (by simp <;> omega) (by omega)
 replace X1 := X1.dev D4 (by simp <;> omega) (by omega)
 replace X3 := X3.dev D4 (by simp <;> omega) (by omega)
 replace D := D.trans (D4.below (by simp <;> omega) (by omega))
 clear D4 T1
 have hz : w.heap.size + 1 + 1 + 1 + 1 ≤ w4.heap.size := by omega
 clear S4
 by_cases hm : my = 0
 ·
  subst hm
  go_wp2
  refine c_begin 7 rfl (by kernel_rfl) ?_
  replace X0 := X0.drew
  replace X1 := X1.drew
  replace T4 := T4.drew
  replace D := D.drew
  replace hz : w.heap.size + 1 + 1 + 1 + 1 ≤ w4.drew.heap.size := hz
  generalize w4.drew = w5 at *
  clear X3
  have c0 : w5.cell? ⟨w.heap.size, 0, none⟩ = some (.int .i64 8) := X0.cell 0
  refine c_P trivial 0 rfl ?_
  refine c_R (fun w' => w'.cell? ⟨w.heap.size, 0, none⟩ = some (.int .i64 8)) c0 trivial 1 rfl (fun w' hx => by go_simp; with_reducible rfl) ?_
  refine c_P ⟨c0, trivial⟩ 2 rfl ?_
  refine c_move 3 (by kernel_rfl) (c_op 3 [(1, fun w' => w'.cell? ⟨w.heap.size, 0, none⟩ = some (.int .i64 8))] (by kernel_rfl) rfl (by kernel_rfl) (fun K hK => ?_))
  go_wp2_with fail
  refine (next_any (w.heap.size + 1 + 1 + 1) (w.heap.size + 1 + 1) x 11 _ T4 (by omega) (by decide)).mono ?_
  rintro e w6 ⟨mz, rfl, mz0, mz1, T6, S6, D6⟩
  replace X0 := X0.dev D6 (by omega) (by omega)
  replace X1 := X1.dev D6 (by omega) (by omega)
  replace D := D.trans (D6.below (by omega) (by omega))
  have c6 : w6.cell? ⟨w.heap.size, 0, none⟩ = some (.int .i64 8) := X0.cell 0
  go_simp
  refine hK.out _ _ ⟨c6, trivial⟩ ?_
  clear K hK c0 D6 T4
  try simp only [Act.put, PuA, PuB, PuC]
  have wz : IntKind.i64.wrap (1 + mz) = 1 + mz := by rw [IntKind.wrap_i64]; omega
  refine c_P ⟨c6, trivial⟩ 4 rfl ?_
  refine c_move 5 (by kernel_rfl) (c_op 5 [] (by kernel_rfl) rfl (by kernel_rfl) (fun K hK => ?_))
  go_wp2_with fail
  refine (refuse_ref 8 (1 + mz) _).mono ?_
  rintro e w7 ⟨rfl, B7⟩
  rw [show (1 + mz) % 256 = 1 + mz by omega, show (8 : Int) % 128 = 8 from rfl]
  replace X1 := X1.below B7 X1.lt
  have sz7 := B7.size
  replace D := below_then D B7
  go_simp
  refine hK.out _ _ trivial ?_
  clear K hK B7
  try simp only [Act.put, PuA, PuB, PuC]
  have q0 := X1.cell 0
  have q1 := X1.cell 1
  have q2 := X1.cell 2
  have q3 := X1.cell 3
  have q4 := X1.cell 4
  have q5 := X1.cell 5
  have q6 := X1.cell 6
  have q7 := X1.cell 7
  have q8 := X1.cell 8
  have q9 := X1.cell 9
  simp at q0 q1 q2 q3 q4 q5 q6 q7 q8 q9
  have fq := X1.frozen
  have gq := X1.lt
  refine c_move 6 (by kernel_rfl) (c_op 6 [] (by kernel_rfl) rfl (by kernel_rfl) (fun K hK => ?_))
  go_simp
  refine hK.out _ _ trivial ?_
  clear K hK
  try simp only [Act.put, PuA, PuB, PuC]
  refine c_done (by kernel_rfl) ?_
  go_wp2
  refine bodyPost_ret (v := _) (by simp [results, Try.results7, go_sem, q0, q1, q2, q3, q4, q5, q6, q7, q8, q9]; with_reducible rfl) rfl ?_
  refine ⟨_, rfl, refP 8 (1 + mz), ref_rp _ _ _, rfl, ref_good 8 (1 + mz) (by decide) (by decide) (by omega) (by omega), ?_, ?_, ⟨_, _, _, _, _, _, _, _, _, _, _, _, _, _, _, _, _, _, _, rfl, rfl, .inl (NewV.none _ _ _), .inl (NewV.none _ _ _), NewV.none _ _ _⟩⟩
  ·
   unfold askB; rw [if_pos (by simp only [refP]; omega)]
  ·
   repeat' (refine Below.setCell ?_ (by simp <;> omega) _)
   exact D
 ·
  have hm' : (my == 0) = false := by rw [beq_eq_false_iff_ne]; exact hm
  clear hm
  have a0 := X0.cell 0
  have a1 := X0.cell 1
  have a2 := X0.cell 2
  have a3 := X0.cell 3
  have a4 := X0.cell 4
  have a5 := X0.cell 5
  have a6 := X0.cell 6
  have a7 := X0.cell 7
  have a8 := X0.cell 8
  simp at a0 a1 a2 a3 a4 a5 a6 a7 a8
  have fa := X0.frozen
  have ga := X0.lt
  have r0 := X3.cell 0
  have r1 := X3.cell 1
  have r2 := X3.cell 2
  have r3 := X3.cell 3
  have r4 := X3.cell 4
  have r5 := X3.cell 5
  have r6 := X3.cell 6
  have r7 := X3.cell 7
  have r8 := X3.cell 8
  have r9 := X3.cell 9
  simp at r0 r1 r2 r3 r4 r5 r6 r7 r8 r9
  have fr := X3.frozen
  have gr := X3.lt
  go_wp2
  clear a0 a1 a2 a3 a4 a5 a6 a7 a8 fa ga r0 r1 r2 r3 r4 r5 r6 r7 r8 r9 fr gr
  refine c_begin 24 rfl (by kernel_rfl) ?_
  replace X0 := X0.drew
  replace X1 := X1.drew
  replace X3 := X3.drew
  replace D := D.drew
  replace hz : w.heap.size + 1 + 1 + 1 + 1 ≤ w4.drew.heap.size := hz
  generalize w4.drew = w5 at *
  have a0 := X0.cell 0
  have a1 := X0.cell 1
  have a2 := X0.cell 2
  have a3 := X0.cell 3
  have a4 := X0.cell 4
  have a5 := X0.cell 5
  have a6 := X0.cell 6
  have a7 := X0.cell 7
  have a8 := X0.cell 8
  simp at a0 a1 a2 a3 a4 a5 a6 a7 a8
  have fa := X0.frozen
  have ga := X0.lt
  have r0 := X3.cell 0
  have r1 := X3.cell 1
  have r2 := X3.cell 2
  have r3 := X3.cell 3
  have r4 := X3.cell 4
  have r5 := X3.cell 5
  have r6 := X3.cell 6
  have r7 := X3.cell 7
  have r8 := X3.cell 8
  have r9 := X3.cell 9
  simp at r0 r1 r2 r3 r4 r5 r6 r7 r8 r9
  have fr := X3.frozen
  have gr := X3.lt
  have hne : w.heap.size + 1 + 1 + 1 ≠ w.heap.size := by omega
  refine c_P trivial 0 rfl ?_
  refine c_R (fun w' => w'.cell? ⟨w.heap.size, 1, none⟩ = some (.int .i64 l)) a1 trivial 1 rfl (fun w' hx => by go_simp; with_reducible rfl) ?_
  refine c_P (by refine ⟨?_, trivial⟩ <;> (repeat refine cell_set_ne hne ?_) <;> assumption) 2 rfl ?_
  refine c_R (fun w' => w'.cell? ⟨w.heap.size, 4, none⟩ = some (.int .i64 s)) a4 ⟨a1, trivial⟩ 3 rfl (fun w' hx => by go_simp; with_reducible rfl) ?_
  refine c_P (by refine ⟨?_, ?_, trivial⟩ <;> (repeat refine cell_set_ne hne ?_) <;> assumption) 4 rfl ?_
  refine c_R (fun w' => w'.cell? ⟨w.heap.size, 5, none⟩ = some (.slice ab nb capb)) a5 ⟨a4, a1, trivial⟩ 5 rfl (fun w' hx => by go_simp; with_reducible rfl) ?_
  refine c_P (by refine ⟨?_, ?_, ?_, trivial⟩ <;> (repeat refine cell_set_ne hne ?_) <;> assumption) 6 rfl ?_
  refine c_R (fun w' => w'.cell? ⟨w.heap.size, 6, none⟩ = some (.slice av nv capv)) a6 ⟨a5, a4, a1, trivial⟩ 7 rfl (fun w' hx => by go_simp; with_reducible rfl) ?_
  refine c_P (by refine ⟨?_, ?_, ?_, ?_, trivial⟩ <;> (repeat refine cell_set_ne hne ?_) <;> assumption) 8 rfl ?_
  refine c_R (fun w' => w'.cell? ⟨w.heap.size, 7, none⟩ = some (wV m)) a7 ⟨a6, a5, a4, a1, trivial⟩ 9 rfl (fun w' hx => by go_simp; with_reducible rfl) ?_
  refine c_P (by refine ⟨?_, ?_, ?_, ?_, ?_, trivial⟩ <;> (repeat refine cell_set_ne hne ?_) <;> assumption) 10 rfl ?_
  refine c_R (fun w' => w'.cell? ⟨w.heap.size, 8, none⟩ = some (wV o)) a8 ⟨a7, a6, a5, a4, a1, trivial⟩ 11 rfl (fun w' hx => by go_simp; with_reducible rfl) ?_
  refine c_P (by refine ⟨?_, ?_, ?_, ?_, ?_, ?_, trivial⟩ <;> (repeat refine cell_set_ne hne ?_) <;> assumption) 12 rfl ?_
  refine c_move 13 (by kernel_rfl) (c_op 13 [(11, fun w' => w'.cell? ⟨w.heap.size, 8, none⟩ = some (wV o)), (9, fun w' => w'.cell? ⟨w.heap.size, 7, none⟩ = some (wV m)), (7, fun w' => w'.cell? ⟨w.heap.size, 6, none⟩ = some (.slice av nv capv)), (5, fun w' => w'.cell? ⟨w.heap.size, 5, none⟩ = some (.slice ab nb capb)), (3, fun w' => w'.cell? ⟨w.heap.size, 4, none⟩ = some (.int .i64 s))] (by kernel_rfl) rfl (by kernel_rfl) (fun K hK => ?_))
  go_simp
  refine hK.out _ _ ?cc ?_
  case cc => refine ⟨?_, ?_, ?_, ?_, ?_, trivial⟩ <;> (repeat refine cell_set_ne hne ?_) <;> assumption
  clear K hK
  try simp only [Act.put, PuA, PuB, PuC]
  refine c_P (by refine ⟨?_, ?_, ?_, ?_, ?_, trivial⟩ <;> (repeat refine cell_set_ne hne ?_) <;> assumption) 14 rfl ?_
  refine c_move 15 (by kernel_rfl) (c_op 15 [(11, fun w' => w'.cell? ⟨w.heap.size, 8, none⟩ = some (wV o)), (9, fun w' => w'.cell? ⟨w.heap.size, 7, none⟩ = some (wV m)), (7, fun w' => w'.cell? ⟨w.heap.size, 6, none⟩ = some (.slice av nv capv)), (5, fun w' => w'.cell? ⟨w.heap.size, 5, none⟩ = some (.slice ab nb capb))] (by kernel_rfl) rfl (by kernel_rfl) (fun K hK => ?_))
  go_simp
  refine hK.out _ _ ?cc ?_
  case cc => refine ⟨?_, ?_, ?_, ?_, trivial⟩ <;> (repeat refine cell_set_ne hne ?_) <;> assumption
  clear K hK
  try simp only [Act.put, PuA, PuB, PuC]
  refine c_P (by refine ⟨?_, ?_, ?_, ?_, trivial⟩ <;> (repeat refine cell_set_ne hne ?_) <;> assumption) 16 rfl ?_
  refine c_move 17 (by kernel_rfl) (c_op 17 [(11, fun w' => w'.cell? ⟨w.heap.size, 8, none⟩ = some (wV o)), (9, fun w' => w'.cell? ⟨w.heap.size, 7, none⟩ = some (wV m)), (7, fun w' => w'.cell? ⟨w.heap.size, 6, none⟩ = some (.slice av nv capv))] (by kernel_rfl) rfl (by kernel_rfl) (fun K hK => ?_))
  go_simp
  refine hK.out _ _ ?cc ?_
  case cc => refine ⟨?_, ?_, ?_, trivial⟩ <;> (repeat refine cell_set_ne hne ?_) <;> assumption
  clear K hK
  try simp only [Act.put, PuA, PuB, PuC]
  refine c_P (by refine ⟨?_, ?_, ?_, trivial⟩ <;> (repeat refine cell_set_ne hne ?_) <;> assumption) 18 rfl ?_
  refine c_move 19 (by kernel_rfl) (c_op 19 [(11, fun w' => w'.cell? ⟨w.heap.size, 8, none⟩ = some (wV o)), (9, fun w' => w'.cell? ⟨w.heap.size, 7, none⟩ = some (wV m))] (by kernel_rfl) rfl (by kernel_rfl) (fun K hK => ?_))
  go_simp
  refine hK.out _ _ ?cc ?_
  case cc => refine ⟨?_, ?_, trivial⟩ <;> (repeat refine cell_set_ne hne ?_) <;> assumption
  clear K hK
  try simp only [Act.put, PuA, PuB, PuC]
  refine c_P (by refine ⟨?_, ?_, trivial⟩ <;> (repeat refine cell_set_ne hne ?_) <;> assumption) 20 rfl ?_
  refine c_move 21 (by kernel_rfl) (c_op 21 [(11, fun w' => w'.cell? ⟨w.heap.size, 8, none⟩ = some (wV o))] (by kernel_rfl) rfl (by kernel_rfl) (fun K hK => ?_))
  go_simp
  refine hK.out _ _ ?cc ?_
  case cc => refine ⟨?_, trivial⟩ <;> (repeat refine cell_set_ne hne ?_) <;> assumption
  clear K hK
  try simp only [Act.put, PuA, PuB, PuC]
  refine c_P (by refine ⟨?_, trivial⟩ <;> (repeat refine cell_set_ne hne ?_) <;> assumption) 22 rfl ?_
  refine c_move 23 (by kernel_rfl) (c_op 23 [] (by kernel_rfl) rfl (by kernel_rfl) (fun K hK => ?_))
  go_simp
  refine hK.out _ _ ?cc ?_
  case cc => trivial
  clear K hK
  try simp only [Act.put, PuA, PuB, PuC]
  refine c_done (by kernel_rfl) ?_
  have q0 := X1.cell 0
  have q1 := X1.cell 1
  have q2 := X1.cell 2
  have q3 := X1.cell 3
  have q4 := X1.cell 4
  have q5 := X1.cell 5
  have q6 := X1.cell 6
  have q7 := X1.cell 7
  have q8 := X1.cell 8
  have q9 := X1.cell 9
  simp at q0 q1 q2 q3 q4 q5 q6 q7 q8 q9
  have fq := X1.frozen
  have gq := X1.lt
  go_wp2
  refine bodyPost_ret (v := _) (by simp [results, Try.results7, go_sem, q0, q1, q2, q3, q4, q5, q6, q7, q8, q9]; with_reducible rfl) rfl ?_
  refine ⟨_, rfl, echoP ⟨8, l, c, p, s, bb, vw, m, o⟩, ⟨_, _, _, rfl, ?_, ?_, Row.nil _⟩, rfl, HE.out (by simp), by simp [askB, echoP], ?_, ⟨_, _, _, _, _, _, _, _, _, _, _, _, _, _, _, _, _, _, _, rfl, rfl, .inr rfl, .inr rfl, NewV.none _ _ _⟩⟩
  ·
   refine HB.out.below ?_
   repeat' (refine Below.setCell ?_ (by simp <;> omega) _)
   exact D
  ·
   refine HV.out.below ?_
   repeat' (refine Below.setCell ?_ (by simp <;> omega) _)
   exact D
  ·
   repeat' (refine Below.setCell ?_ (by simp <;> omega) _)
   exact D
end Go.Proofs.Ytbajlhpmmmhkoaa
