/- Contract of burgagelaw4.made, by function. -/
import Derived.Test.YtbajlhpmmmhkoaaJ46
namespace Go.Proofs.Ytbajlhpmmmhkoaa
open Go.RowKit
set_option maxRecDepth 100000 in
set_option maxHeartbeats 2000000 in
theorem made_1 (tv qv : Value) (x : List Int) (q : Rq) (w : World) (ht : Row w tv (x.map iV)) (bx : ∀ n ∈ x, -9223372036854775808 ≤ n ∧ n ≤ 9223372036854775807) (hq : IsRq w qv q) (hr : rightE q = 0) (hc : q.cnt ≤ 30) (hf : q.fn = 1) :
  Calls Try.prog 7 #[tv, qv] w fun e w' => ∃ v', e = .returned v' ∧ ∃ r, IsRp w' v' r ∧ r.fn = q.fn ∧ goodE r = 0 ∧ askB r q.cnt = true ∧ Below w.heap.size w w' ∧ FromQ w.heap.size qv v' := by
 have HE : Hid (∀ (_ : q.fn = 5 ∨ q.fn = 6 ∨ q.fn = 8 ∨ q.fn = 22), goodE (echoP q) = 0) := fun h => echoP_good hr h
 obtain ⟨-, -, ⟨n1, n2, n3, n4⟩, hlst⟩ := right_parts hr
 obtain ⟨ta, tc, rfl, -⟩ := id ht
 obtain ⟨vb, vv, rfl, hb, hv⟩ := hq
 obtain ⟨ab, capb, rfl, -⟩ := id hb
 obtain ⟨av, capv, rfl, -⟩ := id hv
 obtain ⟨f, l, c, p, s, bb, vw, m, o⟩ := q
 simp only [List.length_map] at ht hb hv hf hc n1 n2 n3 n4 HE ⊢
 subst hf
 have HB := hidden hb
 have HV := hidden hv
 simp [numB] at n1 n2 n3 n4
 clear hr hb hv hlst
 generalize hnb : bb.length = nb at *
 generalize hnv : vw.length = nv at *
 have HNB := hidden hnb
 have HNV := hidden hnv
 clear hnb hnv
 have T0 := tap_new ((w.alloc (.cells #[.int .i64 1, .int .i64 l, .int .i64 c, .int .i64 p, .int .i64 s, .slice ab nb capb, .slice av nv capv, wV m, wV o] 26)).alloc (.cells #[.int .i64 0, .int .i64 0, .int .i64 0, .int .i64 0, .int .i64 0, .slice none 0 0, .slice none 0 0, .int .u16 0, .int .u16 0, .slice none 0 0] 35)) ta x.length tc x (ht.below (((Below.refl w.heap.size w).alloc (Nat.le_refl _) _).alloc (by simp <;> omega) _)) bx
 simp only [World.size_alloc] at T0
 have T1 := T0.below ((Below.refl (w.heap.size + 1 + 1 + 1) (((w.alloc (.cells #[.int .i64 1, .int .i64 l, .int .i64 c, .int .i64 p, .int .i64 s, .slice ab nb capb, .slice av nv capv, wV m, wV o] 26)).alloc (.cells #[.int .i64 0, .int .i64 0, .int .i64 0, .int .i64 0, .int .i64 0, .slice none 0 0, .slice none 0 0, .int .u16 0, .int .u16 0, .slice none 0 0] 35)).alloc (.cells #[.slice ta x.length tc, .int .i64 0] 31))).alloc (by simp) (.cells #[.int .i64 1, .int .i64 0, .int .i64 0, .int .i64 0, .int .i64 0, .slice none 0 0, .slice none 0 0, .int .u16 0, .int .u16 0, .slice none 0 0] 35))
 have X0 := (((Blk.new w 26 [.int .i64 1, .int .i64 l, .int .i64 c, .int .i64 p, .int .i64 s, .slice ab nb capb, .slice av nv capv, wV m, wV o]).alloc (.cells #[.int .i64 0, .int .i64 0, .int .i64 0, .int .i64 0, .int .i64 0, .slice none 0 0, .slice none 0 0, .int .u16 0, .int .u16 0, .slice none 0 0] 35)).alloc (.cells #[.slice ta x.length tc, .int .i64 0] 31)).alloc (.cells #[.int .i64 1, .int .i64 0, .int .i64 0, .int .i64 0, .int .i64 0, .slice none 0 0, .slice none 0 0, .int .u16 0, .int .u16 0, .slice none 0 0] 35)
 have X1 := ((Blk.new_at (w.alloc (.cells #[.int .i64 1, .int .i64 l, .int .i64 c, .int .i64 p, .int .i64 s, .slice ab nb capb, .slice av nv capv, wV m, wV o] 26)) 35 [.int .i64 0, .int .i64 0, .int .i64 0, .int .i64 0, .int .i64 0, .slice none 0 0, .slice none 0 0, .int .u16 0, .int .u16 0, .slice none 0 0] (w.heap.size + 1) (by simp)).alloc (.cells #[.slice ta x.length tc, .int .i64 0] 31)).alloc (.cells #[.int .i64 1, .int .i64 0, .int .i64 0, .int .i64 0, .int .i64 0, .slice none 0 0, .slice none 0 0, .int .u16 0, .int .u16 0, .slice none 0 0] 35)
 have X3 := Blk.new_at (((w.alloc (.cells #[.int .i64 1, .int .i64 l, .int .i64 c, .int .i64 p, .int .i64 s, .slice ab nb capb, .slice av nv capv, wV m, wV o] 26)).alloc (.cells #[.int .i64 0, .int .i64 0, .int .i64 0, .int .i64 0, .int .i64 0, .slice none 0 0, .slice none 0 0, .int .u16 0, .int .u16 0, .slice none 0 0] 35)).alloc (.cells #[.slice ta x.length tc, .int .i64 0] 31)) 35 [.int .i64 1, .int .i64 0, .int .i64 0, .int .i64 0, .int .i64 0, .slice none 0 0, .slice none 0 0, .int .u16 0, .int .u16 0, .slice none 0 0] (w.heap.size + 1 + 1 + 1) (by simp)
 have D := ((((Below.refl w.heap.size w).alloc (Nat.le_refl _) (.cells #[.int .i64 1, .int .i64 l, .int .i64 c, .int .i64 p, .int .i64 s, .slice ab nb capb, .slice av nv capv, wV m, wV o] 26)).alloc (by simp) (.cells #[.int .i64 0, .int .i64 0, .int .i64 0, .int .i64 0, .int .i64 0, .slice none 0 0, .slice none 0 0, .int .u16 0, .int .u16 0, .slice none 0 0] 35)).alloc (by simp <;> omega) (.cells #[.slice ta x.length tc, .int .i64 0] 31)).alloc (by simp <;> omega) (.cells #[.int .i64 1, .int .i64 0, .int .i64 0, .int .i64 0, .int .i64 0, .slice none 0 0, .slice none 0 0, .int .u16 0, .int .u16 0, .slice none 0 0] 35)
 clear T0 ht bx
 go_enter Try.func7, Try.ntmps7
 go_wp2_with fail
 refine (next_any (w.heap.size + 1 + 1 + 1) (w.heap.size + 1 + 1) x 5 _ T1 (by simp) (by decide)).mono ?_
 rintro e w4 ⟨my, rfl, my0, my1, T4, S4, D4⟩
 simp at S4
 replace X0 := X0.dev D4 (by simp <;> omega) (by omega)
 replace X1 := X1.dev D4 (by simp <;> omega) (by omega)
 replace X3 := X3.dev D4 (by simp <;> omega) (by omega)
 replace D := D.trans (D4.below (by simp <;> omega) (by omega))
 clear D4 T1
 have hz : w.heap.size + 1 + 1 + 1 + 1 ≤ w4.heap.size := by omega
 clear S4
 by_cases hm : my = 0
 ·
  subst hm
  go_wp2
  refine c_begin 7 rfl (by kernel_rfl) ?_
  replace X0 := X0.drew
  replace X1 := X1.drew
  replace T4 := T4.drew
  replace D := D.drew
  replace hz : w.heap.size + 1 + 1 + 1 + 1 ≤ w4.drew.heap.size := hz
  generalize w4.drew = w5 at *
  clear X3
  have c0 : w5.cell? ⟨w.heap.size, 0, none⟩ = some (.int .i64 1) := X0.cell 0
  refine c_P trivial 0 rfl ?_
  refine c_R (fun w' => w'.cell? ⟨w.heap.size, 0, none⟩ = some (.int .i64 1)) c0 trivial 1 rfl (fun w' hx => by go_simp; with_reducible rfl) ?_
  refine c_P ⟨c0, trivial⟩ 2 rfl ?_
  refine c_move 3 (by kernel_rfl) (c_op 3 [(1, fun w' => w'.cell? ⟨w.heap.size, 0, none⟩ = some (.int .i64 1))] (by kernel_rfl) rfl (by kernel_rfl) (fun K hK => ?_))
  go_wp2_with fail
  refine (next_any (w.heap.size + 1 + 1 + 1) (w.heap.size + 1 + 1) x 11 _ T4 (by omega) (by decide)).mono ?_
  rintro e w6 ⟨mz, rfl, mz0, mz1, T6, S6, D6⟩
  replace X0 := X0.dev D6 (by omega) (by omega)
  replace X1 := X1.dev D6 (by omega) (by omega)
  replace D := D.trans (D6.below (by omega) (by omega))
  have c6 : w6.cell? ⟨w.heap.size, 0, none⟩ = some (.int .i64 1) := X0.cell 0
  go_simp
  refine hK.out _ _ ⟨c6, trivial⟩ ?_
  clear K hK c0 D6 T4
  try simp only [Act.put, PuA, PuB, PuC]
  have wz : IntKind.i64.wrap (1 + mz) = 1 + mz := by rw [IntKind.wrap_i64]; omega
  refine c_P ⟨c6, trivial⟩ 4 rfl ?_
  refine c_move 5 (by kernel_rfl) (c_op 5 [] (by kernel_rfl) rfl (by kernel_rfl) (fun K hK => ?_))
  go_wp2_with fail
  refine (refuse_ref 1 (1 + mz) _).mono ?_
  rintro e w7 ⟨rfl, B7⟩
  rw [show (1 + mz) % 256 = 1 + mz by omega, show (1 : Int) % 128 = 1 from rfl]
  replace X1 := X1.below B7 X1.lt
  have sz7 := B7.size
  replace D := below_then D B7
  go_simp
  refine hK.out _ _ trivial ?_
  clear K hK B7
  try simp only [Act.put, PuA, PuB, PuC]
  have q0 := X1.cell 0
  have q1 := X1.cell 1
  have q2 := X1.cell 2
  have q3 := X1.cell 3
  have q4 := X1.cell 4
  have q5 := X1.cell 5
  have q6 := X1.cell 6
  have q7 := X1.cell 7
  have q8 := X1.cell 8
  have q9 := X1.cell 9
  simp at q0 q1 q2 q3 q4 q5 q6 q7 q8 q9
  have fq := X1.frozen
  have gq := X1.lt
  refine c_move 6 (by kernel_rfl) (c_op 6 [] (by kernel_rfl) rfl (by kernel_rfl) (fun K hK => ?_))
  go_simp
  refine hK.out _ _ trivial ?_
  clear K hK
  try simp only [Act.put, PuA, PuB, PuC]
  refine c_done (by kernel_rfl) ?_
  go_wp2
  refine bodyPost_ret (v := _) (by simp [results, Try.results7, go_sem, q0, q1, q2, q3, q4, q5, q6, q7, q8, q9]; with_reducible rfl) rfl ?_
  refine ⟨_, rfl, refP 1 (1 + mz), ref_rp _ _ _, rfl, ref_good 1 (1 + mz) (by decide) (by decide) (by omega) (by omega), ?_, ?_, ⟨_, _, _, _, _, _, _, _, _, _, _, _, _, _, _, _, _, _, _, rfl, rfl, .inl (NewV.none _ _ _), .inl (NewV.none _ _ _), NewV.none _ _ _⟩⟩
  ·
   unfold askB; rw [if_pos (by simp only [refP]; omega)]
  ·
   repeat' (refine Below.setCell ?_ (by simp <;> omega) _)
   exact D
 ·
  have hm' : (my == 0) = false := by rw [beq_eq_false_iff_ne]; exact hm
  clear hm
  obtain ⟨n, rfl⟩ : ∃ n : Nat, c = (n : Int) := ⟨c.toNat, by omega⟩
  have a0 := X0.cell 0
  have a1 := X0.cell 1
  have a2 := X0.cell 2
  have a3 := X0.cell 3
  have a4 := X0.cell 4
  have a5 := X0.cell 5
  have a6 := X0.cell 6
  have a7 := X0.cell 7
  have a8 := X0.cell 8
  simp at a0 a1 a2 a3 a4 a5 a6 a7 a8
  have fa := X0.frozen
  have ga := X0.lt
  have r0 := X3.cell 0
  have r1 := X3.cell 1
  have r2 := X3.cell 2
  have r3 := X3.cell 3
  have r4 := X3.cell 4
  have r5 := X3.cell 5
  have r6 := X3.cell 6
  have r7 := X3.cell 7
  have r8 := X3.cell 8
  have r9 := X3.cell 9
  simp at r0 r1 r2 r3 r4 r5 r6 r7 r8 r9
  have fr := X3.frozen
  have gr := X3.lt
  go_wp2
  clear a0 a1 a2 a3 a4 a5 a6 a7 a8 fa ga r0 r1 r2 r3 r4 r5 r6 r7 r8 r9 fr gr
  go_loopw [7] (fun i wr => ∃ (k : Nat) (bs : List Bool) (vb : Value), k ≤ n ∧ i = .int .i64 k ∧ bs.length = k ∧ Blk wr (w.heap.size) 26 [.int .i64 1, .int .i64 l, .int .i64 n, .int .i64 p, .int .i64 s, .slice ab nb capb, .slice av nv capv, wV m, wV o] ∧ Blk wr (w.heap.size + 1) 35 [.int .i64 0, .int .i64 0, .int .i64 0, .int .i64 0, .int .i64 0, .slice none 0 0, .slice none 0 0, .int .u16 0, .int .u16 0, .slice none 0 0] ∧ Blk wr (w.heap.size + 1 + 1 + 1) 35 [.int .i64 1, .int .i64 0, .int .i64 0, .int .i64 0, .int .i64 0, vb, .slice none 0 0, .int .u16 0, .int .u16 0, .slice none 0 0] ∧ wr.ownsRow (w.heap.size + 1 + 1 + 1 + 1) 4 1 vb k (bs.map Value.bool) ∧ Tap (w.heap.size + 1 + 1 + 1) wr (w.heap.size + 1 + 1) x ∧ Below w.heap.size w wr ∧ w.heap.size + 1 + 1 + 1 + 1 ≤ wr.heap.size) (fun i _ => n - (intOf i).toNat)
  case atStart => exact ⟨0, [], .slice none 0 0, Nat.zero_le _, rfl, rfl, X0, X1, X3, World.ownsRow_nil _ _ _ _, T4, D, hz⟩
  case round =>
   clear X0 X1 X3 T4 D hz
   obtain ⟨k, bs, vb, hk, rfl, hbl, X0, X1, X3, ho, T4, D, hz⟩ := hrel
   have R0 := Row.of_owns ho
   obtain ⟨va, vcap, rfl, -⟩ := id R0
   simp only [List.length_map, hbl] at X3 ho R0
   have a2 := X0.cell 2
   simp at a2
   have ga := X0.lt
   have r0 := X3.cell 0
   have r1 := X3.cell 1
   have r2 := X3.cell 2
   have r3 := X3.cell 3
   have r4 := X3.cell 4
   have r5 := X3.cell 5
   have r6 := X3.cell 6
   have r7 := X3.cell 7
   have r8 := X3.cell 8
   have r9 := X3.cell 9
   simp at r0 r1 r2 r3 r4 r5 r6 r7 r8 r9
   have fr := X3.frozen
   have gr := X3.lt
   have q0 := X1.cell 0
   have q1 := X1.cell 1
   have q2 := X1.cell 2
   have q3 := X1.cell 3
   have q4 := X1.cell 4
   have q5 := X1.cell 5
   have q6 := X1.cell 6
   have q7 := X1.cell 7
   have q8 := X1.cell 8
   have q9 := X1.cell 9
   simp at q0 q1 q2 q3 q4 q5 q6 q7 q8 q9
   have fq := X1.frozen
   have gq := X1.lt
   by_cases hlt : k < n
   ·
    have hlt' : (k : Int) < (n : Int) := by omega
    go_wp2
    clear a2 ga r0 r1 r2 r3 r4 r5 r6 r7 r8 r9 fr gr q0 q1 q2 q3 q4 q5 q6 q7 q8 q9 fq gq
    refine c_begin 9 rfl (by kernel_rfl) ?_
    replace X0 := X0.drew
    replace X1 := X1.drew
    replace X3 := X3.drew
    replace T4 := T4.drew
    replace D := D.drew
    replace ho := owns_below ho ((Below.refl wr.heap.size wr).drew)
    replace hz : w.heap.size + 1 + 1 + 1 + 1 ≤ wr.drew.heap.size := hz
    generalize wr.drew = w6 at *
    have c5 : w6.cell? ⟨w.heap.size + 1 + 1 + 1, 5, none⟩ = some (.slice va k vcap) := X3.cell 5
    refine c_P trivial 0 rfl ?_
    refine c_R (fun w' => w'.cell? ⟨w.heap.size + 1 + 1 + 1, 5, none⟩ = some (.slice va k vcap)) c5 trivial 1 rfl (fun w' hx => by go_simp; with_reducible rfl) ?_
    refine c_P ⟨c5, trivial⟩ 2 rfl ?_
    refine c_move 3 (by kernel_rfl) (c_op 3 [(1, (fun w' => w'.cell? ⟨w.heap.size + 1 + 1 + 1, 5, none⟩ = some (.slice va k vcap)))] (by kernel_rfl) rfl (by kernel_rfl) (fun K hK => ?_))
    go_wp2_with fail
    refine (next_any (w.heap.size + 1 + 1 + 1) (w.heap.size + 1 + 1) x 2 _ T4 (by omega) (by decide)).mono ?_
    rintro e w7 ⟨mx, rfl, mx0, mx1, T7, S7, D7⟩
    replace X0 := X0.dev D7 (by omega) (by omega)
    replace X1 := X1.dev D7 (by omega) (by omega)
    replace X3 := X3.dev D7 (by omega) (by omega)
    replace ho := owns_dev ho D7 (by omega)
    replace D := D.trans (D7.below (by omega) (by omega))
    have hz7 : w.heap.size + 1 + 1 + 1 + 1 ≤ w7.heap.size := by omega
    clear S7 D7 T4 c5 hz
    have c7 : w7.cell? ⟨w.heap.size + 1 + 1 + 1, 5, none⟩ = some (.slice va k vcap) := X3.cell 5
    go_simp
    refine hK.out _ _ ⟨c7, trivial⟩ ?_
    clear K hK
    try simp only [Act.put, PuA, PuB, PuC]
    refine c_P ⟨c7, trivial⟩ 4 rfl ?_
    have g7 := X3.lt
    have X0a := X0.alloc (.cells #[.bool (mx == 1)] 4)
    have X1a := X1.alloc (.cells #[.bool (mx == 1)] 4)
    have X3a := X3.alloc (.cells #[.bool (mx == 1)] 4)
    have Rn := row_new w7 [.bool (mx == 1)] 4 1 rfl (by decide)
    have c8 : (w7.alloc (.cells #[.bool (mx == 1)] 4)).cell? ⟨w.heap.size + 1 + 1 + 1, 5, none⟩ = some (.slice va k vcap) := X3a.cell 5
    refine c_move 5 (by kernel_rfl) (c_op 5 [(1, (fun w' => w'.cell? ⟨w.heap.size + 1 + 1 + 1, 5, none⟩ = some (.slice va k vcap)))] (by kernel_rfl) rfl (by kernel_rfl) (fun K hK => ?_))
    go_simp
    refine hK.out _ _ ⟨c8, trivial⟩ ?_
    clear K hK c7
    try simp only [Act.put, PuA, PuB, PuC]
    refine c_move 6 (by kernel_rfl) (c_op 6 [] (by kernel_rfl) rfl (by kernel_rfl) (fun K hK => ?_))
    refine wp_app (.tmp 54) (.tmp 58) 22 rfl (w.heap.size + 1 + 1 + 1 + 1) 4 (.bool false) 1 Try.underlying22 info_bool rfl rfl (ho.alloc _) rfl Rn (by intro u hu; simp at hu; subst hu; rfl) (by simp [maxLen]; omega) (by simp <;> omega) (by simp <;> omega) ?_
    intro v8 w8 ho8 hg8
    refine hK.out _ _ trivial ?_
    clear K hK
    try simp only [Act.put, PuA, PuB, PuC]
    replace X0 := X0a.grown hg8 (fun r hr => by have := (ho.lt r hr).1; omega)
    replace X1 := X1a.grown hg8 (fun r hr => by have := (ho.lt r hr).1; omega)
    replace X3 := X3a.grown hg8 (fun r hr => by have := (ho.lt r hr).1; omega)
    have Bl := ((Below.refl (w.heap.size + 1 + 1 + 1) w7).alloc (by omega) (.cells #[.bool (mx == 1)] 4)).grown hg8 (by simp <;> omega) (fun r hr => by have := (ho.lt r hr).1; omega)
    replace T7 := T7.below Bl
    replace D := D.trans (Bl.mono (by omega))
    have hz8 : w.heap.size + 1 + 1 + 1 + 1 ≤ w8.heap.size := by have := hg8.size; simp at this; omega
    clear Bl hg8 Rn ho R0 X0a X1a X3a c8 g7
    have R8 := Row.of_owns ho8
    obtain ⟨va8, vcap8, rfl, -⟩ := id R8
    refine c_P trivial 7 rfl ?_
    have c5 : w8.cell? ⟨w.heap.size + 1 + 1 + 1, 5, none⟩ = some (.slice va k vcap) := X3.cell 5
    have f5 := X3.frozen
    have g5 := X3.lt
    refine c_move 8 (by kernel_rfl) (c_op 8 [] (by kernel_rfl) rfl (by kernel_rfl) (fun K hK => ?_))
    go_simp
    refine hK.out _ _ trivial ?_
    clear K hK c5 f5 g5
    try simp only [Act.put, PuA, PuB, PuC]
    refine c_done (by kernel_rfl) ?_
    go_wp2
    go_roundw
    case rel =>
     refine ⟨k + 1, bs ++ [mx == 1], _, by omega, by go_num, by simp [hbl], X0.set_ne (by omega) 5 _, X1.set_ne (by omega) 5 _, by simpa using X3.set 5 _, ?_, T7.below ((Below.refl (w.heap.size + 1 + 1 + 1) w8).setCell (p := ⟨w.heap.size + 1 + 1 + 1, 5, none⟩) (by simp <;> omega) _), D.setCell (p := ⟨w.heap.size + 1 + 1 + 1, 5, none⟩) (by simp <;> omega) _, by simpa using hz8⟩
     have e : bs.map Value.bool ++ [Value.bool (mx == 1)] = (bs ++ [mx == 1]).map Value.bool := by simp
     rw [e] at ho8
     have ho9 := owns_setCell (u := .slice va8 (k + 1) vcap8) ho8 (w.heap.size + 1 + 1 + 1) 5 (by omega)
     simp [hbl] at ho9 ⊢
     exact ho9
    case measure => simp [intOf]; omega
   ·
    obtain rfl : k = n := by omega
    have hlt' : ¬ (k : Int) < (k : Int) := by omega
    go_wp2
    refine bodyPost_ret (v := _) (by simp [results, Try.results7, go_sem, q0, q1, q2, q3, q4, q5, q6, q7, q8, q9]; with_reducible rfl) rfl ?_
    refine ⟨_, rfl, ⟨1, 0, 0, 0, 0, bs, [], 0, 0, []⟩, ⟨_, _, _, rfl, ?r, Row.nil _, Row.nil _⟩, rfl, goodE_0 rfl rfl (by simp [formA]) rfl (by simp [listA]; omega), by simp [askB, hbl], ?_, ⟨_, _, _, _, _, _, _, _, _, _, _, _, _, _, _, _, _, _, _, rfl, rfl, .inl ((NewV.of_owns ho).le (by omega)), .inl (NewV.none _ _ _), NewV.none _ _ _⟩⟩
    case r =>
     repeat' (refine Row.setCell_new ?_ (NewV.of_owns ho) (by omega))
     simpa [hbl] using R0
    ·
     repeat' (refine Below.setCell ?_ (by simp <;> omega) _)
     exact D
set_option maxRecDepth 100000 in
set_option maxHeartbeats 2000000 in
theorem made_2 (tv qv : Value) (x : List Int) (q : Rq) (w : World) (ht : Row w tv (x.map iV)) (bx : ∀ n ∈ x, -9223372036854775808 ≤ n ∧ n ≤ 9223372036854775807) (hq : IsRq w qv q) (hr : rightE q = 0) (hc : q.cnt ≤ 30) (hf : q.fn = 2) :
  Calls Try.prog 7 #[tv, qv] w fun e w' => ∃ v', e = .returned v' ∧ ∃ r, IsRp w' v' r ∧ r.fn = q.fn ∧ goodE r = 0 ∧ askB r q.cnt = true ∧ Below w.heap.size w w' ∧ FromQ w.heap.size qv v' := by
 have HE : Hid (∀ (_ : q.fn = 5 ∨ q.fn = 6 ∨ q.fn = 8 ∨ q.fn = 22), goodE (echoP q) = 0) := fun h => echoP_good hr h
 obtain ⟨-, -, ⟨n1, n2, n3, n4⟩, hlst⟩ := right_parts hr
 obtain ⟨ta, tc, rfl, -⟩ := id ht
 obtain ⟨vb, vv, rfl, hb, hv⟩ := hq
 obtain ⟨ab, capb, rfl, -⟩ := id hb
 obtain ⟨av, capv, rfl, -⟩ := id hv
 obtain ⟨f, l, c, p, s, bb, vw, m, o⟩ := q
 simp only [List.length_map] at ht hb hv hf hc n1 n2 n3 n4 HE ⊢
 subst hf
 have HB := hidden hb
 have HV := hidden hv
 simp [numB] at n1 n2 n3 n4
 clear hr hb hv hlst
 generalize hnb : bb.length = nb at *
 generalize hnv : vw.length = nv at *
 have HNB := hidden hnb
 have HNV := hidden hnv
 clear hnb hnv
 have T0 := tap_new ((w.alloc (.cells #[.int .i64 2, .int .i64 l, .int .i64 c, .int .i64 p, .int .i64 s, .slice ab nb capb, .slice av nv capv, wV m, wV o] 26)).alloc (.cells #[.int .i64 0, .int .i64 0, .int .i64 0, .int .i64 0, .int .i64 0, .slice none 0 0, .slice none 0 0, .int .u16 0, .int .u16 0, .slice none 0 0] 35)) ta x.length tc x (ht.below (((Below.refl w.heap.size w).alloc (Nat.le_refl _) _).alloc (by simp <;> omega) _)) bx
 simp only [World.size_alloc] at T0
 have T1 := T0.below ((Below.refl (w.heap.size + 1 + 1 + 1) (((w.alloc (.cells #[.int .i64 2, .int .i64 l, .int .i64 c, .int .i64 p, .int .i64 s, .slice ab nb capb, .slice av nv capv, wV m, wV o] 26)).alloc (.cells #[.int .i64 0, .int .i64 0, .int .i64 0, .int .i64 0, .int .i64 0, .slice none 0 0, .slice none 0 0, .int .u16 0, .int .u16 0, .slice none 0 0] 35)).alloc (.cells #[.slice ta x.length tc, .int .i64 0] 31))).alloc (by simp) (.cells #[.int .i64 2, .int .i64 0, .int .i64 0, .int .i64 0, .int .i64 0, .slice none 0 0, .slice none 0 0, .int .u16 0, .int .u16 0, .slice none 0 0] 35))
 have X0 := (((Blk.new w 26 [.int .i64 2, .int .i64 l, .int .i64 c, .int .i64 p, .int .i64 s, .slice ab nb capb, .slice av nv capv, wV m, wV o]).alloc (.cells #[.int .i64 0, .int .i64 0, .int .i64 0, .int .i64 0, .int .i64 0, .slice none 0 0, .slice none 0 0, .int .u16 0, .int .u16 0, .slice none 0 0] 35)).alloc (.cells #[.slice ta x.length tc, .int .i64 0] 31)).alloc (.cells #[.int .i64 2, .int .i64 0, .int .i64 0, .int .i64 0, .int .i64 0, .slice none 0 0, .slice none 0 0, .int .u16 0, .int .u16 0, .slice none 0 0] 35)
 have X1 := ((Blk.new_at (w.alloc (.cells #[.int .i64 2, .int .i64 l, .int .i64 c, .int .i64 p, .int .i64 s, .slice ab nb capb, .slice av nv capv, wV m, wV o] 26)) 35 [.int .i64 0, .int .i64 0, .int .i64 0, .int .i64 0, .int .i64 0, .slice none 0 0, .slice none 0 0, .int .u16 0, .int .u16 0, .slice none 0 0] (w.heap.size + 1) (by simp)).alloc (.cells #[.slice ta x.length tc, .int .i64 0] 31)).alloc (.cells #[.int .i64 2, .int .i64 0, .int .i64 0, .int .i64 0, .int .i64 0, .slice none 0 0, .slice none 0 0, .int .u16 0, .int .u16 0, .slice none 0 0] 35)
 have X3 := Blk.new_at (((w.alloc (.cells #[.int .i64 2, .int .i64 l, .int .i64 c, .int .i64 p, .int .i64 s, .slice ab nb capb, .slice av nv capv, wV m, wV o] 26)).alloc (.cells #[.int .i64 0, .int .i64 0, .int .i64 0, .int .i64 0, .int .i64 0, .slice none 0 0, .slice none 0 0, .int .u16 0, .int .u16 0, .slice none 0 0] 35)).alloc (.cells #[.slice ta x.length tc, .int .i64 0] 31)) 35 [.int .i64 2, .int .i64 0, .int .i64 0, .int .i64 0, .int .i64 0, .slice none 0 0, .slice none 0 0, .int .u16 0, .int .u16 0, .slice none 0 0] (w.heap.size + 1 + 1 + 1) (by simp)
 have D := ((((Below.refl w.heap.size w).alloc (Nat.le_refl _) (.cells #[.int .i64 2, .int .i64 l, .int .i64 c, .int .i64 p, .int .i64 s, .slice ab nb capb, .slice av nv capv, wV m, wV o] 26)).alloc (by simp) (.cells #[.int .i64 0, .int .i64 0, .int .i64 0, .int .i64 0, .int .i64 0, .slice none 0 0, .slice none 0 0, .int .u16 0, .int .u16 0, .slice none 0 0] 35)).alloc (by simp <;> omega) (.cells #[.slice ta x.length tc, .int .i64 0] 31)).alloc (by simp <;> omega) (.cells #[.int .i64 2, .int .i64 0, .int .i64 0, .int .i64 0, .int .i64 0, .slice none 0 0, .slice none 0 0, .int .u16 0, .int .u16 0, .slice none 0 0] 35)
 clear T0 ht bx
 go_enter Try.func7, Try.ntmps7
 go_wp2_with fail
 refine (next_any (w.heap.size + 1 + 1 + 1) (w.heap.size + 1 + 1) x 5 _ T1 (by simp) (by decide)).mono ?_
 rintro e w4 ⟨my, rfl, my0, my1, T4, S4, D4⟩
 simp at S4
 replace X0 := X0.dev D4 (by simp <;> omega) (by omega)
 replace X1 := X1.dev D4 (by simp <;> omega) (by omega)
 replace X3 := X3.dev D4 (by simp <;> omega) (by omega)
 replace D := D.trans (D4.below (by simp <;> omega) (by omega))
 clear D4 T1
 have hz : w.heap.size + 1 + 1 + 1 + 1 ≤ w4.heap.size := by omega
 clear S4
 by_cases hm : my = 0
 ·
  subst hm
  go_wp2
  refine c_begin 7 rfl (by kernel_rfl) ?_
  replace X0 := X0.drew
  replace X1 := X1.drew
  replace T4 := T4.drew
  replace D := D.drew
  replace hz : w.heap.size + 1 + 1 + 1 + 1 ≤ w4.drew.heap.size := hz
  generalize w4.drew = w5 at *
  clear X3
  have c0 : w5.cell? ⟨w.heap.size, 0, none⟩ = some (.int .i64 2) := X0.cell 0
  refine c_P trivial 0 rfl ?_
  refine c_R (fun w' => w'.cell? ⟨w.heap.size, 0, none⟩ = some (.int .i64 2)) c0 trivial 1 rfl (fun w' hx => by go_simp; with_reducible rfl) ?_
  refine c_P ⟨c0, trivial⟩ 2 rfl ?_
  refine c_move 3 (by kernel_rfl) (c_op 3 [(1, fun w' => w'.cell? ⟨w.heap.size, 0, none⟩ = some (.int .i64 2))] (by kernel_rfl) rfl (by kernel_rfl) (fun K hK => ?_))
  go_wp2_with fail
  refine (next_any (w.heap.size + 1 + 1 + 1) (w.heap.size + 1 + 1) x 11 _ T4 (by omega) (by decide)).mono ?_
  rintro e w6 ⟨mz, rfl, mz0, mz1, T6, S6, D6⟩
  replace X0 := X0.dev D6 (by omega) (by omega)
  replace X1 := X1.dev D6 (by omega) (by omega)
  replace D := D.trans (D6.below (by omega) (by omega))
  have c6 : w6.cell? ⟨w.heap.size, 0, none⟩ = some (.int .i64 2) := X0.cell 0
  go_simp
  refine hK.out _ _ ⟨c6, trivial⟩ ?_
  clear K hK c0 D6 T4
  try simp only [Act.put, PuA, PuB, PuC]
  have wz : IntKind.i64.wrap (1 + mz) = 1 + mz := by rw [IntKind.wrap_i64]; omega
  refine c_P ⟨c6, trivial⟩ 4 rfl ?_
  refine c_move 5 (by kernel_rfl) (c_op 5 [] (by kernel_rfl) rfl (by kernel_rfl) (fun K hK => ?_))
  go_wp2_with fail
  refine (refuse_ref 2 (1 + mz) _).mono ?_
  rintro e w7 ⟨rfl, B7⟩
  rw [show (1 + mz) % 256 = 1 + mz by omega, show (2 : Int) % 128 = 2 from rfl]
  replace X1 := X1.below B7 X1.lt
  have sz7 := B7.size
  replace D := below_then D B7
  go_simp
  refine hK.out _ _ trivial ?_
  clear K hK B7
  try simp only [Act.put, PuA, PuB, PuC]
  have q0 := X1.cell 0
  have q1 := X1.cell 1
  have q2 := X1.cell 2
  have q3 := X1.cell 3
  have q4 := X1.cell 4
  have q5 := X1.cell 5
  have q6 := X1.cell 6
  have q7 := X1.cell 7
  have q8 := X1.cell 8
  have q9 := X1.cell 9
  simp at q0 q1 q2 q3 q4 q5 q6 q7 q8 q9
  have fq := X1.frozen
  have gq := X1.lt
  refine c_move 6 (by kernel_rfl) (c_op 6 [] (by kernel_rfl) rfl (by kernel_rfl) (fun K hK => ?_))
  go_simp
  refine hK.out _ _ trivial ?_
  clear K hK
  try simp only [Act.put, PuA, PuB, PuC]
  refine c_done (by kernel_rfl) ?_
  go_wp2
  refine bodyPost_ret (v := _) (by simp [results, Try.results7, go_sem, q0, q1, q2, q3, q4, q5, q6, q7, q8, q9]; with_reducible rfl) rfl ?_
  refine ⟨_, rfl, refP 2 (1 + mz), ref_rp _ _ _, rfl, ref_good 2 (1 + mz) (by decide) (by decide) (by omega) (by omega), ?_, ?_, ⟨_, _, _, _, _, _, _, _, _, _, _, _, _, _, _, _, _, _, _, rfl, rfl, .inl (NewV.none _ _ _), .inl (NewV.none _ _ _), NewV.none _ _ _⟩⟩
  ·
   unfold askB; rw [if_pos (by simp only [refP]; omega)]
  ·
   repeat' (refine Below.setCell ?_ (by simp <;> omega) _)
   exact D
 ·
  have hm' : (my == 0) = false := by rw [beq_eq_false_iff_ne]; exact hm
  clear hm
  obtain ⟨n, rfl⟩ : ∃ n : Nat, c = (n : Int) := ⟨c.toNat, by omega⟩
  have a0 := X0.cell 0
  have a1 := X0.cell 1
  have a2 := X0.cell 2
  have a3 := X0.cell 3
  have a4 := X0.cell 4
  have a5 := X0.cell 5
  have a6 := X0.cell 6
  have a7 := X0.cell 7
  have a8 := X0.cell 8
  simp at a0 a1 a2 a3 a4 a5 a6 a7 a8
  have fa := X0.frozen
  have ga := X0.lt
  have r0 := X3.cell 0
  have r1 := X3.cell 1
  have r2 := X3.cell 2
  have r3 := X3.cell 3
  have r4 := X3.cell 4
  have r5 := X3.cell 5
  have r6 := X3.cell 6
  have r7 := X3.cell 7
  have r8 := X3.cell 8
  have r9 := X3.cell 9
  simp at r0 r1 r2 r3 r4 r5 r6 r7 r8 r9
  have fr := X3.frozen
  have gr := X3.lt
  go_wp2
  clear a0 a1 a2 a3 a4 a5 a6 a7 a8 fa ga r0 r1 r2 r3 r4 r5 r6 r7 r8 r9 fr gr
  go_loopw [7] (fun i wr => ∃ (k : Nat) (bs : List Bool) (vb : Value), k ≤ n ∧ i = .int .i64 k ∧ bs.length = k ∧ Blk wr (w.heap.size) 26 [.int .i64 2, .int .i64 l, .int .i64 n, .int .i64 p, .int .i64 s, .slice ab nb capb, .slice av nv capv, wV m, wV o] ∧ Blk wr (w.heap.size + 1) 35 [.int .i64 0, .int .i64 0, .int .i64 0, .int .i64 0, .int .i64 0, .slice none 0 0, .slice none 0 0, .int .u16 0, .int .u16 0, .slice none 0 0] ∧ Blk wr (w.heap.size + 1 + 1 + 1) 35 [.int .i64 2, .int .i64 0, .int .i64 0, .int .i64 0, .int .i64 0, vb, .slice none 0 0, .int .u16 0, .int .u16 0, .slice none 0 0] ∧ wr.ownsRow (w.heap.size + 1 + 1 + 1 + 1) 4 1 vb k (bs.map Value.bool) ∧ Tap (w.heap.size + 1 + 1 + 1) wr (w.heap.size + 1 + 1) x ∧ Below w.heap.size w wr ∧ w.heap.size + 1 + 1 + 1 + 1 ≤ wr.heap.size) (fun i _ => n - (intOf i).toNat)
  case atStart => exact ⟨0, [], .slice none 0 0, Nat.zero_le _, rfl, rfl, X0, X1, X3, World.ownsRow_nil _ _ _ _, T4, D, hz⟩
  case round =>
   clear X0 X1 X3 T4 D hz
   obtain ⟨k, bs, vb, hk, rfl, hbl, X0, X1, X3, ho, T4, D, hz⟩ := hrel
   have R0 := Row.of_owns ho
   obtain ⟨va, vcap, rfl, -⟩ := id R0
   simp only [List.length_map, hbl] at X3 ho R0
   have a2 := X0.cell 2
   simp at a2
   have ga := X0.lt
   have r0 := X3.cell 0
   have r1 := X3.cell 1
   have r2 := X3.cell 2
   have r3 := X3.cell 3
   have r4 := X3.cell 4
   have r5 := X3.cell 5
   have r6 := X3.cell 6
   have r7 := X3.cell 7
   have r8 := X3.cell 8
   have r9 := X3.cell 9
   simp at r0 r1 r2 r3 r4 r5 r6 r7 r8 r9
   have fr := X3.frozen
   have gr := X3.lt
   have q0 := X1.cell 0
   have q1 := X1.cell 1
   have q2 := X1.cell 2
   have q3 := X1.cell 3
   have q4 := X1.cell 4
   have q5 := X1.cell 5
   have q6 := X1.cell 6
   have q7 := X1.cell 7
   have q8 := X1.cell 8
   have q9 := X1.cell 9
   simp at q0 q1 q2 q3 q4 q5 q6 q7 q8 q9
   have fq := X1.frozen
   have gq := X1.lt
   by_cases hlt : k < n
   ·
    have hlt' : (k : Int) < (n : Int) := by omega
    go_wp2
    clear a2 ga r0 r1 r2 r3 r4 r5 r6 r7 r8 r9 fr gr q0 q1 q2 q3 q4 q5 q6 q7 q8 q9 fq gq
    refine c_begin 9 rfl (by kernel_rfl) ?_
    replace X0 := X0.drew
    replace X1 := X1.drew
    replace X3 := X3.drew
    replace T4 := T4.drew
    replace D := D.drew
    replace ho := owns_below ho ((Below.refl wr.heap.size wr).drew)
    replace hz : w.heap.size + 1 + 1 + 1 + 1 ≤ wr.drew.heap.size := hz
    generalize wr.drew = w6 at *
    have c5 : w6.cell? ⟨w.heap.size + 1 + 1 + 1, 5, none⟩ = some (.slice va k vcap) := X3.cell 5
    refine c_P trivial 0 rfl ?_
    refine c_R (fun w' => w'.cell? ⟨w.heap.size + 1 + 1 + 1, 5, none⟩ = some (.slice va k vcap)) c5 trivial 1 rfl (fun w' hx => by go_simp; with_reducible rfl) ?_
    refine c_P ⟨c5, trivial⟩ 2 rfl ?_
    refine c_move 3 (by kernel_rfl) (c_op 3 [(1, (fun w' => w'.cell? ⟨w.heap.size + 1 + 1 + 1, 5, none⟩ = some (.slice va k vcap)))] (by kernel_rfl) rfl (by kernel_rfl) (fun K hK => ?_))
    go_wp2_with fail
    refine (next_any (w.heap.size + 1 + 1 + 1) (w.heap.size + 1 + 1) x 2 _ T4 (by omega) (by decide)).mono ?_
    rintro e w7 ⟨mx, rfl, mx0, mx1, T7, S7, D7⟩
    replace X0 := X0.dev D7 (by omega) (by omega)
    replace X1 := X1.dev D7 (by omega) (by omega)
    replace X3 := X3.dev D7 (by omega) (by omega)
    replace ho := owns_dev ho D7 (by omega)
    replace D := D.trans (D7.below (by omega) (by omega))
    have hz7 : w.heap.size + 1 + 1 + 1 + 1 ≤ w7.heap.size := by omega
    clear S7 D7 T4 c5 hz
    have c7 : w7.cell? ⟨w.heap.size + 1 + 1 + 1, 5, none⟩ = some (.slice va k vcap) := X3.cell 5
    go_simp
    refine hK.out _ _ ⟨c7, trivial⟩ ?_
    clear K hK
    try simp only [Act.put, PuA, PuB, PuC]
    refine c_P ⟨c7, trivial⟩ 4 rfl ?_
    have g7 := X3.lt
    have X0a := X0.alloc (.cells #[.bool (mx == 1)] 4)
    have X1a := X1.alloc (.cells #[.bool (mx == 1)] 4)
    have X3a := X3.alloc (.cells #[.bool (mx == 1)] 4)
    have Rn := row_new w7 [.bool (mx == 1)] 4 1 rfl (by decide)
    have c8 : (w7.alloc (.cells #[.bool (mx == 1)] 4)).cell? ⟨w.heap.size + 1 + 1 + 1, 5, none⟩ = some (.slice va k vcap) := X3a.cell 5
    refine c_move 5 (by kernel_rfl) (c_op 5 [(1, (fun w' => w'.cell? ⟨w.heap.size + 1 + 1 + 1, 5, none⟩ = some (.slice va k vcap)))] (by kernel_rfl) rfl (by kernel_rfl) (fun K hK => ?_))
    go_simp
    refine hK.out _ _ ⟨c8, trivial⟩ ?_
    clear K hK c7
    try simp only [Act.put, PuA, PuB, PuC]
    refine c_move 6 (by kernel_rfl) (c_op 6 [] (by kernel_rfl) rfl (by kernel_rfl) (fun K hK => ?_))
    refine wp_app (.tmp 54) (.tmp 58) 22 rfl (w.heap.size + 1 + 1 + 1 + 1) 4 (.bool false) 1 Try.underlying22 info_bool rfl rfl (ho.alloc _) rfl Rn (by intro u hu; simp at hu; subst hu; rfl) (by simp [maxLen]; omega) (by simp <;> omega) (by simp <;> omega) ?_
    intro v8 w8 ho8 hg8
    refine hK.out _ _ trivial ?_
    clear K hK
    try simp only [Act.put, PuA, PuB, PuC]
    replace X0 := X0a.grown hg8 (fun r hr => by have := (ho.lt r hr).1; omega)
    replace X1 := X1a.grown hg8 (fun r hr => by have := (ho.lt r hr).1; omega)
    replace X3 := X3a.grown hg8 (fun r hr => by have := (ho.lt r hr).1; omega)
    have Bl := ((Below.refl (w.heap.size + 1 + 1 + 1) w7).alloc (by omega) (.cells #[.bool (mx == 1)] 4)).grown hg8 (by simp <;> omega) (fun r hr => by have := (ho.lt r hr).1; omega)
    replace T7 := T7.below Bl
    replace D := D.trans (Bl.mono (by omega))
    have hz8 : w.heap.size + 1 + 1 + 1 + 1 ≤ w8.heap.size := by have := hg8.size; simp at this; omega
    clear Bl hg8 Rn ho R0 X0a X1a X3a c8 g7
    have R8 := Row.of_owns ho8
    obtain ⟨va8, vcap8, rfl, -⟩ := id R8
    refine c_P trivial 7 rfl ?_
    have c5 : w8.cell? ⟨w.heap.size + 1 + 1 + 1, 5, none⟩ = some (.slice va k vcap) := X3.cell 5
    have f5 := X3.frozen
    have g5 := X3.lt
    refine c_move 8 (by kernel_rfl) (c_op 8 [] (by kernel_rfl) rfl (by kernel_rfl) (fun K hK => ?_))
    go_simp
    refine hK.out _ _ trivial ?_
    clear K hK c5 f5 g5
    try simp only [Act.put, PuA, PuB, PuC]
    refine c_done (by kernel_rfl) ?_
    go_wp2
    go_roundw
    case rel =>
     refine ⟨k + 1, bs ++ [mx == 1], _, by omega, by go_num, by simp [hbl], X0.set_ne (by omega) 5 _, X1.set_ne (by omega) 5 _, by simpa using X3.set 5 _, ?_, T7.below ((Below.refl (w.heap.size + 1 + 1 + 1) w8).setCell (p := ⟨w.heap.size + 1 + 1 + 1, 5, none⟩) (by simp <;> omega) _), D.setCell (p := ⟨w.heap.size + 1 + 1 + 1, 5, none⟩) (by simp <;> omega) _, by simpa using hz8⟩
     have e : bs.map Value.bool ++ [Value.bool (mx == 1)] = (bs ++ [mx == 1]).map Value.bool := by simp
     rw [e] at ho8
     have ho9 := owns_setCell (u := .slice va8 (k + 1) vcap8) ho8 (w.heap.size + 1 + 1 + 1) 5 (by omega)
     simp [hbl] at ho9 ⊢
     exact ho9
    case measure => simp [intOf]; omega
   ·
    obtain rfl : k = n := by omega
    have hlt' : ¬ (k : Int) < (k : Int) := by omega
    go_wp2
    refine bodyPost_ret (v := _) (by simp [results, Try.results7, go_sem, q0, q1, q2, q3, q4, q5, q6, q7, q8, q9]; with_reducible rfl) rfl ?_
    refine ⟨_, rfl, ⟨2, 0, 0, 0, 0, bs, [], 0, 0, []⟩, ⟨_, _, _, rfl, ?r, Row.nil _, Row.nil _⟩, rfl, goodE_0 rfl rfl (by simp [formA]) rfl (by simp [listA]; omega), by simp [askB, hbl], ?_, ⟨_, _, _, _, _, _, _, _, _, _, _, _, _, _, _, _, _, _, _, rfl, rfl, .inl ((NewV.of_owns ho).le (by omega)), .inl (NewV.none _ _ _), NewV.none _ _ _⟩⟩
    case r =>
     repeat' (refine Row.setCell_new ?_ (NewV.of_owns ho) (by omega))
     simpa [hbl] using R0
    ·
     repeat' (refine Below.setCell ?_ (by simp <;> omega) _)
     exact D
set_option maxRecDepth 100000 in
set_option maxHeartbeats 2000000 in
theorem made_3 (tv qv : Value) (x : List Int) (q : Rq) (w : World) (ht : Row w tv (x.map iV)) (bx : ∀ n ∈ x, -9223372036854775808 ≤ n ∧ n ≤ 9223372036854775807) (hq : IsRq w qv q) (hr : rightE q = 0) (hc : q.cnt ≤ 30) (hf : q.fn = 3) :
  Calls Try.prog 7 #[tv, qv] w fun e w' => ∃ v', e = .returned v' ∧ ∃ r, IsRp w' v' r ∧ r.fn = q.fn ∧ goodE r = 0 ∧ askB r q.cnt = true ∧ Below w.heap.size w w' ∧ FromQ w.heap.size qv v' := by
 have HE : Hid (∀ (_ : q.fn = 5 ∨ q.fn = 6 ∨ q.fn = 8 ∨ q.fn = 22), goodE (echoP q) = 0) := fun h => echoP_good hr h
 obtain ⟨-, -, ⟨n1, n2, n3, n4⟩, hlst⟩ := right_parts hr
 obtain ⟨ta, tc, rfl, -⟩ := id ht
 obtain ⟨vb, vv, rfl, hb, hv⟩ := hq
 obtain ⟨ab, capb, rfl, -⟩ := id hb
 obtain ⟨av, capv, rfl, -⟩ := id hv
 obtain ⟨f, l, c, p, s, bb, vw, m, o⟩ := q
 simp only [List.length_map] at ht hb hv hf hc n1 n2 n3 n4 HE ⊢
 subst hf
 have HB := hidden hb
 have HV := hidden hv
 simp [numB] at n1 n2 n3 n4
 clear hr hb hv hlst
 generalize hnb : bb.length = nb at *
 generalize hnv : vw.length = nv at *
 have HNB := hidden hnb
 have HNV := hidden hnv
 clear hnb hnv
 have T0 := tap_new ((w.alloc (.cells #[.int .i64 3, .int .i64 l, .int .i64 c, .int .i64 p, .int .i64 s, .slice ab nb capb, .slice av nv capv, wV m, wV o] 26)).alloc (.cells #[.int .i64 0, .int .i64 0, .int .i64 0, .int .i64 0, .int .i64 0, .slice none 0 0, .slice none 0 0, .int .u16 0, .int .u16 0, .slice none 0 0] 35)) ta x.length tc x (ht.below (((Below.refl w.heap.size w).alloc (Nat.le_refl _) _).alloc (by simp <;> omega) _)) bx
 simp only [World.size_alloc] at T0
 have T1 := T0.below ((Below.refl (w.heap.size + 1 + 1 + 1) (((w.alloc (.cells #[.int .i64 3, .int .i64 l, .int .i64 c, .int .i64 p, .int .i64 s, .slice ab nb capb, .slice av nv capv, wV m, wV o] 26)).alloc (.cells #[.int .i64 0, .int .i64 0, .int .i64 0, .int .i64 0, .int .i64 0, .slice none 0 0, .slice none 0 0, .int .u16 0, .int .u16 0, .slice none 0 0] 35)).alloc (.cells #[.slice ta x.length tc, .int .i64 0] 31))).alloc (by simp) (.cells #[.int .i64 3, .int .i64 0, .int .i64 0, .int .i64 0, .int .i64 0, .slice none 0 0, .slice none 0 0, .int .u16 0, .int .u16 0, .slice none 0 0] 35))
 have X0 := (((Blk.new w 26 [.int .i64 3, .int .i64 l, .int .i64 c, .int .i64 p, .int .i64 s, .slice ab nb capb, .slice av nv capv, wV m, wV o]).alloc (.cells #[.int .i64 0, .int .i64 0, .int .i64 0, .int .i64 0, .int .i64 0, .slice none 0 0, .slice none 0 0, .int .u16 0, .int .u16 0, .slice none 0 0] 35)).alloc (.cells #[.slice ta x.length tc, .int .i64 0] 31)).alloc (.cells #[.int .i64 3, .int .i64 0, .int .i64 0, .int .i64 0, .int .i64 0, .slice none 0 0, .slice none 0 0, .int .u16 0, .int .u16 0, .slice none 0 0] 35)
 have X1 := ((Blk.new_at (w.alloc (.cells #[.int .i64 3, .int .i64 l, .int .i64 c, .int .i64 p, .int .i64 s, .slice ab nb capb, .slice av nv capv, wV m, wV o] 26)) 35 [.int .i64 0, .int .i64 0, .int .i64 0, .int .i64 0, .int .i64 0, .slice none 0 0, .slice none 0 0, .int .u16 0, .int .u16 0, .slice none 0 0] (w.heap.size + 1) (by simp)).alloc (.cells #[.slice ta x.length tc, .int .i64 0] 31)).alloc (.cells #[.int .i64 3, .int .i64 0, .int .i64 0, .int .i64 0, .int .i64 0, .slice none 0 0, .slice none 0 0, .int .u16 0, .int .u16 0, .slice none 0 0] 35)
 have X3 := Blk.new_at (((w.alloc (.cells #[.int .i64 3, .int .i64 l, .int .i64 c, .int .i64 p, .int .i64 s, .slice ab nb capb, .slice av nv capv, wV m, wV o] 26)).alloc (.cells #[.int .i64 0, .int .i64 0, .int .i64 0, .int .i64 0, .int .i64 0, .slice none 0 0, .slice none 0 0, .int .u16 0, .int .u16 0, .slice none 0 0] 35)).alloc (.cells #[.slice ta x.length tc, .int .i64 0] 31)) 35 [.int .i64 3, .int .i64 0, .int .i64 0, .int .i64 0, .int .i64 0, .slice none 0 0, .slice none 0 0, .int .u16 0, .int .u16 0, .slice none 0 0] (w.heap.size + 1 + 1 + 1) (by simp)
 have D := ((((Below.refl w.heap.size w).alloc (Nat.le_refl _) (.cells #[.int .i64 3, .int .i64 l, .int .i64 c, .int .i64 p, .int .i64 s, .slice ab nb capb, .slice av nv capv, wV m, wV o] 26)).alloc (by simp) (.cells #[.int .i64 0, .int .i64 0, .int .i64 0, .int .i64 0, .int .i64 0, .slice none 0 0, .slice none 0 0, .int .u16 0, .int .u16 0, .slice none 0 0] 35)).alloc (by simp <;> omega) (.cells #[.slice ta x.length tc, .int .i64 0] 31)).alloc (by simp <;> omega) (.cells #[.int .i64 3, .int .i64 0, .int .i64 0, .int .i64 0, .int .i64 0, .slice none 0 0, .slice none 0 0, .int .u16 0, .int .u16 0, .slice none 0 0] 35)
 clear T0 ht bx
 go_enter Try.func7, Try.ntmps7
 go_wp2_with fail
 refine (next_any (w.heap.size + 1 + 1 + 1) (w.heap.size + 1 + 1) x 5 _ T1 (by simp) (by decide)).mono ?_
 rintro e w4 ⟨my, rfl, my0, my1, T4, S4, D4⟩
 simp at S4
 replace X0 := X0.dev D4 (by simp <;> omega) (by omega)
 replace X1 := X1.dev D4 (by simp <;> omega) (by omega)
 replace X3 := X3.dev D4 (by simp <;> omega) (by omega)
 replace D := D.trans (D4.below (by simp <;> omega) (by omega))
 clear D4 T1
 have hz : w.heap.size + 1 + 1 + 1 + 1 ≤ w4.heap.size := by omega
 clear S4
 by_cases hm : my = 0
 ·
  subst hm
  go_wp2
  refine c_begin 7 rfl (by kernel_rfl) ?_
  replace X0 := X0.drew
  replace X1 := X1.drew
  replace T4 := T4.drew
  replace D := D.drew
  replace hz : w.heap.size + 1 + 1 + 1 + 1 ≤ w4.drew.heap.size := hz
  generalize w4.drew = w5 at *
  clear X3
  have c0 : w5.cell? ⟨w.heap.size, 0, none⟩ = some (.int .i64 3) := X0.cell 0
  refine c_P trivial 0 rfl ?_
  refine c_R (fun w' => w'.cell? ⟨w.heap.size, 0, none⟩ = some (.int .i64 3)) c0 trivial 1 rfl (fun w' hx => by go_simp; with_reducible rfl) ?_
  refine c_P ⟨c0, trivial⟩ 2 rfl ?_
  refine c_move 3 (by kernel_rfl) (c_op 3 [(1, fun w' => w'.cell? ⟨w.heap.size, 0, none⟩ = some (.int .i64 3))] (by kernel_rfl) rfl (by kernel_rfl) (fun K hK => ?_))
  go_wp2_with fail
  refine (next_any (w.heap.size + 1 + 1 + 1) (w.heap.size + 1 + 1) x 11 _ T4 (by omega) (by decide)).mono ?_
  rintro e w6 ⟨mz, rfl, mz0, mz1, T6, S6, D6⟩
  replace X0 := X0.dev D6 (by omega) (by omega)
  replace X1 := X1.dev D6 (by omega) (by omega)
  replace D := D.trans (D6.below (by omega) (by omega))
  have c6 : w6.cell? ⟨w.heap.size, 0, none⟩ = some (.int .i64 3) := X0.cell 0
  go_simp
  refine hK.out _ _ ⟨c6, trivial⟩ ?_
  clear K hK c0 D6 T4
  try simp only [Act.put, PuA, PuB, PuC]
  have wz : IntKind.i64.wrap (1 + mz) = 1 + mz := by rw [IntKind.wrap_i64]; omega
  refine c_P ⟨c6, trivial⟩ 4 rfl ?_
  refine c_move 5 (by kernel_rfl) (c_op 5 [] (by kernel_rfl) rfl (by kernel_rfl) (fun K hK => ?_))
  go_wp2_with fail
  refine (refuse_ref 3 (1 + mz) _).mono ?_
  rintro e w7 ⟨rfl, B7⟩
  rw [show (1 + mz) % 256 = 1 + mz by omega, show (3 : Int) % 128 = 3 from rfl]
  replace X1 := X1.below B7 X1.lt
  have sz7 := B7.size
  replace D := below_then D B7
  go_simp
  refine hK.out _ _ trivial ?_
  clear K hK B7
  try simp only [Act.put, PuA, PuB, PuC]
  have q0 := X1.cell 0
  have q1 := X1.cell 1
  have q2 := X1.cell 2
  have q3 := X1.cell 3
  have q4 := X1.cell 4
  have q5 := X1.cell 5
  have q6 := X1.cell 6
  have q7 := X1.cell 7
  have q8 := X1.cell 8
  have q9 := X1.cell 9
  simp at q0 q1 q2 q3 q4 q5 q6 q7 q8 q9
  have fq := X1.frozen
  have gq := X1.lt
  refine c_move 6 (by kernel_rfl) (c_op 6 [] (by kernel_rfl) rfl (by kernel_rfl) (fun K hK => ?_))
  go_simp
  refine hK.out _ _ trivial ?_
  clear K hK
  try simp only [Act.put, PuA, PuB, PuC]
  refine c_done (by kernel_rfl) ?_
  go_wp2
  refine bodyPost_ret (v := _) (by simp [results, Try.results7, go_sem, q0, q1, q2, q3, q4, q5, q6, q7, q8, q9]; with_reducible rfl) rfl ?_
  refine ⟨_, rfl, refP 3 (1 + mz), ref_rp _ _ _, rfl, ref_good 3 (1 + mz) (by decide) (by decide) (by omega) (by omega), ?_, ?_, ⟨_, _, _, _, _, _, _, _, _, _, _, _, _, _, _, _, _, _, _, rfl, rfl, .inl (NewV.none _ _ _), .inl (NewV.none _ _ _), NewV.none _ _ _⟩⟩
  ·
   unfold askB; rw [if_pos (by simp only [refP]; omega)]
  ·
   repeat' (refine Below.setCell ?_ (by simp <;> omega) _)
   exact D
 ·
  have hm' : (my == 0) = false := by rw [beq_eq_false_iff_ne]; exact hm
  clear hm
  obtain ⟨n, rfl⟩ : ∃ n : Nat, c = (n : Int) := ⟨c.toNat, by omega⟩
  have a0 := X0.cell 0
  have a1 := X0.cell 1
  have a2 := X0.cell 2
  have a3 := X0.cell 3
  have a4 := X0.cell 4
  have a5 := X0.cell 5
  have a6 := X0.cell 6
  have a7 := X0.cell 7
  have a8 := X0.cell 8
  simp at a0 a1 a2 a3 a4 a5 a6 a7 a8
  have fa := X0.frozen
  have ga := X0.lt
  have r0 := X3.cell 0
  have r1 := X3.cell 1
  have r2 := X3.cell 2
  have r3 := X3.cell 3
  have r4 := X3.cell 4
  have r5 := X3.cell 5
  have r6 := X3.cell 6
  have r7 := X3.cell 7
  have r8 := X3.cell 8
  have r9 := X3.cell 9
  simp at r0 r1 r2 r3 r4 r5 r6 r7 r8 r9
  have fr := X3.frozen
  have gr := X3.lt
  go_wp2
  clear a0 a1 a2 a3 a4 a5 a6 a7 a8 fa ga r0 r1 r2 r3 r4 r5 r6 r7 r8 r9 fr gr
  go_loopw [8] (fun i wr => ∃ (k : Nat) (bs : List UInt16) (vb : Value), k ≤ n ∧ i = .int .i64 k ∧ bs.length = k ∧ Blk wr (w.heap.size) 26 [.int .i64 3, .int .i64 l, .int .i64 n, .int .i64 p, .int .i64 s, .slice ab nb capb, .slice av nv capv, wV m, wV o] ∧ Blk wr (w.heap.size + 1) 35 [.int .i64 0, .int .i64 0, .int .i64 0, .int .i64 0, .int .i64 0, .slice none 0 0, .slice none 0 0, .int .u16 0, .int .u16 0, .slice none 0 0] ∧ Blk wr (w.heap.size + 1 + 1 + 1) 35 [.int .i64 3, .int .i64 0, .int .i64 0, .int .i64 0, .int .i64 0, .slice none 0 0, vb, .int .u16 0, .int .u16 0, .slice none 0 0] ∧ wr.ownsRow (w.heap.size + 1 + 1 + 1 + 1) 24 1 vb k (bs.map wV) ∧ Tap (w.heap.size + 1 + 1 + 1) wr (w.heap.size + 1 + 1) x ∧ Below w.heap.size w wr ∧ w.heap.size + 1 + 1 + 1 + 1 ≤ wr.heap.size) (fun i _ => n - (intOf i).toNat)
  case atStart => exact ⟨0, [], .slice none 0 0, Nat.zero_le _, rfl, rfl, X0, X1, X3, World.ownsRow_nil _ _ _ _, T4, D, hz⟩
  case round =>
   clear X0 X1 X3 T4 D hz
   obtain ⟨k, bs, vb, hk, rfl, hbl, X0, X1, X3, ho, T4, D, hz⟩ := hrel
   have R0 := Row.of_owns ho
   obtain ⟨va, vcap, rfl, -⟩ := id R0
   simp only [List.length_map, hbl] at X3 ho R0
   have a2 := X0.cell 2
   simp at a2
   have ga := X0.lt
   have r0 := X3.cell 0
   have r1 := X3.cell 1
   have r2 := X3.cell 2
   have r3 := X3.cell 3
   have r4 := X3.cell 4
   have r5 := X3.cell 5
   have r6 := X3.cell 6
   have r7 := X3.cell 7
   have r8 := X3.cell 8
   have r9 := X3.cell 9
   simp at r0 r1 r2 r3 r4 r5 r6 r7 r8 r9
   have fr := X3.frozen
   have gr := X3.lt
   have q0 := X1.cell 0
   have q1 := X1.cell 1
   have q2 := X1.cell 2
   have q3 := X1.cell 3
   have q4 := X1.cell 4
   have q5 := X1.cell 5
   have q6 := X1.cell 6
   have q7 := X1.cell 7
   have q8 := X1.cell 8
   have q9 := X1.cell 9
   simp at q0 q1 q2 q3 q4 q5 q6 q7 q8 q9
   have fq := X1.frozen
   have gq := X1.lt
   by_cases hlt : k < n
   ·
    have hlt' : (k : Int) < (n : Int) := by omega
    go_wp2
    clear a2 ga r0 r1 r2 r3 r4 r5 r6 r7 r8 r9 fr gr q0 q1 q2 q3 q4 q5 q6 q7 q8 q9 fq gq
    refine c_begin 9 rfl (by kernel_rfl) ?_
    replace X0 := X0.drew
    replace X1 := X1.drew
    replace X3 := X3.drew
    replace T4 := T4.drew
    replace D := D.drew
    replace ho := owns_below ho ((Below.refl wr.heap.size wr).drew)
    replace hz : w.heap.size + 1 + 1 + 1 + 1 ≤ wr.drew.heap.size := hz
    generalize wr.drew = w6 at *
    have c5 : w6.cell? ⟨w.heap.size + 1 + 1 + 1, 6, none⟩ = some (.slice va k vcap) := X3.cell 6
    refine c_P trivial 0 rfl ?_
    refine c_R (fun w' => w'.cell? ⟨w.heap.size + 1 + 1 + 1, 6, none⟩ = some (.slice va k vcap)) c5 trivial 1 rfl (fun w' hx => by go_simp; with_reducible rfl) ?_
    refine c_P ⟨c5, trivial⟩ 2 rfl ?_
    refine c_move 3 (by kernel_rfl) (c_op 3 [(1, (fun w' => w'.cell? ⟨w.heap.size + 1 + 1 + 1, 6, none⟩ = some (.slice va k vcap)))] (by kernel_rfl) rfl (by kernel_rfl) (fun K hK => ?_))
    go_wp2_with fail
    refine (next_any (w.heap.size + 1 + 1 + 1) (w.heap.size + 1 + 1) x 65536 _ T4 (by omega) (by decide)).mono ?_
    rintro e w7 ⟨mx, rfl, mx0, mx1, T7, S7, D7⟩
    replace X0 := X0.dev D7 (by omega) (by omega)
    replace X1 := X1.dev D7 (by omega) (by omega)
    replace X3 := X3.dev D7 (by omega) (by omega)
    replace ho := owns_dev ho D7 (by omega)
    replace D := D.trans (D7.below (by omega) (by omega))
    have hz7 : w.heap.size + 1 + 1 + 1 + 1 ≤ w7.heap.size := by omega
    clear S7 D7 T4 c5 hz
    have c7 : w7.cell? ⟨w.heap.size + 1 + 1 + 1, 6, none⟩ = some (.slice va k vcap) := X3.cell 6
    go_simp
    refine hK.out _ _ ⟨c7, trivial⟩ ?_
    clear K hK
    try simp only [Act.put, PuA, PuB, PuC]
    have wx : IntKind.u16.wrap mx = mx := by rw [IntKind.wrap_u16]; omega
    refine c_P ⟨c7, trivial⟩ 4 rfl ?_
    have g7 := X3.lt
    have X0a := X0.alloc (.cells #[.int .u16 mx] 24)
    have X1a := X1.alloc (.cells #[.int .u16 mx] 24)
    have X3a := X3.alloc (.cells #[.int .u16 mx] 24)
    have Rn := row_new w7 [.int .u16 mx] 24 1 rfl (by decide)
    have c8 : (w7.alloc (.cells #[.int .u16 mx] 24)).cell? ⟨w.heap.size + 1 + 1 + 1, 6, none⟩ = some (.slice va k vcap) := X3a.cell 6
    refine c_move 5 (by kernel_rfl) (c_op 5 [(1, (fun w' => w'.cell? ⟨w.heap.size + 1 + 1 + 1, 6, none⟩ = some (.slice va k vcap)))] (by kernel_rfl) rfl (by kernel_rfl) (fun K hK => ?_))
    go_simp
    refine hK.out _ _ ⟨c8, trivial⟩ ?_
    clear K hK c7
    try simp only [Act.put, PuA, PuB, PuC]
    refine c_move 6 (by kernel_rfl) (c_op 6 [] (by kernel_rfl) rfl (by kernel_rfl) (fun K hK => ?_))
    refine wp_app (.tmp 72) (.tmp 76) 23 rfl (w.heap.size + 1 + 1 + 1 + 1) 24 (.int .u16 0) 2 Try.underlying23 info_u16 rfl rfl (ho.alloc _) rfl Rn (by intro u hu; simp at hu; subst hu; rfl) (by simp [maxLen]; omega) (by simp <;> omega) (by simp <;> omega) ?_
    intro v8 w8 ho8 hg8
    refine hK.out _ _ trivial ?_
    clear K hK
    try simp only [Act.put, PuA, PuB, PuC]
    replace X0 := X0a.grown hg8 (fun r hr => by have := (ho.lt r hr).1; omega)
    replace X1 := X1a.grown hg8 (fun r hr => by have := (ho.lt r hr).1; omega)
    replace X3 := X3a.grown hg8 (fun r hr => by have := (ho.lt r hr).1; omega)
    have Bl := ((Below.refl (w.heap.size + 1 + 1 + 1) w7).alloc (by omega) (.cells #[.int .u16 mx] 24)).grown hg8 (by simp <;> omega) (fun r hr => by have := (ho.lt r hr).1; omega)
    replace T7 := T7.below Bl
    replace D := D.trans (Bl.mono (by omega))
    have hz8 : w.heap.size + 1 + 1 + 1 + 1 ≤ w8.heap.size := by have := hg8.size; simp at this; omega
    clear Bl hg8 Rn ho R0 X0a X1a X3a c8 g7
    have R8 := Row.of_owns ho8
    obtain ⟨va8, vcap8, rfl, -⟩ := id R8
    refine c_P trivial 7 rfl ?_
    have c5 : w8.cell? ⟨w.heap.size + 1 + 1 + 1, 6, none⟩ = some (.slice va k vcap) := X3.cell 6
    have f5 := X3.frozen
    have g5 := X3.lt
    refine c_move 8 (by kernel_rfl) (c_op 8 [] (by kernel_rfl) rfl (by kernel_rfl) (fun K hK => ?_))
    go_simp
    refine hK.out _ _ trivial ?_
    clear K hK c5 f5 g5
    try simp only [Act.put, PuA, PuB, PuC]
    refine c_done (by kernel_rfl) ?_
    go_wp2
    go_roundw
    case rel =>
     refine ⟨k + 1, bs ++ [wOf mx], _, by omega, by go_num, by simp [hbl], X0.set_ne (by omega) 6 _, X1.set_ne (by omega) 6 _, by simpa using X3.set 6 _, ?_, T7.below ((Below.refl (w.heap.size + 1 + 1 + 1) w8).setCell (p := ⟨w.heap.size + 1 + 1 + 1, 6, none⟩) (by simp <;> omega) _), D.setCell (p := ⟨w.heap.size + 1 + 1 + 1, 6, none⟩) (by simp <;> omega) _, by simpa using hz8⟩
     have e : bs.map wV ++ [Value.int .u16 mx] = (bs ++ [wOf mx]).map wV := by simp [wV, wOf_wrap]; omega
     rw [e] at ho8
     have ho9 := owns_setCell (u := .slice va8 (k + 1) vcap8) ho8 (w.heap.size + 1 + 1 + 1) 6 (by omega)
     simp [hbl] at ho9 ⊢
     exact ho9
    case measure => simp [intOf]; omega
   ·
    obtain rfl : k = n := by omega
    have hlt' : ¬ (k : Int) < (k : Int) := by omega
    go_wp2
    refine bodyPost_ret (v := _) (by simp [results, Try.results7, go_sem, q0, q1, q2, q3, q4, q5, q6, q7, q8, q9]; with_reducible rfl) rfl ?_
    refine ⟨_, rfl, ⟨3, 0, 0, 0, 0, [], bs, 0, 0, []⟩, ⟨_, _, _, rfl, Row.nil _, ?r, Row.nil _⟩, rfl, goodE_0 rfl rfl (by simp [formA]) rfl (by simp [listA]; omega), by simp [askB, hbl], ?_, ⟨_, _, _, _, _, _, _, _, _, _, _, _, _, _, _, _, _, _, _, rfl, rfl, .inl (NewV.none _ _ _), .inl ((NewV.of_owns ho).le (by omega)), NewV.none _ _ _⟩⟩
    case r =>
     repeat' (refine Row.setCell_new ?_ (NewV.of_owns ho) (by omega))
     simpa [hbl] using R0
    ·
     repeat' (refine Below.setCell ?_ (by simp <;> omega) _)
     exact D
set_option maxRecDepth 100000 in
set_option maxHeartbeats 2000000 in
theorem made_4 (tv qv : Value) (x : List Int) (q : Rq) (w : World) (ht : Row w tv (x.map iV)) (bx : ∀ n ∈ x, -9223372036854775808 ≤ n ∧ n ≤ 9223372036854775807) (hq : IsRq w qv q) (hr : rightE q = 0) (hc : q.cnt ≤ 30) (hf : q.fn = 4) :
  Calls Try.prog 7 #[tv, qv] w fun e w' => ∃ v', e = .returned v' ∧ ∃ r, IsRp w' v' r ∧ r.fn = q.fn ∧ goodE r = 0 ∧ askB r q.cnt = true ∧ Below w.heap.size w w' ∧ FromQ w.heap.size qv v' := by
 have HE : Hid (∀ (_ : q.fn = 5 ∨ q.fn = 6 ∨ q.fn = 8 ∨ q.fn = 22), goodE (echoP q) = 0) := fun h => echoP_good hr h
 obtain ⟨-, -, ⟨n1, n2, n3, n4⟩, hlst⟩ := right_parts hr
 obtain ⟨ta, tc, rfl, -⟩ := id ht
 obtain ⟨vb, vv, rfl, hb, hv⟩ := hq
 obtain ⟨ab, capb, rfl, -⟩ := id hb
 obtain ⟨av, capv, rfl, -⟩ := id hv
 obtain ⟨f, l, c, p, s, bb, vw, m, o⟩ := q
 simp only [List.length_map] at ht hb hv hf hc n1 n2 n3 n4 HE ⊢
 subst hf
 have HB := hidden hb
 have HV := hidden hv
 simp [numB] at n1 n2 n3 n4
 clear hr hb hv hlst
 generalize hnb : bb.length = nb at *
 generalize hnv : vw.length = nv at *
 have HNB := hidden hnb
 have HNV := hidden hnv
 clear hnb hnv
 have T0 := tap_new ((w.alloc (.cells #[.int .i64 4, .int .i64 l, .int .i64 c, .int .i64 p, .int .i64 s, .slice ab nb capb, .slice av nv capv, wV m, wV o] 26)).alloc (.cells #[.int .i64 0, .int .i64 0, .int .i64 0, .int .i64 0, .int .i64 0, .slice none 0 0, .slice none 0 0, .int .u16 0, .int .u16 0, .slice none 0 0] 35)) ta x.length tc x (ht.below (((Below.refl w.heap.size w).alloc (Nat.le_refl _) _).alloc (by simp <;> omega) _)) bx
 simp only [World.size_alloc] at T0
 have T1 := T0.below ((Below.refl (w.heap.size + 1 + 1 + 1) (((w.alloc (.cells #[.int .i64 4, .int .i64 l, .int .i64 c, .int .i64 p, .int .i64 s, .slice ab nb capb, .slice av nv capv, wV m, wV o] 26)).alloc (.cells #[.int .i64 0, .int .i64 0, .int .i64 0, .int .i64 0, .int .i64 0, .slice none 0 0, .slice none 0 0, .int .u16 0, .int .u16 0, .slice none 0 0] 35)).alloc (.cells #[.slice ta x.length tc, .int .i64 0] 31))).alloc (by simp) (.cells #[.int .i64 4, .int .i64 0, .int .i64 0, .int .i64 0, .int .i64 0, .slice none 0 0, .slice none 0 0, .int .u16 0, .int .u16 0, .slice none 0 0] 35))
 have X0 := (((Blk.new w 26 [.int .i64 4, .int .i64 l, .int .i64 c, .int .i64 p, .int .i64 s, .slice ab nb capb, .slice av nv capv, wV m, wV o]).alloc (.cells #[.int .i64 0, .int .i64 0, .int .i64 0, .int .i64 0, .int .i64 0, .slice none 0 0, .slice none 0 0, .int .u16 0, .int .u16 0, .slice none 0 0] 35)).alloc (.cells #[.slice ta x.length tc, .int .i64 0] 31)).alloc (.cells #[.int .i64 4, .int .i64 0, .int .i64 0, .int .i64 0, .int .i64 0, .slice none 0 0, .slice none 0 0, .int .u16 0, .int .u16 0, .slice none 0 0] 35)
 have X1 := ((Blk.new_at (w.alloc (.cells #[.int .i64 4, .int .i64 l, .int .i64 c, .int .i64 p, .int .i64 s, .slice ab nb capb, .slice av nv capv, wV m, wV o] 26)) 35 [.int .i64 0, .int .i64 0, .int .i64 0, .int .i64 0, .int .i64 0, .slice none 0 0, .slice none 0 0, .int .u16 0, .int .u16 0, .slice none 0 0] (w.heap.size + 1) (by simp)).alloc (.cells #[.slice ta x.length tc, .int .i64 0] 31)).alloc (.cells #[.int .i64 4, .int .i64 0, .int .i64 0, .int .i64 0, .int .i64 0, .slice none 0 0, .slice none 0 0, .int .u16 0, .int .u16 0, .slice none 0 0] 35)
 have X3 := Blk.new_at (((w.alloc (.cells #[.int .i64 4, .int .i64 l, .int .i64 c, .int .i64 p, .int .i64 s, .slice ab nb capb, .slice av nv capv, wV m, wV o] 26)).alloc (.cells #[.int .i64 0, .int .i64 0, .int .i64 0, .int .i64 0, .int .i64 0, .slice none 0 0, .slice none 0 0, .int .u16 0, .int .u16 0, .slice none 0 0] 35)).alloc (.cells #[.slice ta x.length tc, .int .i64 0] 31)) 35 [.int .i64 4, .int .i64 0, .int .i64 0, .int .i64 0, .int .i64 0, .slice none 0 0, .slice none 0 0, .int .u16 0, .int .u16 0, .slice none 0 0] (w.heap.size + 1 + 1 + 1) (by simp)
 have D := ((((Below.refl w.heap.size w).alloc (Nat.le_refl _) (.cells #[.int .i64 4, .int .i64 l, .int .i64 c, .int .i64 p, .int .i64 s, .slice ab nb capb, .slice av nv capv, wV m, wV o] 26)).alloc (by simp) (.cells #[.int .i64 0, .int .i64 0, .int .i64 0, .int .i64 0, .int .i64 0, .slice none 0 0, .slice none 0 0, .int .u16 0, .int .u16 0, .slice none 0 0] 35)).alloc (by simp <;> omega) (.cells #[.slice ta x.length tc, .int .i64 0] 31)).alloc (by simp <;> omega) (.cells #[.int .i64 4, .int .i64 0, .int .i64 0, .int .i64 0, .int .i64 0, .slice none 0 0, .slice none 0 0, .int .u16 0, .int .u16 0, .slice none 0 0] 35)
 clear T0 ht bx
 go_enter Try.func7, Try.ntmps7
 go_wp2_with fail
 refine (next_any (w.heap.size + 1 + 1 + 1) (w.heap.size + 1 + 1) x 5 _ T1 (by simp) (by decide)).mono ?_
 rintro e w4 ⟨my, rfl, my0, my1, T4, S4, D4⟩
 simp at S4
 replace X0 := X0.dev D4 (by simp <;> omega) (by omega)
 replace X1 := X1.dev D4 (by simp <;> omega) (by omega)
 replace X3 := X3.dev D4 (by simp <;> omega) (by omega)
 replace D := D.trans (D4.below (by simp <;> omega) (by omega))
 clear D4 T1
 have hz : w.heap.size + 1 + 1 + 1 + 1 ≤ w4.heap.size := by omega
 clear S4
 by_cases hm : my = 0
 ·
  subst hm
  go_wp2
  refine c_begin 7 rfl (by kernel_rfl) ?_
  replace X0 := X0.drew
  replace X1 := X1.drew
  replace T4 := T4.drew
  replace D := D.drew
  replace hz : w.heap.size + 1 + 1 + 1 + 1 ≤ w4.drew.heap.size := hz
  generalize w4.drew = w5 at *
  clear X3
  have c0 : w5.cell? ⟨w.heap.size, 0, none⟩ = some (.int .i64 4) := X0.cell 0
  refine c_P trivial 0 rfl ?_
  refine c_R (fun w' => w'.cell? ⟨w.heap.size, 0, none⟩ = some (.int .i64 4)) c0 trivial 1 rfl (fun w' hx => by go_simp; with_reducible rfl) ?_
  refine c_P ⟨c0, trivial⟩ 2 rfl ?_
  refine c_move 3 (by kernel_rfl) (c_op 3 [(1, fun w' => w'.cell? ⟨w.heap.size, 0, none⟩ = some (.int .i64 4))] (by kernel_rfl) rfl (by kernel_rfl) (fun K hK => ?_))
  go_wp2_with fail
  refine (next_any (w.heap.size + 1 + 1 + 1) (w.heap.size + 1 + 1) x 11 _ T4 (by omega) (by decide)).mono ?_
  rintro e w6 ⟨mz, rfl, mz0, mz1, T6, S6, D6⟩
  replace X0 := X0.dev D6 (by omega) (by omega)
  replace X1 := X1.dev D6 (by omega) (by omega)
  replace D := D.trans (D6.below (by omega) (by omega))
  have c6 : w6.cell? ⟨w.heap.size, 0, none⟩ = some (.int .i64 4) := X0.cell 0
  go_simp
  refine hK.out _ _ ⟨c6, trivial⟩ ?_
  clear K hK c0 D6 T4
  try simp only [Act.put, PuA, PuB, PuC]
  have wz : IntKind.i64.wrap (1 + mz) = 1 + mz := by rw [IntKind.wrap_i64]; omega
  refine c_P ⟨c6, trivial⟩ 4 rfl ?_
  refine c_move 5 (by kernel_rfl) (c_op 5 [] (by kernel_rfl) rfl (by kernel_rfl) (fun K hK => ?_))
  go_wp2_with fail
  refine (refuse_ref 4 (1 + mz) _).mono ?_
  rintro e w7 ⟨rfl, B7⟩
  rw [show (1 + mz) % 256 = 1 + mz by omega, show (4 : Int) % 128 = 4 from rfl]
  replace X1 := X1.below B7 X1.lt
  have sz7 := B7.size
  replace D := below_then D B7
  go_simp
  refine hK.out _ _ trivial ?_
  clear K hK B7
  try simp only [Act.put, PuA, PuB, PuC]
  have q0 := X1.cell 0
  have q1 := X1.cell 1
  have q2 := X1.cell 2
  have q3 := X1.cell 3
  have q4 := X1.cell 4
  have q5 := X1.cell 5
  have q6 := X1.cell 6
  have q7 := X1.cell 7
  have q8 := X1.cell 8
  have q9 := X1.cell 9
  simp at q0 q1 q2 q3 q4 q5 q6 q7 q8 q9
  have fq := X1.frozen
  have gq := X1.lt
  refine c_move 6 (by kernel_rfl) (c_op 6 [] (by kernel_rfl) rfl (by kernel_rfl) (fun K hK => ?_))
  go_simp
  refine hK.out _ _ trivial ?_
  clear K hK
  try simp only [Act.put, PuA, PuB, PuC]
  refine c_done (by kernel_rfl) ?_
  go_wp2
  refine bodyPost_ret (v := _) (by simp [results, Try.results7, go_sem, q0, q1, q2, q3, q4, q5, q6, q7, q8, q9]; with_reducible rfl) rfl ?_
  refine ⟨_, rfl, refP 4 (1 + mz), ref_rp _ _ _, rfl, ref_good 4 (1 + mz) (by decide) (by decide) (by omega) (by omega), ?_, ?_, ⟨_, _, _, _, _, _, _, _, _, _, _, _, _, _, _, _, _, _, _, rfl, rfl, .inl (NewV.none _ _ _), .inl (NewV.none _ _ _), NewV.none _ _ _⟩⟩
  ·
   unfold askB; rw [if_pos (by simp only [refP]; omega)]
  ·
   repeat' (refine Below.setCell ?_ (by simp <;> omega) _)
   exact D
 ·
  have hm' : (my == 0) = false := by rw [beq_eq_false_iff_ne]; exact hm
  clear hm
  obtain ⟨n, rfl⟩ : ∃ n : Nat, c = (n : Int) := ⟨c.toNat, by omega⟩
  have a0 := X0.cell 0
  have a1 := X0.cell 1
  have a2 := X0.cell 2
  have a3 := X0.cell 3
  have a4 := X0.cell 4
  have a5 := X0.cell 5
  have a6 := X0.cell 6
  have a7 := X0.cell 7
  have a8 := X0.cell 8
  simp at a0 a1 a2 a3 a4 a5 a6 a7 a8
  have fa := X0.frozen
  have ga := X0.lt
  have r0 := X3.cell 0
  have r1 := X3.cell 1
  have r2 := X3.cell 2
  have r3 := X3.cell 3
  have r4 := X3.cell 4
  have r5 := X3.cell 5
  have r6 := X3.cell 6
  have r7 := X3.cell 7
  have r8 := X3.cell 8
  have r9 := X3.cell 9
  simp at r0 r1 r2 r3 r4 r5 r6 r7 r8 r9
  have fr := X3.frozen
  have gr := X3.lt
  go_wp2
  clear a0 a1 a2 a3 a4 a5 a6 a7 a8 fa ga r0 r1 r2 r3 r4 r5 r6 r7 r8 r9 fr gr
  go_loopw [8] (fun i wr => ∃ (k : Nat) (bs : List UInt16) (vb : Value), k ≤ n ∧ i = .int .i64 k ∧ bs.length = k ∧ Blk wr (w.heap.size) 26 [.int .i64 4, .int .i64 l, .int .i64 n, .int .i64 p, .int .i64 s, .slice ab nb capb, .slice av nv capv, wV m, wV o] ∧ Blk wr (w.heap.size + 1) 35 [.int .i64 0, .int .i64 0, .int .i64 0, .int .i64 0, .int .i64 0, .slice none 0 0, .slice none 0 0, .int .u16 0, .int .u16 0, .slice none 0 0] ∧ Blk wr (w.heap.size + 1 + 1 + 1) 35 [.int .i64 4, .int .i64 0, .int .i64 0, .int .i64 0, .int .i64 0, .slice none 0 0, vb, .int .u16 0, .int .u16 0, .slice none 0 0] ∧ wr.ownsRow (w.heap.size + 1 + 1 + 1 + 1) 24 1 vb k (bs.map wV) ∧ Tap (w.heap.size + 1 + 1 + 1) wr (w.heap.size + 1 + 1) x ∧ Below w.heap.size w wr ∧ w.heap.size + 1 + 1 + 1 + 1 ≤ wr.heap.size) (fun i _ => n - (intOf i).toNat)
  case atStart => exact ⟨0, [], .slice none 0 0, Nat.zero_le _, rfl, rfl, X0, X1, X3, World.ownsRow_nil _ _ _ _, T4, D, hz⟩
  case round =>
   clear X0 X1 X3 T4 D hz
   obtain ⟨k, bs, vb, hk, rfl, hbl, X0, X1, X3, ho, T4, D, hz⟩ := hrel
   have R0 := Row.of_owns ho
   obtain ⟨va, vcap, rfl, -⟩ := id R0
   simp only [List.length_map, hbl] at X3 ho R0
   have a2 := X0.cell 2
   simp at a2
   have ga := X0.lt
   have r0 := X3.cell 0
   have r1 := X3.cell 1
   have r2 := X3.cell 2
   have r3 := X3.cell 3
   have r4 := X3.cell 4
   have r5 := X3.cell 5
   have r6 := X3.cell 6
   have r7 := X3.cell 7
   have r8 := X3.cell 8
   have r9 := X3.cell 9
   simp at r0 r1 r2 r3 r4 r5 r6 r7 r8 r9
   have fr := X3.frozen
   have gr := X3.lt
   have q0 := X1.cell 0
   have q1 := X1.cell 1
   have q2 := X1.cell 2
   have q3 := X1.cell 3
   have q4 := X1.cell 4
   have q5 := X1.cell 5
   have q6 := X1.cell 6
   have q7 := X1.cell 7
   have q8 := X1.cell 8
   have q9 := X1.cell 9
   simp at q0 q1 q2 q3 q4 q5 q6 q7 q8 q9
   have fq := X1.frozen
   have gq := X1.lt
   by_cases hlt : k < n
   ·
    have hlt' : (k : Int) < (n : Int) := by omega
    go_wp2
    clear a2 ga r0 r1 r2 r3 r4 r5 r6 r7 r8 r9 fr gr q0 q1 q2 q3 q4 q5 q6 q7 q8 q9 fq gq
    refine c_begin 9 rfl (by kernel_rfl) ?_
    replace X0 := X0.drew
    replace X1 := X1.drew
    replace X3 := X3.drew
    replace T4 := T4.drew
    replace D := D.drew
    replace ho := owns_below ho ((Below.refl wr.heap.size wr).drew)
    replace hz : w.heap.size + 1 + 1 + 1 + 1 ≤ wr.drew.heap.size := hz
    generalize wr.drew = w6 at *
    have c5 : w6.cell? ⟨w.heap.size + 1 + 1 + 1, 6, none⟩ = some (.slice va k vcap) := X3.cell 6
    refine c_P trivial 0 rfl ?_
    refine c_R (fun w' => w'.cell? ⟨w.heap.size + 1 + 1 + 1, 6, none⟩ = some (.slice va k vcap)) c5 trivial 1 rfl (fun w' hx => by go_simp; with_reducible rfl) ?_
    refine c_P ⟨c5, trivial⟩ 2 rfl ?_
    refine c_move 3 (by kernel_rfl) (c_op 3 [(1, (fun w' => w'.cell? ⟨w.heap.size + 1 + 1 + 1, 6, none⟩ = some (.slice va k vcap)))] (by kernel_rfl) rfl (by kernel_rfl) (fun K hK => ?_))
    go_wp2_with fail
    refine (next_any (w.heap.size + 1 + 1 + 1) (w.heap.size + 1 + 1) x 65536 _ T4 (by omega) (by decide)).mono ?_
    rintro e w7 ⟨mx, rfl, mx0, mx1, T7, S7, D7⟩
    replace X0 := X0.dev D7 (by omega) (by omega)
    replace X1 := X1.dev D7 (by omega) (by omega)
    replace X3 := X3.dev D7 (by omega) (by omega)
    replace ho := owns_dev ho D7 (by omega)
    replace D := D.trans (D7.below (by omega) (by omega))
    have hz7 : w.heap.size + 1 + 1 + 1 + 1 ≤ w7.heap.size := by omega
    clear S7 D7 T4 c5 hz
    have c7 : w7.cell? ⟨w.heap.size + 1 + 1 + 1, 6, none⟩ = some (.slice va k vcap) := X3.cell 6
    go_simp
    refine hK.out _ _ ⟨c7, trivial⟩ ?_
    clear K hK
    try simp only [Act.put, PuA, PuB, PuC]
    have wx : IntKind.u16.wrap mx = mx := by rw [IntKind.wrap_u16]; omega
    refine c_P ⟨c7, trivial⟩ 4 rfl ?_
    have g7 := X3.lt
    have X0a := X0.alloc (.cells #[.int .u16 mx] 24)
    have X1a := X1.alloc (.cells #[.int .u16 mx] 24)
    have X3a := X3.alloc (.cells #[.int .u16 mx] 24)
    have Rn := row_new w7 [.int .u16 mx] 24 1 rfl (by decide)
    have c8 : (w7.alloc (.cells #[.int .u16 mx] 24)).cell? ⟨w.heap.size + 1 + 1 + 1, 6, none⟩ = some (.slice va k vcap) := X3a.cell 6
    refine c_move 5 (by kernel_rfl) (c_op 5 [(1, (fun w' => w'.cell? ⟨w.heap.size + 1 + 1 + 1, 6, none⟩ = some (.slice va k vcap)))] (by kernel_rfl) rfl (by kernel_rfl) (fun K hK => ?_))
    go_simp
    refine hK.out _ _ ⟨c8, trivial⟩ ?_
    clear K hK c7
    try simp only [Act.put, PuA, PuB, PuC]
    refine c_move 6 (by kernel_rfl) (c_op 6 [] (by kernel_rfl) rfl (by kernel_rfl) (fun K hK => ?_))
    refine wp_app (.tmp 72) (.tmp 76) 23 rfl (w.heap.size + 1 + 1 + 1 + 1) 24 (.int .u16 0) 2 Try.underlying23 info_u16 rfl rfl (ho.alloc _) rfl Rn (by intro u hu; simp at hu; subst hu; rfl) (by simp [maxLen]; omega) (by simp <;> omega) (by simp <;> omega) ?_
    intro v8 w8 ho8 hg8
    refine hK.out _ _ trivial ?_
    clear K hK
    try simp only [Act.put, PuA, PuB, PuC]
    replace X0 := X0a.grown hg8 (fun r hr => by have := (ho.lt r hr).1; omega)
    replace X1 := X1a.grown hg8 (fun r hr => by have := (ho.lt r hr).1; omega)
    replace X3 := X3a.grown hg8 (fun r hr => by have := (ho.lt r hr).1; omega)
    have Bl := ((Below.refl (w.heap.size + 1 + 1 + 1) w7).alloc (by omega) (.cells #[.int .u16 mx] 24)).grown hg8 (by simp <;> omega) (fun r hr => by have := (ho.lt r hr).1; omega)
    replace T7 := T7.below Bl
    replace D := D.trans (Bl.mono (by omega))
    have hz8 : w.heap.size + 1 + 1 + 1 + 1 ≤ w8.heap.size := by have := hg8.size; simp at this; omega
    clear Bl hg8 Rn ho R0 X0a X1a X3a c8 g7
    have R8 := Row.of_owns ho8
    obtain ⟨va8, vcap8, rfl, -⟩ := id R8
    refine c_P trivial 7 rfl ?_
    have c5 : w8.cell? ⟨w.heap.size + 1 + 1 + 1, 6, none⟩ = some (.slice va k vcap) := X3.cell 6
    have f5 := X3.frozen
    have g5 := X3.lt
    refine c_move 8 (by kernel_rfl) (c_op 8 [] (by kernel_rfl) rfl (by kernel_rfl) (fun K hK => ?_))
    go_simp
    refine hK.out _ _ trivial ?_
    clear K hK c5 f5 g5
    try simp only [Act.put, PuA, PuB, PuC]
    refine c_done (by kernel_rfl) ?_
    go_wp2
    go_roundw
    case rel =>
     refine ⟨k + 1, bs ++ [wOf mx], _, by omega, by go_num, by simp [hbl], X0.set_ne (by omega) 6 _, X1.set_ne (by omega) 6 _, by simpa using X3.set 6 _, ?_, T7.below ((Below.refl (w.heap.size + 1 + 1 + 1) w8).setCell (p := ⟨w.heap.size + 1 + 1 + 1, 6, none⟩) (by simp <;> omega) _), D.setCell (p := ⟨w.heap.size + 1 + 1 + 1, 6, none⟩) (by simp <;> omega) _, by simpa using hz8⟩
     have e : bs.map wV ++ [Value.int .u16 mx] = (bs ++ [wOf mx]).map wV := by simp [wV, wOf_wrap]; omega
     rw [e] at ho8
     have ho9 := owns_setCell (u := .slice va8 (k + 1) vcap8) ho8 (w.heap.size + 1 + 1 + 1) 6 (by omega)
     simp [hbl] at ho9 ⊢
     exact ho9
    case measure => simp [intOf]; omega
   ·
    obtain rfl : k = n := by omega
    have hlt' : ¬ (k : Int) < (k : Int) := by omega
    go_wp2
    refine bodyPost_ret (v := _) (by simp [results, Try.results7, go_sem, q0, q1, q2, q3, q4, q5, q6, q7, q8, q9]; with_reducible rfl) rfl ?_
    refine ⟨_, rfl, ⟨4, 0, 0, 0, 0, [], bs, 0, 0, []⟩, ⟨_, _, _, rfl, Row.nil _, ?r, Row.nil _⟩, rfl, goodE_0 rfl rfl (by simp [formA]) rfl (by simp [listA]; omega), by simp [askB, hbl], ?_, ⟨_, _, _, _, _, _, _, _, _, _, _, _, _, _, _, _, _, _, _, rfl, rfl, .inl (NewV.none _ _ _), .inl ((NewV.of_owns ho).le (by omega)), NewV.none _ _ _⟩⟩
    case r =>
     repeat' (refine Row.setCell_new ?_ (NewV.of_owns ho) (by omega))
     simpa [hbl] using R0
    ·
     repeat' (refine Below.setCell ?_ (by simp <;> omega) _)
     exact D
end Go.Proofs.Ytbajlhpmmmhkoaa
