/- burgagelaw11.same answers true. -/
import Derived.Test.YtffjhimdamdenaaBO
import Derived.Test.YtffjhimdamdenaaBL
import Derived.Test.YtffjhimdamdenaaBJ
namespace Go.Proofs.Ytffjhimdamdenaa
open Go.RowKit

theorem equal_self (fr : Int) (u v : Value) (p : List Tn) (w : World) (hu : Tns w u p) (hv : Tns w v p) : Calls Try.prog 14 #[taV fr u, taV fr v] w fun e w' => e = .returned (.bool true) ∧ Below w.heap.size w w' :=
  (equal_any fr fr u v p p w hu hv).mono (fun _ _ h => ⟨by rw [h.1]; simp, h.2⟩)
theorem requal_self (fr : Int) (u v : Value) (p : List Tn) (w : World) (hu : Tns w u p) (hv : Tns w v p) : Calls Try.prog 15 #[taV fr u, taV fr v] w fun e w' => e = .returned (.bool true) ∧ Below w.heap.size w w' :=
  (requal_any fr fr u v p p w hu hv).mono (fun _ _ h => ⟨by rw [h.1]; simp, h.2⟩)
theorem OwnU.tns {N M : Nat} {w : World} {v : Value} {es : List TE} (h : OwnU N es.length w es) (ot : w.ownsRow M 43 5 v es.length (tcs es)) : Tns w v (es.map (·.1)) := by
  refine ⟨es, rfl, Lsf.of_owns tf_len (by decide) ot, fun e he => ?_⟩
  obtain ⟨j, hj⟩ := List.getElem?_of_mem he
  obtain ⟨h1, h2⟩ := h.own j e (lt_of_get hj) hj
  exact ⟨Lsf.of_owns wf_len (by decide) h1, Lsf.of_owns sf_len (by decide) h2⟩
/-- a copy is like what was copied -/
theorem copy_tns (fr : Int) (v : Value) (l : List Tn) (w : World) (ht : Tns w v l) (ho : OkTs l) : Calls Try.prog 16 #[taV fr v] w fun e w' => ∃ vt, e = .returned (taV fr vt) ∧ Tns w' vt l ∧ Below w.heap.size w w' := by
  obtain ⟨es0, rfl, hL, hE⟩ := ht
  refine (copy_any fr v es0 w hL hE (by have := ho.2; simpa using this) (fun e he => ?_)).mono ?_
  · have := ho.1 e.1 (List.mem_map.2 ⟨e, he, rfl⟩)
    have h1 := this.wl
    have h2 := this.sl
    omega
  · rintro e w' ⟨vt, rfl, es, hm, ot, HU, B⟩
    exact ⟨vt, rfl, by rw [← hm]; exact HU.tns ot, B⟩

set_option maxHeartbeats 8000000 in
theorem same_law (fr : Int) (v : Value) (l : List Tn) (w : World) (ht : Tns w v l) (hf : i64 fr) (ho : OkTs l) :
    Calls Try.prog 10 #[taV fr v] w fun e w' => e = .returned (.bool true) ∧ Below w.heap.size w w' := by
  have HT := hidden ht
  obtain ⟨a, cap, rfl, -⟩ := ht.sl
  have y1 := BxA.new w fr (.slice a l.length cap)
  have bb := (Below.refl w.heap.size w).alloc (Nat.le_refl _) (boxA fr (.slice a l.length cap))
  have C1 := hidden (fun w' (b : Below w.heap.size w w') => where_any fr _ l w' (HT.out.ext b) hf ho)
  have C2 := hidden (fun w' (b : Below w.heap.size w w') => rwhere_any fr _ l w' (HT.out.ext b) hf ho)
  have C3 := hidden (fun w' (b : Below w.heap.size w w') => right_tab fr _ l w' (HT.out.ext b) hf ho)
  have C4 := hidden (fun w' (b : Below w.heap.size w w') => equal_self fr _ _ l w' (HT.out.ext b) (HT.out.ext b))
  have C5 := hidden (fun w' (b : Below w.heap.size w w') => copy_tns fr _ l w' (HT.out.ext b) ho)
  have C6 := hidden (fun w' (b : Below w.heap.size w w') u (hu : Tns w' u l) => requal_self fr u _ l w' hu (HT.out.ext b))
  clear ht hf ho
  generalize (whereE fr l).1 = A at *
  generalize (whereE fr l).2 = I at *
  generalize l.length = ll at *
  obtain ⟨c0, c1⟩ := y1.cells
  go_enter Try.func10, Try.ntmps10
  go_wp2_with fail
  refine (C1.out _ bb).mono ?_
  rintro e w1 ⟨rfl, B1⟩
  replace y1 := y1.ext B1
  replace bb := below_then bb B1
  clear c0 c1 B1
  obtain ⟨c0, c1⟩ := y1.cells
  go_wp2_with fail
  refine (C2.out _ bb).mono ?_
  rintro e w2 ⟨rfl, B2⟩
  replace y1 := (y1.ext B2).drew
  replace bb := (below_then bb B2).drew
  clear c0 c1 B2
  have xx := Ext.refl w2.drew
  go_wp2
  refine c_begin 27 rfl (by kernel_rfl) ?_
  generalize w2.drew = w4 at *
  by_cases hA : A = 0
  · subst hA
    refine c_P trivial 0 rfl ?_
    refine c_P trivial 1 rfl ?_
    refine c_P trivial 2 rfl ?_
    refine c_P trivial 3 rfl ?_
    refine c_P trivial 4 rfl ?_
    refine c_P trivial 5 rfl ?_
    refine c_P trivial 6 rfl ?_
    refine c_P trivial 7 rfl ?_
    refine c_P trivial 8 rfl ?_
    refine c_R (fun w' => Ext w4 w') xx trivial 9 rfl (fun w' hw' => by obtain ⟨q0, q1⟩ := (y1.ext hw').cells; go_simp; with_reducible rfl) ?_
    refine c_P ⟨xx, trivial⟩ 11 rfl ?_
    refine c_P ⟨xx, trivial⟩ 12 rfl ?_
    refine c_move 10 (by kernel_rfl) (c_op 10 [] (by kernel_rfl) rfl (by kernel_rfl) (fun K hK => ?_))
    go_wp2_with fail
    refine (C3.out w4 bb).mono ?_
    rintro e w5 ⟨rfl, B5⟩
    go_simp
    refine hK.out _ _ trivial ?_
    try simp only [Act.put, List.setIfInBounds_toArray, List.set_cons_zero, List.set_cons_succ]
    clear hK K
    refine c_P trivial 13 rfl ?_
    refine c_P trivial 14 rfl ?_
    refine c_P trivial 15 rfl ?_
    refine c_R (fun w' => Ext w4 w') B5 trivial 16 rfl (fun w' hw' => by obtain ⟨q0, q1⟩ := (y1.ext hw').cells; go_simp; with_reducible rfl) ?_
    refine c_R (fun w' => Ext w4 w') B5 ⟨B5, trivial⟩ 17 rfl (fun w' hw' => by obtain ⟨q0, q1⟩ := (y1.ext hw').cells; go_simp; with_reducible rfl) ?_
    refine c_move 18 (by kernel_rfl) (c_op 18 [] (by kernel_rfl) rfl (by kernel_rfl) (fun K hK => ?_))
    go_wp2_with fail
    refine (C4.out w5 (below_then bb B5)).mono ?_
    rintro e w6 ⟨rfl, B6⟩
    replace B6 := below_then B5 B6
    go_simp
    refine hK.out _ _ trivial ?_
    try simp only [Act.put, List.setIfInBounds_toArray, List.set_cons_zero, List.set_cons_succ]
    clear hK K
    refine c_P trivial 19 rfl ?_
    refine c_P trivial 20 rfl ?_
    refine c_R (fun w' => Ext w4 w') B6 trivial 21 rfl (fun w' hw' => by obtain ⟨q0, q1⟩ := (y1.ext hw').cells; go_simp; with_reducible rfl) ?_
    refine c_R (fun w' => Ext w4 w') B6 ⟨B6, trivial⟩ 23 rfl (fun w' hw' => by obtain ⟨q0, q1⟩ := (y1.ext hw').cells; go_simp; with_reducible rfl) ?_
    refine c_move 22 (by kernel_rfl) (c_op 22 [(23, fun w' => Ext w4 w')] (by kernel_rfl) rfl (by kernel_rfl) (fun K hK => ?_))
    go_wp2_with fail
    refine (C5.out w6 (below_then bb B6)).mono ?_
    rintro e w7 ⟨vt, rfl, T7, B7⟩
    replace B7 := below_then B6 B7
    go_simp
    refine hK.out _ _ ⟨B7, trivial⟩ ?_
    try simp only [Act.put, List.setIfInBounds_toArray, List.set_cons_zero, List.set_cons_succ]
    clear hK K
    refine c_move 24 (by kernel_rfl) (c_op 24 [] (by kernel_rfl) rfl (by kernel_rfl) (fun K hK => ?_))
    go_wp2_with fail
    refine (C6.out w7 (below_then bb B7) vt T7).mono ?_
    rintro e w8 ⟨rfl, B8⟩
    replace B8 := below_then B7 B8
    go_simp
    refine hK.out _ _ trivial ?_
    try simp only [Act.put, List.setIfInBounds_toArray, List.set_cons_zero, List.set_cons_succ]
    clear hK K
    refine c_P trivial 25 rfl ?_
    refine c_P trivial 26 rfl ?_
    refine c_done (by kernel_rfl) ?_
    go_wp2
    go_ret
    exact ⟨rfl, below_then bb B8⟩
  · have hA2 : (A == 0) = false := by simpa using hA
    clear hA
    refine c_P trivial 0 rfl ?_
    refine c_P trivial 1 rfl ?_
    refine c_P trivial 2 rfl ?_
    refine c_P trivial 3 rfl ?_
    refine c_P trivial 4 rfl ?_
    refine c_P trivial 5 rfl ?_
    refine c_P trivial 6 rfl ?_
    refine c_P trivial 7 rfl ?_
    refine c_P trivial 8 rfl ?_
    refine c_R (fun w' => Ext w4 w') xx trivial 9 rfl (fun w' hw' => by obtain ⟨q0, q1⟩ := (y1.ext hw').cells; go_simp; with_reducible rfl) ?_
    refine c_P ⟨xx, trivial⟩ 11 rfl ?_
    refine c_P ⟨xx, trivial⟩ 12 rfl ?_
    refine c_move 10 (by kernel_rfl) (c_op 10 [] (by kernel_rfl) rfl (by kernel_rfl) (fun K hK => ?_))
    go_wp2_with fail
    refine (C3.out w4 bb).mono ?_
    rintro e w5 ⟨rfl, B5⟩
    go_simp
    refine hK.out _ _ trivial ?_
    try simp only [Act.put, List.setIfInBounds_toArray, List.set_cons_zero, List.set_cons_succ]
    clear hK K
    refine c_P trivial 13 rfl ?_
    refine c_P trivial 14 rfl ?_
    refine c_P trivial 15 rfl ?_
    refine c_R (fun w' => Ext w4 w') B5 trivial 16 rfl (fun w' hw' => by obtain ⟨q0, q1⟩ := (y1.ext hw').cells; go_simp; with_reducible rfl) ?_
    refine c_R (fun w' => Ext w4 w') B5 ⟨B5, trivial⟩ 17 rfl (fun w' hw' => by obtain ⟨q0, q1⟩ := (y1.ext hw').cells; go_simp; with_reducible rfl) ?_
    refine c_move 18 (by kernel_rfl) (c_op 18 [] (by kernel_rfl) rfl (by kernel_rfl) (fun K hK => ?_))
    go_wp2_with fail
    refine (C4.out w5 (below_then bb B5)).mono ?_
    rintro e w6 ⟨rfl, B6⟩
    replace B6 := below_then B5 B6
    go_simp
    refine hK.out _ _ trivial ?_
    try simp only [Act.put, List.setIfInBounds_toArray, List.set_cons_zero, List.set_cons_succ]
    clear hK K
    refine c_P trivial 19 rfl ?_
    refine c_P trivial 20 rfl ?_
    refine c_R (fun w' => Ext w4 w') B6 trivial 21 rfl (fun w' hw' => by obtain ⟨q0, q1⟩ := (y1.ext hw').cells; go_simp; with_reducible rfl) ?_
    refine c_R (fun w' => Ext w4 w') B6 ⟨B6, trivial⟩ 23 rfl (fun w' hw' => by obtain ⟨q0, q1⟩ := (y1.ext hw').cells; go_simp; with_reducible rfl) ?_
    refine c_move 22 (by kernel_rfl) (c_op 22 [(23, fun w' => Ext w4 w')] (by kernel_rfl) rfl (by kernel_rfl) (fun K hK => ?_))
    go_wp2_with fail
    refine (C5.out w6 (below_then bb B6)).mono ?_
    rintro e w7 ⟨vt, rfl, T7, B7⟩
    replace B7 := below_then B6 B7
    go_simp
    refine hK.out _ _ ⟨B7, trivial⟩ ?_
    try simp only [Act.put, List.setIfInBounds_toArray, List.set_cons_zero, List.set_cons_succ]
    clear hK K
    refine c_move 24 (by kernel_rfl) (c_op 24 [] (by kernel_rfl) rfl (by kernel_rfl) (fun K hK => ?_))
    go_wp2_with fail
    refine (C6.out w7 (below_then bb B7) vt T7).mono ?_
    rintro e w8 ⟨rfl, B8⟩
    replace B8 := below_then B7 B8
    go_simp
    refine hK.out _ _ trivial ?_
    try simp only [Act.put, List.setIfInBounds_toArray, List.set_cons_zero, List.set_cons_succ]
    clear hK K
    refine c_P trivial 25 rfl ?_
    refine c_P trivial 26 rfl ?_
    refine c_done (by kernel_rfl) ?_
    go_wp2
    go_ret
    exact ⟨rfl, below_then bb B8⟩

end Go.Proofs.Ytffjhimdamdenaa
