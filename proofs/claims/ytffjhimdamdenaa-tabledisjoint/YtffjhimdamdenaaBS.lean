/- The walk of burgagelaw11.TableTells. -/
import Derived.Test.YtffjhimdamdenaaBQ
import Derived.Test.YtffjhimdamdenaaBR
namespace Go.Proofs.Ytffjhimdamdenaa
open Go.RowKit

theorem TabOK.i64 {fr : Int} {l : List Tn} (h : TabOK fr l) : i64 fr := by
  have hl := h.len
  have hf := h.fr
  have h1 : 72 ≤ fr := by
    obtain ⟨x, hx⟩ := getx (show 0 < l.length by omega)
    have g := (h.ten 0 x hx).sl
    obtain ⟨s, hs⟩ := getx (show 0 < x.ss.length by omega)
    have := h.sl.ok s (List.mem_flatMap.2 ⟨x, List.mem_of_getElem? hx, List.mem_of_getElem? hs⟩)
    omega
  unfold Go.Proofs.Ytffjhimdamdenaa.i64; omega
theorem TabOK.okTb {fr : Int} {l : List Tn} (h : TabOK fr l) : OkTb 10 l := by
  refine ⟨fun x hx => ?_, by have := h.len; omega⟩
  have o := h.okTs.1 x hx
  obtain ⟨j, hj⟩ := List.getElem?_of_mem hx
  have g := h.ten j x hj
  have := g.ws.len
  have := g.sl
  exact ⟨⟨o.u, o.f, o.q, o.ws, o.ss⟩, by omega, by omega⟩
theorem OddR.same {w0 w' : World} {b : Nat} {fr : Int} {v : Value} (h : OddR w0 w' b fr v) (hb : b ≤ 100) : Calls Try.prog 10 #[taV fr v] w' fun e w'' => e = .returned (.bool true) ∧ Below w'.heap.size w' w'' := by
  obtain ⟨h1, -, l0, h2, h3⟩ := h
  exact same_law fr v l0 w' h2 h1 (h3.okTs (by omega))
theorem i64_nat (n : Nat) (h : (n : Int) ≤ 100000) : i64 n := by unfold i64; omega

set_option maxRecDepth 100000 in
set_option maxHeartbeats 16000000 in
theorem tells_law (at' : Option Addr) (m cap : Nat) (l : List Int) (what at_ n fr : Int) (vr : Value) (lr : List Tn) (w : World) (h : Row w (.slice at' m cap) (l.map iV)) (hi : ∀ x ∈ l, -9223372036854775808 ≤ x ∧ x ≤ 9223372036854775807)
    (h1 : i64 what) (h2 : i64 at_) (h3 : i64 n) (hf : i64 fr) (hr : Tns w vr lr) (or : OkNs lr) :
    Calls Try.prog 4 #[.slice at' m cap, .int .i64 what, .int .i64 at_, .int .i64 n, taV fr vr] w fun e w' => e = .returned (.bool true) ∧ Below w.heap.size w w' := by
  obtain ⟨m1, e1, b1⟩ := maskN n 10 (by omega) 1023 rfl
  obtain ⟨m2, e2, b2⟩ := maskN at_ 5 (by omega) 31 rfl
  obtain ⟨m3, e3, b3⟩ := maskN n 7 (by omega) 127 rfl
  obtain ⟨m4, e4, b4⟩ := maskN what 9 (by omega) 511 rfl
  have I1 := hidden h1
  have I2 := hidden h2
  have I3 := hidden h3
  have IF := hidden hf
  have OR := hidden or
  obtain ⟨ar, cr, rfl, -, -⟩ := hr.sl
  have y9 := BxA.new w fr (.slice ar lr.length cr)
  have E9 := (Below.refl w.heap.size w).alloc (Nat.le_refl _) (boxA fr (.slice ar lr.length cr))
  have HR := hidden hr
  have T00 := tap_new (w.alloc (boxA fr (.slice ar lr.length cr))) at' m cap l (h.below E9) hi
  rw [World.size_alloc] at T00
  have T0 := hidden T00
  have B0 := hidden (E9.alloc E9.size (.cells #[.slice at' m cap, .int .i64 0] 29))
  replace y9 := y9.alloc (.cells #[.slice at' m cap, .int .i64 0] 29)
  have S1 : Hid (w.heap.size + 1 + 1 ≤ ((w.alloc (boxA fr (.slice ar lr.length cr))).alloc (.cells #[.slice at' m cap, .int .i64 0] 29)).heap.size) := by show _ ≤ _; rw [World.size_alloc, World.size_alloc]; omega
  clear T00 h hi h1 h2 h3 hf hr or E9
  go_enter Try.func4, Try.ntmps4
  go_wp2_with fail
  refine (table_any (w.heap.size + 1 + 1) (w.heap.size + 1) l _ T0.out S1.out).mono ?_
  rintro e w1 ⟨vt, frx, lx, rfl, T1, OKX, D1⟩
  have B1 : Below w.heap.size w w1 := B0.out.trans (D1.below (by have := S1.out; omega) (by omega))
  have y9' : BxA w1 w.heap.size fr (.slice ar lr.length cr) := Blk.dev y9 D1 (by have := S1.out; omega) (by omega)
  obtain ⟨tx, cx, rfl, -, -⟩ := T1.sl
  have OX := hidden OKX
  clear B0 D1 y9 T0 S1 OKX
  have E9 := (Below.refl w1.heap.size w1).alloc (Nat.le_refl _) (boxA frx (.slice tx lx.length cx))
  have y11 := BxA.new w1 frx (.slice tx lx.length cx)
  have hz1 := y9'.lt
  replace y9' := y9'.ext E9
  replace T1 := T1.ext E9
  replace B1 := below_then B1 E9
  clear E9
  obtain ⟨c0, c1⟩ := y9'.cells
  go_wp2_with fail
  refine (few_any fr _ lr _ (HR.out.ext B1) OR.out).mono ?_
  rintro e w2 ⟨vy, rfl, B2, ly, T2, OKY⟩
  obtain ⟨ty, cy, rfl, -, -⟩ := T2.sl
  replace y11 := y11.ext B2
  replace T1 := T1.ext B2
  replace B1 := below_then B1 B2
  have hz2 := y11.lt
  have E9 := (Below.refl w2.heap.size w2).alloc (Nat.le_refl _) (boxA fr (.slice ty ly.length cy))
  have y12 := (BxA.new w2 fr (.slice ty ly.length cy)).drew
  replace y11 := (y11.ext E9).drew
  replace T1 := (T1.ext E9).drew
  replace T2 := (T2.ext E9).drew
  replace B1 := (below_then B1 E9).drew
  have OY := hidden OKY
  have H1 := hidden T1
  have H2 := hidden T2
  clear c0 c1 y9' B2 E9 OKY T1 T2
  go_wp2
  refine c_begin 52 rfl (by kernel_rfl) ?_
  generalize w1.heap.size = g11 at *
  generalize w2.heap.size = g12 at *
  generalize (w2.alloc (boxA fr (.slice ty ly.length cy))).drew = w4 at *
  have xx := Ext.refl w4
  have SX := hidden (fun w' (hx : Ext w4 w') => same_law frx _ lx w' (H1.out.ext hx) OX.out.i64 OX.out.okTs)
  have SY := hidden (fun w' (hx : Ext w4 w') => same_law fr _ ly w' (H2.out.ext hx) IF.out (OY.out.okTs (by decide)))
  have OD := hidden (fun what at_ n (h1 : i64 what) (h2 : i64 at_) (h3 : i64 n) w' (hx : Ext w4 w') => odd_any frx _ lx what at_ n 10 w' (H1.out.ext hx) OX.out.okTb (by decide) OX.out.i64 h1 h2 h3)
  have EQ := hidden (fun w' (hx : Ext w4 w') => equal_any frx fr _ _ lx ly w' (H1.out.ext hx) (H2.out.ext hx))
  have RQ := hidden (fun w' (hx : Ext w4 w') => requal_any frx fr _ _ lx ly w' (H1.out.ext hx) (H2.out.ext hx))
  generalize decide (frx = fr ∧ lx = ly) = Z at *
  refine c_R (fun w' => Ext w4 w') xx trivial 0 rfl (fun w' hw' => by obtain ⟨q0, q1⟩ := (y11.ext hw').cells; go_simp; with_reducible rfl) ?_
  refine c_move 1 (by kernel_rfl) (c_op 1 [] (by kernel_rfl) rfl (by kernel_rfl) (fun K hK => ?_))
  go_wp2_with fail
  refine (SX.out w4 xx).mono ?_
  rintro e w5 ⟨rfl, By⟩
  have Bx5 := below_then xx By
  clear By
  go_simp
  refine hK.out _ _ trivial ?_
  try simp only [Act.put, List.setIfInBounds_toArray, List.set_cons_zero, List.set_cons_succ]
  clear hK K
  refine c_P trivial 2 rfl ?_
  refine c_R (fun w' => Ext w4 w') Bx5 trivial 3 rfl (fun w' hw' => by obtain ⟨q0, q1⟩ := (y11.ext hw').cells; go_simp; with_reducible rfl) ?_
  refine c_P ⟨Bx5, trivial⟩ 4 rfl ?_
  refine c_P ⟨Bx5, trivial⟩ 5 rfl ?_
  refine c_P ⟨Bx5, trivial⟩ 6 rfl ?_
  refine c_move 7 (by kernel_rfl) (c_op 7 [] (by kernel_rfl) rfl (by kernel_rfl) (fun K hK => ?_))
  go_wp2_with fail
  refine (OD.out what at_ n I1.out I2.out I3.out w5 Bx5).mono ?_
  rintro e w6 ⟨fr6, v6, rfl, OR6⟩
  have Bx6 := below_then Bx5 OR6.2.1
  go_simp
  refine hK.out _ _ trivial ?_
  try simp only [Act.put, List.setIfInBounds_toArray, List.set_cons_zero, List.set_cons_succ]
  clear hK K
  refine c_move 8 (by kernel_rfl) (c_op 8 [] (by kernel_rfl) rfl (by kernel_rfl) (fun K hK => ?_))
  go_wp2_with fail
  refine (OR6.same (by decide)).mono ?_
  rintro e w7 ⟨rfl, By⟩
  have Bx7 := below_then Bx6 By
  clear By
  go_simp
  refine hK.out _ _ trivial ?_
  try simp only [Act.put, List.setIfInBounds_toArray, List.set_cons_zero, List.set_cons_succ]
  clear hK K
  refine c_P trivial 9 rfl ?_
  refine c_P trivial 10 rfl ?_
  refine c_R (fun w' => Ext w4 w') Bx7 trivial 11 rfl (fun w' hw' => by obtain ⟨q0, q1⟩ := (y11.ext hw').cells; go_simp; with_reducible rfl) ?_
  refine c_P ⟨Bx7, trivial⟩ 12 rfl ?_
  refine c_P ⟨Bx7, trivial⟩ 13 rfl ?_
  refine c_P ⟨Bx7, trivial⟩ 14 rfl ?_
  refine c_R (fun _ => True) trivial ⟨Bx7, trivial⟩ 15 rfl (fun w' _ => by go_simp; first | with_reducible rfl | (rw [e1])) ?_
  refine c_move 16 (by kernel_rfl) (c_op 16 [] (by kernel_rfl) rfl (by kernel_rfl) (fun K hK => ?_))
  go_wp2_with fail
  refine (OD.out what at_ m1 I1.out I2.out (i64_nat _ (by omega)) w7 Bx7).mono ?_
  rintro e w8 ⟨fr8, v8, rfl, OR8⟩
  have Bx8 := below_then Bx7 OR8.2.1
  go_simp
  refine hK.out _ _ trivial ?_
  try simp only [Act.put, List.setIfInBounds_toArray, List.set_cons_zero, List.set_cons_succ]
  clear hK K
  refine c_move 17 (by kernel_rfl) (c_op 17 [] (by kernel_rfl) rfl (by kernel_rfl) (fun K hK => ?_))
  go_wp2_with fail
  refine (OR8.same (by decide)).mono ?_
  rintro e w9 ⟨rfl, By⟩
  have Bx9 := below_then Bx8 By
  clear By
  go_simp
  refine hK.out _ _ trivial ?_
  try simp only [Act.put, List.setIfInBounds_toArray, List.set_cons_zero, List.set_cons_succ]
  clear hK K
  refine c_P trivial 18 rfl ?_
  refine c_P trivial 19 rfl ?_
  refine c_R (fun w' => Ext w4 w') Bx9 trivial 20 rfl (fun w' hw' => by obtain ⟨q0, q1⟩ := (y11.ext hw').cells; go_simp; with_reducible rfl) ?_
  refine c_P ⟨Bx9, trivial⟩ 21 rfl ?_
  refine c_P ⟨Bx9, trivial⟩ 22 rfl ?_
  refine c_R (fun _ => True) trivial ⟨Bx9, trivial⟩ 23 rfl (fun w' _ => by go_simp; with_reducible rfl) ?_
  refine c_P ⟨trivial, Bx9, trivial⟩ 24 rfl ?_
  refine c_R (fun _ => True) trivial ⟨trivial, Bx9, trivial⟩ 25 rfl (fun w' _ => by go_simp; with_reducible rfl) ?_
  refine c_P ⟨trivial, trivial, Bx9, trivial⟩ 27 rfl ?_
  refine c_P ⟨trivial, trivial, Bx9, trivial⟩ 28 rfl ?_
  refine c_R (fun _ => True) trivial ⟨trivial, trivial, Bx9, trivial⟩ 29 rfl (fun w' _ => by go_simp; with_reducible rfl) ?_
  refine c_P ⟨trivial, trivial, trivial, Bx9, trivial⟩ 30 rfl ?_
  refine c_R (fun _ => True) trivial ⟨trivial, trivial, trivial, Bx9, trivial⟩ 31 rfl (fun w' _ => by go_simp; with_reducible rfl) ?_
  refine c_move 26 (by kernel_rfl) (c_op 26 [(31, fun _ => True), (29, fun _ => True)] (by kernel_rfl) rfl (by kernel_rfl) (fun K hK => ?_))
  go_wp2_with fail
  refine (OD.out what m2 m3 I1.out (i64_nat _ (by omega)) (i64_nat _ (by omega)) w9 Bx9).mono ?_
  rintro e w10 ⟨fr10, v10, rfl, OR10⟩
  have Bx10 := below_then Bx9 OR10.2.1
  go_simp
  refine hK.out _ _ ⟨trivial, trivial, trivial⟩ ?_
  try simp only [Act.put, List.setIfInBounds_toArray, List.set_cons_zero, List.set_cons_succ]
  clear hK K
  obtain ⟨OF, OB, l9, OT, OO⟩ := OR10
  refine c_move 32 (by kernel_rfl) (c_op 32 [] (by kernel_rfl) rfl (by kernel_rfl) (fun K hK => ?_))
  go_wp2_with fail
  refine (odd_any fr10 v10 l9 n m2 m4 11 w10 OT OO (by decide) OF I3.out (i64_nat _ (by omega)) (i64_nat _ (by omega))).mono ?_
  rintro e w11 ⟨fr11, v11, rfl, OR11⟩
  have Bx11 := below_then Bx10 OR11.2.1
  go_simp
  refine hK.out _ _ trivial ?_
  try simp only [Act.put, List.setIfInBounds_toArray, List.set_cons_zero, List.set_cons_succ]
  clear hK K
  refine c_move 33 (by kernel_rfl) (c_op 33 [] (by kernel_rfl) rfl (by kernel_rfl) (fun K hK => ?_))
  go_wp2_with fail
  refine (OR11.same (by decide)).mono ?_
  rintro e w12 ⟨rfl, By⟩
  have Bx12 := below_then Bx11 By
  clear By
  go_simp
  refine hK.out _ _ trivial ?_
  try simp only [Act.put, List.setIfInBounds_toArray, List.set_cons_zero, List.set_cons_succ]
  clear hK K
  refine c_P trivial 34 rfl ?_
  refine c_P trivial 35 rfl ?_
  refine c_R (fun w' => Ext w4 w') Bx12 trivial 36 rfl (fun w' hw' => by obtain ⟨q0, q1⟩ := (y12.ext hw').cells; go_simp; with_reducible rfl) ?_
  refine c_move 37 (by kernel_rfl) (c_op 37 [] (by kernel_rfl) rfl (by kernel_rfl) (fun K hK => ?_))
  go_wp2_with fail
  refine (SY.out w12 Bx12).mono ?_
  rintro e w13 ⟨rfl, By⟩
  have Bx13 := below_then Bx12 By
  clear By
  go_simp
  refine hK.out _ _ trivial ?_
  try simp only [Act.put, List.setIfInBounds_toArray, List.set_cons_zero, List.set_cons_succ]
  clear hK K
  refine c_P trivial 38 rfl ?_
  refine c_P trivial 39 rfl ?_
  refine c_R (fun w' => Ext w4 w') Bx13 trivial 40 rfl (fun w' hw' => by obtain ⟨q0, q1⟩ := (y11.ext hw').cells; go_simp; with_reducible rfl) ?_
  refine c_R (fun w' => Ext w4 w') Bx13 ⟨Bx13, trivial⟩ 41 rfl (fun w' hw' => by obtain ⟨q0, q1⟩ := (y12.ext hw').cells; go_simp; with_reducible rfl) ?_
  refine c_R (fun w' => Ext w4 w') Bx13 ⟨Bx13, Bx13, trivial⟩ 43 rfl (fun w' hw' => by obtain ⟨q0, q1⟩ := (y11.ext hw').cells; go_simp; with_reducible rfl) ?_
  refine c_R (fun w' => Ext w4 w') Bx13 ⟨Bx13, Bx13, Bx13, trivial⟩ 44 rfl (fun w' hw' => by obtain ⟨q0, q1⟩ := (y12.ext hw').cells; go_simp; with_reducible rfl) ?_
  refine c_move 42 (by kernel_rfl) (c_op 42 [(44, fun w' => Ext w4 w'), (43, fun w' => Ext w4 w')] (by kernel_rfl) rfl (by kernel_rfl) (fun K hK => ?_))
  go_wp2_with fail
  refine (EQ.out w13 Bx13).mono ?_
  rintro e w14 ⟨rfl, By⟩
  have Bx14 := below_then Bx13 By
  clear By
  go_simp
  refine hK.out _ _ ⟨Bx14, Bx14, trivial⟩ ?_
  try simp only [Act.put, List.setIfInBounds_toArray, List.set_cons_zero, List.set_cons_succ]
  clear hK K
  refine c_move 45 (by kernel_rfl) (c_op 45 [] (by kernel_rfl) rfl (by kernel_rfl) (fun K hK => ?_))
  go_wp2_with fail
  refine (RQ.out w14 Bx14).mono ?_
  rintro e w15 ⟨rfl, By⟩
  have Bx15 := below_then Bx14 By
  clear By
  go_simp
  refine hK.out _ _ trivial ?_
  try simp only [Act.put, List.setIfInBounds_toArray, List.set_cons_zero, List.set_cons_succ]
  clear hK K
  refine c_P trivial 46 rfl ?_
  refine c_P trivial 47 rfl ?_
  refine c_P trivial 48 rfl ?_
  refine c_move 49 (by kernel_rfl) (c_op 49 [] (by kernel_rfl) rfl (by kernel_rfl) (fun K hK => ?_))
  go_wp2_with fail
  refine (known_law w15).mono ?_
  rintro e w16 ⟨rfl, By⟩
  have Bx16 := below_then Bx15 By
  clear By
  go_simp
  refine hK.out _ _ trivial ?_
  try simp only [Act.put, List.setIfInBounds_toArray, List.set_cons_zero, List.set_cons_succ]
  clear hK K
  refine c_P trivial 50 rfl ?_
  refine c_P trivial 51 rfl ?_
  refine c_done (by kernel_rfl) ?_
  go_wp2
  go_ret
  exact ⟨rfl, below_then B1 Bx16⟩

end Go.Proofs.Ytffjhimdamdenaa
