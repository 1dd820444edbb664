/- The statements' own tape; a raw table cut short. -/
import Derived.Test.YtffjhimdamdenaaBN
namespace Go.Proofs.Ytffjhimdamdenaa
open Go.RowKit

theorem info_int11 : (Try.prog.info? 3).map (fun i => (i.zero, i.size, i.bytes)) = some (some (.int .i64 0), 1, 8) := by kernel_rfl
set_option maxRecDepth 100000 in
set_option maxHeartbeats 1000000 in
theorem tape_law11 (k : Nat) (w : World) (hk : k ≤ 1000) :
    Calls Try.prog 7 #[.int .i64 k] w fun e w' => ∃ v', e = .returned v' ∧ ∃ l : List Int, Row w' v' (l.map iV) ∧ (∀ x ∈ l, -9223372036854775808 ≤ x ∧ x ≤ 9223372036854775807) ∧ Below w.heap.size w w' := by
  go_enter Try.func7, Try.ntmps7
  go_wp2
  go_loopw [3, 4] (fun z i wr => ∃ (j : Nat) (l : List Int), j ≤ 900 ∧ i = .int .i64 j ∧ wr.ownsRow w.heap.size 3 1 z j (l.map iV) ∧ Hid (∀ x ∈ l, -9223372036854775808 ≤ x ∧ x ≤ 9223372036854775807) ∧ Below w.heap.size w wr) (fun _ i _ => 900 - (intOf i).toNat)
  case atStart => exact ⟨0, [], by omega, rfl, World.ownsRow_nil _ _ _ _, fun x hx => by simp at hx, Below.refl _ _⟩
  case round =>
    obtain ⟨j, l, hj, rfl, ho, HL, hb⟩ := hrel
    have hz := hb.size
    by_cases hlt : j < 900
    · have hlt' : (j : Int) < 900 := by omega
      have p1 : (j : Int) * j ≤ 810000 := by
        have := Nat.mul_le_mul hj hj
        have e : ((j * j : Nat) : Int) = (j : Int) * j := by simp
        omega
      have p0 : 0 ≤ (j : Int) * j := by
        have e : ((j * j : Nat) : Int) = (j : Int) * j := by simp
        omega
      have p3 : (j : Int) * k ≤ 900000 := by
        have := Nat.mul_le_mul hj hk
        have e : ((j * k : Nat) : Int) = (j : Int) * k := by simp
        omega
      have p2 : 0 ≤ (j : Int) * k := by
        have e : ((j * k : Nat) : Int) = (j : Int) * k := by simp
        omega
      obtain ⟨t, ht⟩ : ∃ t, ((j : Int) * j * 7 + (k : Int) * 53 + (j : Int) * k) % 211 = t := ⟨_, rfl⟩
      have t0 : 0 ≤ t := by omega
      have t1 : t ≤ 210 := by omega
      have RN := row_new wr [.int .i64 t] 3 1 rfl (by decide)
      go_wp2_with (at_builtin; refine wpList_app rfl (.tmp 9) (.tmp 22) 26 rfl w.heap.size 3 (.int .i64 0) 8 Try.underlying26 info_int11 rfl rfl (ho.alloc _) rfl RN (by intro u hu; simp at hu; subst hu; rfl) (by simp [maxLen]; omega) (by simp; omega) (by simp; omega) ?_)
      intro v7 w7 ho7 hg7
      have B7 := (hb.alloc hz (.cells #[.int .i64 t] 3)).grown hg7 (by simp; omega) (fun k hk => (ho.lt k hk).1)
      clear ht p0 p1 p2 p3 RN
      go_wp2
      go_roundw
      case rel => exact ⟨j + 1, l ++ [t], by omega, by go_num, by simpa using ho7, fun y hy => by
        rcases List.mem_append.1 hy with h | h
        · exact HL.out y h
        · simp at h; omega, B7⟩
      case measure => simp [intOf]; omega
    · have hlt' : ¬ (j : Int) < 900 := by omega
      go_wp2
      go_ret
      exact ⟨_, rfl, l, Row.of_owns ho, HL.out, hb⟩

theorem tap_new (w : World) (a : Option Addr) (n cap : Nat) (l : List Int) (h : Row w (.slice a n cap) (l.map iV)) (hi : ∀ x ∈ l, -9223372036854775808 ≤ x ∧ x ≤ 9223372036854775807) :
    Tap (w.heap.size + 1) (w.alloc (.cells #[.slice a n cap, .int .i64 0] 29)) w.heap.size l := by
  have hb : Below w.heap.size w (w.alloc (.cells #[.slice a n cap, .int .i64 0] 29)) := (Below.refl _ _).alloc (Nat.le_refl _) _
  refine ⟨⟨.slice a n cap, 0, Nat.zero_le _, Blk.new w 29 [.slice a n cap, .int .i64 0], h.below hb, ?_⟩, fun i hl => ?_, by omega⟩
  · by_cases h0 : l = []
    · left; rw [h0]; rfl
    · right
      intro a' n' c' e
      simp only [Value.slice.injEq] at e
      obtain ⟨rfl, -, -⟩ := e
      obtain ⟨a2, cap2, e, -, -, -, h4⟩ := h
      simp only [Value.slice.injEq] at e
      obtain ⟨rfl, -, -⟩ := e
      rcases h4 with h4 | ⟨b, off, e, hc⟩
      · exact absurd (by simpa using h4) h0
      · cases e
        have hp : 0 < (l.map iV).length := by rw [List.length_map]; exact List.length_pos_iff.2 h0
        have := hc 0 hp
        rw [List.getElem?_eq_getElem hp] at this
        have := lt_of_cell this
        exact ⟨by simp only; omega, by simp only; omega⟩
  · have : l.getD i 0 ∈ l := by
      rw [List.getD_eq_getElem?_getD, List.getElem?_eq_getElem hl]; exact List.getElem_mem hl
    exact hi _ this

theorem Lsf.cut {α : Type} {k : Nat} {f : α → List Value} {w : World} {a : Option Addr} {n cap : Nat} {l : List α} (h : Lsf k f w (.slice a n cap) l) (c : Nat) (C : Int) (hC : C = (c : Int)) : ∃ m : Nat, m ≤ c ∧ m ≤ cap ∧ (if C < (n : Int) then C else (n : Int)) = (m : Int) ∧ Lsf k f w (.slice a m cap) (l.take m) ∧ (l.take m).length = m := by
  obtain ⟨h1, h2, -, -⟩ := h.at
  exact ⟨min c n, by omega, by omega, by split <;> omega, h.take _ (by omega), by rw [List.length_take]; omega⟩

set_option maxRecDepth 100000 in
set_option maxHeartbeats 8000000 in
theorem few_any (fr : Int) (v : Value) (l : List Tn) (w : World) (ht : Tns w v l) (ok : OkNs l) :
    Calls Try.prog 13 #[taV fr v] w fun e w' => ∃ v', e = .returned (taV fr v') ∧ Below w.heap.size w w' ∧ ∃ l', Tns w' v' l' ∧ OkTb 8 l' := by
  have HT := hidden ht
  have OK := hidden ok
  obtain ⟨a, cap, rfl, hc, hm⟩ := ht.sl
  unfold maxLen at hm
  have y1 := (BxA.new w fr (.slice a l.length cap)).alloc (.cells #[.int .i64 0, .slice none 0 0] 24)
  have bb := ((Below.refl w.heap.size w).alloc (Nat.le_refl _) (boxA fr (.slice a l.length cap))).alloc (by simp) (.cells #[.int .i64 0, .slice none 0 0] 24)
  have y2 := Blk.new (w.alloc (boxA fr (.slice a l.length cap))) 24 [.int .i64 0, .slice none 0 0]
  simp only [World.size_alloc] at y2
  clear ht ok
  go_enter Try.func13, Try.ntmps13
  go_wp2
  go_loopw [3, 4] (fun z i wr => ∃ (k : Nat) (es : List TE), k ≤ 5 ∧ k ≤ l.length ∧ i = .int .i64 k ∧ wr.ownsRow (w.heap.size + 1 + 1) 43 5 z k (tcs es) ∧ Hid (∀ e ∈ es, Wns w e.2.1 e.1.ws ∧ Sts w e.2.2 e.1.ss ∧ OkN e.1 ∧ e.1.ws.length ≤ 8 ∧ e.1.ss.length ≤ 8) ∧ BxA wr w.heap.size fr (.slice a l.length cap) ∧ Blk wr (w.heap.size + 1) 24 [.int .i64 0, .slice none 0 0] ∧ Below w.heap.size w wr) (fun _ i _ => 5 - (intOf i).toNat)
  case atStart => exact ⟨0, [], by omega, by omega, rfl, owns_nilL _ _ _ _, hidden (fun e he => by cases he), y1, y2, bb⟩
  case round =>
    clear y1 y2 bb
    obtain ⟨k, es, hk, hk2, rfl, ot, HE, y1, y2, bb⟩ := hrel
    obtain ⟨za, zn, zc, rfl⟩ := owns_slice ot
    obtain ⟨c0, c1⟩ := y1.cells
    have hst : k < l.length ∧ k < 5 ∨ ¬ (k < l.length ∧ k < 5) := Classical.em _
    rcases hst with ⟨h1, h2⟩ | h12
    · have h1' : (k : Int) < (l.length : Int) := by omega
      have h2' : (k : Int) < 5 := by omega
      obtain ⟨x, hx⟩ := getx h1
      obtain ⟨b, off, vw, vs, rfl, t0, t1, t2, t3, t4, hw, hs⟩ := HT.out.at hx
      have tb := fun {o : Nat} {u : Value} (h : w.cell? ⟨b, o, none⟩ = some u) => (by rw [bb.cell (p := ⟨b, o, none⟩) (lt_of_cell h)]; exact h : wr.cell? ⟨b, o, none⟩ = some u)
      have u0 := tb t0
      have u1 := tb t1
      have u2 := tb t2
      have u3 := tb t3
      have u4 := tb t4
      clear tb t0 t1 t2 t3 t4
      obtain ⟨aw, nw, cw, rfl⟩ := Lsf.isl hw
      obtain ⟨sa, ns, cs, rfl⟩ := Lsf.isl hs
      obtain ⟨mw, mw1, mw2, mwe, W, mwl⟩ := hw.cut 8 8 rfl
      obtain ⟨ms, ms1, ms2, mse, S, msl⟩ := hs.cut 4 4 rfl
      obtain ⟨-, -, cwm, -⟩ := hw.at
      obtain ⟨-, -, csm, -⟩ := hs.at
      unfold maxLen at cwm csm
      have OX := hidden (OK.out x (List.mem_of_getElem? hx))
      have E9 := (Below.refl wr.heap.size wr).alloc (Nat.le_refl _) (boxT x (.slice aw nw cw) (.slice sa ns cs))
      have x9 := (BxT.new wr x (.slice aw nw cw) (.slice sa ns cs)).drew
      have ot9 := owns_belowS (owns_belowS ot E9) (Below.refl _ _).drew
      have y19 := (y1.ext E9).drew
      have y29 := (y2.below E9 y2.lt).drew
      have bb9 := (below_then bb E9).drew
      have hyl := y2.lt
      have HW := hidden W
      have HS := hidden S
      have hot := fun g e => (ot.lt g e).2
      clear hx hw hs E9 W S
      go_wp2
      refine c_begin 18 rfl (by kernel_rfl) ?_
      clear c0 c1 u0 u1 u2 u3 u4 y1 y2 bb ot
      generalize wr.heap.size = g9 at *
      generalize (wr.alloc (boxT x (.slice aw nw cw) (.slice sa ns cs))).drew = w4 at *
      have xx := Ext.refl w4
      refine c_P trivial 0 rfl ?_
      refine c_R (fun w' => Ext w4 w') xx trivial 1 rfl (fun w' hw' => by obtain ⟨q0, q1, q2, q3, q4⟩ := (x9.ext hw').cells; go_simp; with_reducible rfl) ?_
      refine c_P ⟨xx, trivial⟩ 2 rfl ?_
      refine c_R (fun w' => Ext w4 w') xx ⟨xx, trivial⟩ 3 rfl (fun w' hw' => by obtain ⟨q0, q1, q2, q3, q4⟩ := (x9.ext hw').cells; go_simp; with_reducible rfl) ?_
      refine c_P ⟨xx, xx, trivial⟩ 4 rfl ?_
      refine c_R (fun _ => True) trivial ⟨xx, xx, trivial⟩ 5 rfl (fun w' _ => by go_simp; first | (rw [mwe]) | with_reducible rfl) ?_
      refine c_R (fun _ => True) trivial ⟨trivial, xx, xx, trivial⟩ 6 rfl (fun w' _ => by go_simp; first | with_reducible rfl | (rw [if_pos (by omega)])) ?_
      refine c_P ⟨trivial, trivial, xx, xx, trivial⟩ 7 rfl ?_
      refine c_R (fun w' => Ext w4 w') xx ⟨trivial, trivial, xx, xx, trivial⟩ 8 rfl (fun w' hw' => by obtain ⟨q0, q1, q2, q3, q4⟩ := (x9.ext hw').cells; go_simp; with_reducible rfl) ?_
      refine c_P ⟨xx, trivial, trivial, xx, xx, trivial⟩ 9 rfl ?_
      refine c_R (fun w' => Ext w4 w') xx ⟨xx, trivial, trivial, xx, xx, trivial⟩ 10 rfl (fun w' hw' => by obtain ⟨q0, q1, q2, q3, q4⟩ := (x9.ext hw').cells; go_simp; with_reducible rfl) ?_
      refine c_P ⟨xx, xx, trivial, trivial, xx, xx, trivial⟩ 11 rfl ?_
      refine c_R (fun _ => True) trivial ⟨xx, xx, trivial, trivial, xx, xx, trivial⟩ 12 rfl (fun w' _ => by go_simp; first | (rw [mse]) | with_reducible rfl) ?_
      refine c_R (fun _ => True) trivial ⟨trivial, xx, xx, trivial, trivial, xx, xx, trivial⟩ 13 rfl (fun w' _ => by go_simp; first | with_reducible rfl | (rw [if_pos (by omega)])) ?_
      obtain ⟨q0, q1, q2, q3, q4⟩ := x9.cells
      have f3 : w4.frozen? ⟨g9, 3, none⟩ = false := Blk.frozen x9 3
      have f4 : w4.frozen? ⟨g9, 4, none⟩ = false := Blk.frozen x9 4
      refine c_P ⟨trivial, trivial, xx, xx, trivial, trivial, xx, xx, trivial⟩ 14 rfl ?_
      refine c_move 15 (by kernel_rfl) (c_op 15 [(13, fun _ => True), (12, fun _ => True)] (by kernel_rfl) rfl (by kernel_rfl) (fun K hK => ?_))
      go_simp
      refine hK.out _ _ ⟨trivial, trivial, trivial⟩ ?_
      try simp only [Act.put, List.setIfInBounds_toArray, List.set_cons_zero, List.set_cons_succ]
      clear hK K
      refine c_P ⟨trivial, trivial, trivial⟩ 16 rfl ?_
      refine c_move 17 (by kernel_rfl) (c_op 17 [] (by kernel_rfl) rfl (by kernel_rfl) (fun K hK => ?_))
      go_simp
      refine hK.out _ _ trivial ?_
      try simp only [Act.put, List.setIfInBounds_toArray, List.set_cons_zero, List.set_cons_succ]
      clear hK K
      refine c_done (by kernel_rfl) ?_
      have x5 : BxT ((w4.setCell ⟨g9, 3, none⟩ (.slice aw mw cw)).setCell ⟨g9, 4, none⟩ (.slice sa ms cs)) g9 (⟨x.u, x.f, x.q, x.ws.take mw, x.ss.take ms⟩ : Tn) (.slice aw mw cw) (.slice sa ms cs) := Blk.set (Blk.set x9 3 (.slice aw mw cw)) 4 (.slice sa ms cs)
      have ot5 := owns_set2 (u := .slice sa ms cs) (owns_set2 (u := .slice aw mw cw) ot9 g9 3 (fun e => absurd (hot _ e) (Nat.lt_irrefl _))) g9 4 (fun e => absurd (hot _ e) (Nat.lt_irrefl _))
      have y5 : BxA ((w4.setCell ⟨g9, 3, none⟩ (.slice aw mw cw)).setCell ⟨g9, 4, none⟩ (.slice sa ms cs)) w.heap.size fr _ := Blk.set_neW (Blk.set_neW y19 (show g9 ≠ w.heap.size by omega) 3 (.slice aw mw cw)) (show g9 ≠ w.heap.size by omega) 4 (.slice sa ms cs)
      have z5 := (y29.set_neW (show g9 ≠ w.heap.size + 1 by omega) 3 (.slice aw mw cw)).set_neW (show g9 ≠ w.heap.size + 1 by omega) 4 (.slice sa ms cs)
      have bb5 := (bb9.setCell (p := ⟨g9, 3, none⟩) (show w.heap.size ≤ g9 by omega) (.slice aw mw cw)).setCell (p := ⟨g9, 4, none⟩) (show w.heap.size ≤ g9 by omega) (.slice sa ms cs)
      clear x9 ot9 y19 y29 bb9 q0 q1 q2 q3 q4 f3 f4 hot xx
      generalize ((w4.setCell ⟨g9, 3, none⟩ (.slice aw mw cw)).setCell ⟨g9, 4, none⟩ (.slice sa ms cs)) = w5 at *
      obtain ⟨q0, q1, q2, q3, q4⟩ := x5.cells
      simp only at q0 q1 q2
      have E9 := (Below.refl w5.heap.size w5).alloc (Nat.le_refl _) (boxT (⟨x.u, x.f, x.q, x.ws.take mw, x.ss.take ms⟩ : Tn) (.slice aw mw cw) (.slice sa ms cs))
      have O9 := hidden (owns_belowS ot5 E9)
      have Y9 := hidden (y5.ext E9)
      have Z9 := hidden (z5.below E9 z5.lt)
      have B9 := hidden (below_then bb5 E9)
      have hz5 := z5.lt
      clear x5 ot5 y5 z5 bb5 E9
      go_wp2_with (at_builtin; refine wpList_pushL (v := .slice za zn zc) rfl (.tmp 38) (.tmp 40) 22 43 rfl (w.heap.size + 1 + 1) 5 72 (.agg #[.int .i64 0, .int .u32 0, .int .i64 0, .slice none 0 0, .slice none 0 0]) Try.underlying22 info_ten rfl (by decide) rfl O9.out _ 1 [.int .i64 x.u, .int .u32 x.f, .int .i64 x.q, .slice aw mw cw, .slice sa ms cs] rfl ?h0 rfl one_ten ?h1 ?h2 ?h3 ?h4)
      case h0 => exact BxT.new w5 (⟨x.u, x.f, x.q, x.ws.take mw, x.ss.take ms⟩ : Tn) (.slice aw mw cw) (.slice sa ms cs)
      case h1 => omega
      case h2 => unfold maxLen; omega
      case h3 => simp; omega
      case h4 =>
        intro v9 w9 p1 p2 p3
        obtain ⟨na, nn, nc, rfl⟩ := owns_slice p1
        have lt := fun g e => (O9.out.lt g e).1
        have y9 : BxA w9 w.heap.size fr _ := Blk.grownL Y9.out p2 (fun e => by have := lt _ e; omega)
        have z9 := Z9.out.grownL p2 (fun e => by have := lt _ e; omega)
        have b9 := B9.out.grown p2 (by simp; omega) (fun g e => by have := lt _ e; omega)
        clear q0 q1 q2 q3 q4 lt
        go_wp2
        go_roundw
        case rel => exact ⟨k + 1, es ++ [((⟨x.u, x.f, x.q, x.ws.take mw, x.ss.take ms⟩ : Tn), .slice aw mw cw, .slice sa ms cs)], by omega, by omega, by go_num, by rw [tcs_app]; simpa [tcs, tf] using p1, hidden (fun e he => by
          rcases List.mem_append.1 he with he | he
          · exact HE.out e he
          · simp only [List.mem_singleton] at he
            subst he
            exact ⟨HW.out, HS.out, ⟨OX.out.u, OX.out.f, OX.out.q, OX.out.ws.take _, fun z hz => OX.out.ss z (List.mem_of_mem_take hz)⟩, by show (x.ws.take mw).length ≤ 8; omega, by show (x.ss.take ms).length ≤ 8; omega⟩), y9, z9, b9⟩
        case measure => simp [intOf]; omega
    · by_cases h1 : k < l.length
      · have h1' : (k : Int) < (l.length : Int) := by omega
        have h2' : ¬ (k : Int) < 5 := by omega
        have d0 := y2.cell 0
        have d1 := y2.cell 1
        simp only [List.getElem?_cons_succ, List.getElem?_cons_zero] at d0 d1
        have f1 : wr.frozen? ⟨w.heap.size, 1, none⟩ = false := Blk.frozen y1 1
        have d2 := y2.frozen 0
        have d3 := y2.frozen 1
        go_wp2
        have lt := fun g e => (ot.lt g e).1
        have y3 := ((y2.set_neW (show w.heap.size ≠ w.heap.size + 1 by omega) 1 (.slice za zn zc)).set 0 (.int .i64 fr)).set 1 (.slice za zn zc)
        have o3 := owns_set2 (u := .slice za zn zc) (owns_set2 (u := .int .i64 fr) (owns_set2 (u := .slice za zn zc) ot w.heap.size 1 (fun e => by have := lt _ e; omega)) (w.heap.size + 1) 0 (fun e => by have := lt _ e; omega)) (w.heap.size + 1) 1 (fun e => by have := lt _ e; omega)
        have b3 := ((bb.setCell (p := ⟨w.heap.size, 1, none⟩) (Nat.le_refl _) (.slice za zn zc)).setCell (p := ⟨w.heap.size + 1, 0, none⟩) (show w.heap.size ≤ w.heap.size + 1 by omega) (.int .i64 fr)).setCell (p := ⟨w.heap.size + 1, 1, none⟩) (show w.heap.size ≤ w.heap.size + 1 by omega) (.slice za zn zc)
        have q0 := y3.cell 0
        have q1 := y3.cell 1
        simp at q0 q1
        have hlen : es.length = k := by have h := ot.1; rw [tcs_len] at h; omega
        refine bodyPost_ret (v := _) (by simp [results, Try.results13, go_sem, q0, q1]; with_reducible rfl) rfl ?_
        exact ⟨_, rfl, b3, es.map (·.1), ⟨es, rfl, Lsf.of_owns tf_len (by decide) o3, fun e he => ⟨(HE.out e he).1.ext b3, (HE.out e he).2.1.ext b3⟩⟩, fun z hz => by
          obtain ⟨e, he, rfl⟩ := List.mem_map.1 hz
          exact (HE.out e he).2.2, by rw [List.length_map]; omega⟩
      · have h1' : ¬ (k : Int) < (l.length : Int) := by omega
        have d0 := y2.cell 0
        have d1 := y2.cell 1
        simp only [List.getElem?_cons_succ, List.getElem?_cons_zero] at d0 d1
        have f1 : wr.frozen? ⟨w.heap.size, 1, none⟩ = false := Blk.frozen y1 1
        have d2 := y2.frozen 0
        have d3 := y2.frozen 1
        go_wp2
        have lt := fun g e => (ot.lt g e).1
        have y3 := ((y2.set_neW (show w.heap.size ≠ w.heap.size + 1 by omega) 1 (.slice za zn zc)).set 0 (.int .i64 fr)).set 1 (.slice za zn zc)
        have o3 := owns_set2 (u := .slice za zn zc) (owns_set2 (u := .int .i64 fr) (owns_set2 (u := .slice za zn zc) ot w.heap.size 1 (fun e => by have := lt _ e; omega)) (w.heap.size + 1) 0 (fun e => by have := lt _ e; omega)) (w.heap.size + 1) 1 (fun e => by have := lt _ e; omega)
        have b3 := ((bb.setCell (p := ⟨w.heap.size, 1, none⟩) (Nat.le_refl _) (.slice za zn zc)).setCell (p := ⟨w.heap.size + 1, 0, none⟩) (show w.heap.size ≤ w.heap.size + 1 by omega) (.int .i64 fr)).setCell (p := ⟨w.heap.size + 1, 1, none⟩) (show w.heap.size ≤ w.heap.size + 1 by omega) (.slice za zn zc)
        have q0 := y3.cell 0
        have q1 := y3.cell 1
        simp at q0 q1
        have hlen : es.length = k := by have h := ot.1; rw [tcs_len] at h; omega
        refine bodyPost_ret (v := _) (by simp [results, Try.results13, go_sem, q0, q1]; with_reducible rfl) rfl ?_
        exact ⟨_, rfl, b3, es.map (·.1), ⟨es, rfl, Lsf.of_owns tf_len (by decide) o3, fun e he => ⟨(HE.out e he).1.ext b3, (HE.out e he).2.1.ext b3⟩⟩, fun z hz => by
          obtain ⟨e, he, rfl⟩ := List.mem_map.1 hz
          exact (HE.out e he).2.2, by rw [List.length_map]; omega⟩

end Go.Proofs.Ytffjhimdamdenaa
