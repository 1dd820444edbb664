/- The walk of burgagelaw11.TableCopies. -/
import Derived.Test.YtffjhimdamdenaaBV1
import Derived.Deep.CutRange
namespace Go.Proofs.Ytffjhimdamdenaa
open Go.RowKit

/-- a copy lies in new memory of its own -/
theorem copy_cy (fr : Int) (v : Value) (l : List Tn) (w0 w : World) (h : Ext w0 w) (ht : Tns w v l) (ho : OkTs l) : Calls Try.prog 16 #[taV fr v] w fun e w' => ∃ vt, e = .returned (taV fr vt) ∧ ∃ es : List TE, es.map (·.1) = l ∧ CY w0 w' w.heap.size w'.heap.size vt es ∧ Below w.heap.size w w' := by
  obtain ⟨es0, rfl, hL, hE⟩ := ht
  refine (copy_any fr v es0 w hL hE (by have := ho.2; simpa using this) (fun e he => ?_)).mono ?_
  · have := ho.1 e.1 (List.mem_map.2 ⟨e, he, rfl⟩)
    have h1 := this.wl
    have h2 := this.sl
    omega
  · rintro e w' ⟨vt, rfl, es, hm, ot, HU, B⟩
    exact ⟨vt, rfl, es, hm, CY.made h ot HU B, B⟩

set_option maxRecDepth 100000 in
set_option maxHeartbeats 16000000 in
theorem copies_law (at' : Option Addr) (m cap : Nat) (lt : List Int) (at_ n : Int) (w : World) (h : Row w (.slice at' m cap) (lt.map iV)) (hi : ∀ x ∈ lt, -9223372036854775808 ≤ x ∧ x ≤ 9223372036854775807) (h1 : i64 at_) (h2 : i64 n) :
    Calls Try.prog 6 #[.slice at' m cap, .int .i64 at_, .int .i64 n] w fun e w' => e = .returned (.bool true) ∧ Below w.heap.size w w' := by
  have I1 := hidden h1
  have I2 := hidden h2
  have T0 := hidden (tap_new w at' m cap lt h hi)
  have B0 := hidden ((Below.refl w.heap.size w).alloc (Nat.le_refl _) (.cells #[.slice at' m cap, .int .i64 0] 29))
  have S1 : Hid (w.heap.size + 1 ≤ (w.alloc (.cells #[.slice at' m cap, .int .i64 0] 29)).heap.size) := by show _ ≤ _; rw [World.size_alloc]; omega
  clear h hi h1 h2
  go_enter Try.func6, Try.ntmps6
  go_wp2_with fail
  refine (table_any _ _ lt _ T0.out S1.out).mono ?_
  rintro e w1 ⟨vt, frx, lx, rfl, T1, OX, D1⟩
  have B1 : Below w.heap.size w w1 := B0.out.trans (D1.below (by have := S1.out; omega) (Nat.le_refl _))
  obtain ⟨tx, cx, rfl, -, -⟩ := T1.sl
  have E := (Below.refl w1.heap.size w1).alloc (Nat.le_refl _) (boxA frx (.slice tx lx.length cx))
  have Y := BxA.new w1 frx (.slice tx lx.length cx)
  replace T1 := T1.ext E
  have HB := hidden (below_then B1 E)
  have HX := hidden OX
  clear T0 B0 S1 B1 D1 E OX
  go_upto_region 2 with fail
  have s7 := Y.lt
  generalize w1.heap.size = g7 at *
  generalize w1.alloc (boxA frx (.slice tx lx.length cx)) = w4 at *
  have HT := hidden T1
  have C1 := hidden (fun w' (b : Ext w4 w') => copy_cy frx _ lx w4 w' b (HT.out.ext b) HX.out.okTs)
  clear T1
  go_cut [8, 9] from 13 to 20 (fun z8 z9 wx => Cop w4 g7 frx (.slice tx lx.length cx) lx z8 z9 wx)
  case first =>
    have dr : Ext w4 w4.drew := (Below.refl _ _).drew
    have yy := Y.drew
    refine c_begin 8 rfl (by kernel_rfl) ?_
    generalize hw5 : w4.drew = w5 at *
    have xx := dr
    have dz : w4.heap.size ≤ w5.heap.size := dr.size
    obtain ⟨n5, hn5⟩ : ∃ n, n = w5.heap.size := ⟨_, rfl⟩
    have z5 : n5 ≤ w5.heap.size := by omega
    rw [← hn5] at dz
    clear hw5 dr hn5
    refine c_R (fun w' => Ext w4 w') xx trivial 0 rfl (fun w' hw' => by obtain ⟨q0, q1⟩ := (Y.ext hw').cells; go_simp; with_reducible rfl) ?_
    refine c_R (fun w' => Ext w4 w') xx ⟨xx, trivial⟩ 2 rfl (fun w' hw' => by obtain ⟨q0, q1⟩ := (Y.ext hw').cells; go_simp; with_reducible rfl) ?_
    refine c_all (rs := [1, 4, 5]) (by kernel_rfl) (by simp) (fun j hj => ?_)
    simp only [List.mem_cons, List.not_mem_nil, or_false] at hj
    rcases hj with rfl | rfl | rfl
    · refine c_op 1 [(2, fun w' => Ext w4 w')] (by kernel_rfl) rfl (by kernel_rfl) (fun K hK => ?_)
      go_wp2_with fail
      refine (C1.out w5 xx).mono ?_
      rintro e w6 ⟨vy, rfl, esy, my, cy, B5⟩
      replace xx := below_then xx B5
      go_simp
      refine hK.out _ _ ⟨xx, trivial⟩ ?_
      try simp only [Act.put, List.setIfInBounds_toArray, List.set_cons_zero, List.set_cons_succ]
      clear hK K
      replace yy := yy.ext B5
      have z6 := B5.size
      clear B5
      refine c_all (rs := [3, 4, 5]) (by kernel_rfl) (by simp) (fun j hj => ?_)
      simp only [List.mem_cons, List.not_mem_nil, or_false] at hj
      rcases hj with rfl | rfl | rfl
      · refine c_op 3 [] (by kernel_rfl) rfl (by kernel_rfl) (fun K hK => ?_)
        go_wp2_with fail
        refine (C1.out w6 xx).mono ?_
        rintro e w7 ⟨vz, rfl, esz, mz, cz, B6⟩
        replace xx := below_then xx B6
        go_simp
        refine hK.out _ _ trivial ?_
        try simp only [Act.put, List.setIfInBounds_toArray, List.set_cons_zero, List.set_cons_succ]
        clear hK K
        replace yy := yy.ext B6
        replace cy := cy.ext B6
        have z7 := B6.size
        clear B6
        refine c_all (rs := [4, 5]) (by kernel_rfl) (by simp) (fun j hj => ?_)
        simp only [List.mem_cons, List.not_mem_nil, or_false] at hj
        rcases hj with rfl | rfl
        · refine c_op 4 [] (by kernel_rfl) rfl (by kernel_rfl) (fun K hK => ?_)
          have B7 : Below w7.heap.size w7 (w7.alloc (.cells #[.int .i64 0, .slice none 0 0] 24)) := (Below.refl _ _).alloc (Nat.le_refl _) (.cells #[.int .i64 0, .slice none 0 0] 24)
          have b8 : Blk (w7.alloc (.cells #[.int .i64 0, .slice none 0 0] 24)) w7.heap.size 24 [.int .i64 0, .slice none 0 0] := Blk.new w7 24 [.int .i64 0, .slice none 0 0]
          replace xx := below_then xx B7
          have z8 := B7.size
          go_simp
          refine hK.out _ _ trivial ?_
          try simp only [Act.put, List.setIfInBounds_toArray, List.set_cons_zero, List.set_cons_succ]
          clear hK K
          replace yy := yy.ext B7
          replace cy := cy.ext B7
          replace cz := cz.ext B7
          have l8 : n5 ≤ w7.heap.size := by omega
          generalize w7.alloc (.cells #[.int .i64 0, .slice none 0 0] 24) = w8 at *
          generalize w7.heap.size = g8 at *
          clear B7
          refine c_move 5 (by kernel_rfl) ?_
          refine c_op 5 [] (by kernel_rfl) rfl (by kernel_rfl) (fun K hK => ?_)
          have B8 : Below w8.heap.size w8 (w8.alloc (.cells #[.int .i64 0, .slice none 0 0] 24)) := (Below.refl _ _).alloc (Nat.le_refl _) (.cells #[.int .i64 0, .slice none 0 0] 24)
          have b9 : Blk (w8.alloc (.cells #[.int .i64 0, .slice none 0 0] 24)) w8.heap.size 24 [.int .i64 0, .slice none 0 0] := Blk.new w8 24 [.int .i64 0, .slice none 0 0]
          replace xx := below_then xx B8
          have z9 := B8.size
          go_simp
          refine hK.out _ _ trivial ?_
          try simp only [Act.put, List.setIfInBounds_toArray, List.set_cons_zero, List.set_cons_succ]
          clear hK K
          replace yy := yy.ext B8
          have n89 := b8.lt
          replace b8 := b8.below B8 b8.lt
          replace cy := cy.ext B8
          replace cz := cz.ext B8
          have l9 : n5 ≤ w8.heap.size := by omega
          generalize w8.alloc (.cells #[.int .i64 0, .slice none 0 0] 24) = w9 at *
          generalize w8.heap.size = g9 at *
          clear B8
          obtain ⟨ay, ky, rfl, -⟩ := owns_sl cy.ot
          obtain ⟨az, kz, rfl, -⟩ := owns_sl cz.ot
          have n98 : g8 ≠ g9 := by omega
          have k0 := b8.cell 0
          have k1 := b8.cell 1
          have fk := b8.frozen
          have gk := b8.lt
          simp at k0 k1
          refine c_move 6 (by kernel_rfl) (c_op 6 [] (by kernel_rfl) rfl (by kernel_rfl) (fun K hK => ?_))
          go_simp
          refine hK.out _ _ trivial ?_
          try simp only [Act.put, List.setIfInBounds_toArray, List.set_cons_zero, List.set_cons_succ]
          clear hK K k0 k1 fk gk
          have b9' := (b9.set_neW n98 0 (.int .i64 frx)).set_neW n98 1 (.slice ay esy.length ky)
          have k0 := b9'.cell 0
          have k1 := b9'.cell 1
          have fk := b9'.frozen
          have gk := b9'.lt
          simp at k0 k1
          refine c_move 7 (by kernel_rfl) (c_op 7 [] (by kernel_rfl) rfl (by kernel_rfl) (fun K hK => ?_))
          go_simp
          refine hK.out _ _ trivial ?_
          try simp only [Act.put, List.setIfInBounds_toArray, List.set_cons_zero, List.set_cons_succ]
          clear hK K k0 k1 fk gk b9'
          refine c_done (by kernel_rfl) ?_
          go_wp2
          go_meet
          exact Cop.of b8 b9 yy s7 (by omega) (by omega) n98 my mz cy cz (by omega)
        · refine c_op 5 [] (by kernel_rfl) rfl (by kernel_rfl) (fun K hK => ?_)
          have B7 : Below w7.heap.size w7 (w7.alloc (.cells #[.int .i64 0, .slice none 0 0] 24)) := (Below.refl _ _).alloc (Nat.le_refl _) (.cells #[.int .i64 0, .slice none 0 0] 24)
          have b9 : Blk (w7.alloc (.cells #[.int .i64 0, .slice none 0 0] 24)) w7.heap.size 24 [.int .i64 0, .slice none 0 0] := Blk.new w7 24 [.int .i64 0, .slice none 0 0]
          replace xx := below_then xx B7
          have z8 := B7.size
          go_simp
          refine hK.out _ _ trivial ?_
          try simp only [Act.put, List.setIfInBounds_toArray, List.set_cons_zero, List.set_cons_succ]
          clear hK K
          replace yy := yy.ext B7
          replace cy := cy.ext B7
          replace cz := cz.ext B7
          have l9 : n5 ≤ w7.heap.size := by omega
          generalize w7.alloc (.cells #[.int .i64 0, .slice none 0 0] 24) = w8 at *
          generalize w7.heap.size = g9 at *
          clear B7
          refine c_move 4 (by kernel_rfl) ?_
          refine c_op 4 [] (by kernel_rfl) rfl (by kernel_rfl) (fun K hK => ?_)
          have B8 : Below w8.heap.size w8 (w8.alloc (.cells #[.int .i64 0, .slice none 0 0] 24)) := (Below.refl _ _).alloc (Nat.le_refl _) (.cells #[.int .i64 0, .slice none 0 0] 24)
          have b8 : Blk (w8.alloc (.cells #[.int .i64 0, .slice none 0 0] 24)) w8.heap.size 24 [.int .i64 0, .slice none 0 0] := Blk.new w8 24 [.int .i64 0, .slice none 0 0]
          replace xx := below_then xx B8
          have z9 := B8.size
          go_simp
          refine hK.out _ _ trivial ?_
          try simp only [Act.put, List.setIfInBounds_toArray, List.set_cons_zero, List.set_cons_succ]
          clear hK K
          replace yy := yy.ext B8
          have n89 := b9.lt
          replace b9 := b9.below B8 b9.lt
          replace cy := cy.ext B8
          replace cz := cz.ext B8
          have l8 : n5 ≤ w8.heap.size := by omega
          generalize w8.alloc (.cells #[.int .i64 0, .slice none 0 0] 24) = w9 at *
          generalize w8.heap.size = g8 at *
          clear B8
          obtain ⟨ay, ky, rfl, -⟩ := owns_sl cy.ot
          obtain ⟨az, kz, rfl, -⟩ := owns_sl cz.ot
          have n98 : g8 ≠ g9 := by omega
          have k0 := b8.cell 0
          have k1 := b8.cell 1
          have fk := b8.frozen
          have gk := b8.lt
          simp at k0 k1
          refine c_move 6 (by kernel_rfl) (c_op 6 [] (by kernel_rfl) rfl (by kernel_rfl) (fun K hK => ?_))
          go_simp
          refine hK.out _ _ trivial ?_
          try simp only [Act.put, List.setIfInBounds_toArray, List.set_cons_zero, List.set_cons_succ]
          clear hK K k0 k1 fk gk
          have b9' := (b9.set_neW n98 0 (.int .i64 frx)).set_neW n98 1 (.slice ay esy.length ky)
          have k0 := b9'.cell 0
          have k1 := b9'.cell 1
          have fk := b9'.frozen
          have gk := b9'.lt
          simp at k0 k1
          refine c_move 7 (by kernel_rfl) (c_op 7 [] (by kernel_rfl) rfl (by kernel_rfl) (fun K hK => ?_))
          go_simp
          refine hK.out _ _ trivial ?_
          try simp only [Act.put, List.setIfInBounds_toArray, List.set_cons_zero, List.set_cons_succ]
          clear hK K k0 k1 fk gk b9'
          refine c_done (by kernel_rfl) ?_
          go_wp2
          go_meet
          exact Cop.of b8 b9 yy s7 (by omega) (by omega) n98 my mz cy cz (by omega)
      · refine c_op 4 [(2, fun w' => Ext w4 w')] (by kernel_rfl) rfl (by kernel_rfl) (fun K hK => ?_)
        have B6 : Below w6.heap.size w6 (w6.alloc (.cells #[.int .i64 0, .slice none 0 0] 24)) := (Below.refl _ _).alloc (Nat.le_refl _) (.cells #[.int .i64 0, .slice none 0 0] 24)
        have b8 : Blk (w6.alloc (.cells #[.int .i64 0, .slice none 0 0] 24)) w6.heap.size 24 [.int .i64 0, .slice none 0 0] := Blk.new w6 24 [.int .i64 0, .slice none 0 0]
        replace xx := below_then xx B6
        have z7 := B6.size
        go_simp
        refine hK.out _ _ ⟨xx, trivial⟩ ?_
        try simp only [Act.put, List.setIfInBounds_toArray, List.set_cons_zero, List.set_cons_succ]
        clear hK K
        replace yy := yy.ext B6
        replace cy := cy.ext B6
        have l8 : n5 ≤ w6.heap.size := by omega
        generalize w6.alloc (.cells #[.int .i64 0, .slice none 0 0] 24) = w7 at *
        generalize w6.heap.size = g8 at *
        clear B6
        refine c_all (rs := [3, 5]) (by kernel_rfl) (by simp) (fun j hj => ?_)
        simp only [List.mem_cons, List.not_mem_nil, or_false] at hj
        rcases hj with rfl | rfl
        · refine c_op 3 [] (by kernel_rfl) rfl (by kernel_rfl) (fun K hK => ?_)
          go_wp2_with fail
          refine (C1.out w7 xx).mono ?_
          rintro e w8 ⟨vz, rfl, esz, mz, cz, B7⟩
          replace xx := below_then xx B7
          go_simp
          refine hK.out _ _ trivial ?_
          try simp only [Act.put, List.setIfInBounds_toArray, List.set_cons_zero, List.set_cons_succ]
          clear hK K
          replace yy := yy.ext B7
          replace b8 := b8.below B7 b8.lt
          replace cy := cy.ext B7
          have z8 := B7.size
          clear B7
          refine c_move 5 (by kernel_rfl) ?_
          refine c_op 5 [] (by kernel_rfl) rfl (by kernel_rfl) (fun K hK => ?_)
          have B8 : Below w8.heap.size w8 (w8.alloc (.cells #[.int .i64 0, .slice none 0 0] 24)) := (Below.refl _ _).alloc (Nat.le_refl _) (.cells #[.int .i64 0, .slice none 0 0] 24)
          have b9 : Blk (w8.alloc (.cells #[.int .i64 0, .slice none 0 0] 24)) w8.heap.size 24 [.int .i64 0, .slice none 0 0] := Blk.new w8 24 [.int .i64 0, .slice none 0 0]
          replace xx := below_then xx B8
          have z9 := B8.size
          go_simp
          refine hK.out _ _ trivial ?_
          try simp only [Act.put, List.setIfInBounds_toArray, List.set_cons_zero, List.set_cons_succ]
          clear hK K
          replace yy := yy.ext B8
          have n89 := b8.lt
          replace b8 := b8.below B8 b8.lt
          replace cy := cy.ext B8
          replace cz := cz.ext B8
          have l9 : n5 ≤ w8.heap.size := by omega
          generalize w8.alloc (.cells #[.int .i64 0, .slice none 0 0] 24) = w9 at *
          generalize w8.heap.size = g9 at *
          clear B8
          obtain ⟨ay, ky, rfl, -⟩ := owns_sl cy.ot
          obtain ⟨az, kz, rfl, -⟩ := owns_sl cz.ot
          have n98 : g8 ≠ g9 := by omega
          have k0 := b8.cell 0
          have k1 := b8.cell 1
          have fk := b8.frozen
          have gk := b8.lt
          simp at k0 k1
          refine c_move 6 (by kernel_rfl) (c_op 6 [] (by kernel_rfl) rfl (by kernel_rfl) (fun K hK => ?_))
          go_simp
          refine hK.out _ _ trivial ?_
          try simp only [Act.put, List.setIfInBounds_toArray, List.set_cons_zero, List.set_cons_succ]
          clear hK K k0 k1 fk gk
          have b9' := (b9.set_neW n98 0 (.int .i64 frx)).set_neW n98 1 (.slice ay esy.length ky)
          have k0 := b9'.cell 0
          have k1 := b9'.cell 1
          have fk := b9'.frozen
          have gk := b9'.lt
          simp at k0 k1
          refine c_move 7 (by kernel_rfl) (c_op 7 [] (by kernel_rfl) rfl (by kernel_rfl) (fun K hK => ?_))
          go_simp
          refine hK.out _ _ trivial ?_
          try simp only [Act.put, List.setIfInBounds_toArray, List.set_cons_zero, List.set_cons_succ]
          clear hK K k0 k1 fk gk b9'
          refine c_done (by kernel_rfl) ?_
          go_wp2
          go_meet
          exact Cop.of b8 b9 yy s7 (by omega) (by omega) n98 my mz cy cz (by omega)
        · refine c_op 5 [(2, fun w' => Ext w4 w')] (by kernel_rfl) rfl (by kernel_rfl) (fun K hK => ?_)
          have B7 : Below w7.heap.size w7 (w7.alloc (.cells #[.int .i64 0, .slice none 0 0] 24)) := (Below.refl _ _).alloc (Nat.le_refl _) (.cells #[.int .i64 0, .slice none 0 0] 24)
          have b9 : Blk (w7.alloc (.cells #[.int .i64 0, .slice none 0 0] 24)) w7.heap.size 24 [.int .i64 0, .slice none 0 0] := Blk.new w7 24 [.int .i64 0, .slice none 0 0]
          replace xx := below_then xx B7
          have z8 := B7.size
          go_simp
          refine hK.out _ _ ⟨xx, trivial⟩ ?_
          try simp only [Act.put, List.setIfInBounds_toArray, List.set_cons_zero, List.set_cons_succ]
          clear hK K
          replace yy := yy.ext B7
          have n89 := b8.lt
          replace b8 := b8.below B7 b8.lt
          replace cy := cy.ext B7
          have l9 : n5 ≤ w7.heap.size := by omega
          generalize w7.alloc (.cells #[.int .i64 0, .slice none 0 0] 24) = w8 at *
          generalize w7.heap.size = g9 at *
          clear B7
          refine c_move 3 (by kernel_rfl) ?_
          refine c_op 3 [] (by kernel_rfl) rfl (by kernel_rfl) (fun K hK => ?_)
          go_wp2_with fail
          refine (C1.out w8 xx).mono ?_
          rintro e w9 ⟨vz, rfl, esz, mz, cz, B8⟩
          replace xx := below_then xx B8
          go_simp
          refine hK.out _ _ trivial ?_
          try simp only [Act.put, List.setIfInBounds_toArray, List.set_cons_zero, List.set_cons_succ]
          clear hK K
          replace yy := yy.ext B8
          replace b8 := b8.below B8 b8.lt
          replace b9 := b9.below B8 b9.lt
          replace cy := cy.ext B8
          have z9 := B8.size
          clear B8
          obtain ⟨ay, ky, rfl, -⟩ := owns_sl cy.ot
          obtain ⟨az, kz, rfl, -⟩ := owns_sl cz.ot
          have n98 : g8 ≠ g9 := by omega
          have k0 := b8.cell 0
          have k1 := b8.cell 1
          have fk := b8.frozen
          have gk := b8.lt
          simp at k0 k1
          refine c_move 6 (by kernel_rfl) (c_op 6 [] (by kernel_rfl) rfl (by kernel_rfl) (fun K hK => ?_))
          go_simp
          refine hK.out _ _ trivial ?_
          try simp only [Act.put, List.setIfInBounds_toArray, List.set_cons_zero, List.set_cons_succ]
          clear hK K k0 k1 fk gk
          have b9' := (b9.set_neW n98 0 (.int .i64 frx)).set_neW n98 1 (.slice ay esy.length ky)
          have k0 := b9'.cell 0
          have k1 := b9'.cell 1
          have fk := b9'.frozen
          have gk := b9'.lt
          simp at k0 k1
          refine c_move 7 (by kernel_rfl) (c_op 7 [] (by kernel_rfl) rfl (by kernel_rfl) (fun K hK => ?_))
          go_simp
          refine hK.out _ _ trivial ?_
          try simp only [Act.put, List.setIfInBounds_toArray, List.set_cons_zero, List.set_cons_succ]
          clear hK K k0 k1 fk gk b9'
          refine c_done (by kernel_rfl) ?_
          go_wp2
          go_meet
          exact Cop.of b8 b9 yy s7 (by omega) (by omega) n98 my mz cy cz (by omega)
      · refine c_op 5 [(2, fun w' => Ext w4 w')] (by kernel_rfl) rfl (by kernel_rfl) (fun K hK => ?_)
        have B6 : Below w6.heap.size w6 (w6.alloc (.cells #[.int .i64 0, .slice none 0 0] 24)) := (Below.refl _ _).alloc (Nat.le_refl _) (.cells #[.int .i64 0, .slice none 0 0] 24)
        have b9 : Blk (w6.alloc (.cells #[.int .i64 0, .slice none 0 0] 24)) w6.heap.size 24 [.int .i64 0, .slice none 0 0] := Blk.new w6 24 [.int .i64 0, .slice none 0 0]
        replace xx := below_then xx B6
        have z7 := B6.size
        go_simp
        refine hK.out _ _ ⟨xx, trivial⟩ ?_
        try simp only [Act.put, List.setIfInBounds_toArray, List.set_cons_zero, List.set_cons_succ]
        clear hK K
        replace yy := yy.ext B6
        replace cy := cy.ext B6
        have l9 : n5 ≤ w6.heap.size := by omega
        generalize w6.alloc (.cells #[.int .i64 0, .slice none 0 0] 24) = w7 at *
        generalize w6.heap.size = g9 at *
        clear B6
        refine c_all (rs := [3, 4]) (by kernel_rfl) (by simp) (fun j hj => ?_)
        simp only [List.mem_cons, List.not_mem_nil, or_false] at hj
        rcases hj with rfl | rfl
        · refine c_op 3 [] (by kernel_rfl) rfl (by kernel_rfl) (fun K hK => ?_)
          go_wp2_with fail
          refine (C1.out w7 xx).mono ?_
          rintro e w8 ⟨vz, rfl, esz, mz, cz, B7⟩
          replace xx := below_then xx B7
          go_simp
          refine hK.out _ _ trivial ?_
          try simp only [Act.put, List.setIfInBounds_toArray, List.set_cons_zero, List.set_cons_succ]
          clear hK K
          replace yy := yy.ext B7
          replace b9 := b9.below B7 b9.lt
          replace cy := cy.ext B7
          have z8 := B7.size
          clear B7
          refine c_move 4 (by kernel_rfl) ?_
          refine c_op 4 [] (by kernel_rfl) rfl (by kernel_rfl) (fun K hK => ?_)
          have B8 : Below w8.heap.size w8 (w8.alloc (.cells #[.int .i64 0, .slice none 0 0] 24)) := (Below.refl _ _).alloc (Nat.le_refl _) (.cells #[.int .i64 0, .slice none 0 0] 24)
          have b8 : Blk (w8.alloc (.cells #[.int .i64 0, .slice none 0 0] 24)) w8.heap.size 24 [.int .i64 0, .slice none 0 0] := Blk.new w8 24 [.int .i64 0, .slice none 0 0]
          replace xx := below_then xx B8
          have z9 := B8.size
          go_simp
          refine hK.out _ _ trivial ?_
          try simp only [Act.put, List.setIfInBounds_toArray, List.set_cons_zero, List.set_cons_succ]
          clear hK K
          replace yy := yy.ext B8
          have n89 := b9.lt
          replace b9 := b9.below B8 b9.lt
          replace cy := cy.ext B8
          replace cz := cz.ext B8
          have l8 : n5 ≤ w8.heap.size := by omega
          generalize w8.alloc (.cells #[.int .i64 0, .slice none 0 0] 24) = w9 at *
          generalize w8.heap.size = g8 at *
          clear B8
          obtain ⟨ay, ky, rfl, -⟩ := owns_sl cy.ot
          obtain ⟨az, kz, rfl, -⟩ := owns_sl cz.ot
          have n98 : g8 ≠ g9 := by omega
          have k0 := b8.cell 0
          have k1 := b8.cell 1
          have fk := b8.frozen
          have gk := b8.lt
          simp at k0 k1
          refine c_move 6 (by kernel_rfl) (c_op 6 [] (by kernel_rfl) rfl (by kernel_rfl) (fun K hK => ?_))
          go_simp
          refine hK.out _ _ trivial ?_
          try simp only [Act.put, List.setIfInBounds_toArray, List.set_cons_zero, List.set_cons_succ]
          clear hK K k0 k1 fk gk
          have b9' := (b9.set_neW n98 0 (.int .i64 frx)).set_neW n98 1 (.slice ay esy.length ky)
          have k0 := b9'.cell 0
          have k1 := b9'.cell 1
          have fk := b9'.frozen
          have gk := b9'.lt
          simp at k0 k1
          refine c_move 7 (by kernel_rfl) (c_op 7 [] (by kernel_rfl) rfl (by kernel_rfl) (fun K hK => ?_))
          go_simp
          refine hK.out _ _ trivial ?_
          try simp only [Act.put, List.setIfInBounds_toArray, List.set_cons_zero, List.set_cons_succ]
          clear hK K k0 k1 fk gk b9'
          refine c_done (by kernel_rfl) ?_
          go_wp2
          go_meet
          exact Cop.of b8 b9 yy s7 (by omega) (by omega) n98 my mz cy cz (by omega)
        · refine c_op 4 [(2, fun w' => Ext w4 w')] (by kernel_rfl) rfl (by kernel_rfl) (fun K hK => ?_)
          have B7 : Below w7.heap.size w7 (w7.alloc (.cells #[.int .i64 0, .slice none 0 0] 24)) := (Below.refl _ _).alloc (Nat.le_refl _) (.cells #[.int .i64 0, .slice none 0 0] 24)
          have b8 : Blk (w7.alloc (.cells #[.int .i64 0, .slice none 0 0] 24)) w7.heap.size 24 [.int .i64 0, .slice none 0 0] := Blk.new w7 24 [.int .i64 0, .slice none 0 0]
          replace xx := below_then xx B7
          have z8 := B7.size
          go_simp
          refine hK.out _ _ ⟨xx, trivial⟩ ?_
          try simp only [Act.put, List.setIfInBounds_toArray, List.set_cons_zero, List.set_cons_succ]
          clear hK K
          replace yy := yy.ext B7
          have n89 := b9.lt
          replace b9 := b9.below B7 b9.lt
          replace cy := cy.ext B7
          have l8 : n5 ≤ w7.heap.size := by omega
          generalize w7.alloc (.cells #[.int .i64 0, .slice none 0 0] 24) = w8 at *
          generalize w7.heap.size = g8 at *
          clear B7
          refine c_move 3 (by kernel_rfl) ?_
          refine c_op 3 [] (by kernel_rfl) rfl (by kernel_rfl) (fun K hK => ?_)
          go_wp2_with fail
          refine (C1.out w8 xx).mono ?_
          rintro e w9 ⟨vz, rfl, esz, mz, cz, B8⟩
          replace xx := below_then xx B8
          go_simp
          refine hK.out _ _ trivial ?_
          try simp only [Act.put, List.setIfInBounds_toArray, List.set_cons_zero, List.set_cons_succ]
          clear hK K
          replace yy := yy.ext B8
          replace b8 := b8.below B8 b8.lt
          replace b9 := b9.below B8 b9.lt
          replace cy := cy.ext B8
          have z9 := B8.size
          clear B8
          obtain ⟨ay, ky, rfl, -⟩ := owns_sl cy.ot
          obtain ⟨az, kz, rfl, -⟩ := owns_sl cz.ot
          have n98 : g8 ≠ g9 := by omega
          have k0 := b8.cell 0
          have k1 := b8.cell 1
          have fk := b8.frozen
          have gk := b8.lt
          simp at k0 k1
          refine c_move 6 (by kernel_rfl) (c_op 6 [] (by kernel_rfl) rfl (by kernel_rfl) (fun K hK => ?_))
          go_simp
          refine hK.out _ _ trivial ?_
          try simp only [Act.put, List.setIfInBounds_toArray, List.set_cons_zero, List.set_cons_succ]
          clear hK K k0 k1 fk gk
          have b9' := (b9.set_neW n98 0 (.int .i64 frx)).set_neW n98 1 (.slice ay esy.length ky)
          have k0 := b9'.cell 0
          have k1 := b9'.cell 1
          have fk := b9'.frozen
          have gk := b9'.lt
          simp at k0 k1
          refine c_move 7 (by kernel_rfl) (c_op 7 [] (by kernel_rfl) rfl (by kernel_rfl) (fun K hK => ?_))
          go_simp
          refine hK.out _ _ trivial ?_
          try simp only [Act.put, List.setIfInBounds_toArray, List.set_cons_zero, List.set_cons_succ]
          clear hK K k0 k1 fk gk b9'
          refine c_done (by kernel_rfl) ?_
          go_wp2
          go_meet
          exact Cop.of b8 b9 yy s7 (by omega) (by omega) n98 my mz cy cz (by omega)
    · refine c_op 4 [(2, fun w' => Ext w4 w'), (0, fun w' => Ext w4 w')] (by kernel_rfl) rfl (by kernel_rfl) (fun K hK => ?_)
      have B5 : Below w5.heap.size w5 (w5.alloc (.cells #[.int .i64 0, .slice none 0 0] 24)) := (Below.refl _ _).alloc (Nat.le_refl _) (.cells #[.int .i64 0, .slice none 0 0] 24)
      have b8 : Blk (w5.alloc (.cells #[.int .i64 0, .slice none 0 0] 24)) w5.heap.size 24 [.int .i64 0, .slice none 0 0] := Blk.new w5 24 [.int .i64 0, .slice none 0 0]
      replace xx := below_then xx B5
      have z6 := B5.size
      go_simp
      refine hK.out _ _ ⟨xx, xx, trivial⟩ ?_
      try simp only [Act.put, List.setIfInBounds_toArray, List.set_cons_zero, List.set_cons_succ]
      clear hK K
      replace yy := yy.ext B5
      have l8 : n5 ≤ w5.heap.size := by omega
      generalize w5.alloc (.cells #[.int .i64 0, .slice none 0 0] 24) = w6 at *
      generalize w5.heap.size = g8 at *
      clear B5
      refine c_all (rs := [1, 5]) (by kernel_rfl) (by simp) (fun j hj => ?_)
      simp only [List.mem_cons, List.not_mem_nil, or_false] at hj
      rcases hj with rfl | rfl
      · refine c_op 1 [(2, fun w' => Ext w4 w')] (by kernel_rfl) rfl (by kernel_rfl) (fun K hK => ?_)
        go_wp2_with fail
        refine (C1.out w6 xx).mono ?_
        rintro e w7 ⟨vy, rfl, esy, my, cy, B6⟩
        replace xx := below_then xx B6
        go_simp
        refine hK.out _ _ ⟨xx, trivial⟩ ?_
        try simp only [Act.put, List.setIfInBounds_toArray, List.set_cons_zero, List.set_cons_succ]
        clear hK K
        replace yy := yy.ext B6
        replace b8 := b8.below B6 b8.lt
        have z7 := B6.size
        clear B6
        refine c_all (rs := [3, 5]) (by kernel_rfl) (by simp) (fun j hj => ?_)
        simp only [List.mem_cons, List.not_mem_nil, or_false] at hj
        rcases hj with rfl | rfl
        · refine c_op 3 [] (by kernel_rfl) rfl (by kernel_rfl) (fun K hK => ?_)
          go_wp2_with fail
          refine (C1.out w7 xx).mono ?_
          rintro e w8 ⟨vz, rfl, esz, mz, cz, B7⟩
          replace xx := below_then xx B7
          go_simp
          refine hK.out _ _ trivial ?_
          try simp only [Act.put, List.setIfInBounds_toArray, List.set_cons_zero, List.set_cons_succ]
          clear hK K
          replace yy := yy.ext B7
          replace b8 := b8.below B7 b8.lt
          replace cy := cy.ext B7
          have z8 := B7.size
          clear B7
          refine c_move 5 (by kernel_rfl) ?_
          refine c_op 5 [] (by kernel_rfl) rfl (by kernel_rfl) (fun K hK => ?_)
          have B8 : Below w8.heap.size w8 (w8.alloc (.cells #[.int .i64 0, .slice none 0 0] 24)) := (Below.refl _ _).alloc (Nat.le_refl _) (.cells #[.int .i64 0, .slice none 0 0] 24)
          have b9 : Blk (w8.alloc (.cells #[.int .i64 0, .slice none 0 0] 24)) w8.heap.size 24 [.int .i64 0, .slice none 0 0] := Blk.new w8 24 [.int .i64 0, .slice none 0 0]
          replace xx := below_then xx B8
          have z9 := B8.size
          go_simp
          refine hK.out _ _ trivial ?_
          try simp only [Act.put, List.setIfInBounds_toArray, List.set_cons_zero, List.set_cons_succ]
          clear hK K
          replace yy := yy.ext B8
          have n89 := b8.lt
          replace b8 := b8.below B8 b8.lt
          replace cy := cy.ext B8
          replace cz := cz.ext B8
          have l9 : n5 ≤ w8.heap.size := by omega
          generalize w8.alloc (.cells #[.int .i64 0, .slice none 0 0] 24) = w9 at *
          generalize w8.heap.size = g9 at *
          clear B8
          obtain ⟨ay, ky, rfl, -⟩ := owns_sl cy.ot
          obtain ⟨az, kz, rfl, -⟩ := owns_sl cz.ot
          have n98 : g8 ≠ g9 := by omega
          have k0 := b8.cell 0
          have k1 := b8.cell 1
          have fk := b8.frozen
          have gk := b8.lt
          simp at k0 k1
          refine c_move 6 (by kernel_rfl) (c_op 6 [] (by kernel_rfl) rfl (by kernel_rfl) (fun K hK => ?_))
          go_simp
          refine hK.out _ _ trivial ?_
          try simp only [Act.put, List.setIfInBounds_toArray, List.set_cons_zero, List.set_cons_succ]
          clear hK K k0 k1 fk gk
          have b9' := (b9.set_neW n98 0 (.int .i64 frx)).set_neW n98 1 (.slice ay esy.length ky)
          have k0 := b9'.cell 0
          have k1 := b9'.cell 1
          have fk := b9'.frozen
          have gk := b9'.lt
          simp at k0 k1
          refine c_move 7 (by kernel_rfl) (c_op 7 [] (by kernel_rfl) rfl (by kernel_rfl) (fun K hK => ?_))
          go_simp
          refine hK.out _ _ trivial ?_
          try simp only [Act.put, List.setIfInBounds_toArray, List.set_cons_zero, List.set_cons_succ]
          clear hK K k0 k1 fk gk b9'
          refine c_done (by kernel_rfl) ?_
          go_wp2
          go_meet
          exact Cop.of b8 b9 yy s7 (by omega) (by omega) n98 my mz cy cz (by omega)
        · refine c_op 5 [(2, fun w' => Ext w4 w')] (by kernel_rfl) rfl (by kernel_rfl) (fun K hK => ?_)
          have B7 : Below w7.heap.size w7 (w7.alloc (.cells #[.int .i64 0, .slice none 0 0] 24)) := (Below.refl _ _).alloc (Nat.le_refl _) (.cells #[.int .i64 0, .slice none 0 0] 24)
          have b9 : Blk (w7.alloc (.cells #[.int .i64 0, .slice none 0 0] 24)) w7.heap.size 24 [.int .i64 0, .slice none 0 0] := Blk.new w7 24 [.int .i64 0, .slice none 0 0]
          replace xx := below_then xx B7
          have z8 := B7.size
          go_simp
          refine hK.out _ _ ⟨xx, trivial⟩ ?_
          try simp only [Act.put, List.setIfInBounds_toArray, List.set_cons_zero, List.set_cons_succ]
          clear hK K
          replace yy := yy.ext B7
          have n89 := b8.lt
          replace b8 := b8.below B7 b8.lt
          replace cy := cy.ext B7
          have l9 : n5 ≤ w7.heap.size := by omega
          generalize w7.alloc (.cells #[.int .i64 0, .slice none 0 0] 24) = w8 at *
          generalize w7.heap.size = g9 at *
          clear B7
          refine c_move 3 (by kernel_rfl) ?_
          refine c_op 3 [] (by kernel_rfl) rfl (by kernel_rfl) (fun K hK => ?_)
          go_wp2_with fail
          refine (C1.out w8 xx).mono ?_
          rintro e w9 ⟨vz, rfl, esz, mz, cz, B8⟩
          replace xx := below_then xx B8
          go_simp
          refine hK.out _ _ trivial ?_
          try simp only [Act.put, List.setIfInBounds_toArray, List.set_cons_zero, List.set_cons_succ]
          clear hK K
          replace yy := yy.ext B8
          replace b8 := b8.below B8 b8.lt
          replace b9 := b9.below B8 b9.lt
          replace cy := cy.ext B8
          have z9 := B8.size
          clear B8
          obtain ⟨ay, ky, rfl, -⟩ := owns_sl cy.ot
          obtain ⟨az, kz, rfl, -⟩ := owns_sl cz.ot
          have n98 : g8 ≠ g9 := by omega
          have k0 := b8.cell 0
          have k1 := b8.cell 1
          have fk := b8.frozen
          have gk := b8.lt
          simp at k0 k1
          refine c_move 6 (by kernel_rfl) (c_op 6 [] (by kernel_rfl) rfl (by kernel_rfl) (fun K hK => ?_))
          go_simp
          refine hK.out _ _ trivial ?_
          try simp only [Act.put, List.setIfInBounds_toArray, List.set_cons_zero, List.set_cons_succ]
          clear hK K k0 k1 fk gk
          have b9' := (b9.set_neW n98 0 (.int .i64 frx)).set_neW n98 1 (.slice ay esy.length ky)
          have k0 := b9'.cell 0
          have k1 := b9'.cell 1
          have fk := b9'.frozen
          have gk := b9'.lt
          simp at k0 k1
          refine c_move 7 (by kernel_rfl) (c_op 7 [] (by kernel_rfl) rfl (by kernel_rfl) (fun K hK => ?_))
          go_simp
          refine hK.out _ _ trivial ?_
          try simp only [Act.put, List.setIfInBounds_toArray, List.set_cons_zero, List.set_cons_succ]
          clear hK K k0 k1 fk gk b9'
          refine c_done (by kernel_rfl) ?_
          go_wp2
          go_meet
          exact Cop.of b8 b9 yy s7 (by omega) (by omega) n98 my mz cy cz (by omega)
      · refine c_op 5 [(2, fun w' => Ext w4 w'), (0, fun w' => Ext w4 w')] (by kernel_rfl) rfl (by kernel_rfl) (fun K hK => ?_)
        have B6 : Below w6.heap.size w6 (w6.alloc (.cells #[.int .i64 0, .slice none 0 0] 24)) := (Below.refl _ _).alloc (Nat.le_refl _) (.cells #[.int .i64 0, .slice none 0 0] 24)
        have b9 : Blk (w6.alloc (.cells #[.int .i64 0, .slice none 0 0] 24)) w6.heap.size 24 [.int .i64 0, .slice none 0 0] := Blk.new w6 24 [.int .i64 0, .slice none 0 0]
        replace xx := below_then xx B6
        have z7 := B6.size
        go_simp
        refine hK.out _ _ ⟨xx, xx, trivial⟩ ?_
        try simp only [Act.put, List.setIfInBounds_toArray, List.set_cons_zero, List.set_cons_succ]
        clear hK K
        replace yy := yy.ext B6
        have n89 := b8.lt
        replace b8 := b8.below B6 b8.lt
        have l9 : n5 ≤ w6.heap.size := by omega
        generalize w6.alloc (.cells #[.int .i64 0, .slice none 0 0] 24) = w7 at *
        generalize w6.heap.size = g9 at *
        clear B6
        refine c_move 1 (by kernel_rfl) ?_
        refine c_op 1 [(2, fun w' => Ext w4 w')] (by kernel_rfl) rfl (by kernel_rfl) (fun K hK => ?_)
        go_wp2_with fail
        refine (C1.out w7 xx).mono ?_
        rintro e w8 ⟨vy, rfl, esy, my, cy, B7⟩
        replace xx := below_then xx B7
        go_simp
        refine hK.out _ _ ⟨xx, trivial⟩ ?_
        try simp only [Act.put, List.setIfInBounds_toArray, List.set_cons_zero, List.set_cons_succ]
        clear hK K
        replace yy := yy.ext B7
        replace b8 := b8.below B7 b8.lt
        replace b9 := b9.below B7 b9.lt
        have z8 := B7.size
        clear B7
        refine c_move 3 (by kernel_rfl) ?_
        refine c_op 3 [] (by kernel_rfl) rfl (by kernel_rfl) (fun K hK => ?_)
        go_wp2_with fail
        refine (C1.out w8 xx).mono ?_
        rintro e w9 ⟨vz, rfl, esz, mz, cz, B8⟩
        replace xx := below_then xx B8
        go_simp
        refine hK.out _ _ trivial ?_
        try simp only [Act.put, List.setIfInBounds_toArray, List.set_cons_zero, List.set_cons_succ]
        clear hK K
        replace yy := yy.ext B8
        replace b8 := b8.below B8 b8.lt
        replace b9 := b9.below B8 b9.lt
        replace cy := cy.ext B8
        have z9 := B8.size
        clear B8
        obtain ⟨ay, ky, rfl, -⟩ := owns_sl cy.ot
        obtain ⟨az, kz, rfl, -⟩ := owns_sl cz.ot
        have n98 : g8 ≠ g9 := by omega
        have k0 := b8.cell 0
        have k1 := b8.cell 1
        have fk := b8.frozen
        have gk := b8.lt
        simp at k0 k1
        refine c_move 6 (by kernel_rfl) (c_op 6 [] (by kernel_rfl) rfl (by kernel_rfl) (fun K hK => ?_))
        go_simp
        refine hK.out _ _ trivial ?_
        try simp only [Act.put, List.setIfInBounds_toArray, List.set_cons_zero, List.set_cons_succ]
        clear hK K k0 k1 fk gk
        have b9' := (b9.set_neW n98 0 (.int .i64 frx)).set_neW n98 1 (.slice ay esy.length ky)
        have k0 := b9'.cell 0
        have k1 := b9'.cell 1
        have fk := b9'.frozen
        have gk := b9'.lt
        simp at k0 k1
        refine c_move 7 (by kernel_rfl) (c_op 7 [] (by kernel_rfl) rfl (by kernel_rfl) (fun K hK => ?_))
        go_simp
        refine hK.out _ _ trivial ?_
        try simp only [Act.put, List.setIfInBounds_toArray, List.set_cons_zero, List.set_cons_succ]
        clear hK K k0 k1 fk gk b9'
        refine c_done (by kernel_rfl) ?_
        go_wp2
        go_meet
        exact Cop.of b8 b9 yy s7 (by omega) (by omega) n98 my mz cy cz (by omega)
    · refine c_op 5 [(2, fun w' => Ext w4 w'), (0, fun w' => Ext w4 w')] (by kernel_rfl) rfl (by kernel_rfl) (fun K hK => ?_)
      have B5 : Below w5.heap.size w5 (w5.alloc (.cells #[.int .i64 0, .slice none 0 0] 24)) := (Below.refl _ _).alloc (Nat.le_refl _) (.cells #[.int .i64 0, .slice none 0 0] 24)
      have b9 : Blk (w5.alloc (.cells #[.int .i64 0, .slice none 0 0] 24)) w5.heap.size 24 [.int .i64 0, .slice none 0 0] := Blk.new w5 24 [.int .i64 0, .slice none 0 0]
      replace xx := below_then xx B5
      have z6 := B5.size
      go_simp
      refine hK.out _ _ ⟨xx, xx, trivial⟩ ?_
      try simp only [Act.put, List.setIfInBounds_toArray, List.set_cons_zero, List.set_cons_succ]
      clear hK K
      replace yy := yy.ext B5
      have l9 : n5 ≤ w5.heap.size := by omega
      generalize w5.alloc (.cells #[.int .i64 0, .slice none 0 0] 24) = w6 at *
      generalize w5.heap.size = g9 at *
      clear B5
      refine c_all (rs := [1, 4]) (by kernel_rfl) (by simp) (fun j hj => ?_)
      simp only [List.mem_cons, List.not_mem_nil, or_false] at hj
      rcases hj with rfl | rfl
      · refine c_op 1 [(2, fun w' => Ext w4 w')] (by kernel_rfl) rfl (by kernel_rfl) (fun K hK => ?_)
        go_wp2_with fail
        refine (C1.out w6 xx).mono ?_
        rintro e w7 ⟨vy, rfl, esy, my, cy, B6⟩
        replace xx := below_then xx B6
        go_simp
        refine hK.out _ _ ⟨xx, trivial⟩ ?_
        try simp only [Act.put, List.setIfInBounds_toArray, List.set_cons_zero, List.set_cons_succ]
        clear hK K
        replace yy := yy.ext B6
        replace b9 := b9.below B6 b9.lt
        have z7 := B6.size
        clear B6
        refine c_all (rs := [3, 4]) (by kernel_rfl) (by simp) (fun j hj => ?_)
        simp only [List.mem_cons, List.not_mem_nil, or_false] at hj
        rcases hj with rfl | rfl
        · refine c_op 3 [] (by kernel_rfl) rfl (by kernel_rfl) (fun K hK => ?_)
          go_wp2_with fail
          refine (C1.out w7 xx).mono ?_
          rintro e w8 ⟨vz, rfl, esz, mz, cz, B7⟩
          replace xx := below_then xx B7
          go_simp
          refine hK.out _ _ trivial ?_
          try simp only [Act.put, List.setIfInBounds_toArray, List.set_cons_zero, List.set_cons_succ]
          clear hK K
          replace yy := yy.ext B7
          replace b9 := b9.below B7 b9.lt
          replace cy := cy.ext B7
          have z8 := B7.size
          clear B7
          refine c_move 4 (by kernel_rfl) ?_
          refine c_op 4 [] (by kernel_rfl) rfl (by kernel_rfl) (fun K hK => ?_)
          have B8 : Below w8.heap.size w8 (w8.alloc (.cells #[.int .i64 0, .slice none 0 0] 24)) := (Below.refl _ _).alloc (Nat.le_refl _) (.cells #[.int .i64 0, .slice none 0 0] 24)
          have b8 : Blk (w8.alloc (.cells #[.int .i64 0, .slice none 0 0] 24)) w8.heap.size 24 [.int .i64 0, .slice none 0 0] := Blk.new w8 24 [.int .i64 0, .slice none 0 0]
          replace xx := below_then xx B8
          have z9 := B8.size
          go_simp
          refine hK.out _ _ trivial ?_
          try simp only [Act.put, List.setIfInBounds_toArray, List.set_cons_zero, List.set_cons_succ]
          clear hK K
          replace yy := yy.ext B8
          have n89 := b9.lt
          replace b9 := b9.below B8 b9.lt
          replace cy := cy.ext B8
          replace cz := cz.ext B8
          have l8 : n5 ≤ w8.heap.size := by omega
          generalize w8.alloc (.cells #[.int .i64 0, .slice none 0 0] 24) = w9 at *
          generalize w8.heap.size = g8 at *
          clear B8
          obtain ⟨ay, ky, rfl, -⟩ := owns_sl cy.ot
          obtain ⟨az, kz, rfl, -⟩ := owns_sl cz.ot
          have n98 : g8 ≠ g9 := by omega
          have k0 := b8.cell 0
          have k1 := b8.cell 1
          have fk := b8.frozen
          have gk := b8.lt
          simp at k0 k1
          refine c_move 6 (by kernel_rfl) (c_op 6 [] (by kernel_rfl) rfl (by kernel_rfl) (fun K hK => ?_))
          go_simp
          refine hK.out _ _ trivial ?_
          try simp only [Act.put, List.setIfInBounds_toArray, List.set_cons_zero, List.set_cons_succ]
          clear hK K k0 k1 fk gk
          have b9' := (b9.set_neW n98 0 (.int .i64 frx)).set_neW n98 1 (.slice ay esy.length ky)
          have k0 := b9'.cell 0
          have k1 := b9'.cell 1
          have fk := b9'.frozen
          have gk := b9'.lt
          simp at k0 k1
          refine c_move 7 (by kernel_rfl) (c_op 7 [] (by kernel_rfl) rfl (by kernel_rfl) (fun K hK => ?_))
          go_simp
          refine hK.out _ _ trivial ?_
          try simp only [Act.put, List.setIfInBounds_toArray, List.set_cons_zero, List.set_cons_succ]
          clear hK K k0 k1 fk gk b9'
          refine c_done (by kernel_rfl) ?_
          go_wp2
          go_meet
          exact Cop.of b8 b9 yy s7 (by omega) (by omega) n98 my mz cy cz (by omega)
        · refine c_op 4 [(2, fun w' => Ext w4 w')] (by kernel_rfl) rfl (by kernel_rfl) (fun K hK => ?_)
          have B7 : Below w7.heap.size w7 (w7.alloc (.cells #[.int .i64 0, .slice none 0 0] 24)) := (Below.refl _ _).alloc (Nat.le_refl _) (.cells #[.int .i64 0, .slice none 0 0] 24)
          have b8 : Blk (w7.alloc (.cells #[.int .i64 0, .slice none 0 0] 24)) w7.heap.size 24 [.int .i64 0, .slice none 0 0] := Blk.new w7 24 [.int .i64 0, .slice none 0 0]
          replace xx := below_then xx B7
          have z8 := B7.size
          go_simp
          refine hK.out _ _ ⟨xx, trivial⟩ ?_
          try simp only [Act.put, List.setIfInBounds_toArray, List.set_cons_zero, List.set_cons_succ]
          clear hK K
          replace yy := yy.ext B7
          have n89 := b9.lt
          replace b9 := b9.below B7 b9.lt
          replace cy := cy.ext B7
          have l8 : n5 ≤ w7.heap.size := by omega
          generalize w7.alloc (.cells #[.int .i64 0, .slice none 0 0] 24) = w8 at *
          generalize w7.heap.size = g8 at *
          clear B7
          refine c_move 3 (by kernel_rfl) ?_
          refine c_op 3 [] (by kernel_rfl) rfl (by kernel_rfl) (fun K hK => ?_)
          go_wp2_with fail
          refine (C1.out w8 xx).mono ?_
          rintro e w9 ⟨vz, rfl, esz, mz, cz, B8⟩
          replace xx := below_then xx B8
          go_simp
          refine hK.out _ _ trivial ?_
          try simp only [Act.put, List.setIfInBounds_toArray, List.set_cons_zero, List.set_cons_succ]
          clear hK K
          replace yy := yy.ext B8
          replace b8 := b8.below B8 b8.lt
          replace b9 := b9.below B8 b9.lt
          replace cy := cy.ext B8
          have z9 := B8.size
          clear B8
          obtain ⟨ay, ky, rfl, -⟩ := owns_sl cy.ot
          obtain ⟨az, kz, rfl, -⟩ := owns_sl cz.ot
          have n98 : g8 ≠ g9 := by omega
          have k0 := b8.cell 0
          have k1 := b8.cell 1
          have fk := b8.frozen
          have gk := b8.lt
          simp at k0 k1
          refine c_move 6 (by kernel_rfl) (c_op 6 [] (by kernel_rfl) rfl (by kernel_rfl) (fun K hK => ?_))
          go_simp
          refine hK.out _ _ trivial ?_
          try simp only [Act.put, List.setIfInBounds_toArray, List.set_cons_zero, List.set_cons_succ]
          clear hK K k0 k1 fk gk
          have b9' := (b9.set_neW n98 0 (.int .i64 frx)).set_neW n98 1 (.slice ay esy.length ky)
          have k0 := b9'.cell 0
          have k1 := b9'.cell 1
          have fk := b9'.frozen
          have gk := b9'.lt
          simp at k0 k1
          refine c_move 7 (by kernel_rfl) (c_op 7 [] (by kernel_rfl) rfl (by kernel_rfl) (fun K hK => ?_))
          go_simp
          refine hK.out _ _ trivial ?_
          try simp only [Act.put, List.setIfInBounds_toArray, List.set_cons_zero, List.set_cons_succ]
          clear hK K k0 k1 fk gk b9'
          refine c_done (by kernel_rfl) ?_
          go_wp2
          go_meet
          exact Cop.of b8 b9 yy s7 (by omega) (by omega) n98 my mz cy cz (by omega)
      · refine c_op 4 [(2, fun w' => Ext w4 w'), (0, fun w' => Ext w4 w')] (by kernel_rfl) rfl (by kernel_rfl) (fun K hK => ?_)
        have B6 : Below w6.heap.size w6 (w6.alloc (.cells #[.int .i64 0, .slice none 0 0] 24)) := (Below.refl _ _).alloc (Nat.le_refl _) (.cells #[.int .i64 0, .slice none 0 0] 24)
        have b8 : Blk (w6.alloc (.cells #[.int .i64 0, .slice none 0 0] 24)) w6.heap.size 24 [.int .i64 0, .slice none 0 0] := Blk.new w6 24 [.int .i64 0, .slice none 0 0]
        replace xx := below_then xx B6
        have z7 := B6.size
        go_simp
        refine hK.out _ _ ⟨xx, xx, trivial⟩ ?_
        try simp only [Act.put, List.setIfInBounds_toArray, List.set_cons_zero, List.set_cons_succ]
        clear hK K
        replace yy := yy.ext B6
        have n89 := b9.lt
        replace b9 := b9.below B6 b9.lt
        have l8 : n5 ≤ w6.heap.size := by omega
        generalize w6.alloc (.cells #[.int .i64 0, .slice none 0 0] 24) = w7 at *
        generalize w6.heap.size = g8 at *
        clear B6
        refine c_move 1 (by kernel_rfl) ?_
        refine c_op 1 [(2, fun w' => Ext w4 w')] (by kernel_rfl) rfl (by kernel_rfl) (fun K hK => ?_)
        go_wp2_with fail
        refine (C1.out w7 xx).mono ?_
        rintro e w8 ⟨vy, rfl, esy, my, cy, B7⟩
        replace xx := below_then xx B7
        go_simp
        refine hK.out _ _ ⟨xx, trivial⟩ ?_
        try simp only [Act.put, List.setIfInBounds_toArray, List.set_cons_zero, List.set_cons_succ]
        clear hK K
        replace yy := yy.ext B7
        replace b8 := b8.below B7 b8.lt
        replace b9 := b9.below B7 b9.lt
        have z8 := B7.size
        clear B7
        refine c_move 3 (by kernel_rfl) ?_
        refine c_op 3 [] (by kernel_rfl) rfl (by kernel_rfl) (fun K hK => ?_)
        go_wp2_with fail
        refine (C1.out w8 xx).mono ?_
        rintro e w9 ⟨vz, rfl, esz, mz, cz, B8⟩
        replace xx := below_then xx B8
        go_simp
        refine hK.out _ _ trivial ?_
        try simp only [Act.put, List.setIfInBounds_toArray, List.set_cons_zero, List.set_cons_succ]
        clear hK K
        replace yy := yy.ext B8
        replace b8 := b8.below B8 b8.lt
        replace b9 := b9.below B8 b9.lt
        replace cy := cy.ext B8
        have z9 := B8.size
        clear B8
        obtain ⟨ay, ky, rfl, -⟩ := owns_sl cy.ot
        obtain ⟨az, kz, rfl, -⟩ := owns_sl cz.ot
        have n98 : g8 ≠ g9 := by omega
        have k0 := b8.cell 0
        have k1 := b8.cell 1
        have fk := b8.frozen
        have gk := b8.lt
        simp at k0 k1
        refine c_move 6 (by kernel_rfl) (c_op 6 [] (by kernel_rfl) rfl (by kernel_rfl) (fun K hK => ?_))
        go_simp
        refine hK.out _ _ trivial ?_
        try simp only [Act.put, List.setIfInBounds_toArray, List.set_cons_zero, List.set_cons_succ]
        clear hK K k0 k1 fk gk
        have b9' := (b9.set_neW n98 0 (.int .i64 frx)).set_neW n98 1 (.slice ay esy.length ky)
        have k0 := b9'.cell 0
        have k1 := b9'.cell 1
        have fk := b9'.frozen
        have gk := b9'.lt
        simp at k0 k1
        refine c_move 7 (by kernel_rfl) (c_op 7 [] (by kernel_rfl) rfl (by kernel_rfl) (fun K hK => ?_))
        go_simp
        refine hK.out _ _ trivial ?_
        try simp only [Act.put, List.setIfInBounds_toArray, List.set_cons_zero, List.set_cons_succ]
        clear hK K k0 k1 fk gk b9'
        refine c_done (by kernel_rfl) ?_
        go_wp2
        go_meet
        exact Cop.of b8 b9 yy s7 (by omega) (by omega) n98 my mz cy cz (by omega)
  case rest =>
    obtain ⟨g8, g9, vy, vz, esy, esz, By, Hy, Bz, Hz, rfl, rfl, l8, l9, n89, Y7, Y8, Y9, my, mz, cy, cz, hyz⟩ := hcut
    have hl4 := HX.out.len
    obtain ⟨c0, c1⟩ := Y7.cells
    have ely : esy.length = lx.length := by rw [← my]; simp
    have elz : esz.length = lx.length := by rw [← mz]; simp
    obtain ⟨ay, ky, rfl, -, -, fy⟩ := owns_sl cy.ot
    obtain ⟨az, kz, rfl, -⟩ := owns_sl cz.ot
    obtain ⟨gt, rfl⟩ := fy (by omega)
    rw [ely] at Y8 cy
    rw [elz] at Y9 cz
    clear Y C1
    go_wp2_with fail
    refine (within_any at_ 0 ((lx.length : Int) - 1) _ I1.out (by omega) (by omega) (by omega)).mono ?_
    rintro e w5 ⟨⟨mk, rfl, m0, m1⟩, rfl⟩
    clear c0 c1
    obtain ⟨k, rfl⟩ : ∃ k : Nat, mk = k := ⟨mk.toNat, by omega⟩
    have hkl : k < lx.length := by omega
    have hkI : (k : Int) < (lx.length : Int) := by omega
    obtain ⟨x, hx⟩ := getx hkl
    obtain ⟨⟨x', vw, vs⟩, hk⟩ := getx (show k < esy.length by omega)
    obtain rfl : x' = x := by
      have h1 := hx
      rw [← my, List.getElem?_map, hk] at h1
      simpa using h1
    obtain ⟨GT1, GT2⟩ := (HX.out.ten k x' hx).sl
    have WL1 := (HX.out.ten k x' hx).ws.len
    have GS := hidden (fun (p q : Int) (i : Nat) (h : x'.ss[i]? = some (p, q)) => (by
      have h1 := HX.out.sl.ok (p, q) (List.mem_flatMap.2 ⟨x', List.mem_of_getElem? hx, List.mem_of_getElem? h⟩)
      have h2 := HX.out.fr
      simp only at h1
      omega : 0 ≤ p ∧ p ≤ 2000))
    have V : TV w4 _ g7 g8 g9 frx _ _ _ esz By Hy Bz Hz k lx.length vw vs x' := ⟨Y7, Y8, Y9, ⟨esy, ely, hk, cy⟩, cz⟩
    clear Y7 Y8 Y9 cy cz hk my ely
    obtain ⟨aw, cw, rfl, -, -, fw⟩ := owns_sl V.ow.1
    obtain ⟨as0, cs, rfl, -, -, fs⟩ := owns_sl V.ow.2
    have hxx := hidden hx
    clear hx
    go_wp2
    refine c_begin 24 rfl (by kernel_rfl) ?_
    replace V := V.ext (Below.refl _ _).drew
    generalize World.drew _ = w6 at *
    have xx := Ext.refl w6
    obtain ⟨bx, ox, vw1, vs1, rfl, -, -, -, XC3, XC4, XW, XS⟩ := (HT.out.ext V.bb).at hxx.out
    obtain ⟨ax1, cx1, rfl, -⟩ := id XS
    have XC : ∀ w', Ext w6 w' → w'.cell? ⟨bx, ox + k * 5 + 4, none⟩ = some (.slice ax1 x'.ss.length cx1) := fun w' hw' => cell_keep hw' XC4
    refine c_P trivial 0 rfl ?_
    refine c_R (fun w' => Ext w6 w') xx trivial 1 rfl (fun w' hw' => by obtain ⟨q0, q1⟩ := (V.y8.ext hw').cells; go_simp; with_reducible rfl) ?_
    refine c_P ⟨xx, trivial⟩ 2 rfl ?_
    refine c_P ⟨xx, trivial⟩ 3 rfl ?_
    refine c_R (fun w' => Ext w6 w') xx ⟨xx, trivial⟩ 4 rfl (fun w' hw' => by obtain ⟨q0, q1⟩ := (V.y7.ext hw').cells; go_simp; with_reducible rfl) ?_
    refine c_P ⟨xx, xx, trivial⟩ 5 rfl ?_
    refine c_R (v := .bool false) (fun _ => True) trivial ⟨xx, xx, trivial⟩ 6 rfl (fun w' _ => by go_simp) ?_
    refine c_P ⟨trivial, xx, xx, trivial⟩ 7 rfl ?_
    refine c_P ⟨trivial, xx, xx, trivial⟩ 8 rfl ?_
    refine c_R (fun w' => Ext w6 w') xx ⟨trivial, xx, xx, trivial⟩ 9 rfl (fun w' hw' => by obtain ⟨q0, q1⟩ := (V.y8.ext hw').cells; go_simp; with_reducible rfl) ?_
    refine c_P ⟨xx, trivial, xx, xx, trivial⟩ 10 rfl ?_
    refine c_R (fun _ => True) trivial ⟨xx, trivial, xx, xx, trivial⟩ 11 rfl (fun w' _ => by go_simp; with_reducible rfl) ?_
    refine c_P ⟨trivial, xx, trivial, xx, xx, trivial⟩ 12 rfl ?_
    refine c_R (fun w' => Ext w6 w') xx ⟨trivial, xx, trivial, xx, xx, trivial⟩ 13 rfl (fun w' hw' => by obtain ⟨q0, q1, q2, q3, q4⟩ := (V.ext hw').ten; go_simp; with_reducible rfl) ?_
    refine c_P ⟨xx, trivial, xx, trivial, xx, xx, trivial⟩ 14 rfl ?_
    refine c_P ⟨xx, trivial, xx, trivial, xx, xx, trivial⟩ 15 rfl ?_
    refine c_R (fun w' => Ext w6 w') xx ⟨xx, trivial, xx, trivial, xx, xx, trivial⟩ 16 rfl (fun w' hw' => by obtain ⟨q0, q1⟩ := (V.y7.ext hw').cells; go_simp; with_reducible rfl) ?_
    refine c_P ⟨xx, xx, trivial, xx, trivial, xx, xx, trivial⟩ 17 rfl ?_
    refine c_R (fun _ => True) trivial ⟨xx, xx, trivial, xx, trivial, xx, xx, trivial⟩ 18 rfl (fun w' _ => by go_simp; with_reducible rfl) ?_
    refine c_P ⟨trivial, xx, xx, trivial, xx, trivial, xx, xx, trivial⟩ 19 rfl ?_
    refine c_R (fun w' => Ext w6 w') xx ⟨trivial, xx, xx, trivial, xx, trivial, xx, xx, trivial⟩ 20 rfl (fun w' hw' => by have q4 := XC w' hw'; go_simp; with_reducible rfl) ?_
    refine c_P ⟨xx, trivial, xx, xx, trivial, xx, trivial, xx, xx, trivial⟩ 21 rfl ?_
    refine c_R (v := .bool false) (fun _ => True) trivial ⟨xx, trivial, xx, xx, trivial, xx, trivial, xx, xx, trivial⟩ 22 rfl (fun w' _ => by go_simp) ?_
    refine c_P ⟨trivial, xx, trivial, xx, xx, trivial, xx, trivial, xx, xx, trivial⟩ 23 rfl ?_
    refine c_done (by kernel_rfl) ?_
    obtain ⟨c0, c1⟩ := V.y8.cells
    obtain ⟨d0, d1, d2, d3, d4⟩ := V.ten
    clear XC
    go_wp2
    clear c0 c1 d0 d1 d2 d3 d4 XC3 XC4 XW XS
    go_loopw [58] (fun z wr => ∃ (j : Nat) (xt : Tn), j ≤ x'.ws.length ∧ z = .int .i64 j ∧ xt.ws.length = x'.ws.length ∧ xt.ss = x'.ss ∧ TV w4 wr g7 g8 g9 frx (.slice (some ⟨bx, ox, none⟩) lx.length cx) (.slice (some ⟨gt, 0, none⟩) lx.length ky) (.slice az lx.length kz) esz By Hy Bz Hz k lx.length (.slice aw x'.ws.length cw) (.slice as0 x'.ss.length cs) xt) (fun z _ => x'.ws.length - (intOf z).toNat)
    case atStart => exact ⟨0, x', by omega, rfl, rfl, rfl, V⟩
    case round =>
      clear V xx
      obtain ⟨j, xt, hj, rfl, e1, e2, V⟩ := hrel
      obtain ⟨c0, c1⟩ := V.y8.cells
      obtain ⟨d0, d1, d2, d3, d4⟩ := V.ten
      by_cases hlt : j < x'.ws.length
      · have hltI : (j : Int) < (x'.ws.length : Int) := by omega
        obtain ⟨gw, rfl⟩ := fw (by omega)
        obtain ⟨⟨s, v, p, q⟩, hq⟩ := getx (show j < xt.ws.length by omega)
        obtain ⟨f0, f1⟩ := V.win e1 hq
        have V2 := V.putW n e1 hq hyz
        have e3 : (xt.ws.set j (s, v, n, q)).length = x'.ws.length := by rw [List.length_set]; exact e1
        clear V e1 hq
        go_wp2
        clear c0 c1 d0 d1 d2 d3 d4 f0 f1
        go_roundw
        case rel => exact ⟨j + 1, { xt with ws := xt.ws.set j (s, v, n, q) }, by omega, by go_num, e3, e2, V2⟩
        case measure => simp [intOf]; omega
      · have hltI : ¬ (j : Int) < (x'.ws.length : Int) := by omega
        clear fw e1
        go_wp2
        clear c0 c1 d0 d1 d2 d3 d4
        go_loopw [79] (fun z wr => ∃ (j : Nat) (xt : Tn), j ≤ x'.ss.length ∧ z = .int .i64 j ∧ Mv x'.ss xt.ss j ∧ TV w4 wr g7 g8 g9 frx (.slice (some ⟨bx, ox, none⟩) lx.length cx) (.slice (some ⟨gt, 0, none⟩) lx.length ky) (.slice az lx.length kz) esz By Hy Bz Hz k lx.length (.slice aw x'.ws.length cw) (.slice as0 x'.ss.length cs) xt) (fun z _ => x'.ss.length - (intOf z).toNat)
        case atStart => exact ⟨0, xt, by omega, rfl, by rw [e2]; exact Mv.zero _, V⟩
        case round =>
          clear V e2
          obtain ⟨i, xu, hi, rfl, MV, V⟩ := hrel
          by_cases hl2 : i < x'.ss.length
          · have hl2I : (i : Int) < (x'.ss.length : Int) := by omega
            obtain ⟨ga, rfl⟩ := fs (by omega)
            obtain ⟨⟨p, q⟩, hq⟩ := getx hl2
            obtain ⟨hp0, hp1⟩ := GS.out p q i hq
            go_wp2
            refine c_begin 21 rfl (by kernel_rfl) ?_
            replace V := V.ext (Below.refl _ _).drew
            generalize wr.drew = w7 at *
            have xx := Ext.refl w7
            have mq := MV.at hq
            have wp1 : IntKind.i64.wrap (p + 1) = p + 1 := by rw [IntKind.wrap_i64]; omega
            refine c_P trivial 0 rfl ?_
            refine c_R (fun w' => Ext w7 w') xx trivial 1 rfl (fun w' hw' => by obtain ⟨q0, q1⟩ := (V.y8.ext hw').cells; go_simp; with_reducible rfl) ?_
            refine c_P ⟨xx, trivial⟩ 2 rfl ?_
            refine c_R (fun _ => True) trivial ⟨xx, trivial⟩ 3 rfl (fun w' _ => by go_simp; with_reducible rfl) ?_
            refine c_P ⟨trivial, xx, trivial⟩ 4 rfl ?_
            refine c_R (fun w' => Ext w7 w') xx ⟨trivial, xx, trivial⟩ 5 rfl (fun w' hw' => by obtain ⟨q0, q1, q2, q3, q4⟩ := (V.ext hw').ten; go_simp; with_reducible rfl) ?_
            refine c_P ⟨xx, trivial, xx, trivial⟩ 6 rfl ?_
            refine c_P ⟨xx, trivial, xx, trivial⟩ 7 rfl ?_
            refine c_R (fun w' => Ext w7 w') xx ⟨xx, trivial, xx, trivial⟩ 8 rfl (fun w' hw' => by obtain ⟨q0, q1⟩ := (V.y8.ext hw').cells; go_simp; with_reducible rfl) ?_
            refine c_P ⟨xx, xx, trivial, xx, trivial⟩ 9 rfl ?_
            refine c_R (fun _ => True) trivial ⟨xx, xx, trivial, xx, trivial⟩ 10 rfl (fun w' _ => by go_simp; with_reducible rfl) ?_
            refine c_P ⟨trivial, xx, xx, trivial, xx, trivial⟩ 11 rfl ?_
            refine c_R (fun w' => Ext w7 w') xx ⟨trivial, xx, xx, trivial, xx, trivial⟩ 12 rfl (fun w' hw' => by obtain ⟨q0, q1, q2, q3, q4⟩ := (V.ext hw').ten; go_simp; with_reducible rfl) ?_
            refine c_P ⟨xx, trivial, xx, xx, trivial, xx, trivial⟩ 13 rfl ?_
            refine c_R (fun _ => True) trivial ⟨xx, trivial, xx, xx, trivial, xx, trivial⟩ 14 rfl (fun w' _ => by go_simp; with_reducible rfl) ?_
            refine c_P ⟨trivial, xx, trivial, xx, xx, trivial, xx, trivial⟩ 15 rfl ?_
            refine c_R (fun w' => Ext w7 w') xx ⟨trivial, xx, trivial, xx, xx, trivial, xx, trivial⟩ 16 rfl (fun w' hw' => by obtain ⟨q0, q1⟩ := (V.ext hw').slo MV.1 mq; go_simp; with_reducible rfl) ?_
            refine c_R (v := .int .i64 (p + 1)) (fun _ => True) trivial ⟨xx, trivial, xx, trivial, xx, xx, trivial, xx, trivial⟩ 17 rfl (fun w' _ => by go_simp) ?_
            refine c_R (fun _ => True) trivial ⟨trivial, xx, trivial, xx, trivial, xx, xx, trivial, xx, trivial⟩ 18 rfl (fun w' _ => by go_simp; with_reducible rfl) ?_
            refine c_P ⟨trivial, trivial, xx, trivial, xx, trivial, xx, xx, trivial, xx, trivial⟩ 19 rfl ?_
            obtain ⟨f0, f1⟩ := V.slo MV.1 mq
            have V2 := V.putS (p + 1) MV.1 mq hyz
            refine c_move 20 (by kernel_rfl) (c_op 20 [(18, fun _ => True)] (by kernel_rfl) rfl (by kernel_rfl) (fun K hK => ?_))
            go_simp
            refine hK.out _ _ ⟨trivial, trivial⟩ ?_
            try simp only [Act.put, List.setIfInBounds_toArray, List.set_cons_zero, List.set_cons_succ]
            clear hK K
            refine c_done (by kernel_rfl) ?_
            go_wp2
            go_roundw
            case rel => exact ⟨i + 1, { xu with ss := xu.ss.set i (p + 1, q) }, by omega, by go_num, MV.step hq, V2⟩
            case measure => simp [intOf]; omega
          · have hl2I : ¬ (i : Int) < (x'.ss.length : Int) := by omega
            obtain rfl : i = x'.ss.length := by omega
            go_wp2
            refine c_begin 36 rfl (by kernel_rfl) ?_
            replace V := V.ext (Below.refl _ _).drew
            generalize wr.drew = w7 at *
            have xx := Ext.refl w7
            obtain ⟨ly, hly, TY, WY, SY⟩ := V.tns
            have nss := MV.ne (by omega)
            have nxy : x' ≠ xu := fun e => nss (by rw [e])
            have nl : lx ≠ ly := fun e => nxy (by
              have h1 := hxx.out
              rw [e, hly] at h1
              cases h1
              rfl)
            have TX := HT.out.ext V.bb
            have TZ := V.cz.tns
            rw [mz] at TZ
            obtain ⟨bx', ox', vx1, vx2, e9, t0, t1, t2, t3, t4, XW, XS⟩ := TX.at hxx.out
            simp only [Option.some.injEq, Addr.mk.injEq, and_true] at e9
            obtain ⟨rfl, rfl⟩ := e9
            obtain ⟨ax1, cx1, rfl, -⟩ := id XW
            obtain ⟨ax2, cx2, rfl, -⟩ := id XS
            have XC := hidden (fun w' (hw' : Ext w7 w') => cells5 hw' t0 t1 t2 t3 t4)
            have E1 := hidden (fun w' (b : Ext w7 w') => equal_self frx _ _ lx w' (TX.ext b) (TZ.ext b))
            have E2 := hidden (fun w' (b : Ext w7 w') => requal_self frx _ _ lx w' (TX.ext b) (TZ.ext b))
            have E3 := hidden (fun w' (b : Ext w7 w') => (equal_any frx frx _ _ lx ly w' (TX.ext b) (TY.ext b)).mono (fun e _ h => ⟨h.1.trans (by rw [decide_eq_false (fun h => nl h.2)]), h.2⟩ : ∀ e w'', _ → e = .returned (.bool false) ∧ Below w'.heap.size w' w''))
            have E4 := hidden (fun w' (b : Ext w7 w') => (same_any x' xu _ _ _ _ w' (XW.ext b) (XS.ext b) (WY.ext b) (SY.ext b)).mono (fun e _ h => ⟨h.1.trans (by rw [show sameB x' xu = false from by rw [Bool.eq_false_iff]; exact fun h => nxy (sameB_iff.1 h)]), h.2⟩ : ∀ e w'', _ → e = .returned (.bool false) ∧ Below w'.heap.size w' w''))
            have E5 := hidden (fun w' (b : Ext w7 w') => (right_tab frx _ lx w' (TX.ext b) HX.out.i64 HX.out.okTs).mono (fun e _ h => ⟨h.1.trans (by rw [HX.out.where_]; rfl), h.2⟩ : ∀ e w'', _ → e = .returned (.bool true) ∧ Below w'.heap.size w' w''))
            clear t0 t1 t2 t3 t4 XW XS WY SY TY TX TZ nl nxy nss MV hly fs GS
            refine c_R (fun w' => Ext w7 w') xx trivial 0 rfl (fun w' hw' => by obtain ⟨q0, q1⟩ := (V.y7.ext hw').cells; go_simp; with_reducible rfl) ?_
            refine c_R (fun w' => Ext w7 w') xx ⟨xx, trivial⟩ 1 rfl (fun w' hw' => by obtain ⟨q0, q1⟩ := (V.y9.ext hw').cells; go_simp; with_reducible rfl) ?_
            refine c_move 2 (by kernel_rfl) (c_op 2 [] (by kernel_rfl) rfl (by kernel_rfl) (fun K hK => ?_))
            go_wp2_with fail
            refine (E1.out w7 xx).mono ?_
            rintro e w8 ⟨rfl, Bn⟩
            have xx8 := below_then xx Bn
            clear Bn
            go_simp
            refine hK.out _ _ trivial ?_
            try simp only [Act.put, List.setIfInBounds_toArray, List.set_cons_zero, List.set_cons_succ]
            clear hK K
            refine c_P trivial 3 rfl ?_
            refine c_R (fun w' => Ext w7 w') xx8 trivial 4 rfl (fun w' hw' => by obtain ⟨q0, q1⟩ := (V.y7.ext hw').cells; go_simp; with_reducible rfl) ?_
            refine c_R (fun w' => Ext w7 w') xx8 ⟨xx8, trivial⟩ 5 rfl (fun w' hw' => by obtain ⟨q0, q1⟩ := (V.y9.ext hw').cells; go_simp; with_reducible rfl) ?_
            refine c_move 6 (by kernel_rfl) (c_op 6 [] (by kernel_rfl) rfl (by kernel_rfl) (fun K hK => ?_))
            go_wp2_with fail
            refine (E2.out w8 xx8).mono ?_
            rintro e w9 ⟨rfl, Bn⟩
            have xx9 := below_then xx8 Bn
            clear Bn
            go_simp
            refine hK.out _ _ trivial ?_
            try simp only [Act.put, List.setIfInBounds_toArray, List.set_cons_zero, List.set_cons_succ]
            clear hK K
            refine c_P trivial 7 rfl ?_
            refine c_P trivial 8 rfl ?_
            refine c_R (fun w' => Ext w7 w') xx9 trivial 9 rfl (fun w' hw' => by obtain ⟨q0, q1⟩ := (V.y7.ext hw').cells; go_simp; with_reducible rfl) ?_
            refine c_R (fun w' => Ext w7 w') xx9 ⟨xx9, trivial⟩ 10 rfl (fun w' hw' => by obtain ⟨q0, q1⟩ := (V.y8.ext hw').cells; go_simp; with_reducible rfl) ?_
            refine c_move 11 (by kernel_rfl) (c_op 11 [] (by kernel_rfl) rfl (by kernel_rfl) (fun K hK => ?_))
            go_wp2_with fail
            refine (E3.out w9 xx9).mono ?_
            rintro e w10 ⟨rfl, Bn⟩
            have xx10 := below_then xx9 Bn
            clear Bn
            go_simp
            refine hK.out _ _ trivial ?_
            try simp only [Act.put, List.setIfInBounds_toArray, List.set_cons_zero, List.set_cons_succ]
            clear hK K
            refine c_P trivial 12 rfl ?_
            refine c_P trivial 13 rfl ?_
            refine c_P trivial 14 rfl ?_
            refine c_P trivial 15 rfl ?_
            refine c_R (fun w' => Ext w7 w') xx10 trivial 16 rfl (fun w' hw' => by obtain ⟨q0, q1⟩ := (V.y7.ext hw').cells; go_simp; with_reducible rfl) ?_
            refine c_P ⟨xx10, trivial⟩ 17 rfl ?_
            refine c_R (fun _ => True) trivial ⟨xx10, trivial⟩ 18 rfl (fun w' _ => by go_simp; with_reducible rfl) ?_
            refine c_R (fun w' => Ext w7 w') xx10 ⟨trivial, xx10, trivial⟩ 19 rfl (fun w' hw' => by obtain ⟨q0, q1, q2, q3, q4⟩ := XC.out w' hw'; go_simp; with_reducible rfl) ?_
            refine c_P ⟨xx10, trivial, xx10, trivial⟩ 20 rfl ?_
            refine c_R (fun w' => Ext w7 w') xx10 ⟨xx10, trivial, xx10, trivial⟩ 21 rfl (fun w' hw' => by obtain ⟨q0, q1⟩ := (V.y8.ext hw').cells; go_simp; with_reducible rfl) ?_
            refine c_P ⟨xx10, xx10, trivial, xx10, trivial⟩ 22 rfl ?_
            refine c_R (fun _ => True) trivial ⟨xx10, xx10, trivial, xx10, trivial⟩ 23 rfl (fun w' _ => by go_simp; with_reducible rfl) ?_
            refine c_R (fun w' => Ext w7 w') xx10 ⟨trivial, xx10, xx10, trivial, xx10, trivial⟩ 24 rfl (fun w' hw' => by obtain ⟨q0, q1, q2, q3, q4⟩ := (V.ext hw').ten; go_simp; with_reducible rfl) ?_
            refine c_move 25 (by kernel_rfl) (c_op 25 [(23, fun _ => True), (21, fun w' => Ext w7 w'), (18, fun _ => True), (16, fun w' => Ext w7 w')] (by kernel_rfl) rfl (by kernel_rfl) (fun K hK => ?_))
            go_wp2_with fail
            refine (E4.out w10 xx10).mono ?_
            rintro e w11 ⟨rfl, Bn⟩
            have xx11 := below_then xx10 Bn
            clear Bn
            go_simp
            refine hK.out _ _ ⟨trivial, xx11, trivial, xx11, trivial⟩ ?_
            try simp only [Act.put, List.setIfInBounds_toArray, List.set_cons_zero, List.set_cons_succ]
            clear hK K
            refine c_P ⟨trivial, xx11, trivial, xx11, trivial⟩ 26 rfl ?_
            refine c_P ⟨trivial, xx11, trivial, xx11, trivial⟩ 27 rfl ?_
            refine c_P ⟨trivial, xx11, trivial, xx11, trivial⟩ 28 rfl ?_
            refine c_R (fun w' => Ext w7 w') xx11 ⟨trivial, xx11, trivial, xx11, trivial⟩ 29 rfl (fun w' hw' => by obtain ⟨q0, q1⟩ := (V.y7.ext hw').cells; go_simp; with_reducible rfl) ?_
            refine c_move 30 (by kernel_rfl) (c_op 30 [(23, fun _ => True), (21, fun w' => Ext w7 w'), (18, fun _ => True), (16, fun w' => Ext w7 w')] (by kernel_rfl) rfl (by kernel_rfl) (fun K hK => ?_))
            go_wp2_with fail
            refine (E5.out w11 xx11).mono ?_
            rintro e w12 ⟨rfl, Bn⟩
            have xx12 := below_then xx11 Bn
            clear Bn
            go_simp
            refine hK.out _ _ ⟨trivial, xx12, trivial, xx12, trivial⟩ ?_
            try simp only [Act.put, List.setIfInBounds_toArray, List.set_cons_zero, List.set_cons_succ]
            clear hK K
            refine c_P ⟨trivial, xx12, trivial, xx12, trivial⟩ 31 rfl ?_
            refine c_P ⟨trivial, xx12, trivial, xx12, trivial⟩ 32 rfl ?_
            refine c_move 33 (by kernel_rfl) (c_op 33 [(23, fun _ => True), (21, fun w' => Ext w7 w'), (18, fun _ => True), (16, fun w' => Ext w7 w')] (by kernel_rfl) rfl (by kernel_rfl) (fun K hK => ?_))
            go_wp2_with fail
            refine (known_law w12).mono ?_
            rintro e w13 ⟨rfl, Bn⟩
            have xx13 := below_then xx12 Bn
            clear Bn
            go_simp
            refine hK.out _ _ ⟨trivial, xx13, trivial, xx13, trivial⟩ ?_
            try simp only [Act.put, List.setIfInBounds_toArray, List.set_cons_zero, List.set_cons_succ]
            clear hK K
            refine c_P ⟨trivial, xx13, trivial, xx13, trivial⟩ 34 rfl ?_
            refine c_P ⟨trivial, xx13, trivial, xx13, trivial⟩ 35 rfl ?_
            refine c_done (by kernel_rfl) ?_
            go_wp2
            go_ret
            exact ⟨rfl, below_then HB.out (below_then V.bb xx13)⟩

end Go.Proofs.Ytffjhimdamdenaa
