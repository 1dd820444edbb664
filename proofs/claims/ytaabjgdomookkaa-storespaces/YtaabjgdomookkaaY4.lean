/- Contracts of slices.Clone and of store's Copy. -/
import Derived.Test.YtaabjgdomookkaaY3
namespace Go.Proofs.Ytaabjgdomookkaa
open Go.RowKit

set_option maxHeartbeats 1000000 in
theorem cloneB_any (g n c : Nat) (l : List Bool) (w : World) (hv : Row w (slG g n c) (l.map Value.bool)) (hl : n ≤ 65536) (h0 : 0 < n) :
    Calls Try.prog 28 #[slG g n c] w fun e w' => ∃ v', e = .returned v' ∧ NewR w.heap.size 4 n (l.map Value.bool) v' w' ∧ Ext w w' := by
  have hln : l.length = n := by
    obtain ⟨a, c', e, -⟩ := hv
    simp only [Value.slice.injEq, List.length_map] at e
    exact e.2.1.symm
  have R1 := hv.below ((Below.refl w.heap.size w).alloc (Nat.le_refl _) (.cells #[] 4))
  have O1 : (w.alloc (.cells #[] 4)).ownsRow w.heap.size 4 1 (.slice (some ⟨w.heap.size, 0, none⟩) 0 0) 0 [] :=
    ⟨rfl, .inr ⟨w.heap.size, 0, #[], rfl, Nat.le_refl _, heap_alloc_new w _, Nat.zero_le _, by unfold maxLen; omega, by simp, by simp⟩⟩
  have en : (binOp BinOp.eql 23 (slG g n c) (.slice none 0 0)).run Try.prog w = .ok (.bool false) w := by kernel_rfl
  go_enter Try.func28, Try.ntmps28
  go_wp2_with (at_builtin; refine wpList_app rfl (.tmp 5) (.tmp 6) 23 rfl w.heap.size 4 (.bool false) 1 Try.underlying23 info_bool rfl rfl O1 rfl R1 (one_bools l) (by simp [maxLen]; omega) (by simp; omega) (by simp) ?_)
  intro v2 w2 ho2 hg2
  have q := ((Below.refl w.heap.size w).alloc (Nat.le_refl _) (.cells #[] 4)).grown hg2 (by simp) (fun k hk => (O1.lt k hk).1)
  have o2 : w2.ownsRow w.heap.size 4 1 v2 n (l.map Value.bool) := by
    simpa [hln] using ho2
  obtain ⟨g2, c2, e2, b2, d2⟩ := Hd.of_owns o2 h0
  have NR : Hid (NewR w.heap.size 4 n (l.map Value.bool) v2 w2) := ⟨g2, c2, e2, b2, d2⟩
  clear ho2 o2 e2 b2 d2
  go_wp2
  go_ret
  exact ⟨_, rfl, NR.out, q⟩

set_option maxHeartbeats 1000000 in
theorem cloneV_any (g n c : Nat) (l : List UInt16) (w : World) (hv : Row w (slG g n c) (l.map wV)) (hl : n ≤ 65536) (h0 : 0 < n) :
    Calls Try.prog 29 #[slG g n c] w fun e w' => ∃ v', e = .returned v' ∧ NewR w.heap.size 24 n (l.map wV) v' w' ∧ Ext w w' := by
  have hln : l.length = n := by
    obtain ⟨a, c', e, -⟩ := hv
    simp only [Value.slice.injEq, List.length_map] at e
    exact e.2.1.symm
  have R1 := hv.below ((Below.refl w.heap.size w).alloc (Nat.le_refl _) (.cells #[] 24))
  have O1 : (w.alloc (.cells #[] 24)).ownsRow w.heap.size 24 1 (.slice (some ⟨w.heap.size, 0, none⟩) 0 0) 0 [] :=
    ⟨rfl, .inr ⟨w.heap.size, 0, #[], rfl, Nat.le_refl _, heap_alloc_new w _, Nat.zero_le _, by unfold maxLen; omega, by simp, by simp⟩⟩
  have en : (binOp BinOp.eql 25 (slG g n c) (.slice none 0 0)).run Try.prog w = .ok (.bool false) w := by kernel_rfl
  go_enter Try.func29, Try.ntmps29
  go_wp2_with (at_builtin; refine wpList_app rfl (.tmp 5) (.tmp 6) 25 rfl w.heap.size 24 (.int .u16 0) 2 Try.underlying25 info_u16 rfl rfl O1 rfl R1 (one_words l) (by simp [maxLen]; omega) (by simp; omega) (by simp) ?_)
  intro v2 w2 ho2 hg2
  have q := ((Below.refl w.heap.size w).alloc (Nat.le_refl _) (.cells #[] 24)).grown hg2 (by simp) (fun k hk => (O1.lt k hk).1)
  have o2 : w2.ownsRow w.heap.size 24 1 v2 n (l.map wV) := by
    simpa [hln] using ho2
  obtain ⟨g2, c2, e2, b2, d2⟩ := Hd.of_owns o2 h0
  have NR : Hid (NewR w.heap.size 24 n (l.map wV) v2 w2) := ⟨g2, c2, e2, b2, d2⟩
  clear ho2 o2 e2 b2 d2
  go_wp2
  go_ret
  exact ⟨_, rfl, NR.out, q⟩

theorem NewR.ge {base base' n : Nat} {e : TypeId} {xs : List Value} {v : Value} {w : World} (h : NewR base e n xs v w) (hb : base' ≤ base) : NewR base' e n xs v w := by
  obtain ⟨g, c, e, h1, h2⟩ := h
  exact ⟨g, c, e, Nat.le_trans hb h1, h2⟩
theorem NewR.neu {base n n' ia ib ic j : Nat} {e : TypeId} {xs : List Value} {s : Cs} {u v : Value} {w3 w4 : World} (h : NewR w3.heap.size e n xs v w4) (hu : PsN base n' s ia ib ic j u w3) : NeV v u := by
  obtain ⟨g, c, rfl, h1, h2⟩ := h
  exact PsN.ne hu h1

set_option maxHeartbeats 2000000 in
theorem copy_any (lo hi g n : Nat) (s : Cs) (w : World) (h : SD w lo hi g n s) :
    Calls Try.prog 13 #[ptrG g] w fun e w' => ∃ g', e = .returned (ptrG g') ∧ SD w' w.heap.size w'.heap.size g' n s ∧ Below w.heap.size w w' := by
  obtain ⟨hl, hn, -, -, -, g0, g1, g2, g3, c0, c1, c2, c3, hb, -, -, r0, r1, r2, r3⟩ := h
  have HL := hidden hl
  have N1 := hidden hn
  obtain ⟨hn1, hn2⟩ := hn
  obtain ⟨l0, l1, l2, l3⟩ := hl
  have R0 := hidden ((r0.row (n := n) (by simpa using l0)).drew)
  have R1 := hidden ((r1.row (n := n) (by simpa using l1)).drew)
  have R2 := hidden ((r2.row (n := n) (by simpa using l2)).drew)
  have R3 := hidden ((r3.row (n := n) (by simpa using l3)).drew)
  have HB : Hid (∀ w', Ext w.drew w' → w'.cell? ⟨g, 0, none⟩ = some (slG g0 n c0) ∧ w'.cell? ⟨g, 1, none⟩ = some (slG g1 n c1) ∧ w'.cell? ⟨g, 2, none⟩ = some (slG g2 n c2) ∧ w'.cell? ⟨g, 3, none⟩ = some (slG g3 n c3)) := fun w' hx => by
    have h2 := hb.drew.below hx hb.drew.lt
    exact ⟨h2.cell 0, h2.cell 1, h2.cell 2, h2.cell 3⟩
  clear hb r0 r1 r2 r3 l0 l1 l2 l3
  go_enter Try.func13, Try.ntmps13
  go_upto_region 1 with fail
  refine c_begin 23 rfl (by kernel_rfl) ?_
  have xx := Ext.refl w.drew
  have B0 := (Below.refl w.heap.size w).drew
  have es : w.drew.heap.size = w.heap.size := rfl
  have ES := hidden es
  have BH := hidden B0
  clear B0 es
  generalize w.drew = w0 at *
  refine c_P trivial 0 rfl ?_
  refine c_P trivial 1 rfl ?_
  refine c_P trivial 2 rfl ?_
  refine c_R (fun w' => Ext w0 w') xx trivial 3 rfl (fun w' hx => by obtain ⟨q0, q1, q2, q3⟩ := HB.out w' hx; go_simp; with_reducible rfl) ?_
  refine c_P ⟨xx, trivial⟩ 5 rfl ?_
  refine c_P ⟨xx, trivial⟩ 6 rfl ?_
  refine c_P ⟨xx, trivial⟩ 7 rfl ?_
  refine c_R (fun w' => Ext w0 w') xx ⟨xx, trivial⟩ 8 rfl (fun w' hx => by obtain ⟨q0, q1, q2, q3⟩ := HB.out w' hx; go_simp; with_reducible rfl) ?_
  refine c_P ⟨xx, xx, trivial⟩ 10 rfl ?_
  refine c_P ⟨xx, xx, trivial⟩ 11 rfl ?_
  refine c_P ⟨xx, xx, trivial⟩ 12 rfl ?_
  refine c_R (fun w' => Ext w0 w') xx ⟨xx, xx, trivial⟩ 13 rfl (fun w' hx => by obtain ⟨q0, q1, q2, q3⟩ := HB.out w' hx; go_simp; with_reducible rfl) ?_
  refine c_P ⟨xx, xx, xx, trivial⟩ 15 rfl ?_
  refine c_P ⟨xx, xx, xx, trivial⟩ 16 rfl ?_
  refine c_P ⟨xx, xx, xx, trivial⟩ 17 rfl ?_
  refine c_R (fun w' => Ext w0 w') xx ⟨xx, xx, xx, trivial⟩ 18 rfl (fun w' hx => by obtain ⟨q0, q1, q2, q3⟩ := HB.out w' hx; go_simp; with_reducible rfl) ?_
  clear HB
  refine c_phase (n := 3) [4, 9, 14, 19] [(some 7, 4), (some 12, 9), (some 17, 14), (some 22, 19)] (PsN w0.heap.size n s 4 9 14) NeV NeV.symm (by kernel_rfl) (by kernel_rfl) ?mono ?hC ?hops ?hend
  case mono => exact PsN.ext
  case hC => exact fun w' hx => ⟨hx, hx, hx, hx, trivial⟩
  case hops =>
    intro i hi vs w3 hx hd
    simp only [List.mem_cons, List.not_mem_nil, or_false] at hi
    rcases hi with rfl | rfl | rfl | rfl
    · refine phase_op 4 [] (by kernel_rfl) rfl (fun K hK => ?_)
      simp only [putsD]
      try simp only [Act.put, List.setIfInBounds_toArray, List.set_cons_zero, List.set_cons_succ]
      go_wp2_with fail
      refine (cloneB_any _ n _ _ _ (R0.out.below hx) hn2 hn1).mono ?_
      rintro e w4 ⟨v4, rfl, NR, E4⟩
      go_simp
      exact hK.out _ _ E4 (.inl ⟨rfl, NR.ge hx.size⟩) (fun j _ _ u hu => NewR.neu NR hu)
    · refine phase_op 9 [(some 7, 4)] (by kernel_rfl) rfl (fun K hK => ?_)
      simp only [putsD]
      try simp only [Act.put, List.setIfInBounds_toArray, List.set_cons_zero, List.set_cons_succ]
      go_wp2_with fail
      refine (cloneB_any _ n _ _ _ (R1.out.below hx) hn2 hn1).mono ?_
      rintro e w4 ⟨v4, rfl, NR, E4⟩
      go_simp
      exact hK.out _ _ E4 (.inr (.inl ⟨rfl, NR.ge hx.size⟩)) (fun j _ _ u hu => NewR.neu NR hu)
    · refine phase_op 14 [(some 12, 9)] (by kernel_rfl) rfl (fun K hK => ?_)
      simp only [putsD]
      try simp only [Act.put, List.setIfInBounds_toArray, List.set_cons_zero, List.set_cons_succ]
      go_wp2_with fail
      refine (cloneV_any _ n _ _ _ (R2.out.below hx) hn2 hn1).mono ?_
      rintro e w4 ⟨v4, rfl, NR, E4⟩
      go_simp
      exact hK.out _ _ E4 (.inr (.inr (.inl ⟨rfl, NR.ge hx.size⟩))) (fun j _ _ u hu => NewR.neu NR hu)
    · refine phase_op 19 [(some 17, 14)] (by kernel_rfl) rfl (fun K hK => ?_)
      simp only [putsD]
      try simp only [Act.put, List.setIfInBounds_toArray, List.set_cons_zero, List.set_cons_succ]
      go_wp2_with fail
      refine (cloneV_any _ n _ _ _ (R3.out.below hx) hn2 hn1).mono ?_
      rintro e w4 ⟨v4, rfl, NR, E4⟩
      go_simp
      exact hK.out _ _ E4 (.inr (.inr (.inr ⟨by decide, by decide, by decide, NR.ge hx.size⟩))) (fun j _ _ u hu => NewR.neu NR hu)
  case hend =>
    intro vs w3 BZ hP hR
    obtain ⟨g0, c0, e0, l0, z0⟩ := PsN.at0 (by decide) (hP 4 (by simp))
    obtain ⟨g1, c1, e1, l1, z1⟩ := PsN.at1 (by decide) (hP 9 (by simp))
    obtain ⟨g2, c2, e2, l2, z2⟩ := PsN.at2 (by decide) (hP 14 (by simp))
    obtain ⟨g3, c3, e3, l3, z3⟩ := PsN.at3 (by decide) (hP 19 (by simp))
    have n01 := NeV.g (hR 4 (by simp) 9 (by simp) (by decide)) e0 e1
    have n23 := NeV.g (hR 14 (by simp) 19 (by simp) (by decide)) e2 e3
    simp only [putsD, e0, e1, e2, e3]
    try simp only [Act.put, List.setIfInBounds_toArray, List.set_cons_zero, List.set_cons_succ]
    clear hP hR e0 e1 e2 e3
    clear vs
    have bb := (⟨BZ, BZ, BZ, BZ, trivial⟩ : allC [(18, fun w' => Ext w0 w'), (13, fun w' => Ext w0 w'), (8, fun w' => Ext w0 w'), (3, fun w' => Ext w0 w')] w3)
    refine c_P bb 20 rfl ?_
    refine c_move 21 (by kernel_rfl) (c_op 21 [(18, fun w' => Ext w0 w'), (13, fun w' => Ext w0 w'), (8, fun w' => Ext w0 w'), (3, fun w' => Ext w0 w')] (by kernel_rfl) rfl (by kernel_rfl) (fun K hK => ?_))
    go_simp
    have B9 := Ext.trans BZ ((Below.refl w3.heap.size w3).alloc (Nat.le_refl _) (.cells #[slG g0 n c0, slG g1 n c1, slG g2 n c2, slG g3 n c3] 50))
    refine hK.out _ _ ⟨B9, B9, B9, B9, trivial⟩ ?_
    clear K hK
    refine c_P ⟨B9, B9, B9, B9, trivial⟩ 22 rfl ?_
    refine c_done (by kernel_rfl) ?_
    have S := hidden (Sto.new (t := 50) (pre := []) BZ N1.out HL.out (by decide) l0 l1 l2 l3 n01 n23 z0 z1 z2 z3 rfl)
    have B9 := hidden (below_then BH.out B9)
    rw [ES.out] at S
    clear z0 z1 z2 z3 n01 n23 l0 l1 l2 l3 BZ xx
    go_wp2
    go_ret
    exact ⟨_, rfl, S.out, B9.out⟩

end Go.Proofs.Ytaabjgdomookkaa
