/- Contract of pdu.guess, by function. -/
import Derived.Test.YtdihcdphgiaepaaZZ13
namespace Go.Proofs.Ytdihcdphgiaepaa
open Go.RowKit
def NewQ (base : Nat) (v : Value) : Prop := ∃ x0 x1 x2 x3 x4 vb vv x7 x8, v = .agg #[x0, x1, x2, x3, x4, vb, vv, x7, x8] ∧ NewV base vb ∧ NewV base vv
theorem NewQ.le {base base' : Nat} {v : Value} (h : NewQ base v) (hb : base' ≤ base) : NewQ base' v := by
 obtain ⟨x0, x1, x2, x3, x4, vb, vv, x7, x8, e, h1, h2⟩ := h
 exact ⟨x0, x1, x2, x3, x4, vb, vv, x7, x8, e, h1.le hb, h2.le hb⟩
theorem NewQ.parts {base : Nat} {x0 x1 x2 x3 x4 vb vv x7 x8 : Value} (h : NewQ base (.agg #[x0, x1, x2, x3, x4, vb, vv, x7, x8])) : NewV base vb ∧ NewV base vv := by
 obtain ⟨_, _, _, _, _, _, _, _, _, e, h1, h2⟩ := h
 simp only [Value.agg.injEq, Array.mk.injEq, List.cons.injEq] at e
 obtain ⟨-, -, -, -, -, rfl, rfl, -⟩ := e
 exact ⟨h1, h2⟩
theorem Blk.set_ne {w : World} {g g' : Nat} {e : TypeId} {xs : List Value} (h : Blk w g' e xs) (hne : g ≠ g') (i : Nat) (v : Value) : Blk (w.setCell ⟨g, i, none⟩ v) g' e xs := by
 unfold Blk at h ⊢
 simp only [World.setCell, Array.getElem?_modify, hne, if_false]
 exact h
theorem wOf_wrap (n : Int) : ((wOf n).toNat : Int) = n % 65536 := wOf_nat n
theorem row_one_w (w : World) (n : Int) (h : 0 ≤ n ∧ n ≤ 65535) (g : Nat) (hg : g = w.heap.size) : Row (w.alloc (.cells #[.int .u16 n] 24)) (.slice (some ⟨g, 0, none⟩) 1 1) ([wOf n].map wV) := by
 subst hg
 have : [wOf n].map wV = [.int .u16 n] := by simp [wV, wOf_wrap]; omega
 rw [this]; exact row_new w _ 24 1 rfl (by decide)
theorem row_one_b (w : World) (x : Bool) (g : Nat) (hg : g = w.heap.size) : Row (w.alloc (.cells #[.bool x] 4)) (.slice (some ⟨g, 0, none⟩) 1 1) ([x].map Value.bool) := by subst hg; exact row_new w _ 4 1 rfl (by decide)
theorem getN_in (bs : List UInt8) (n : Int) : 0 ≤ getN bs n ∧ getN bs n ≤ 65535 := by
 unfold getN
 split
 ·
  have := (mkW (bs.getD n.toNat 0) (bs.getD (n.toNat + 1) 0)).toNat_lt; omega
 ·
  omega
set_option maxRecDepth 100000 in
set_option maxHeartbeats 400000 in
theorem guess_pdu_1 (v : Value) (bs : List UInt8) (w : World) (hv : Row w v (bs.map bV)) (h0 : bs ≠ []) (hf : fnOf bs = 1) :
  Calls Try.prog 57 #[v] w fun e w' => ∃ v', e = .returned v' ∧ IsRq w' v' (gP bs) ∧ Below w.heap.size w w' ∧ NewQ w.heap.size v' := by
 obtain ⟨a, cap, rfl, -⟩ := id hv
 obtain ⟨hl, hc, hm, hcell⟩ := hv.at
 simp only [List.length_map] at hl hc hv hcell ⊢
 obtain ⟨b, off, rfl, hcl⟩ := hcell 0 0 (List.length_pos_iff.2 h0)
 have c0 := hcl 0 (List.length_pos_iff.2 h0)
 have hp : (0 : Int) < (bs.length : Int) := by have := List.length_pos_iff.2 h0; omega
 have EQ : Hid (gP bs = ⟨1, getN bs 1, getN bs 3, 0, 0, [], [], 0, 0⟩) := by show _ = _; simp [gP, hf]
 have hf2 : (bs.getD 0 0).toNat = 1 := by unfold fnOf at hf; omega
 simp only [bV, hf2, Nat.add_zero] at c0
 have hlt := lt_of_cell c0
 have C1 := hidden (fun w' (h : Row w' (.slice (some ⟨b, off, none⟩) bs.length cap) (bs.map bV)) => get_pdu _ bs 1 w' (by omega) h)
 obtain ⟨i1, j1⟩ := getN_in bs 1
 have C3 := hidden (fun w' (h : Row w' (.slice (some ⟨b, off, none⟩) bs.length cap) (bs.map bV)) => get_pdu _ bs 3 w' (by omega) h)
 obtain ⟨i3, j3⟩ := getN_in bs 3
 generalize getN bs 1 = N1 at *
 generalize getN bs 3 = N3 at *
 have W0 := hidden (fun o1 o2 => ((Below.refl w.heap.size w).alloc (Nat.le_refl _) o1).alloc (by simp) o2)
 clear hcl hcell hf hf2 hc
 go_enter Try.func57, Try.ntmps57
 go_wp2_with fail
 refine (C1.out _ (hv.below (W0.out _ _))).mono ?_
 rintro e w1 ⟨rfl, nq0, rfl⟩
 go_wp2_with fail
 refine (C3.out _ (hv.below (below_drewn (W0.out _ _) _))).mono ?_
 rintro e w1 ⟨rfl, nq1, rfl⟩
 go_wp2
 refine bodyPost_ret (v := _) (by simp [results, Try.results57, go_sem]; exact rfl) rfl ?_
 refine ⟨_, rfl, ?_, ?_, ?_⟩
 ·
  rw [EQ.out]
  exact ⟨_, _, rfl, Row.nil _, Row.nil _⟩
 ·
  repeat' (refine Below.setCell ?_ (by simp) _)
  exact below_drewn (W0.out _ _) _
 ·
  exact ⟨_, _, _, _, _, _, _, _, _, rfl, NewV.none _ _ _, NewV.none _ _ _⟩
set_option maxRecDepth 100000 in
set_option maxHeartbeats 400000 in
theorem guess_pdu_2 (v : Value) (bs : List UInt8) (w : World) (hv : Row w v (bs.map bV)) (h0 : bs ≠ []) (hf : fnOf bs = 2) :
  Calls Try.prog 57 #[v] w fun e w' => ∃ v', e = .returned v' ∧ IsRq w' v' (gP bs) ∧ Below w.heap.size w w' ∧ NewQ w.heap.size v' := by
 obtain ⟨a, cap, rfl, -⟩ := id hv
 obtain ⟨hl, hc, hm, hcell⟩ := hv.at
 simp only [List.length_map] at hl hc hv hcell ⊢
 obtain ⟨b, off, rfl, hcl⟩ := hcell 0 0 (List.length_pos_iff.2 h0)
 have c0 := hcl 0 (List.length_pos_iff.2 h0)
 have hp : (0 : Int) < (bs.length : Int) := by have := List.length_pos_iff.2 h0; omega
 have EQ : Hid (gP bs = ⟨2, getN bs 1, getN bs 3, 0, 0, [], [], 0, 0⟩) := by show _ = _; simp [gP, hf]
 have hf2 : (bs.getD 0 0).toNat = 2 := by unfold fnOf at hf; omega
 simp only [bV, hf2, Nat.add_zero] at c0
 have hlt := lt_of_cell c0
 have C1 := hidden (fun w' (h : Row w' (.slice (some ⟨b, off, none⟩) bs.length cap) (bs.map bV)) => get_pdu _ bs 1 w' (by omega) h)
 obtain ⟨i1, j1⟩ := getN_in bs 1
 have C3 := hidden (fun w' (h : Row w' (.slice (some ⟨b, off, none⟩) bs.length cap) (bs.map bV)) => get_pdu _ bs 3 w' (by omega) h)
 obtain ⟨i3, j3⟩ := getN_in bs 3
 generalize getN bs 1 = N1 at *
 generalize getN bs 3 = N3 at *
 have W0 := hidden (fun o1 o2 => ((Below.refl w.heap.size w).alloc (Nat.le_refl _) o1).alloc (by simp) o2)
 clear hcl hcell hf hf2 hc
 go_enter Try.func57, Try.ntmps57
 go_wp2_with fail
 refine (C1.out _ (hv.below (W0.out _ _))).mono ?_
 rintro e w1 ⟨rfl, nq0, rfl⟩
 go_wp2_with fail
 refine (C3.out _ (hv.below (below_drewn (W0.out _ _) _))).mono ?_
 rintro e w1 ⟨rfl, nq1, rfl⟩
 go_wp2
 refine bodyPost_ret (v := _) (by simp [results, Try.results57, go_sem]; exact rfl) rfl ?_
 refine ⟨_, rfl, ?_, ?_, ?_⟩
 ·
  rw [EQ.out]
  exact ⟨_, _, rfl, Row.nil _, Row.nil _⟩
 ·
  repeat' (refine Below.setCell ?_ (by simp) _)
  exact below_drewn (W0.out _ _) _
 ·
  exact ⟨_, _, _, _, _, _, _, _, _, rfl, NewV.none _ _ _, NewV.none _ _ _⟩
set_option maxRecDepth 100000 in
set_option maxHeartbeats 400000 in
theorem guess_pdu_3 (v : Value) (bs : List UInt8) (w : World) (hv : Row w v (bs.map bV)) (h0 : bs ≠ []) (hf : fnOf bs = 3) :
  Calls Try.prog 57 #[v] w fun e w' => ∃ v', e = .returned v' ∧ IsRq w' v' (gP bs) ∧ Below w.heap.size w w' ∧ NewQ w.heap.size v' := by
 obtain ⟨a, cap, rfl, -⟩ := id hv
 obtain ⟨hl, hc, hm, hcell⟩ := hv.at
 simp only [List.length_map] at hl hc hv hcell ⊢
 obtain ⟨b, off, rfl, hcl⟩ := hcell 0 0 (List.length_pos_iff.2 h0)
 have c0 := hcl 0 (List.length_pos_iff.2 h0)
 have hp : (0 : Int) < (bs.length : Int) := by have := List.length_pos_iff.2 h0; omega
 have EQ : Hid (gP bs = ⟨3, getN bs 1, getN bs 3, 0, 0, [], [], 0, 0⟩) := by show _ = _; simp [gP, hf]
 have hf2 : (bs.getD 0 0).toNat = 3 := by unfold fnOf at hf; omega
 simp only [bV, hf2, Nat.add_zero] at c0
 have hlt := lt_of_cell c0
 have C1 := hidden (fun w' (h : Row w' (.slice (some ⟨b, off, none⟩) bs.length cap) (bs.map bV)) => get_pdu _ bs 1 w' (by omega) h)
 obtain ⟨i1, j1⟩ := getN_in bs 1
 have C3 := hidden (fun w' (h : Row w' (.slice (some ⟨b, off, none⟩) bs.length cap) (bs.map bV)) => get_pdu _ bs 3 w' (by omega) h)
 obtain ⟨i3, j3⟩ := getN_in bs 3
 generalize getN bs 1 = N1 at *
 generalize getN bs 3 = N3 at *
 have W0 := hidden (fun o1 o2 => ((Below.refl w.heap.size w).alloc (Nat.le_refl _) o1).alloc (by simp) o2)
 clear hcl hcell hf hf2 hc
 go_enter Try.func57, Try.ntmps57
 go_wp2_with fail
 refine (C1.out _ (hv.below (W0.out _ _))).mono ?_
 rintro e w1 ⟨rfl, nq0, rfl⟩
 go_wp2_with fail
 refine (C3.out _ (hv.below (below_drewn (W0.out _ _) _))).mono ?_
 rintro e w1 ⟨rfl, nq1, rfl⟩
 go_wp2
 refine bodyPost_ret (v := _) (by simp [results, Try.results57, go_sem]; exact rfl) rfl ?_
 refine ⟨_, rfl, ?_, ?_, ?_⟩
 ·
  rw [EQ.out]
  exact ⟨_, _, rfl, Row.nil _, Row.nil _⟩
 ·
  repeat' (refine Below.setCell ?_ (by simp) _)
  exact below_drewn (W0.out _ _) _
 ·
  exact ⟨_, _, _, _, _, _, _, _, _, rfl, NewV.none _ _ _, NewV.none _ _ _⟩
set_option maxRecDepth 100000 in
set_option maxHeartbeats 400000 in
theorem guess_pdu_4 (v : Value) (bs : List UInt8) (w : World) (hv : Row w v (bs.map bV)) (h0 : bs ≠ []) (hf : fnOf bs = 4) :
  Calls Try.prog 57 #[v] w fun e w' => ∃ v', e = .returned v' ∧ IsRq w' v' (gP bs) ∧ Below w.heap.size w w' ∧ NewQ w.heap.size v' := by
 obtain ⟨a, cap, rfl, -⟩ := id hv
 obtain ⟨hl, hc, hm, hcell⟩ := hv.at
 simp only [List.length_map] at hl hc hv hcell ⊢
 obtain ⟨b, off, rfl, hcl⟩ := hcell 0 0 (List.length_pos_iff.2 h0)
 have c0 := hcl 0 (List.length_pos_iff.2 h0)
 have hp : (0 : Int) < (bs.length : Int) := by have := List.length_pos_iff.2 h0; omega
 have EQ : Hid (gP bs = ⟨4, getN bs 1, getN bs 3, 0, 0, [], [], 0, 0⟩) := by show _ = _; simp [gP, hf]
 have hf2 : (bs.getD 0 0).toNat = 4 := by unfold fnOf at hf; omega
 simp only [bV, hf2, Nat.add_zero] at c0
 have hlt := lt_of_cell c0
 have C1 := hidden (fun w' (h : Row w' (.slice (some ⟨b, off, none⟩) bs.length cap) (bs.map bV)) => get_pdu _ bs 1 w' (by omega) h)
 obtain ⟨i1, j1⟩ := getN_in bs 1
 have C3 := hidden (fun w' (h : Row w' (.slice (some ⟨b, off, none⟩) bs.length cap) (bs.map bV)) => get_pdu _ bs 3 w' (by omega) h)
 obtain ⟨i3, j3⟩ := getN_in bs 3
 generalize getN bs 1 = N1 at *
 generalize getN bs 3 = N3 at *
 have W0 := hidden (fun o1 o2 => ((Below.refl w.heap.size w).alloc (Nat.le_refl _) o1).alloc (by simp) o2)
 clear hcl hcell hf hf2 hc
 go_enter Try.func57, Try.ntmps57
 go_wp2_with fail
 refine (C1.out _ (hv.below (W0.out _ _))).mono ?_
 rintro e w1 ⟨rfl, nq0, rfl⟩
 go_wp2_with fail
 refine (C3.out _ (hv.below (below_drewn (W0.out _ _) _))).mono ?_
 rintro e w1 ⟨rfl, nq1, rfl⟩
 go_wp2
 refine bodyPost_ret (v := _) (by simp [results, Try.results57, go_sem]; exact rfl) rfl ?_
 refine ⟨_, rfl, ?_, ?_, ?_⟩
 ·
  rw [EQ.out]
  exact ⟨_, _, rfl, Row.nil _, Row.nil _⟩
 ·
  repeat' (refine Below.setCell ?_ (by simp) _)
  exact below_drewn (W0.out _ _) _
 ·
  exact ⟨_, _, _, _, _, _, _, _, _, rfl, NewV.none _ _ _, NewV.none _ _ _⟩
set_option maxRecDepth 100000 in
set_option maxHeartbeats 400000 in
theorem guess_pdu_17 (v : Value) (bs : List UInt8) (w : World) (hv : Row w v (bs.map bV)) (h0 : bs ≠ []) (hf : fnOf bs = 17) :
  Calls Try.prog 57 #[v] w fun e w' => ∃ v', e = .returned v' ∧ IsRq w' v' (gP bs) ∧ Below w.heap.size w w' ∧ NewQ w.heap.size v' := by
 obtain ⟨a, cap, rfl, -⟩ := id hv
 obtain ⟨hl, hc, hm, hcell⟩ := hv.at
 simp only [List.length_map] at hl hc hv hcell ⊢
 obtain ⟨b, off, rfl, hcl⟩ := hcell 0 0 (List.length_pos_iff.2 h0)
 have c0 := hcl 0 (List.length_pos_iff.2 h0)
 have hp : (0 : Int) < (bs.length : Int) := by have := List.length_pos_iff.2 h0; omega
 have EQ : Hid (gP bs = ⟨17, 0, 0, 0, 0, [], [], 0, 0⟩) := by show _ = _; simp [gP, hf]
 have hf2 : (bs.getD 0 0).toNat = 17 := by unfold fnOf at hf; omega
 simp only [bV, hf2, Nat.add_zero] at c0
 have hlt := lt_of_cell c0
 have W0 := hidden (fun o1 o2 => ((Below.refl w.heap.size w).alloc (Nat.le_refl _) o1).alloc (by simp) o2)
 clear hcl hcell hf hf2 hc
 go_enter Try.func57, Try.ntmps57
 go_wp2
 refine bodyPost_ret (v := _) (by simp [results, Try.results57, go_sem]; exact rfl) rfl ?_
 refine ⟨_, rfl, ?_, ?_, ?_⟩
 ·
  rw [EQ.out]
  exact ⟨_, _, rfl, Row.nil _, Row.nil _⟩
 ·
  repeat' (refine Below.setCell ?_ (by simp) _)
  exact W0.out _ _
 ·
  exact ⟨_, _, _, _, _, _, _, _, _, rfl, NewV.none _ _ _, NewV.none _ _ _⟩
set_option maxRecDepth 100000 in
set_option maxHeartbeats 400000 in
theorem guess_pdu_22 (v : Value) (bs : List UInt8) (w : World) (hv : Row w v (bs.map bV)) (h0 : bs ≠ []) (hf : fnOf bs = 22) :
  Calls Try.prog 57 #[v] w fun e w' => ∃ v', e = .returned v' ∧ IsRq w' v' (gP bs) ∧ Below w.heap.size w w' ∧ NewQ w.heap.size v' := by
 obtain ⟨a, cap, rfl, -⟩ := id hv
 obtain ⟨hl, hc, hm, hcell⟩ := hv.at
 simp only [List.length_map] at hl hc hv hcell ⊢
 obtain ⟨b, off, rfl, hcl⟩ := hcell 0 0 (List.length_pos_iff.2 h0)
 have c0 := hcl 0 (List.length_pos_iff.2 h0)
 have hp : (0 : Int) < (bs.length : Int) := by have := List.length_pos_iff.2 h0; omega
 have EQ : Hid (gP bs = ⟨22, getN bs 1, 0, 0, 0, [], [], wOf (getN bs 3), wOf (getN bs 5)⟩) := by show _ = _; simp [gP, hf]
 have hf2 : (bs.getD 0 0).toNat = 22 := by unfold fnOf at hf; omega
 simp only [bV, hf2, Nat.add_zero] at c0
 have hlt := lt_of_cell c0
 have C1 := hidden (fun w' (h : Row w' (.slice (some ⟨b, off, none⟩) bs.length cap) (bs.map bV)) => get_pdu _ bs 1 w' (by omega) h)
 obtain ⟨i1, j1⟩ := getN_in bs 1
 have C3 := hidden (fun w' (h : Row w' (.slice (some ⟨b, off, none⟩) bs.length cap) (bs.map bV)) => get_pdu _ bs 3 w' (by omega) h)
 obtain ⟨i3, j3⟩ := getN_in bs 3
 have C5 := hidden (fun w' (h : Row w' (.slice (some ⟨b, off, none⟩) bs.length cap) (bs.map bV)) => get_pdu _ bs 5 w' (by omega) h)
 obtain ⟨i5, j5⟩ := getN_in bs 5
 generalize getN bs 1 = N1 at *
 generalize getN bs 3 = N3 at *
 generalize getN bs 5 = N5 at *
 have W0 := hidden (fun o1 o2 => ((Below.refl w.heap.size w).alloc (Nat.le_refl _) o1).alloc (by simp) o2)
 clear hcl hcell hf hf2 hc
 go_enter Try.func57, Try.ntmps57
 go_wp2_with fail
 refine (C1.out _ (hv.below (W0.out _ _))).mono ?_
 rintro e w1 ⟨rfl, nq0, rfl⟩
 go_wp2_with fail
 refine (C3.out _ (hv.below (below_drewn (W0.out _ _) _))).mono ?_
 rintro e w1 ⟨rfl, nq1, rfl⟩
 go_wp2_with fail
 refine (C5.out _ (hv.below (below_drewn (W0.out _ _) _))).mono ?_
 rintro e w1 ⟨rfl, nq2, rfl⟩
 go_wp2
 refine bodyPost_ret (v := _) (by simp [results, Try.results57, go_sem]; exact rfl) rfl ?_
 refine ⟨_, rfl, ?_, ?_, ?_⟩
 ·
  rw [EQ.out]
  refine ⟨.slice none 0 0, .slice none 0 0, ?_, Row.nil _, Row.nil _⟩
  simp [wOf_wrap]
  omega
 ·
  repeat' (refine Below.setCell ?_ (by simp) _)
  exact below_drewn (W0.out _ _) _
 ·
  exact ⟨_, _, _, _, _, _, _, _, _, rfl, NewV.none _ _ _, NewV.none _ _ _⟩
set_option maxRecDepth 100000 in
set_option maxHeartbeats 400000 in
theorem guess_pdu_5 (v : Value) (bs : List UInt8) (w : World) (hv : Row w v (bs.map bV)) (h0 : bs ≠ []) (hf : fnOf bs = 5) :
  Calls Try.prog 57 #[v] w fun e w' => ∃ v', e = .returned v' ∧ IsRq w' v' (gP bs) ∧ Below w.heap.size w w' ∧ NewQ w.heap.size v' := by
 obtain ⟨a, cap, rfl, -⟩ := id hv
 obtain ⟨hl, hc, hm, hcell⟩ := hv.at
 simp only [List.length_map] at hl hc hv hcell ⊢
 obtain ⟨b, off, rfl, hcl⟩ := hcell 0 0 (List.length_pos_iff.2 h0)
 have c0 := hcl 0 (List.length_pos_iff.2 h0)
 have hp : (0 : Int) < (bs.length : Int) := by have := List.length_pos_iff.2 h0; omega
 have EQ : Hid (gP bs = ⟨5, getN bs 1, 0, 0, 0, [getN bs 3 == 65280], [], 0, 0⟩) := by show _ = _; simp [gP, hf]
 have hf2 : (bs.getD 0 0).toNat = 5 := by unfold fnOf at hf; omega
 simp only [bV, hf2, Nat.add_zero] at c0
 have hlt := lt_of_cell c0
 have C1 := hidden (fun w' (h : Row w' (.slice (some ⟨b, off, none⟩) bs.length cap) (bs.map bV)) => get_pdu _ bs 1 w' (by omega) h)
 obtain ⟨i1, j1⟩ := getN_in bs 1
 have C3 := hidden (fun w' (h : Row w' (.slice (some ⟨b, off, none⟩) bs.length cap) (bs.map bV)) => get_pdu _ bs 3 w' (by omega) h)
 obtain ⟨i3, j3⟩ := getN_in bs 3
 generalize getN bs 1 = N1 at *
 generalize getN bs 3 = N3 at *
 have W0 := hidden (fun o1 o2 => ((Below.refl w.heap.size w).alloc (Nat.le_refl _) o1).alloc (by simp) o2)
 clear hcl hcell hf hf2 hc
 go_enter Try.func57, Try.ntmps57
 go_wp2_with fail
 refine (C1.out _ (hv.below (W0.out _ _))).mono ?_
 rintro e w1 ⟨rfl, nq0, rfl⟩
 go_wp2_with fail
 refine (C3.out _ (hv.below (below_drewn (W0.out _ _) _))).mono ?_
 rintro e w1 ⟨rfl, nq1, rfl⟩
 go_wp2
 refine bodyPost_ret (v := _) (by simp [results, Try.results57, go_sem]; exact rfl) rfl ?_
 refine ⟨_, rfl, ?_, ?_, ?_⟩
 ·
  rw [EQ.out]
  refine ⟨_, _, rfl, ?_, Row.nil _⟩
  exact row_one_b _ _ _ (by simp)
 ·
  refine Below.alloc ?_ (by simp; omega) _
  repeat' (refine Below.setCell ?_ (by simp) _)
  exact below_drewn (W0.out _ _) _
 ·
  exact ⟨_, _, _, _, _, _, _, _, _, rfl, NewV.some _ _ _ _ _ (by omega), NewV.none _ _ _⟩
set_option maxRecDepth 100000 in
set_option maxHeartbeats 400000 in
theorem guess_pdu_6 (v : Value) (bs : List UInt8) (w : World) (hv : Row w v (bs.map bV)) (h0 : bs ≠ []) (hf : fnOf bs = 6) :
  Calls Try.prog 57 #[v] w fun e w' => ∃ v', e = .returned v' ∧ IsRq w' v' (gP bs) ∧ Below w.heap.size w w' ∧ NewQ w.heap.size v' := by
 obtain ⟨a, cap, rfl, -⟩ := id hv
 obtain ⟨hl, hc, hm, hcell⟩ := hv.at
 simp only [List.length_map] at hl hc hv hcell ⊢
 obtain ⟨b, off, rfl, hcl⟩ := hcell 0 0 (List.length_pos_iff.2 h0)
 have c0 := hcl 0 (List.length_pos_iff.2 h0)
 have hp : (0 : Int) < (bs.length : Int) := by have := List.length_pos_iff.2 h0; omega
 have EQ : Hid (gP bs = ⟨6, getN bs 1, 0, 0, 0, [], [wOf (getN bs 3)], 0, 0⟩) := by show _ = _; simp [gP, hf]
 have hf2 : (bs.getD 0 0).toNat = 6 := by unfold fnOf at hf; omega
 simp only [bV, hf2, Nat.add_zero] at c0
 have hlt := lt_of_cell c0
 have C1 := hidden (fun w' (h : Row w' (.slice (some ⟨b, off, none⟩) bs.length cap) (bs.map bV)) => get_pdu _ bs 1 w' (by omega) h)
 obtain ⟨i1, j1⟩ := getN_in bs 1
 have C3 := hidden (fun w' (h : Row w' (.slice (some ⟨b, off, none⟩) bs.length cap) (bs.map bV)) => get_pdu _ bs 3 w' (by omega) h)
 obtain ⟨i3, j3⟩ := getN_in bs 3
 generalize getN bs 1 = N1 at *
 generalize getN bs 3 = N3 at *
 have W0 := hidden (fun o1 o2 => ((Below.refl w.heap.size w).alloc (Nat.le_refl _) o1).alloc (by simp) o2)
 clear hcl hcell hf hf2 hc
 go_enter Try.func57, Try.ntmps57
 go_wp2_with fail
 refine (C1.out _ (hv.below (W0.out _ _))).mono ?_
 rintro e w1 ⟨rfl, nq0, rfl⟩
 go_wp2_with fail
 refine (C3.out _ (hv.below (below_drewn (W0.out _ _) _))).mono ?_
 rintro e w1 ⟨rfl, nq1, rfl⟩
 go_wp2
 refine bodyPost_ret (v := _) (by simp [results, Try.results57, go_sem]; exact rfl) rfl ?_
 refine ⟨_, rfl, ?_, ?_, ?_⟩
 ·
  rw [EQ.out]
  refine ⟨_, _, rfl, Row.nil _, ?_⟩
  exact row_one_w _ _ ⟨i3, j3⟩ _ (by simp)
 ·
  refine Below.alloc ?_ (by simp; omega) _
  repeat' (refine Below.setCell ?_ (by simp) _)
  exact below_drewn (W0.out _ _) _
 ·
  exact ⟨_, _, _, _, _, _, _, _, _, rfl, NewV.none _ _ _, NewV.some _ _ _ _ _ (by omega)⟩
set_option maxRecDepth 100000 in
set_option maxHeartbeats 400000 in
theorem guess_pdu_8 (v : Value) (bs : List UInt8) (w : World) (hv : Row w v (bs.map bV)) (h0 : bs ≠ []) (hf : fnOf bs = 8) :
  Calls Try.prog 57 #[v] w fun e w' => ∃ v', e = .returned v' ∧ IsRq w' v' (gP bs) ∧ Below w.heap.size w w' ∧ NewQ w.heap.size v' := by
 obtain ⟨a, cap, rfl, -⟩ := id hv
 obtain ⟨hl, hc, hm, hcell⟩ := hv.at
 simp only [List.length_map] at hl hc hv hcell ⊢
 obtain ⟨b, off, rfl, hcl⟩ := hcell 0 0 (List.length_pos_iff.2 h0)
 have c0 := hcl 0 (List.length_pos_iff.2 h0)
 have hp : (0 : Int) < (bs.length : Int) := by have := List.length_pos_iff.2 h0; omega
 have EQ : Hid (gP bs = ⟨8, 0, 0, 0, getN bs 1, [], [wOf (getN bs 3)], 0, 0⟩) := by show _ = _; simp [gP, hf]
 have hf2 : (bs.getD 0 0).toNat = 8 := by unfold fnOf at hf; omega
 simp only [bV, hf2, Nat.add_zero] at c0
 have hlt := lt_of_cell c0
 have C1 := hidden (fun w' (h : Row w' (.slice (some ⟨b, off, none⟩) bs.length cap) (bs.map bV)) => get_pdu _ bs 1 w' (by omega) h)
 obtain ⟨i1, j1⟩ := getN_in bs 1
 have C3 := hidden (fun w' (h : Row w' (.slice (some ⟨b, off, none⟩) bs.length cap) (bs.map bV)) => get_pdu _ bs 3 w' (by omega) h)
 obtain ⟨i3, j3⟩ := getN_in bs 3
 generalize getN bs 1 = N1 at *
 generalize getN bs 3 = N3 at *
 have W0 := hidden (fun o1 o2 => ((Below.refl w.heap.size w).alloc (Nat.le_refl _) o1).alloc (by simp) o2)
 clear hcl hcell hf hf2 hc
 go_enter Try.func57, Try.ntmps57
 go_wp2_with fail
 refine (C1.out _ (hv.below (W0.out _ _))).mono ?_
 rintro e w1 ⟨rfl, nq0, rfl⟩
 go_wp2_with fail
 refine (C3.out _ (hv.below (below_drewn (W0.out _ _) _))).mono ?_
 rintro e w1 ⟨rfl, nq1, rfl⟩
 go_wp2
 refine bodyPost_ret (v := _) (by simp [results, Try.results57, go_sem]; exact rfl) rfl ?_
 refine ⟨_, rfl, ?_, ?_, ?_⟩
 ·
  rw [EQ.out]
  refine ⟨_, _, rfl, Row.nil _, ?_⟩
  exact row_one_w _ _ ⟨i3, j3⟩ _ (by simp)
 ·
  refine Below.alloc ?_ (by simp; omega) _
  repeat' (refine Below.setCell ?_ (by simp) _)
  exact below_drewn (W0.out _ _) _
 ·
  exact ⟨_, _, _, _, _, _, _, _, _, rfl, NewV.none _ _ _, NewV.some _ _ _ _ _ (by omega)⟩
end Go.Proofs.Ytdihcdphgiaepaa
