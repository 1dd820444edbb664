/- Contract of pdu.guess: functions 15, 16, 23; of any bytes. -/
import Derived.Test.YtdihcdphgiaepaaZZ14
namespace Go.Proofs.Ytdihcdphgiaepaa
open Go.RowKit
theorem blk_world {W : World} {g : Nat} {e : TypeId} {xs : List Value} (_ : Blk W g e xs) {P : World → Prop} (h : P W) : P W := h
theorem Blk.new_at (w : World) (e : TypeId) (xs : List Value) (g : Nat) (hg : g = w.heap.size) : Blk (w.alloc (.cells xs.toArray e)) g e xs := by subst hg; exact Blk.new w e xs
theorem tail_len (b : List UInt8) (k : Nat) : (tailL b k).length ≤ 255 := by
 unfold tailL
 split
 ·
  simp
 ·
  rename_i h
  simp only [not_or, Decidable.not_not] at h
  have := (b.getD k 0).toNat_lt
  rw [List.length_drop]; omega
set_option maxRecDepth 100000 in
set_option maxHeartbeats 400000 in
theorem guess_pdu_16 (v : Value) (bs : List UInt8) (w : World) (hv : Row w v (bs.map bV)) (h0 : bs ≠ []) (hf : fnOf bs = 16) :
  Calls Try.prog 57 #[v] w fun e w' => ∃ v', e = .returned v' ∧ IsRq w' v' (gP bs) ∧ Below w.heap.size w w' ∧ NewQ w.heap.size v' := by
 obtain ⟨a, cap, rfl, -⟩ := id hv
 obtain ⟨hl, hc, hm, hcell⟩ := hv.at
 simp only [List.length_map] at hl hc hv hcell ⊢
 obtain ⟨b, off, rfl, hcl⟩ := hcell 0 0 (List.length_pos_iff.2 h0)
 have c0 := hcl 0 (List.length_pos_iff.2 h0)
 have hp : (0 : Int) < (bs.length : Int) := by have := List.length_pos_iff.2 h0; omega
 have EQ : Hid (gP bs = ⟨16, getN bs 1, getN bs 3, 0, 0, [], wordsR (tailL bs 5), 0, 0⟩) := by show _ = _; simp [gP, hf]
 have hf2 : (bs.getD 0 0).toNat = 16 := by unfold fnOf at hf; omega
 simp only [bV, hf2, Nat.add_zero] at c0
 have hlt := lt_of_cell c0
 have C1 := hidden (fun w' (h : Row w' (.slice (some ⟨b, off, none⟩) bs.length cap) (bs.map bV)) => get_pdu _ bs 1 w' (by omega) h)
 obtain ⟨i1, j1⟩ := getN_in bs 1
 have C3 := hidden (fun w' (h : Row w' (.slice (some ⟨b, off, none⟩) bs.length cap) (bs.map bV)) => get_pdu _ bs 3 w' (by omega) h)
 obtain ⟨i3, j3⟩ := getN_in bs 3
 generalize getN bs 1 = N1 at *
 generalize getN bs 3 = N3 at *
 have W0 := hidden (fun o1 o2 => ((Below.refl w.heap.size w).alloc (Nat.le_refl _) o1).alloc (by simp) o2)
 clear hcl hcell hf hf2 hc
 go_enter Try.func57, Try.ntmps57
 go_wp2_with fail
 refine (C1.out _ (hv.below (W0.out _ _))).mono ?_
 rintro e w1 ⟨rfl, nq0, rfl⟩
 go_wp2_with fail
 refine (C3.out _ (hv.below (below_drewn (W0.out _ _) _))).mono ?_
 rintro e w1 ⟨rfl, nq1, rfl⟩
 go_wp2_with fail
 refine (tail_pdu _ bs 5 5 _ rfl (by decide) (hv.below ?b)).mono ?_
 case b =>
  repeat' (refine Below.setCell ?_ (by simp) _)
  exact below_drewn (W0.out _ _) _
 rintro e w2 ⟨v2, rfl, hr2, rfl⟩
 go_wp2_with fail
 refine (words_any _ (tailL bs 5) _ hr2 (by have := tail_len bs 5; omega)).mono ?_
 rintro e w3 ⟨v3, rfl, hr3, B3, nv3⟩
 have X1 := ((((Blk.new_at (w.alloc (.cells #[.int .i64 0, .int .i64 0, .int .i64 0, .int .i64 0, .int .i64 0, .slice none 0 0, .slice none 0 0, .int .u16 0, .int .u16 0] 33)) 33 [.int .i64 16, .int .i64 0, .int .i64 0, .int .i64 0, .int .i64 0, .slice none 0 0, .slice none 0 0, .int .u16 0, .int .u16 0] (w.heap.size + 1) (by simp)).drewN (nq0 + nq1)).set 1 (.int .i64 N1)).set 2 (.int .i64 N3)).below B3 (by simp)
 have X0 := (((((Blk.new w 33 [.int .i64 0, .int .i64 0, .int .i64 0, .int .i64 0, .int .i64 0, .slice none 0 0, .slice none 0 0, .int .u16 0, .int .u16 0]).alloc (.cells #[.int .i64 16, .int .i64 0, .int .i64 0, .int .i64 0, .int .i64 0, .slice none 0 0, .slice none 0 0, .int .u16 0, .int .u16 0] 33)).drewN (nq0 + nq1)).set_ne (g := w.heap.size + 1) (by omega) 1 (.int .i64 N1)).set_ne (g := w.heap.size + 1) (by omega) 2 (.int .i64 N3)).below B3 (by simp; omega)
 have B4 := fun h => below_then (w0 := w) h B3
 replace B3 := B4 (by
  repeat' (refine Below.setCell ?_ (by simp) _)
  exact below_drewn (W0.out _ _) _)
 clear B4
 simp at nv3
 clear hr2
 obtain ⟨a3, cap3, rfl, -⟩ := id hr3
 simp only [List.length_map] at hr3 nv3
 have c10 := X1.cell 0
 have c00 := X0.cell 0
 have c11 := X1.cell 1
 have c01 := X0.cell 1
 have c12 := X1.cell 2
 have c02 := X0.cell 2
 have c13 := X1.cell 3
 have c03 := X0.cell 3
 have c14 := X1.cell 4
 have c04 := X0.cell 4
 have c15 := X1.cell 5
 have c05 := X0.cell 5
 have c16 := X1.cell 6
 have c06 := X0.cell 6
 have c17 := X1.cell 7
 have c07 := X0.cell 7
 have c18 := X1.cell 8
 have c08 := X0.cell 8
 simp at c10 c00 c11 c01 c12 c02 c13 c03 c14 c04 c15 c05 c16 c06 c17 c07 c18 c08
 have f1 := X1.frozen
 have f0 := X0.frozen
 have g1 := X1.lt
 have g0 := X0.lt
 clear X1 X0
 go_wp2
 refine bodyPost_ret (v := _) (by simp [results, Try.results57, go_sem, c00, c01, c02, c03, c04, c05, c06, c07, c08]; exact rfl) rfl ?_
 refine ⟨_, rfl, ?_, ?_, ?_⟩
 ·
  rw [EQ.out]
  refine ⟨_, _, rfl, Row.nil _, ?_⟩
  repeat' (refine Row.setCell_new ?_ nv3 (by omega))
  exact hr3
 ·
  repeat' (refine Below.setCell ?_ (by simp) _)
  exact B3
 ·
  exact ⟨_, _, _, _, _, _, _, _, _, rfl, NewV.none _ _ _, nv3.le (by omega)⟩
set_option maxRecDepth 100000 in
set_option maxHeartbeats 400000 in
theorem guess_pdu_23 (v : Value) (bs : List UInt8) (w : World) (hv : Row w v (bs.map bV)) (h0 : bs ≠ []) (hf : fnOf bs = 23) :
  Calls Try.prog 57 #[v] w fun e w' => ∃ v', e = .returned v' ∧ IsRq w' v' (gP bs) ∧ Below w.heap.size w w' ∧ NewQ w.heap.size v' := by
 obtain ⟨a, cap, rfl, -⟩ := id hv
 obtain ⟨hl, hc, hm, hcell⟩ := hv.at
 simp only [List.length_map] at hl hc hv hcell ⊢
 obtain ⟨b, off, rfl, hcl⟩ := hcell 0 0 (List.length_pos_iff.2 h0)
 have c0 := hcl 0 (List.length_pos_iff.2 h0)
 have hp : (0 : Int) < (bs.length : Int) := by have := List.length_pos_iff.2 h0; omega
 have EQ : Hid (gP bs = ⟨23, getN bs 1, getN bs 3, getN bs 5, 0, [], wordsR (tailL bs 9), 0, 0⟩) := by show _ = _; simp [gP, hf]
 have hf2 : (bs.getD 0 0).toNat = 23 := by unfold fnOf at hf; omega
 simp only [bV, hf2, Nat.add_zero] at c0
 have hlt := lt_of_cell c0
 have C1 := hidden (fun w' (h : Row w' (.slice (some ⟨b, off, none⟩) bs.length cap) (bs.map bV)) => get_pdu _ bs 1 w' (by omega) h)
 obtain ⟨i1, j1⟩ := getN_in bs 1
 have C3 := hidden (fun w' (h : Row w' (.slice (some ⟨b, off, none⟩) bs.length cap) (bs.map bV)) => get_pdu _ bs 3 w' (by omega) h)
 obtain ⟨i3, j3⟩ := getN_in bs 3
 have C5 := hidden (fun w' (h : Row w' (.slice (some ⟨b, off, none⟩) bs.length cap) (bs.map bV)) => get_pdu _ bs 5 w' (by omega) h)
 obtain ⟨i5, j5⟩ := getN_in bs 5
 generalize getN bs 1 = N1 at *
 generalize getN bs 3 = N3 at *
 generalize getN bs 5 = N5 at *
 have W0 := hidden (fun o1 o2 => ((Below.refl w.heap.size w).alloc (Nat.le_refl _) o1).alloc (by simp) o2)
 clear hcl hcell hf hf2 hc
 go_enter Try.func57, Try.ntmps57
 go_wp2_with fail
 refine (C1.out _ (hv.below (W0.out _ _))).mono ?_
 rintro e w1 ⟨rfl, nq0, rfl⟩
 go_wp2_with fail
 refine (C3.out _ (hv.below (below_drewn (W0.out _ _) _))).mono ?_
 rintro e w1 ⟨rfl, nq1, rfl⟩
 go_wp2_with fail
 refine (C5.out _ (hv.below (below_drewn (W0.out _ _) _))).mono ?_
 rintro e w1 ⟨rfl, nq2, rfl⟩
 go_wp2_with fail
 refine (tail_pdu _ bs 9 9 _ rfl (by decide) (hv.below ?b)).mono ?_
 case b =>
  repeat' (refine Below.setCell ?_ (by simp) _)
  exact below_drewn (W0.out _ _) _
 rintro e w2 ⟨v2, rfl, hr2, rfl⟩
 go_wp2_with fail
 refine (words_any _ (tailL bs 9) _ hr2 (by have := tail_len bs 9; omega)).mono ?_
 rintro e w3 ⟨v3, rfl, hr3, B3, nv3⟩
 have X1 := (((((Blk.new_at (w.alloc (.cells #[.int .i64 0, .int .i64 0, .int .i64 0, .int .i64 0, .int .i64 0, .slice none 0 0, .slice none 0 0, .int .u16 0, .int .u16 0] 33)) 33 [.int .i64 23, .int .i64 0, .int .i64 0, .int .i64 0, .int .i64 0, .slice none 0 0, .slice none 0 0, .int .u16 0, .int .u16 0] (w.heap.size + 1) (by simp)).drewN (nq0 + nq1 + nq2)).set 1 (.int .i64 N1)).set 2 (.int .i64 N3)).set 3 (.int .i64 N5)).below B3 (by simp)
 have X0 := ((((((Blk.new w 33 [.int .i64 0, .int .i64 0, .int .i64 0, .int .i64 0, .int .i64 0, .slice none 0 0, .slice none 0 0, .int .u16 0, .int .u16 0]).alloc (.cells #[.int .i64 23, .int .i64 0, .int .i64 0, .int .i64 0, .int .i64 0, .slice none 0 0, .slice none 0 0, .int .u16 0, .int .u16 0] 33)).drewN (nq0 + nq1 + nq2)).set_ne (g := w.heap.size + 1) (by omega) 1 (.int .i64 N1)).set_ne (g := w.heap.size + 1) (by omega) 2 (.int .i64 N3)).set_ne (g := w.heap.size + 1) (by omega) 3 (.int .i64 N5)).below B3 (by simp; omega)
 have B4 := fun h => below_then (w0 := w) h B3
 replace B3 := B4 (by
  repeat' (refine Below.setCell ?_ (by simp) _)
  exact below_drewn (W0.out _ _) _)
 clear B4
 simp at nv3
 clear hr2
 obtain ⟨a3, cap3, rfl, -⟩ := id hr3
 simp only [List.length_map] at hr3 nv3
 have c10 := X1.cell 0
 have c00 := X0.cell 0
 have c11 := X1.cell 1
 have c01 := X0.cell 1
 have c12 := X1.cell 2
 have c02 := X0.cell 2
 have c13 := X1.cell 3
 have c03 := X0.cell 3
 have c14 := X1.cell 4
 have c04 := X0.cell 4
 have c15 := X1.cell 5
 have c05 := X0.cell 5
 have c16 := X1.cell 6
 have c06 := X0.cell 6
 have c17 := X1.cell 7
 have c07 := X0.cell 7
 have c18 := X1.cell 8
 have c08 := X0.cell 8
 simp at c10 c00 c11 c01 c12 c02 c13 c03 c14 c04 c15 c05 c16 c06 c17 c07 c18 c08
 have f1 := X1.frozen
 have f0 := X0.frozen
 have g1 := X1.lt
 have g0 := X0.lt
 clear X1 X0
 go_wp2
 refine bodyPost_ret (v := _) (by simp [results, Try.results57, go_sem, c00, c01, c02, c03, c04, c05, c06, c07, c08]; exact rfl) rfl ?_
 refine ⟨_, rfl, ?_, ?_, ?_⟩
 ·
  rw [EQ.out]
  refine ⟨_, _, rfl, Row.nil _, ?_⟩
  repeat' (refine Row.setCell_new ?_ nv3 (by omega))
  exact hr3
 ·
  repeat' (refine Below.setCell ?_ (by simp) _)
  exact B3
 ·
  exact ⟨_, _, _, _, _, _, _, _, _, rfl, NewV.none _ _ _, nv3.le (by omega)⟩
set_option maxRecDepth 100000 in
set_option maxHeartbeats 400000 in
theorem guess_pdu_15 (v : Value) (bs : List UInt8) (w : World) (hv : Row w v (bs.map bV)) (h0 : bs ≠ []) (hf : fnOf bs = 15) :
  Calls Try.prog 57 #[v] w fun e w' => ∃ v', e = .returned v' ∧ IsRq w' v' (gP bs) ∧ Below w.heap.size w w' ∧ NewQ w.heap.size v' := by
 obtain ⟨a, cap, rfl, -⟩ := id hv
 obtain ⟨hl, hc, hm, hcell⟩ := hv.at
 simp only [List.length_map] at hl hc hv hcell ⊢
 obtain ⟨b, off, rfl, hcl⟩ := hcell 0 0 (List.length_pos_iff.2 h0)
 have c0 := hcl 0 (List.length_pos_iff.2 h0)
 have hp : (0 : Int) < (bs.length : Int) := by have := List.length_pos_iff.2 h0; omega
 have EQ : Hid (gP bs = ⟨15, getN bs 1, getN bs 3, 0, 0, openR (tailL bs 5) (getN bs 3), [], 0, 0⟩) := by show _ = _; simp [gP, hf]
 have hf2 : (bs.getD 0 0).toNat = 15 := by unfold fnOf at hf; omega
 simp only [bV, hf2, Nat.add_zero] at c0
 have hlt := lt_of_cell c0
 have C1 := hidden (fun w' (h : Row w' (.slice (some ⟨b, off, none⟩) bs.length cap) (bs.map bV)) => get_pdu _ bs 1 w' (by omega) h)
 obtain ⟨i1, j1⟩ := getN_in bs 1
 have C3 := hidden (fun w' (h : Row w' (.slice (some ⟨b, off, none⟩) bs.length cap) (bs.map bV)) => get_pdu _ bs 3 w' (by omega) h)
 obtain ⟨i3, j3⟩ := getN_in bs 3
 have HO := hidden (fun v w' (h : Row w' v ((tailL bs 5).map bV)) (hr : 8 * (tailL bs 5).length ≤ 140737488355328) => open_any v (tailL bs 5) (getN bs 3) w' (by omega) h hr)
 generalize getN bs 1 = N1 at *
 generalize getN bs 3 = N3 at *
 have W0 := hidden (fun o1 o2 => ((Below.refl w.heap.size w).alloc (Nat.le_refl _) o1).alloc (by simp) o2)
 clear hcl hcell hf hf2 hc
 go_enter Try.func57, Try.ntmps57
 go_wp2_with fail
 refine (C1.out _ (hv.below (W0.out _ _))).mono ?_
 rintro e w1 ⟨rfl, nq0, rfl⟩
 go_wp2_with fail
 refine (C3.out _ (hv.below (below_drewn (W0.out _ _) _))).mono ?_
 rintro e w1 ⟨rfl, nq1, rfl⟩
 go_wp2
 refine h_begin 10 rfl (by kernel_rfl) ?_
 have X1 := ((((Blk.new_at (w.alloc (.cells #[.int .i64 0, .int .i64 0, .int .i64 0, .int .i64 0, .int .i64 0, .slice none 0 0, .slice none 0 0, .int .u16 0, .int .u16 0] 33)) 33 [.int .i64 15, .int .i64 0, .int .i64 0, .int .i64 0, .int .i64 0, .slice none 0 0, .slice none 0 0, .int .u16 0, .int .u16 0] (w.heap.size + 1) (by simp)).drewN (nq0 + nq1)).set 1 (.int .i64 N1)).set 2 (.int .i64 N3)).drew
 have X0 := (((((Blk.new w 33 [.int .i64 0, .int .i64 0, .int .i64 0, .int .i64 0, .int .i64 0, .slice none 0 0, .slice none 0 0, .int .u16 0, .int .u16 0]).alloc (.cells #[.int .i64 15, .int .i64 0, .int .i64 0, .int .i64 0, .int .i64 0, .slice none 0 0, .slice none 0 0, .int .u16 0, .int .u16 0] 33)).drewN (nq0 + nq1)).set_ne (g := w.heap.size + 1) (by omega) 1 (.int .i64 N1)).set_ne (g := w.heap.size + 1) (by omega) 2 (.int .i64 N3)).drew
 have B2 := blk_world X1 (P := fun W => Below w.heap.size w W) (by
  refine Below.drew ?_
  repeat' (refine Below.setCell ?_ (by simp) _)
  exact below_drewn (W0.out _ _) _)
 refine h_P trivial 0 rfl ?_
 refine h_P trivial 2 rfl ?_
 refine h_R (fun w' => w'.cell? ⟨w.heap.size + 1, 2, none⟩ = some (.int .i64 N3)) (fun _ _ => trivial) (X1.cell 2) 3 rfl (fun w' hx => by go_simp; with_reducible rfl) ?_
 refine h_move 1 (by kernel_rfl) (h_op 1 rfl (by kernel_rfl) (fun K hK => ?_))
 go_wp2_with fail
 refine (tail_pdu _ bs 5 5 _ rfl (by decide) (hv.below B2)).mono ?_
 rintro e w2 ⟨v2, rfl, hr2, rfl⟩
 go_simp
 refine hK.out _ _ (X1.cell 2) ?_
 clear K hK
 try simp only [Act.put, PuA, PuB, PuC]
 refine h_move 4 (by kernel_rfl) (h_op 4 rfl (by kernel_rfl) (fun K hK => ?_))
 go_wp2_with fail
 refine (HO.out _ _ hr2 (by have := tail_len bs 5; omega)).mono ?_
 rintro e w3 ⟨v3, rfl, hr3, B3, nv3⟩
 replace X1 := X1.below B3 X1.lt
 replace X0 := X0.below B3 X0.lt
 replace B3 := below_then B2 B3
 simp at nv3
 go_simp
 refine hK.out _ _ (X1.cell 2) ?_
 clear K hK hr2 B2
 try simp only [Act.put, PuA, PuB, PuC]
 have s3 : w3.cell? ⟨w.heap.size + 1, 2, none⟩ = some (.int .i64 N3) := X1.cell 2
 have s5 : w3.cell? ⟨w.heap.size + 1, 5, none⟩ = some (.slice none 0 0) := X1.cell 5
 obtain ⟨a3, cap3, rfl, -⟩ := id hr3
 simp only [List.length_map] at hr3 nv3 ⊢
 generalize openOk (tailL bs 5) N3 = ok at *
 refine h_P s3 5 rfl ?_
 refine h_P s3 6 rfl ?_
 refine h_P s3 7 rfl ?_
 refine h_P s3 8 rfl ?_
 have f1 := X1.frozen
 refine h_move 9 (by kernel_rfl) (h_op 9 rfl (by kernel_rfl) (fun K hK => ?_))
 go_simp
 refine hK.out _ _ ((X1.set 5 _).cell 2) ?_
 clear K hK s3 s5
 try simp only [Act.put, PuA, PuB, PuC]
 refine h_done (by kernel_rfl) ?_
 clear f1
 have c10 := X1.cell 0
 have c00 := X0.cell 0
 have c11 := X1.cell 1
 have c01 := X0.cell 1
 have c12 := X1.cell 2
 have c02 := X0.cell 2
 have c13 := X1.cell 3
 have c03 := X0.cell 3
 have c14 := X1.cell 4
 have c04 := X0.cell 4
 have c15 := X1.cell 5
 have c05 := X0.cell 5
 have c16 := X1.cell 6
 have c06 := X0.cell 6
 have c17 := X1.cell 7
 have c07 := X0.cell 7
 have c18 := X1.cell 8
 have c08 := X0.cell 8
 simp at c10 c00 c11 c01 c12 c02 c13 c03 c14 c04 c15 c05 c16 c06 c17 c07 c18 c08
 have f1 := X1.frozen
 have f0 := X0.frozen
 have g1 := X1.lt
 have g0 := X0.lt
 clear X1 X0
 go_wp2
 refine bodyPost_ret (v := _) (by simp [results, Try.results57, go_sem, c00, c01, c02, c03, c04, c05, c06, c07, c08]; exact rfl) rfl ?_
 refine ⟨_, rfl, ?_, ?_, ?_⟩
 ·
  rw [EQ.out]
  refine ⟨_, _, rfl, ?_, Row.nil _⟩
  repeat' (refine Row.setCell_new ?_ nv3 (by omega))
  exact hr3
 ·
  repeat' (refine Below.setCell ?_ (by simp) _)
  exact B3
 ·
  exact ⟨_, _, _, _, _, _, _, _, _, rfl, nv3.le (by omega), NewV.none _ _ _⟩
theorem guess_pdu (v : Value) (bs : List UInt8) (w : World) (hv : Row w v (bs.map bV)) (h0 : bs ≠ []) (hk : knownB (fnOf bs) = true) :
  Calls Try.prog 57 #[v] w fun e w' => ∃ v', e = .returned v' ∧ IsRq w' v' (gP bs) ∧ Below w.heap.size w w' ∧ NewQ w.heap.size v' := by
 rcases known_cases hk with e | e | e | e | e | e | e | e | e | e | e | e
 ·
  exact guess_pdu_1 v bs w hv h0 e
 ·
  exact guess_pdu_2 v bs w hv h0 e
 ·
  exact guess_pdu_3 v bs w hv h0 e
 ·
  exact guess_pdu_4 v bs w hv h0 e
 ·
  exact guess_pdu_5 v bs w hv h0 e
 ·
  exact guess_pdu_6 v bs w hv h0 e
 ·
  exact guess_pdu_8 v bs w hv h0 e
 ·
  exact guess_pdu_15 v bs w hv h0 e
 ·
  exact guess_pdu_16 v bs w hv h0 e
 ·
  exact guess_pdu_17 v bs w hv h0 e
 ·
  exact guess_pdu_22 v bs w hv h0 e
 ·
  exact guess_pdu_23 v bs w hv h0 e
end Go.Proofs.Ytdihcdphgiaepaa
