/- Contract of pdu.Counts. -/
import Derived.Test.YtdihcdphgiaepaaGreatZZ8
namespace Go.Proofs.YtdihcdphgiaepaaGreat
open Go.RowKit
theorem blk_world {W : World} {g : Nat} {e : TypeId} {xs : List Value} (_ : Blk W g e xs) {P : World → Prop} (h : P W) : P W := h
theorem Blk.new_at (w : World) (e : TypeId) (xs : List Value) (g : Nat) (hg : g = w.heap.size) : Blk (w.alloc (.cells xs.toArray e)) g e xs := by subst hg; exact Blk.new w e xs
theorem tail_len (b : List UInt8) (k : Nat) : (tailL b k).length ≤ 255 := by
 unfold tailL
 split
 ·
  simp
 ·
  rename_i h
  simp only [not_or, Decidable.not_not] at h;have := (b.getD k 0).toNat_lt;rw [List.length_drop]; omega
set_option maxRecDepth 100000 in
set_option maxHeartbeats 400000 in
theorem guess_pdu_16 (v : Value) (bs : List UInt8) (w : World) (hv : Row w v (bs.map bV)) (h0 : bs ≠ []) (hf : fnOf bs = 16) :
  Calls Tryz.prog 76 #[v] w fun e w' => ∃ v', e = .returned v' ∧ IsRq w' v' (gP bs) ∧ Below w.heap.size w w' ∧ NewQ w.heap.size v' := by
 obtain ⟨a, cap, rfl, -⟩ := id hv;obtain ⟨hl, hc, hm, hcell⟩ := hv.at;simp only [List.length_map] at hl hc hv hcell ⊢;obtain ⟨b, off, rfl, hcl⟩ := hcell 0 0 (List.length_pos_iff.2 h0);have c0 := hcl 0 (List.length_pos_iff.2 h0);have hp : (0 : Int) < (bs.length : Int) := by have := List.length_pos_iff.2 h0; omega
 have EQ : Hid (gP bs = ⟨16, getN bs 1, getN bs 3, 0, 0, [], wordsR (tailL bs 5), 0, 0⟩) := by show _ = _; simp [gP, hf]
 have hf2 : (bs.getD 0 0).toNat = 16 := by unfold fnOf at hf; omega
 simp only [bV, hf2, Nat.add_zero] at c0;have hlt := lt_of_cell c0;have C1 := hidden (fun w' (h : Row w' (.slice (some ⟨b, off, none⟩) bs.length cap) (bs.map bV)) => get_pdu _ bs 1 w' (by omega) h);obtain ⟨i1, j1⟩ := getN_in bs 1;have C3 := hidden (fun w' (h : Row w' (.slice (some ⟨b, off, none⟩) bs.length cap) (bs.map bV)) => get_pdu _ bs 3 w' (by omega) h);obtain ⟨i3, j3⟩ := getN_in bs 3;generalize getN bs 1 = N1 at *;generalize getN bs 3 = N3 at *;have W0 := hidden (fun o1 o2 => ((Below.refl w.heap.size w).alloc (Nat.le_refl _) o1).alloc (by simp) o2);clear hcl hcell hf hf2 hc;go_enter Tryz.func76, Tryz.ntmps76;go_wp2_with fail
 refine (C1.out _ (hv.below (W0.out _ _))).mono ?_;rintro e w1 ⟨rfl, nq0, rfl⟩;go_wp2_with fail
 refine (C3.out _ (hv.below (below_drewn (W0.out _ _) _))).mono ?_;rintro e w1 ⟨rfl, nq1, rfl⟩;go_wp2_with fail
 refine (tail_pdu _ bs 5 5 _ rfl (by decide) (hv.below ?b)).mono ?_
 case b =>
  repeat' (refine Below.setCell ?_ (by simp) _)
  exact below_drewn (W0.out _ _) _
 rintro e w2 ⟨v2, rfl, hr2, rfl⟩;go_wp2_with fail
 refine (words_any _ (tailL bs 5) _ hr2 (by have := tail_len bs 5; omega)).mono ?_;rintro e w3 ⟨v3, rfl, hr3, B3, nv3⟩;have X1 := ((((Blk.new_at (w.alloc (.cells #[.int .i64 0, .int .i64 0, .int .i64 0, .int .i64 0, .int .i64 0, .slice none 0 0, .slice none 0 0, .int .u16 0, .int .u16 0] 33)) 33 [.int .i64 16, .int .i64 0, .int .i64 0, .int .i64 0, .int .i64 0, .slice none 0 0, .slice none 0 0, .int .u16 0, .int .u16 0] (w.heap.size + 1) (by simp)).drewN (nq0 + nq1)).set 1 (.int .i64 N1)).set 2 (.int .i64 N3)).below B3 (by simp);have X0 := (((((Blk.new w 33 [.int .i64 0, .int .i64 0, .int .i64 0, .int .i64 0, .int .i64 0, .slice none 0 0, .slice none 0 0, .int .u16 0, .int .u16 0]).alloc (.cells #[.int .i64 16, .int .i64 0, .int .i64 0, .int .i64 0, .int .i64 0, .slice none 0 0, .slice none 0 0, .int .u16 0, .int .u16 0] 33)).drewN (nq0 + nq1)).set_ne (g := w.heap.size + 1) (by omega) 1 (.int .i64 N1)).set_ne (g := w.heap.size + 1) (by omega) 2 (.int .i64 N3)).below B3 (by simp; omega);have B4 := fun h => below_then (w0 := w) h B3;replace B3 := B4 (by
  repeat' (refine Below.setCell ?_ (by simp) _)
  exact below_drewn (W0.out _ _) _)
 clear B4;simp at nv3;clear hr2;obtain ⟨a3, cap3, rfl, -⟩ := id hr3;simp only [List.length_map] at hr3 nv3;have c10 := X1.cell 0;have c00 := X0.cell 0;have c11 := X1.cell 1;have c01 := X0.cell 1;have c12 := X1.cell 2;have c02 := X0.cell 2;have c13 := X1.cell 3;have c03 := X0.cell 3;have c14 := X1.cell 4;have c04 := X0.cell 4;have c15 := X1.cell 5;have c05 := X0.cell 5;have c16 := X1.cell 6;have c06 := X0.cell 6;have c17 := X1.cell 7;have c07 := X0.cell 7;have c18 := X1.cell 8;have c08 := X0.cell 8;simp at c10 c00 c11 c01 c12 c02 c13 c03 c14 c04 c15 c05 c16 c06 c17 c07 c18 c08;have f1 := X1.frozen;have f0 := X0.frozen;have g1 := X1.lt;have g0 := X0.lt;clear X1 X0;go_wp2;refine bodyPost_ret (v := _) (by simp [results, Tryz.results76, go_sem, c00, c01, c02, c03, c04, c05, c06, c07, c08]; exact rfl) rfl ?_;refine ⟨_, rfl, ?_, ?_, ?_⟩
 ·
  rw [EQ.out];refine ⟨_, _, rfl, Row.nil _, ?_⟩
  repeat' (refine Row.setCell_new ?_ nv3 (by omega))
  exact hr3
 ·
  repeat' (refine Below.setCell ?_ (by simp) _)
  exact B3
 ·
  exact ⟨_, _, _, _, _, _, _, _, _, rfl, NewV.none _ _ _, nv3.le (by omega)⟩
set_option maxRecDepth 100000 in
set_option maxHeartbeats 400000 in
theorem guess_pdu_23 (v : Value) (bs : List UInt8) (w : World) (hv : Row w v (bs.map bV)) (h0 : bs ≠ []) (hf : fnOf bs = 23) :
  Calls Tryz.prog 76 #[v] w fun e w' => ∃ v', e = .returned v' ∧ IsRq w' v' (gP bs) ∧ Below w.heap.size w w' ∧ NewQ w.heap.size v' := by
 obtain ⟨a, cap, rfl, -⟩ := id hv;obtain ⟨hl, hc, hm, hcell⟩ := hv.at;simp only [List.length_map] at hl hc hv hcell ⊢;obtain ⟨b, off, rfl, hcl⟩ := hcell 0 0 (List.length_pos_iff.2 h0);have c0 := hcl 0 (List.length_pos_iff.2 h0);have hp : (0 : Int) < (bs.length : Int) := by have := List.length_pos_iff.2 h0; omega
 have EQ : Hid (gP bs = ⟨23, getN bs 1, getN bs 3, getN bs 5, 0, [], wordsR (tailL bs 9), 0, 0⟩) := by show _ = _; simp [gP, hf]
 have hf2 : (bs.getD 0 0).toNat = 23 := by unfold fnOf at hf; omega
 simp only [bV, hf2, Nat.add_zero] at c0;have hlt := lt_of_cell c0;have C1 := hidden (fun w' (h : Row w' (.slice (some ⟨b, off, none⟩) bs.length cap) (bs.map bV)) => get_pdu _ bs 1 w' (by omega) h);obtain ⟨i1, j1⟩ := getN_in bs 1;have C3 := hidden (fun w' (h : Row w' (.slice (some ⟨b, off, none⟩) bs.length cap) (bs.map bV)) => get_pdu _ bs 3 w' (by omega) h);obtain ⟨i3, j3⟩ := getN_in bs 3;have C5 := hidden (fun w' (h : Row w' (.slice (some ⟨b, off, none⟩) bs.length cap) (bs.map bV)) => get_pdu _ bs 5 w' (by omega) h);obtain ⟨i5, j5⟩ := getN_in bs 5;generalize getN bs 1 = N1 at *;generalize getN bs 3 = N3 at *;generalize getN bs 5 = N5 at *;have W0 := hidden (fun o1 o2 => ((Below.refl w.heap.size w).alloc (Nat.le_refl _) o1).alloc (by simp) o2);clear hcl hcell hf hf2 hc;go_enter Tryz.func76, Tryz.ntmps76;go_wp2_with fail
 refine (C1.out _ (hv.below (W0.out _ _))).mono ?_;rintro e w1 ⟨rfl, nq0, rfl⟩;go_wp2_with fail
 refine (C3.out _ (hv.below (below_drewn (W0.out _ _) _))).mono ?_;rintro e w1 ⟨rfl, nq1, rfl⟩;go_wp2_with fail
 refine (C5.out _ (hv.below (below_drewn (W0.out _ _) _))).mono ?_;rintro e w1 ⟨rfl, nq2, rfl⟩;go_wp2_with fail
 refine (tail_pdu _ bs 9 9 _ rfl (by decide) (hv.below ?b)).mono ?_
 case b =>
  repeat' (refine Below.setCell ?_ (by simp) _)
  exact below_drewn (W0.out _ _) _
 rintro e w2 ⟨v2, rfl, hr2, rfl⟩;go_wp2_with fail
 refine (words_any _ (tailL bs 9) _ hr2 (by have := tail_len bs 9; omega)).mono ?_;rintro e w3 ⟨v3, rfl, hr3, B3, nv3⟩;have X1 := (((((Blk.new_at (w.alloc (.cells #[.int .i64 0, .int .i64 0, .int .i64 0, .int .i64 0, .int .i64 0, .slice none 0 0, .slice none 0 0, .int .u16 0, .int .u16 0] 33)) 33 [.int .i64 23, .int .i64 0, .int .i64 0, .int .i64 0, .int .i64 0, .slice none 0 0, .slice none 0 0, .int .u16 0, .int .u16 0] (w.heap.size + 1) (by simp)).drewN (nq0 + nq1 + nq2)).set 1 (.int .i64 N1)).set 2 (.int .i64 N3)).set 3 (.int .i64 N5)).below B3 (by simp);have X0 := ((((((Blk.new w 33 [.int .i64 0, .int .i64 0, .int .i64 0, .int .i64 0, .int .i64 0, .slice none 0 0, .slice none 0 0, .int .u16 0, .int .u16 0]).alloc (.cells #[.int .i64 23, .int .i64 0, .int .i64 0, .int .i64 0, .int .i64 0, .slice none 0 0, .slice none 0 0, .int .u16 0, .int .u16 0] 33)).drewN (nq0 + nq1 + nq2)).set_ne (g := w.heap.size + 1) (by omega) 1 (.int .i64 N1)).set_ne (g := w.heap.size + 1) (by omega) 2 (.int .i64 N3)).set_ne (g := w.heap.size + 1) (by omega) 3 (.int .i64 N5)).below B3 (by simp; omega);have B4 := fun h => below_then (w0 := w) h B3;replace B3 := B4 (by
  repeat' (refine Below.setCell ?_ (by simp) _)
  exact below_drewn (W0.out _ _) _)
 clear B4;simp at nv3;clear hr2;obtain ⟨a3, cap3, rfl, -⟩ := id hr3;simp only [List.length_map] at hr3 nv3;have c10 := X1.cell 0;have c00 := X0.cell 0;have c11 := X1.cell 1;have c01 := X0.cell 1;have c12 := X1.cell 2;have c02 := X0.cell 2;have c13 := X1.cell 3;have c03 := X0.cell 3;have c14 := X1.cell 4;have c04 := X0.cell 4;have c15 := X1.cell 5;have c05 := X0.cell 5;have c16 := X1.cell 6;have c06 := X0.cell 6;have c17 := X1.cell 7;have c07 := X0.cell 7;have c18 := X1.cell 8;have c08 := X0.cell 8;simp at c10 c00 c11 c01 c12 c02 c13 c03 c14 c04 c15 c05 c16 c06 c17 c07 c18 c08;have f1 := X1.frozen;have f0 := X0.frozen;have g1 := X1.lt;have g0 := X0.lt;clear X1 X0;go_wp2;refine bodyPost_ret (v := _) (by simp [results, Tryz.results76, go_sem, c00, c01, c02, c03, c04, c05, c06, c07, c08]; exact rfl) rfl ?_;refine ⟨_, rfl, ?_, ?_, ?_⟩
 ·
  rw [EQ.out];refine ⟨_, _, rfl, Row.nil _, ?_⟩
  repeat' (refine Row.setCell_new ?_ nv3 (by omega))
  exact hr3
 ·
  repeat' (refine Below.setCell ?_ (by simp) _)
  exact B3
 ·
  exact ⟨_, _, _, _, _, _, _, _, _, rfl, NewV.none _ _ _, nv3.le (by omega)⟩
set_option maxRecDepth 100000 in
set_option maxHeartbeats 400000 in
theorem guess_pdu_15 (v : Value) (bs : List UInt8) (w : World) (hv : Row w v (bs.map bV)) (h0 : bs ≠ []) (hf : fnOf bs = 15) :
  Calls Tryz.prog 76 #[v] w fun e w' => ∃ v', e = .returned v' ∧ IsRq w' v' (gP bs) ∧ Below w.heap.size w w' ∧ NewQ w.heap.size v' := by
 obtain ⟨a, cap, rfl, -⟩ := id hv;obtain ⟨hl, hc, hm, hcell⟩ := hv.at;simp only [List.length_map] at hl hc hv hcell ⊢;obtain ⟨b, off, rfl, hcl⟩ := hcell 0 0 (List.length_pos_iff.2 h0);have c0 := hcl 0 (List.length_pos_iff.2 h0);have hp : (0 : Int) < (bs.length : Int) := by have := List.length_pos_iff.2 h0; omega
 have EQ : Hid (gP bs = ⟨15, getN bs 1, getN bs 3, 0, 0, openR (tailL bs 5) (getN bs 3), [], 0, 0⟩) := by show _ = _; simp [gP, hf]
 have hf2 : (bs.getD 0 0).toNat = 15 := by unfold fnOf at hf; omega
 simp only [bV, hf2, Nat.add_zero] at c0;have hlt := lt_of_cell c0;have C1 := hidden (fun w' (h : Row w' (.slice (some ⟨b, off, none⟩) bs.length cap) (bs.map bV)) => get_pdu _ bs 1 w' (by omega) h);obtain ⟨i1, j1⟩ := getN_in bs 1;have C3 := hidden (fun w' (h : Row w' (.slice (some ⟨b, off, none⟩) bs.length cap) (bs.map bV)) => get_pdu _ bs 3 w' (by omega) h);obtain ⟨i3, j3⟩ := getN_in bs 3;have HO := hidden (fun v w' (h : Row w' v ((tailL bs 5).map bV)) (hr : 8 * (tailL bs 5).length ≤ 140737488355328) => open_any v (tailL bs 5) (getN bs 3) w' (by omega) h hr);generalize getN bs 1 = N1 at *;generalize getN bs 3 = N3 at *;have W0 := hidden (fun o1 o2 => ((Below.refl w.heap.size w).alloc (Nat.le_refl _) o1).alloc (by simp) o2);clear hcl hcell hf hf2 hc;go_enter Tryz.func76, Tryz.ntmps76;go_wp2_with fail
 refine (C1.out _ (hv.below (W0.out _ _))).mono ?_;rintro e w1 ⟨rfl, nq0, rfl⟩;go_wp2_with fail
 refine (C3.out _ (hv.below (below_drewn (W0.out _ _) _))).mono ?_;rintro e w1 ⟨rfl, nq1, rfl⟩;go_wp2;refine h_begin 10 rfl (by kernel_rfl) ?_;have X1 := ((((Blk.new_at (w.alloc (.cells #[.int .i64 0, .int .i64 0, .int .i64 0, .int .i64 0, .int .i64 0, .slice none 0 0, .slice none 0 0, .int .u16 0, .int .u16 0] 33)) 33 [.int .i64 15, .int .i64 0, .int .i64 0, .int .i64 0, .int .i64 0, .slice none 0 0, .slice none 0 0, .int .u16 0, .int .u16 0] (w.heap.size + 1) (by simp)).drewN (nq0 + nq1)).set 1 (.int .i64 N1)).set 2 (.int .i64 N3)).drew;have X0 := (((((Blk.new w 33 [.int .i64 0, .int .i64 0, .int .i64 0, .int .i64 0, .int .i64 0, .slice none 0 0, .slice none 0 0, .int .u16 0, .int .u16 0]).alloc (.cells #[.int .i64 15, .int .i64 0, .int .i64 0, .int .i64 0, .int .i64 0, .slice none 0 0, .slice none 0 0, .int .u16 0, .int .u16 0] 33)).drewN (nq0 + nq1)).set_ne (g := w.heap.size + 1) (by omega) 1 (.int .i64 N1)).set_ne (g := w.heap.size + 1) (by omega) 2 (.int .i64 N3)).drew;have B2 := blk_world X1 (P := fun W => Below w.heap.size w W) (by
  refine Below.drew ?_
  repeat' (refine Below.setCell ?_ (by simp) _)
  exact below_drewn (W0.out _ _) _)
 refine h_P trivial 0 rfl ?_;refine h_P trivial 2 rfl ?_;refine h_R (fun w' => w'.cell? ⟨w.heap.size + 1, 2, none⟩ = some (.int .i64 N3)) (fun _ _ => trivial) (X1.cell 2) 3 rfl (fun w' hx => by go_simp; with_reducible rfl) ?_;refine h_move 1 (by kernel_rfl) (h_op 1 rfl (by kernel_rfl) (fun K hK => ?_));go_wp2_with fail
 refine (tail_pdu _ bs 5 5 _ rfl (by decide) (hv.below B2)).mono ?_;rintro e w2 ⟨v2, rfl, hr2, rfl⟩;go_simp;refine hK.out _ _ (X1.cell 2) ?_;clear K hK;try simp only [Act.put, PuA, PuB, PuC]
 refine h_move 4 (by kernel_rfl) (h_op 4 rfl (by kernel_rfl) (fun K hK => ?_));go_wp2_with fail
 refine (HO.out _ _ hr2 (by have := tail_len bs 5; omega)).mono ?_;rintro e w3 ⟨v3, rfl, hr3, B3, nv3⟩;replace X1 := X1.below B3 X1.lt;replace X0 := X0.below B3 X0.lt;replace B3 := below_then B2 B3;simp at nv3;go_simp;refine hK.out _ _ (X1.cell 2) ?_;clear K hK hr2 B2;try simp only [Act.put, PuA, PuB, PuC]
 have s3 : w3.cell? ⟨w.heap.size + 1, 2, none⟩ = some (.int .i64 N3) := X1.cell 2;have s5 : w3.cell? ⟨w.heap.size + 1, 5, none⟩ = some (.slice none 0 0) := X1.cell 5;obtain ⟨a3, cap3, rfl, -⟩ := id hr3;simp only [List.length_map] at hr3 nv3 ⊢;generalize openOk (tailL bs 5) N3 = ok at *;refine h_P s3 5 rfl ?_;refine h_P s3 6 rfl ?_;refine h_P s3 7 rfl ?_;refine h_P s3 8 rfl ?_;have f1 := X1.frozen;refine h_move 9 (by kernel_rfl) (h_op 9 rfl (by kernel_rfl) (fun K hK => ?_));go_simp;refine hK.out _ _ ((X1.set 5 _).cell 2) ?_;clear K hK s3 s5;try simp only [Act.put, PuA, PuB, PuC]
 refine h_done (by kernel_rfl) ?_;clear f1;have c10 := X1.cell 0;have c00 := X0.cell 0;have c11 := X1.cell 1;have c01 := X0.cell 1;have c12 := X1.cell 2;have c02 := X0.cell 2;have c13 := X1.cell 3;have c03 := X0.cell 3;have c14 := X1.cell 4;have c04 := X0.cell 4;have c15 := X1.cell 5;have c05 := X0.cell 5;have c16 := X1.cell 6;have c06 := X0.cell 6;have c17 := X1.cell 7;have c07 := X0.cell 7;have c18 := X1.cell 8;have c08 := X0.cell 8;simp at c10 c00 c11 c01 c12 c02 c13 c03 c14 c04 c15 c05 c16 c06 c17 c07 c18 c08;have f1 := X1.frozen;have f0 := X0.frozen;have g1 := X1.lt;have g0 := X0.lt;clear X1 X0;go_wp2;refine bodyPost_ret (v := _) (by simp [results, Tryz.results76, go_sem, c00, c01, c02, c03, c04, c05, c06, c07, c08]; exact rfl) rfl ?_;refine ⟨_, rfl, ?_, ?_, ?_⟩
 ·
  rw [EQ.out];refine ⟨_, _, rfl, ?_, Row.nil _⟩
  repeat' (refine Row.setCell_new ?_ nv3 (by omega))
  exact hr3
 ·
  repeat' (refine Below.setCell ?_ (by simp) _)
  exact B3
 ·
  exact ⟨_, _, _, _, _, _, _, _, _, rfl, nv3.le (by omega), NewV.none _ _ _⟩
theorem guess_pdu (v : Value) (bs : List UInt8) (w : World) (hv : Row w v (bs.map bV)) (h0 : bs ≠ []) (hk : knownB (fnOf bs) = true) :
  Calls Tryz.prog 76 #[v] w fun e w' => ∃ v', e = .returned v' ∧ IsRq w' v' (gP bs) ∧ Below w.heap.size w w' ∧ NewQ w.heap.size v' := by
 rcases known_cases hk with e | e | e | e | e | e | e | e | e | e | e | e
 ·
  exact guess_pdu_1 v bs w hv h0 e
 ·
  exact guess_pdu_2 v bs w hv h0 e
 ·
  exact guess_pdu_3 v bs w hv h0 e
 ·
  exact guess_pdu_4 v bs w hv h0 e
 ·
  exact guess_pdu_5 v bs w hv h0 e
 ·
  exact guess_pdu_6 v bs w hv h0 e
 ·
  exact guess_pdu_8 v bs w hv h0 e
 ·
  exact guess_pdu_15 v bs w hv h0 e
 ·
  exact guess_pdu_16 v bs w hv h0 e
 ·
  exact guess_pdu_17 v bs w hv h0 e
 ·
  exact guess_pdu_22 v bs w hv h0 e
 ·
  exact guess_pdu_23 v bs w hv h0 e
set_option maxRecDepth 100000 in
set_option maxHeartbeats 1000000 in
theorem read_pdu_new (v : Value) (bs : List UInt8) (w : World) (hv : Row w v (bs.map bV)) :
  Calls Tryz.prog 39 #[v] w fun e w' => ∃ v', e = .returned (.tuple #[v', .int .i64 (readE bs)]) ∧ IsRq w' v' (readQ bs) ∧ Below w.heap.size w w' ∧ NewQ w.heap.size v' := by
 have W0 := hidden (fun o => (Below.refl w.heap.size w).alloc (Nat.le_refl _) o);by_cases h0 : bs = []
 ·
  subst h0;rw [readE_short, readQ_short];obtain ⟨a, cap, rfl, -⟩ := id hv;simp only [List.map_nil, List.length_nil] at hv ⊢;clear hv;go_enter Tryz.func39, Tryz.ntmps39;go_wp2;refine bodyPost_ret (v := _) (by simp [results, Tryz.results39, go_sem]; exact rfl) rfl ?_;refine ⟨_, rfl, zero_is _, ?_, ⟨_, _, _, _, _, _, _, _, _, rfl, NewV.none _ _ _, NewV.none _ _ _⟩⟩;exact W0.out _
 ·
  have hp : 0 < bs.length := List.length_pos_iff.2 h0;have hp2 : (0 : Int) < (bs.length : Int) := by omega
  have hne : ((bs.length : Int) == 0) = false := by rw [beq_eq_false_iff_ne]; omega
  obtain ⟨a, cap, rfl, -⟩ := id hv;obtain ⟨hl, hc, hm, hcell⟩ := hv.at;simp only [List.length_map] at hl hc hv hcell ⊢;obtain ⟨b, off, rfl, hcl⟩ := hcell 0 0 hp;have c0 := hcl 0 hp;simp only [Nat.add_zero] at c0;have hlt := lt_of_cell c0;have HF : Hid (fnOf bs = ((bs.getD 0 0).toNat : Int)) := rfl;clear hcl hcell;cases hk : knownB (fnOf bs)
  ·
   rw [readE_fn h0 hk, readQ_fn hk];rw [HF.out] at hk;have KK := hidden hk;clear hk;generalize bs.getD 0 0 = x at *;have hx := x.toNat_lt;go_enter Tryz.func39, Tryz.ntmps39;go_wp2_with (go_at_call 75; refine (known_pdu _ _).mono ?_; rintro e w1 ⟨rfl, rfl⟩; rw [KK.out])
   refine bodyPost_ret (v := _) (by simp [results, Tryz.results39, go_sem]; exact rfl) rfl ?_;refine ⟨_, rfl, zero_is _, ?_, ⟨_, _, _, _, _, _, _, _, _, rfl, NewV.none _ _ _, NewV.none _ _ _⟩⟩;exact W0.out _
  ·
   have CG := hidden (fun w' (h : Row w' (.slice (some ⟨b, off, none⟩) bs.length cap) (bs.map bV)) => guess_pdu _ bs w' h h0 hk);have E12 := hidden (fun h => readE_form h0 hk (noP (b := bs) h));have Q12 := hidden (fun h => readQ_no (noP (b := bs) h));have E0 := hidden (fun h => readE_is (b := bs) (q := gP bs) h);have Q0 := hidden (fun h => readQ_is (b := bs) (q := gP bs) h);rw [HF.out] at hk;have KK := hidden hk;clear hk HF;generalize bs.getD 0 0 = x at *;have hx := x.toNat_lt;go_enter Tryz.func39, Tryz.ntmps39;go_wp2_with (go_at_call 75; refine (known_pdu _ _).mono ?_; rintro e w1 ⟨rfl, rfl⟩; rw [KK.out])
   refine (CG.out _ (hv.below (W0.out _))).mono ?_;rintro e w1 ⟨v1, rfl, h1, B1, nq1⟩;have X0 := (Blk.new w 33 [.int .i64 0, .int .i64 0, .int .i64 0, .int .i64 0, .int .i64 0, .slice none 0 0, .slice none 0 0, .int .u16 0, .int .u16 0]).below B1 (by simp);replace B1 := below_then (W0.out _) B1;have g0 := X0.lt;obtain ⟨ab, capb, av, capv, rfl, -, -⟩ := h1.slices;obtain ⟨nb, nv⟩ := nq1.parts;simp at nb nv;go_wp2_with fail
   have CB := fun W h => bytes_pdu _ (gP bs) W (h1.below h);refine (CB _ ((Below.refl _ _).alloc (Nat.le_refl _) _)).mono ?_;rintro e w2 ⟨v2, rfl, hr2, B2⟩;have X1 := (Blk.new w1 33 [.int .i64 (gP bs).fn, .int .i64 (gP bs).loc, .int .i64 (gP bs).cnt, .int .i64 (gP bs).wat, .int .i64 (gP bs).sub, .slice ab (gP bs).bits.length capb, .slice av (gP bs).vals.length capv, .int .u16 (gP bs).land.toNat, .int .u16 (gP bs).lor.toNat]).below B2 (by simp);replace X0 := (X0.alloc _).below B2 (by simp; omega);replace h1 := (h1.below ((Below.refl _ _).alloc (Nat.le_refl _) _)).below B2;replace B2 := below_then (B1.alloc B1.size _) B2;clear CB CG g0;have hE : ∀ E, rightE (gP bs) = E → isQ bs (gP bs) ∨ True := fun _ _ => .inr trivial;clear hE;by_cases hr : rightE (gP bs) = 0
   ·
    rw [hr];have HR := hidden hr;rw [bytesR_0 hr] at hr2;clear hr;go_wp2_with fail
    refine (eq_u8 _ _ _ bs _ hr2 (hv.below B2)).mono ?_;rintro e w3 ⟨rfl, B3⟩;replace X0 := X0.below B3 X0.lt;replace X1 := X1.below B3 X1.lt;replace h1 := h1.below B3;replace B3 := below_then B2 B3;have hs1 := B1.size;clear B2 hr2;have d0 := X0.cell 0;have d1 := X0.cell 1;have d2 := X0.cell 2;have d3 := X0.cell 3;have d4 := X0.cell 4;have d5 := X0.cell 5;have d6 := X0.cell 6;have d7 := X0.cell 7;have d8 := X0.cell 8;simp at d0 d1 d2 d3 d4 d5 d6 d7 d8;have fd := X0.frozen;have gd := X0.lt;have k0 := X1.cell 0;have k1 := X1.cell 1;have k2 := X1.cell 2;have k3 := X1.cell 3;have k4 := X1.cell 4;have k5 := X1.cell 5;have k6 := X1.cell 6;have k7 := X1.cell 7;have k8 := X1.cell 8;simp at k0 k1 k2 k3 k4 k5 k6 k7 k8;have fk := X1.frozen;have gk := X1.lt;by_cases hq : bytesQ (gP bs) = bs
    ·
     have T : (bytesQ (gP bs) == bs) = true := by rw [hq]; simp
     rw [T];have E := hidden (E0.out ⟨HR.out, hq⟩);have Qq := hidden (Q0.out ⟨HR.out, hq⟩);clear hq T E12 Q12 E0 Q0 X0 X1;generalize gP bs = q at *;go_wp2;refine bodyPost_ret (v := _) (by simp [results, Tryz.results39, go_sem, d0, d1, d2, d3, d4, d5, d6, d7, d8]; exact rfl) rfl ?_;rw [E.out, Qq.out];obtain ⟨vb, vv, hE, hb1, hb2⟩ := h1;simp only [rqV, Value.agg.injEq, Array.mk.injEq, List.cons.injEq, and_true, true_and] at hE;obtain ⟨rfl, rfl⟩ := hE;refine ⟨_, rfl, ⟨_, _, rfl, ?_, ?_⟩, ?_, ⟨_, _, _, _, _, _, _, _, _, rfl, nb.le (by omega), nv.le (by omega)⟩⟩
     ·
      repeat' (refine Row.setCell_new ?_ nb (by omega))
      exact hb1
     ·
      repeat' (refine Row.setCell_new ?_ nv (by omega))
      exact hb2
     ·
      repeat' (refine Below.setCell ?_ (by simp) _)
      exact B3
    ·
     have T : (bytesQ (gP bs) == bs) = false := by rw [beq_eq_false_iff_ne]; exact hq
     rw [T];have E := hidden (E12.out (fun h => hq h.2));have Qq := hidden (Q12.out (fun h => hq h.2));clear hq T E12 Q12 E0 Q0 X0 X1;generalize gP bs = q at *;go_wp2;refine bodyPost_ret (v := _) (by simp [results, Tryz.results39, go_sem, d0, d1, d2, d3, d4, d5, d6, d7, d8]; exact rfl) rfl ?_;rw [E.out, Qq.out];refine ⟨_, rfl, zero_is _, ?_, ⟨_, _, _, _, _, _, _, _, _, rfl, NewV.none _ _ _, NewV.none _ _ _⟩⟩
     repeat' (refine Below.setCell ?_ (by simp) _)
     exact B3
   ·
    have T : (rightE (gP bs) != 0) = true := by simpa using hr
    have E := hidden (E12.out (fun h => hr h.1));have Qq := hidden (Q12.out (fun h => hr h.1));have B3 := B2;have d0 := X0.cell 0;have d1 := X0.cell 1;have d2 := X0.cell 2;have d3 := X0.cell 3;have d4 := X0.cell 4;have d5 := X0.cell 5;have d6 := X0.cell 6;have d7 := X0.cell 7;have d8 := X0.cell 8;simp at d0 d1 d2 d3 d4 d5 d6 d7 d8;have fd := X0.frozen;have gd := X0.lt;clear hr E12 Q12 E0 Q0 X0 X1;generalize rightE (gP bs) = Er at *;go_wp2;refine bodyPost_ret (v := _) (by simp [results, Tryz.results39, go_sem, d0, d1, d2, d3, d4, d5, d6, d7, d8]; exact rfl) rfl ?_;rw [E.out, Qq.out];refine ⟨_, rfl, zero_is _, ?_, ⟨_, _, _, _, _, _, _, _, _, rfl, NewV.none _ _ _, NewV.none _ _ _⟩⟩
    repeat' (refine Below.setCell ?_ (by simp) _)
    exact B3
def cntB (q : Rq) : Bool :=
 if q.fn = 1 ∨ q.fn = 2 then decide (1 ≤ q.cnt ∧ q.cnt ≤ 2000)
 else if q.fn = 3 ∨ q.fn = 4 then decide (1 ≤ q.cnt ∧ q.cnt ≤ 125)
 else if q.fn = 15 then decide (1 ≤ q.cnt ∧ q.cnt ≤ 1968)
 else if q.fn = 16 then decide (1 ≤ q.cnt ∧ q.cnt ≤ 123)
 else if q.fn = 23 then decide (1 ≤ q.cnt ∧ q.cnt ≤ 125) && decide (1 ≤ (q.vals.length : Int) ∧ (q.vals.length : Int) ≤ 121)
 else true
def countsB (q : Rq) : Bool := decide (rightE q = 0) && cntB q
set_option maxHeartbeats 2000000 in
theorem counts_pdu (v : Value) (q : Rq) (w : World) (h : IsRq w v q) :
  Calls Tryz.prog 46 #[v] w fun e w' => e = .returned (.bool (countsB q)) ∧ Below w.heap.size w w' := by
 obtain ⟨ab, capb, av, capv, rfl, -, hvl⟩ := h.slices;have W0 := hidden (fun o => (Below.refl w.heap.size w).alloc (Nat.le_refl _) o);have C := hidden (fun w' (hb : Below w.heap.size w w') => right_pdu _ _ _ (h.below hb));by_cases hr : rightE q = 0
 ·
  have hk := (right_parts hr).1;have e : countsB q = cntB q := by simp [countsB, hr]
  rw [e];rw [hr] at C;clear hr e h;obtain ⟨f, a, c, p, s, bs, vs, m, o⟩ := q;simp only at hk C hvl ⊢;rcases known_cases hk with rfl | rfl | rfl | rfl | rfl | rfl | rfl | rfl | rfl | rfl | rfl | rfl
  all_goals
   clear hk;go_enter Tryz.func46, Tryz.ntmps46;go_wp2_with fail
   refine (C.out _ (W0.out _)).mono ?_;rintro e w1 ⟨rfl, B1⟩;have X := (Box.new w _ _ _ _ _ _ _ _ _ _).ext B1;replace B1 := below_then (W0.out _) B1;obtain ⟨lt, c0, c1, c2, c3, c4, c5, c6, c7, c8⟩ := X
  ·
   go_wp2_with fail
   refine (within_pdu _ _ _).mono ?_;rintro e w2 ⟨rfl, rfl⟩;go_wp2;go_ret;exact ⟨ret_bool (by simp [cntB]), B1⟩
  ·
   go_wp2_with fail
   refine (within_pdu _ _ _).mono ?_;rintro e w2 ⟨rfl, rfl⟩;go_wp2;go_ret;exact ⟨ret_bool (by simp [cntB]), B1⟩
  ·
   go_wp2_with fail
   refine (within_pdu _ _ _).mono ?_;rintro e w2 ⟨rfl, rfl⟩;go_wp2;go_ret;exact ⟨ret_bool (by simp [cntB]), B1⟩
  ·
   go_wp2_with fail
   refine (within_pdu _ _ _).mono ?_;rintro e w2 ⟨rfl, rfl⟩;go_wp2;go_ret;exact ⟨ret_bool (by simp [cntB]), B1⟩
  ·
   go_wp2;go_ret;exact ⟨ret_bool (by simp [cntB]), B1⟩
  ·
   go_wp2;go_ret;exact ⟨ret_bool (by simp [cntB]), B1⟩
  ·
   go_wp2;go_ret;exact ⟨ret_bool (by simp [cntB]), B1⟩
  ·
   go_wp2_with fail
   refine (within_pdu _ _ _).mono ?_;rintro e w2 ⟨rfl, rfl⟩;go_wp2;go_ret;exact ⟨ret_bool (by simp [cntB]), B1⟩
  ·
   go_wp2_with fail
   refine (within_pdu _ _ _).mono ?_;rintro e w2 ⟨rfl, rfl⟩;go_wp2;go_ret;exact ⟨ret_bool (by simp [cntB]), B1⟩
  ·
   go_wp2;go_ret;exact ⟨ret_bool (by simp [cntB]), B1⟩
  ·
   go_wp2;go_ret;exact ⟨ret_bool (by simp [cntB]), B1⟩
  ·
   cases h1 : decide (1 ≤ c ∧ c ≤ 125)
   ·
    have E : Hid (cntB ⟨23, a, c, p, s, bs, vs, m, o⟩ = false) := by show _ = _; simp only [cntB]; simp; intro h2 h3; simp at h1; omega
    have H1 := hidden h1;clear h1;go_wp2_with (go_at_call 90; refine (within_pdu _ _ _).mono ?_; rintro e w2 ⟨rfl, rfl⟩; first | rw [H1.out])
    go_ret;exact ⟨ret_bool E.out.symm, B1⟩
   ·
    cases h2 : decide (1 ≤ (vs.length : Int) ∧ (vs.length : Int) ≤ 121)
    ·
     have E : Hid (cntB ⟨23, a, c, p, s, bs, vs, m, o⟩ = false) := by show _ = _; simp only [cntB]; simp; intro h3 h4 h5; simp at h2; omega
     have H1 := hidden h1;have H2 := hidden h2;clear h1 h2;go_wp2_with (go_at_call 90; refine (within_pdu _ _ _).mono ?_; rintro e w2 ⟨rfl, rfl⟩; first | rw [H1.out] | rw [H2.out])
     go_ret;exact ⟨ret_bool E.out.symm, B1⟩
    ·
     have E : Hid (cntB ⟨23, a, c, p, s, bs, vs, m, o⟩ = true) := by show _ = _; simp only [cntB]; simp at h1 h2 ⊢; omega
     have H1 := hidden h1;have H2 := hidden h2;clear h1 h2;go_wp2_with (go_at_call 90; refine (within_pdu _ _ _).mono ?_; rintro e w2 ⟨rfl, rfl⟩; first | rw [H1.out] | rw [H2.out])
     go_ret;exact ⟨ret_bool E.out.symm, B1⟩
 ·
  have e : countsB q = false := by simp [countsB, hr]
  rw [e];have t : (rightE q != 0) = true := by simpa using hr
  generalize rightE q = E at *;clear hr h e;go_enter Tryz.func46, Tryz.ntmps46;go_wp2_with fail
  refine (C.out _ (W0.out _)).mono ?_;rintro e w1 ⟨rfl, B1⟩;replace B1 := below_then (W0.out _) B1;go_wp2;go_ret;exact ⟨rfl, B1⟩
end Go.Proofs.YtdihcdphgiaepaaGreat
