/- Contract of burgageref3.guess, by function. -/
import Derived.Test.YtdihcdphgiaepaaGreatZZ37
import Derived.Test.YtdihcdphgiaepaaGreatZZ34
import Derived.Test.YtdihcdphgiaepaaGreatZZ9
namespace Go.Proofs.YtdihcdphgiaepaaGreat
open Go.RowKit
theorem ropen_all (v : Value) (bs : List UInt8) (n : Int) (w : World) (hn : -9223372036854775808 ≤ n ∧ n ≤ 9223372036854775807) (hv : Row w v (bs.map bV)) (hr : bs.length ≤ 140737488351232) (hn3 : n ≤ 140737488355327 ∨ 8 * (bs.length : Int) < n) :
  Calls Tryz.prog 34 #[v, .int .i64 n] w fun e w' => ∃ v', e = .returned (.tuple #[v', .bool (openOk bs n)]) ∧ Row w' v' ((openR bs n).map Value.bool) ∧ Below w.heap.size w w' ∧ NewV w.heap.size v' := by
 by_cases h : n ≤ 140737488355327
 ·
  exact ropen_any v bs n w hn hv hr h
 ·
  have hbig : 8 * (bs.length : Int) < n := by omega
  have h0 : ¬ n < 0 := by omega
  obtain ⟨a, cap, rfl, -⟩ := id hv;simp only [List.length_map] at hv ⊢;obtain ⟨hn1, hn2⟩ := hn;rw [openR_no (openOk_len bs n (by omega)), openOk_len bs n (by omega)];clear hn3 h;go_enter Tryz.func34, Tryz.ntmps34;go_wp2;go_ret2
  exact ⟨_, rfl, Row.nil _, Below.refl _ _, NewV.none _ _ _⟩
set_option maxHeartbeats 400000 in
theorem uses_no (f : Int) (w : World) (hk : knownB f = false) : Calls Tryz.prog 66 #[.int .i64 f] w fun e w' => e = .returned (.string ⟨([] : List UInt8).toArray⟩) ∧ w = w' := by
 obtain ⟨h1, h2, h3, h4, h5, h6, h8, h15, h16, h17, h22, h23⟩ := known_no hk;clear hk;go_enter Tryz.func66, Tryz.ntmps66;go_wp2;go_ret;exact ⟨rfl, rfl⟩
set_option maxRecDepth 100000 in
set_option maxHeartbeats 1000000 in
theorem guess_ref_1 (v : Value) (bs : List UInt8) (w : World) (hv : Row w v (bs.map bV)) (h0 : bs ≠ []) (hbl : bs.length ≤ 140737488351232) (hf : fnOf bs = 1) :
  Calls Tryz.prog 36 #[v] w fun e w' => ∃ v', e = .returned v' ∧ IsRq w' v' (gR bs) ∧ Below w.heap.size w w' ∧ NewQ w.heap.size v' := by
 obtain ⟨a, cap, rfl, -⟩ := id hv;obtain ⟨hl, hc, hm, hcell⟩ := hv.at;simp only [List.length_map] at hl hc hv hcell ⊢;obtain ⟨b, off, rfl, hcl⟩ := hcell 0 0 (List.length_pos_iff.2 h0);have c0 := hcl 0 (List.length_pos_iff.2 h0);have hp : (0 : Int) < (bs.length : Int) := by have := List.length_pos_iff.2 h0; omega
 have EQ : Hid (gR bs = ⟨1, getN bs 1, getN bs 3, 0, 0, [], [], 0, 0⟩) := by show _ = _; simp [gR, hf]
 have hf2 : (bs.getD 0 0).toNat = 1 := by unfold fnOf at hf; omega
 simp only [bV, hf2, Nat.add_zero] at c0;have hlt := lt_of_cell c0;have KK : Hid (knownB 1 = true) := by rfl
 have Ia : Hid (inI [97, 99] 97 = true) := by rfl
 have Ic : Hid (inI [97, 99] 99 = true) := by rfl
 have C1 := hidden (fun w' (h : Row w' (.slice (some ⟨b, off, none⟩) bs.length cap) (bs.map bV)) => num_ref _ bs 1 w' (by omega) h);obtain ⟨i1, j1⟩ := getN_in bs 1;have C3 := hidden (fun w' (h : Row w' (.slice (some ⟨b, off, none⟩) bs.length cap) (bs.map bV)) => num_ref _ bs 3 w' (by omega) h);obtain ⟨i3, j3⟩ := getN_in bs 3;generalize getN bs 1 = N1 at *;generalize getN bs 3 = N3 at *;have W0 := hidden (fun o1 o2 => ((Below.refl w.heap.size w).alloc (Nat.le_refl _) o1).alloc (by simp) o2);clear hcl hcell hf hf2;go_enter Tryz.func36, Tryz.ntmps36;go_wp2_with (first | (go_at_call 66; refine (uses_ref _ _ KK.out).mono ?_; rintro e w4 ⟨rfl, rfl⟩; rw [show usesL 1 = [97, 99] from rfl]) | (go_at_call 32; refine (in_at [97, 99] _ _ (by decide) (by decide)).mono ?_; rintro e w4 ⟨rfl, rfl⟩; first | rw [Ia.out] | rw [Ic.out]))
 refine (C1.out _ (hv.below ?b)).mono ?_
 case b =>
  repeat' (first | refine Below.setCell ?_ (by simp) _ | refine below_drewn ?_ _)
  exact W0.out _ _
 rintro e w1 ⟨rfl, nq0, rfl⟩;go_wp2_with (first | (go_at_call 66; refine (uses_ref _ _ KK.out).mono ?_; rintro e w4 ⟨rfl, rfl⟩; rw [show usesL 1 = [97, 99] from rfl]) | (go_at_call 32; refine (in_at [97, 99] _ _ (by decide) (by decide)).mono ?_; rintro e w4 ⟨rfl, rfl⟩; first | rw [Ia.out] | rw [Ic.out]))
 refine (C3.out _ (hv.below ?b)).mono ?_
 case b =>
  repeat' (first | refine Below.setCell ?_ (by simp) _ | refine below_drewn ?_ _)
  exact W0.out _ _
 rintro e w1 ⟨rfl, nq1, rfl⟩;go_wp2_with (first | (go_at_call 66; refine (uses_ref _ _ KK.out).mono ?_; rintro e w4 ⟨rfl, rfl⟩; rw [show usesL 1 = [97, 99] from rfl]) | (go_at_call 32; refine (in_at [97, 99] _ _ (by decide) (by decide)).mono ?_; rintro e w4 ⟨rfl, rfl⟩; first | rw [Ia.out] | rw [Ic.out]))
 refine bodyPost_ret (v := _) (by simp [results, Tryz.results36, go_sem]; with_reducible rfl) rfl ?_;refine ⟨_, rfl, ?_, ?_, ?_⟩
 ·
  rw [EQ.out];exact ⟨_, _, rfl, Row.nil _, Row.nil _⟩
 ·
  repeat' (first | refine Below.setCell ?_ (by simp) _ | refine below_drewn ?_ _)
  exact W0.out _ _
 ·
  exact ⟨_, _, _, _, _, _, _, _, _, rfl, NewV.none _ _ _, NewV.none _ _ _⟩
set_option maxRecDepth 100000 in
set_option maxHeartbeats 1000000 in
theorem guess_ref_2 (v : Value) (bs : List UInt8) (w : World) (hv : Row w v (bs.map bV)) (h0 : bs ≠ []) (hbl : bs.length ≤ 140737488351232) (hf : fnOf bs = 2) :
  Calls Tryz.prog 36 #[v] w fun e w' => ∃ v', e = .returned v' ∧ IsRq w' v' (gR bs) ∧ Below w.heap.size w w' ∧ NewQ w.heap.size v' := by
 obtain ⟨a, cap, rfl, -⟩ := id hv;obtain ⟨hl, hc, hm, hcell⟩ := hv.at;simp only [List.length_map] at hl hc hv hcell ⊢;obtain ⟨b, off, rfl, hcl⟩ := hcell 0 0 (List.length_pos_iff.2 h0);have c0 := hcl 0 (List.length_pos_iff.2 h0);have hp : (0 : Int) < (bs.length : Int) := by have := List.length_pos_iff.2 h0; omega
 have EQ : Hid (gR bs = ⟨2, getN bs 1, getN bs 3, 0, 0, [], [], 0, 0⟩) := by show _ = _; simp [gR, hf]
 have hf2 : (bs.getD 0 0).toNat = 2 := by unfold fnOf at hf; omega
 simp only [bV, hf2, Nat.add_zero] at c0;have hlt := lt_of_cell c0;have KK : Hid (knownB 2 = true) := by rfl
 have Ia : Hid (inI [97, 99] 97 = true) := by rfl
 have Ic : Hid (inI [97, 99] 99 = true) := by rfl
 have C1 := hidden (fun w' (h : Row w' (.slice (some ⟨b, off, none⟩) bs.length cap) (bs.map bV)) => num_ref _ bs 1 w' (by omega) h);obtain ⟨i1, j1⟩ := getN_in bs 1;have C3 := hidden (fun w' (h : Row w' (.slice (some ⟨b, off, none⟩) bs.length cap) (bs.map bV)) => num_ref _ bs 3 w' (by omega) h);obtain ⟨i3, j3⟩ := getN_in bs 3;generalize getN bs 1 = N1 at *;generalize getN bs 3 = N3 at *;have W0 := hidden (fun o1 o2 => ((Below.refl w.heap.size w).alloc (Nat.le_refl _) o1).alloc (by simp) o2);clear hcl hcell hf hf2;go_enter Tryz.func36, Tryz.ntmps36;go_wp2_with (first | (go_at_call 66; refine (uses_ref _ _ KK.out).mono ?_; rintro e w4 ⟨rfl, rfl⟩; rw [show usesL 2 = [97, 99] from rfl]) | (go_at_call 32; refine (in_at [97, 99] _ _ (by decide) (by decide)).mono ?_; rintro e w4 ⟨rfl, rfl⟩; first | rw [Ia.out] | rw [Ic.out]))
 refine (C1.out _ (hv.below ?b)).mono ?_
 case b =>
  repeat' (first | refine Below.setCell ?_ (by simp) _ | refine below_drewn ?_ _)
  exact W0.out _ _
 rintro e w1 ⟨rfl, nq0, rfl⟩;go_wp2_with (first | (go_at_call 66; refine (uses_ref _ _ KK.out).mono ?_; rintro e w4 ⟨rfl, rfl⟩; rw [show usesL 2 = [97, 99] from rfl]) | (go_at_call 32; refine (in_at [97, 99] _ _ (by decide) (by decide)).mono ?_; rintro e w4 ⟨rfl, rfl⟩; first | rw [Ia.out] | rw [Ic.out]))
 refine (C3.out _ (hv.below ?b)).mono ?_
 case b =>
  repeat' (first | refine Below.setCell ?_ (by simp) _ | refine below_drewn ?_ _)
  exact W0.out _ _
 rintro e w1 ⟨rfl, nq1, rfl⟩;go_wp2_with (first | (go_at_call 66; refine (uses_ref _ _ KK.out).mono ?_; rintro e w4 ⟨rfl, rfl⟩; rw [show usesL 2 = [97, 99] from rfl]) | (go_at_call 32; refine (in_at [97, 99] _ _ (by decide) (by decide)).mono ?_; rintro e w4 ⟨rfl, rfl⟩; first | rw [Ia.out] | rw [Ic.out]))
 refine bodyPost_ret (v := _) (by simp [results, Tryz.results36, go_sem]; with_reducible rfl) rfl ?_;refine ⟨_, rfl, ?_, ?_, ?_⟩
 ·
  rw [EQ.out];exact ⟨_, _, rfl, Row.nil _, Row.nil _⟩
 ·
  repeat' (first | refine Below.setCell ?_ (by simp) _ | refine below_drewn ?_ _)
  exact W0.out _ _
 ·
  exact ⟨_, _, _, _, _, _, _, _, _, rfl, NewV.none _ _ _, NewV.none _ _ _⟩
set_option maxRecDepth 100000 in
set_option maxHeartbeats 1000000 in
theorem guess_ref_3 (v : Value) (bs : List UInt8) (w : World) (hv : Row w v (bs.map bV)) (h0 : bs ≠ []) (hbl : bs.length ≤ 140737488351232) (hf : fnOf bs = 3) :
  Calls Tryz.prog 36 #[v] w fun e w' => ∃ v', e = .returned v' ∧ IsRq w' v' (gR bs) ∧ Below w.heap.size w w' ∧ NewQ w.heap.size v' := by
 obtain ⟨a, cap, rfl, -⟩ := id hv;obtain ⟨hl, hc, hm, hcell⟩ := hv.at;simp only [List.length_map] at hl hc hv hcell ⊢;obtain ⟨b, off, rfl, hcl⟩ := hcell 0 0 (List.length_pos_iff.2 h0);have c0 := hcl 0 (List.length_pos_iff.2 h0);have hp : (0 : Int) < (bs.length : Int) := by have := List.length_pos_iff.2 h0; omega
 have EQ : Hid (gR bs = ⟨3, getN bs 1, getN bs 3, 0, 0, [], [], 0, 0⟩) := by show _ = _; simp [gR, hf]
 have hf2 : (bs.getD 0 0).toNat = 3 := by unfold fnOf at hf; omega
 simp only [bV, hf2, Nat.add_zero] at c0;have hlt := lt_of_cell c0;have KK : Hid (knownB 3 = true) := by rfl
 have Ia : Hid (inI [97, 99] 97 = true) := by rfl
 have Ic : Hid (inI [97, 99] 99 = true) := by rfl
 have C1 := hidden (fun w' (h : Row w' (.slice (some ⟨b, off, none⟩) bs.length cap) (bs.map bV)) => num_ref _ bs 1 w' (by omega) h);obtain ⟨i1, j1⟩ := getN_in bs 1;have C3 := hidden (fun w' (h : Row w' (.slice (some ⟨b, off, none⟩) bs.length cap) (bs.map bV)) => num_ref _ bs 3 w' (by omega) h);obtain ⟨i3, j3⟩ := getN_in bs 3;generalize getN bs 1 = N1 at *;generalize getN bs 3 = N3 at *;have W0 := hidden (fun o1 o2 => ((Below.refl w.heap.size w).alloc (Nat.le_refl _) o1).alloc (by simp) o2);clear hcl hcell hf hf2;go_enter Tryz.func36, Tryz.ntmps36;go_wp2_with (first | (go_at_call 66; refine (uses_ref _ _ KK.out).mono ?_; rintro e w4 ⟨rfl, rfl⟩; rw [show usesL 3 = [97, 99] from rfl]) | (go_at_call 32; refine (in_at [97, 99] _ _ (by decide) (by decide)).mono ?_; rintro e w4 ⟨rfl, rfl⟩; first | rw [Ia.out] | rw [Ic.out]))
 refine (C1.out _ (hv.below ?b)).mono ?_
 case b =>
  repeat' (first | refine Below.setCell ?_ (by simp) _ | refine below_drewn ?_ _)
  exact W0.out _ _
 rintro e w1 ⟨rfl, nq0, rfl⟩;go_wp2_with (first | (go_at_call 66; refine (uses_ref _ _ KK.out).mono ?_; rintro e w4 ⟨rfl, rfl⟩; rw [show usesL 3 = [97, 99] from rfl]) | (go_at_call 32; refine (in_at [97, 99] _ _ (by decide) (by decide)).mono ?_; rintro e w4 ⟨rfl, rfl⟩; first | rw [Ia.out] | rw [Ic.out]))
 refine (C3.out _ (hv.below ?b)).mono ?_
 case b =>
  repeat' (first | refine Below.setCell ?_ (by simp) _ | refine below_drewn ?_ _)
  exact W0.out _ _
 rintro e w1 ⟨rfl, nq1, rfl⟩;go_wp2_with (first | (go_at_call 66; refine (uses_ref _ _ KK.out).mono ?_; rintro e w4 ⟨rfl, rfl⟩; rw [show usesL 3 = [97, 99] from rfl]) | (go_at_call 32; refine (in_at [97, 99] _ _ (by decide) (by decide)).mono ?_; rintro e w4 ⟨rfl, rfl⟩; first | rw [Ia.out] | rw [Ic.out]))
 refine bodyPost_ret (v := _) (by simp [results, Tryz.results36, go_sem]; with_reducible rfl) rfl ?_;refine ⟨_, rfl, ?_, ?_, ?_⟩
 ·
  rw [EQ.out];exact ⟨_, _, rfl, Row.nil _, Row.nil _⟩
 ·
  repeat' (first | refine Below.setCell ?_ (by simp) _ | refine below_drewn ?_ _)
  exact W0.out _ _
 ·
  exact ⟨_, _, _, _, _, _, _, _, _, rfl, NewV.none _ _ _, NewV.none _ _ _⟩
set_option maxRecDepth 100000 in
set_option maxHeartbeats 1000000 in
theorem guess_ref_4 (v : Value) (bs : List UInt8) (w : World) (hv : Row w v (bs.map bV)) (h0 : bs ≠ []) (hbl : bs.length ≤ 140737488351232) (hf : fnOf bs = 4) :
  Calls Tryz.prog 36 #[v] w fun e w' => ∃ v', e = .returned v' ∧ IsRq w' v' (gR bs) ∧ Below w.heap.size w w' ∧ NewQ w.heap.size v' := by
 obtain ⟨a, cap, rfl, -⟩ := id hv;obtain ⟨hl, hc, hm, hcell⟩ := hv.at;simp only [List.length_map] at hl hc hv hcell ⊢;obtain ⟨b, off, rfl, hcl⟩ := hcell 0 0 (List.length_pos_iff.2 h0);have c0 := hcl 0 (List.length_pos_iff.2 h0);have hp : (0 : Int) < (bs.length : Int) := by have := List.length_pos_iff.2 h0; omega
 have EQ : Hid (gR bs = ⟨4, getN bs 1, getN bs 3, 0, 0, [], [], 0, 0⟩) := by show _ = _; simp [gR, hf]
 have hf2 : (bs.getD 0 0).toNat = 4 := by unfold fnOf at hf; omega
 simp only [bV, hf2, Nat.add_zero] at c0;have hlt := lt_of_cell c0;have KK : Hid (knownB 4 = true) := by rfl
 have Ia : Hid (inI [97, 99] 97 = true) := by rfl
 have Ic : Hid (inI [97, 99] 99 = true) := by rfl
 have C1 := hidden (fun w' (h : Row w' (.slice (some ⟨b, off, none⟩) bs.length cap) (bs.map bV)) => num_ref _ bs 1 w' (by omega) h);obtain ⟨i1, j1⟩ := getN_in bs 1;have C3 := hidden (fun w' (h : Row w' (.slice (some ⟨b, off, none⟩) bs.length cap) (bs.map bV)) => num_ref _ bs 3 w' (by omega) h);obtain ⟨i3, j3⟩ := getN_in bs 3;generalize getN bs 1 = N1 at *;generalize getN bs 3 = N3 at *;have W0 := hidden (fun o1 o2 => ((Below.refl w.heap.size w).alloc (Nat.le_refl _) o1).alloc (by simp) o2);clear hcl hcell hf hf2;go_enter Tryz.func36, Tryz.ntmps36;go_wp2_with (first | (go_at_call 66; refine (uses_ref _ _ KK.out).mono ?_; rintro e w4 ⟨rfl, rfl⟩; rw [show usesL 4 = [97, 99] from rfl]) | (go_at_call 32; refine (in_at [97, 99] _ _ (by decide) (by decide)).mono ?_; rintro e w4 ⟨rfl, rfl⟩; first | rw [Ia.out] | rw [Ic.out]))
 refine (C1.out _ (hv.below ?b)).mono ?_
 case b =>
  repeat' (first | refine Below.setCell ?_ (by simp) _ | refine below_drewn ?_ _)
  exact W0.out _ _
 rintro e w1 ⟨rfl, nq0, rfl⟩;go_wp2_with (first | (go_at_call 66; refine (uses_ref _ _ KK.out).mono ?_; rintro e w4 ⟨rfl, rfl⟩; rw [show usesL 4 = [97, 99] from rfl]) | (go_at_call 32; refine (in_at [97, 99] _ _ (by decide) (by decide)).mono ?_; rintro e w4 ⟨rfl, rfl⟩; first | rw [Ia.out] | rw [Ic.out]))
 refine (C3.out _ (hv.below ?b)).mono ?_
 case b =>
  repeat' (first | refine Below.setCell ?_ (by simp) _ | refine below_drewn ?_ _)
  exact W0.out _ _
 rintro e w1 ⟨rfl, nq1, rfl⟩;go_wp2_with (first | (go_at_call 66; refine (uses_ref _ _ KK.out).mono ?_; rintro e w4 ⟨rfl, rfl⟩; rw [show usesL 4 = [97, 99] from rfl]) | (go_at_call 32; refine (in_at [97, 99] _ _ (by decide) (by decide)).mono ?_; rintro e w4 ⟨rfl, rfl⟩; first | rw [Ia.out] | rw [Ic.out]))
 refine bodyPost_ret (v := _) (by simp [results, Tryz.results36, go_sem]; with_reducible rfl) rfl ?_;refine ⟨_, rfl, ?_, ?_, ?_⟩
 ·
  rw [EQ.out];exact ⟨_, _, rfl, Row.nil _, Row.nil _⟩
 ·
  repeat' (first | refine Below.setCell ?_ (by simp) _ | refine below_drewn ?_ _)
  exact W0.out _ _
 ·
  exact ⟨_, _, _, _, _, _, _, _, _, rfl, NewV.none _ _ _, NewV.none _ _ _⟩
set_option maxRecDepth 100000 in
set_option maxHeartbeats 1000000 in
theorem guess_ref_17 (v : Value) (bs : List UInt8) (w : World) (hv : Row w v (bs.map bV)) (h0 : bs ≠ []) (hbl : bs.length ≤ 140737488351232) (hf : fnOf bs = 17) :
  Calls Tryz.prog 36 #[v] w fun e w' => ∃ v', e = .returned v' ∧ IsRq w' v' (gR bs) ∧ Below w.heap.size w w' ∧ NewQ w.heap.size v' := by
 obtain ⟨a, cap, rfl, -⟩ := id hv;obtain ⟨hl, hc, hm, hcell⟩ := hv.at;simp only [List.length_map] at hl hc hv hcell ⊢;obtain ⟨b, off, rfl, hcl⟩ := hcell 0 0 (List.length_pos_iff.2 h0);have c0 := hcl 0 (List.length_pos_iff.2 h0);have hp : (0 : Int) < (bs.length : Int) := by have := List.length_pos_iff.2 h0; omega
 have EQ : Hid (gR bs = ⟨17, 0, 0, 0, 0, [], [], 0, 0⟩) := by show _ = _; simp [gR, hf]
 have hf2 : (bs.getD 0 0).toNat = 17 := by unfold fnOf at hf; omega
 simp only [bV, hf2, Nat.add_zero] at c0;have hlt := lt_of_cell c0;have KK : Hid (knownB 17 = true) := by rfl
 have Ia : Hid (inI ([] : List UInt8) 97 = false) := by rfl
 have Ic : Hid (inI ([] : List UInt8) 99 = false) := by rfl
 have W0 := hidden (fun o1 o2 => ((Below.refl w.heap.size w).alloc (Nat.le_refl _) o1).alloc (by simp) o2);clear hcl hcell hf hf2;go_enter Tryz.func36, Tryz.ntmps36;go_wp2_with (first | (go_at_call 66; refine (uses_ref _ _ KK.out).mono ?_; rintro e w4 ⟨rfl, rfl⟩; rw [show usesL 17 = ([] : List UInt8) from rfl]) | (go_at_call 32; refine (in_at ([] : List UInt8) _ _ (by decide) (by decide)).mono ?_; rintro e w4 ⟨rfl, rfl⟩; first | rw [Ia.out] | rw [Ic.out]))
 refine bodyPost_ret (v := _) (by simp [results, Tryz.results36, go_sem]; with_reducible rfl) rfl ?_;refine ⟨_, rfl, ?_, ?_, ?_⟩
 ·
  rw [EQ.out];exact ⟨_, _, rfl, Row.nil _, Row.nil _⟩
 ·
  repeat' (first | refine Below.setCell ?_ (by simp) _ | refine below_drewn ?_ _)
  exact W0.out _ _
 ·
  exact ⟨_, _, _, _, _, _, _, _, _, rfl, NewV.none _ _ _, NewV.none _ _ _⟩
set_option maxRecDepth 100000 in
set_option maxHeartbeats 1000000 in
theorem guess_ref_22 (v : Value) (bs : List UInt8) (w : World) (hv : Row w v (bs.map bV)) (h0 : bs ≠ []) (hbl : bs.length ≤ 140737488351232) (hf : fnOf bs = 22) :
  Calls Tryz.prog 36 #[v] w fun e w' => ∃ v', e = .returned v' ∧ IsRq w' v' (gR bs) ∧ Below w.heap.size w w' ∧ NewQ w.heap.size v' := by
 obtain ⟨a, cap, rfl, -⟩ := id hv;obtain ⟨hl, hc, hm, hcell⟩ := hv.at;simp only [List.length_map] at hl hc hv hcell ⊢;obtain ⟨b, off, rfl, hcl⟩ := hcell 0 0 (List.length_pos_iff.2 h0);have c0 := hcl 0 (List.length_pos_iff.2 h0);have hp : (0 : Int) < (bs.length : Int) := by have := List.length_pos_iff.2 h0; omega
 have EQ : Hid (gR bs = ⟨22, getN bs 1, 0, 0, 0, [], [], wOf (getN bs 3), wOf (getN bs 5)⟩) := by show _ = _; simp [gR, hf]
 have hf2 : (bs.getD 0 0).toNat = 22 := by unfold fnOf at hf; omega
 simp only [bV, hf2, Nat.add_zero] at c0;have hlt := lt_of_cell c0;have KK : Hid (knownB 22 = true) := by rfl
 have Ia : Hid (inI [97, 109] 97 = true) := by rfl
 have Ic : Hid (inI [97, 109] 99 = false) := by rfl
 have C1 := hidden (fun w' (h : Row w' (.slice (some ⟨b, off, none⟩) bs.length cap) (bs.map bV)) => num_ref _ bs 1 w' (by omega) h);obtain ⟨i1, j1⟩ := getN_in bs 1;have C3 := hidden (fun w' (h : Row w' (.slice (some ⟨b, off, none⟩) bs.length cap) (bs.map bV)) => num_ref _ bs 3 w' (by omega) h);obtain ⟨i3, j3⟩ := getN_in bs 3;have C5 := hidden (fun w' (h : Row w' (.slice (some ⟨b, off, none⟩) bs.length cap) (bs.map bV)) => num_ref _ bs 5 w' (by omega) h);obtain ⟨i5, j5⟩ := getN_in bs 5;generalize getN bs 1 = N1 at *;generalize getN bs 3 = N3 at *;generalize getN bs 5 = N5 at *;have W0 := hidden (fun o1 o2 => ((Below.refl w.heap.size w).alloc (Nat.le_refl _) o1).alloc (by simp) o2);clear hcl hcell hf hf2;go_enter Tryz.func36, Tryz.ntmps36;go_wp2_with (first | (go_at_call 66; refine (uses_ref _ _ KK.out).mono ?_; rintro e w4 ⟨rfl, rfl⟩; rw [show usesL 22 = [97, 109] from rfl]) | (go_at_call 32; refine (in_at [97, 109] _ _ (by decide) (by decide)).mono ?_; rintro e w4 ⟨rfl, rfl⟩; first | rw [Ia.out] | rw [Ic.out]))
 refine (C1.out _ (hv.below ?b)).mono ?_
 case b =>
  repeat' (first | refine Below.setCell ?_ (by simp) _ | refine below_drewn ?_ _)
  exact W0.out _ _
 rintro e w1 ⟨rfl, nq0, rfl⟩;go_wp2_with (first | (go_at_call 66; refine (uses_ref _ _ KK.out).mono ?_; rintro e w4 ⟨rfl, rfl⟩; rw [show usesL 22 = [97, 109] from rfl]) | (go_at_call 32; refine (in_at [97, 109] _ _ (by decide) (by decide)).mono ?_; rintro e w4 ⟨rfl, rfl⟩; first | rw [Ia.out] | rw [Ic.out]))
 refine (C3.out _ (hv.below ?b)).mono ?_
 case b =>
  repeat' (first | refine Below.setCell ?_ (by simp) _ | refine below_drewn ?_ _)
  exact W0.out _ _
 rintro e w1 ⟨rfl, nq1, rfl⟩;go_wp2_with (first | (go_at_call 66; refine (uses_ref _ _ KK.out).mono ?_; rintro e w4 ⟨rfl, rfl⟩; rw [show usesL 22 = [97, 109] from rfl]) | (go_at_call 32; refine (in_at [97, 109] _ _ (by decide) (by decide)).mono ?_; rintro e w4 ⟨rfl, rfl⟩; first | rw [Ia.out] | rw [Ic.out]))
 refine (C5.out _ (hv.below ?b)).mono ?_
 case b =>
  repeat' (first | refine Below.setCell ?_ (by simp) _ | refine below_drewn ?_ _)
  exact W0.out _ _
 rintro e w1 ⟨rfl, nq2, rfl⟩;go_wp2_with (first | (go_at_call 66; refine (uses_ref _ _ KK.out).mono ?_; rintro e w4 ⟨rfl, rfl⟩; rw [show usesL 22 = [97, 109] from rfl]) | (go_at_call 32; refine (in_at [97, 109] _ _ (by decide) (by decide)).mono ?_; rintro e w4 ⟨rfl, rfl⟩; first | rw [Ia.out] | rw [Ic.out]))
 refine bodyPost_ret (v := _) (by simp [results, Tryz.results36, go_sem]; with_reducible rfl) rfl ?_;refine ⟨_, rfl, ?_, ?_, ?_⟩
 ·
  rw [EQ.out];refine ⟨.slice none 0 0, .slice none 0 0, ?_, Row.nil _, Row.nil _⟩;simp [wOf_wrap];omega
 ·
  repeat' (first | refine Below.setCell ?_ (by simp) _ | refine below_drewn ?_ _)
  exact W0.out _ _
 ·
  exact ⟨_, _, _, _, _, _, _, _, _, rfl, NewV.none _ _ _, NewV.none _ _ _⟩
set_option maxRecDepth 100000 in
set_option maxHeartbeats 1000000 in
theorem guess_ref_5 (v : Value) (bs : List UInt8) (w : World) (hv : Row w v (bs.map bV)) (h0 : bs ≠ []) (hbl : bs.length ≤ 140737488351232) (hf : fnOf bs = 5) :
  Calls Tryz.prog 36 #[v] w fun e w' => ∃ v', e = .returned v' ∧ IsRq w' v' (gR bs) ∧ Below w.heap.size w w' ∧ NewQ w.heap.size v' := by
 obtain ⟨a, cap, rfl, -⟩ := id hv;obtain ⟨hl, hc, hm, hcell⟩ := hv.at;simp only [List.length_map] at hl hc hv hcell ⊢;obtain ⟨b, off, rfl, hcl⟩ := hcell 0 0 (List.length_pos_iff.2 h0);have c0 := hcl 0 (List.length_pos_iff.2 h0);have hp : (0 : Int) < (bs.length : Int) := by have := List.length_pos_iff.2 h0; omega
 have EQ : Hid (gR bs = ⟨5, getN bs 1, 0, 0, 0, [getN bs 3 != 0], [], 0, 0⟩) := by show _ = _; simp [gR, hf]
 have hf2 : (bs.getD 0 0).toNat = 5 := by unfold fnOf at hf; omega
 simp only [bV, hf2, Nat.add_zero] at c0;have hlt := lt_of_cell c0;have KK : Hid (knownB 5 = true) := by rfl
 have Ia : Hid (inI [97, 98] 97 = true) := by rfl
 have Ic : Hid (inI [97, 98] 99 = false) := by rfl
 have C1 := hidden (fun w' (h : Row w' (.slice (some ⟨b, off, none⟩) bs.length cap) (bs.map bV)) => num_ref _ bs 1 w' (by omega) h);obtain ⟨i1, j1⟩ := getN_in bs 1;have C3 := hidden (fun w' (h : Row w' (.slice (some ⟨b, off, none⟩) bs.length cap) (bs.map bV)) => num_ref _ bs 3 w' (by omega) h);obtain ⟨i3, j3⟩ := getN_in bs 3;generalize getN bs 1 = N1 at *;generalize getN bs 3 = N3 at *;have W0 := hidden (fun o1 o2 => ((Below.refl w.heap.size w).alloc (Nat.le_refl _) o1).alloc (by simp) o2);clear hcl hcell hf hf2;go_enter Tryz.func36, Tryz.ntmps36;go_wp2_with (first | (go_at_call 66; refine (uses_ref _ _ KK.out).mono ?_; rintro e w4 ⟨rfl, rfl⟩; rw [show usesL 5 = [97, 98] from rfl]) | (go_at_call 32; refine (in_at [97, 98] _ _ (by decide) (by decide)).mono ?_; rintro e w4 ⟨rfl, rfl⟩; first | rw [Ia.out] | rw [Ic.out]))
 refine (C1.out _ (hv.below ?b)).mono ?_
 case b =>
  repeat' (first | refine Below.setCell ?_ (by simp) _ | refine below_drewn ?_ _)
  exact W0.out _ _
 rintro e w1 ⟨rfl, nq0, rfl⟩;go_wp2_with (first | (go_at_call 66; refine (uses_ref _ _ KK.out).mono ?_; rintro e w4 ⟨rfl, rfl⟩; rw [show usesL 5 = [97, 98] from rfl]) | (go_at_call 32; refine (in_at [97, 98] _ _ (by decide) (by decide)).mono ?_; rintro e w4 ⟨rfl, rfl⟩; first | rw [Ia.out] | rw [Ic.out]))
 refine (C3.out _ (hv.below ?b)).mono ?_
 case b =>
  repeat' (first | refine Below.setCell ?_ (by simp) _ | refine below_drewn ?_ _)
  exact W0.out _ _
 rintro e w1 ⟨rfl, nq1, rfl⟩;go_wp2_with (first | (go_at_call 66; refine (uses_ref _ _ KK.out).mono ?_; rintro e w4 ⟨rfl, rfl⟩; rw [show usesL 5 = [97, 98] from rfl]) | (go_at_call 32; refine (in_at [97, 98] _ _ (by decide) (by decide)).mono ?_; rintro e w4 ⟨rfl, rfl⟩; first | rw [Ia.out] | rw [Ic.out]))
 refine bodyPost_ret (v := _) (by simp [results, Tryz.results36, go_sem]; with_reducible rfl) rfl ?_;refine ⟨_, rfl, ?_, ?_, ?_⟩
 ·
  rw [EQ.out];refine ⟨_, _, rfl, ?_, Row.nil _⟩;exact row_one_b _ _ _ (by simp)
 ·
  refine Below.alloc ?_ (by simp; omega) _
  repeat' (first | refine Below.setCell ?_ (by simp) _ | refine below_drewn ?_ _)
  exact W0.out _ _
 ·
  exact ⟨_, _, _, _, _, _, _, _, _, rfl, NewV.some _ _ _ _ _ (by omega), NewV.none _ _ _⟩
set_option maxRecDepth 100000 in
set_option maxHeartbeats 1000000 in
theorem guess_ref_6 (v : Value) (bs : List UInt8) (w : World) (hv : Row w v (bs.map bV)) (h0 : bs ≠ []) (hbl : bs.length ≤ 140737488351232) (hf : fnOf bs = 6) :
  Calls Tryz.prog 36 #[v] w fun e w' => ∃ v', e = .returned v' ∧ IsRq w' v' (gR bs) ∧ Below w.heap.size w w' ∧ NewQ w.heap.size v' := by
 obtain ⟨a, cap, rfl, -⟩ := id hv;obtain ⟨hl, hc, hm, hcell⟩ := hv.at;simp only [List.length_map] at hl hc hv hcell ⊢;obtain ⟨b, off, rfl, hcl⟩ := hcell 0 0 (List.length_pos_iff.2 h0);have c0 := hcl 0 (List.length_pos_iff.2 h0);have hp : (0 : Int) < (bs.length : Int) := by have := List.length_pos_iff.2 h0; omega
 have EQ : Hid (gR bs = ⟨6, getN bs 1, 0, 0, 0, [], wordsAt bs 3, 0, 0⟩) := by show _ = _; simp [gR, hf]
 have hf2 : (bs.getD 0 0).toNat = 6 := by unfold fnOf at hf; omega
 simp only [bV, hf2, Nat.add_zero] at c0;have hlt := lt_of_cell c0;have KK : Hid (knownB 6 = true) := by rfl
 have Ia : Hid (inI [97, 118] 97 = true) := by rfl
 have Ic : Hid (inI [97, 118] 99 = false) := by rfl
 have C1 := hidden (fun w' (h : Row w' (.slice (some ⟨b, off, none⟩) bs.length cap) (bs.map bV)) => num_ref _ bs 1 w' (by omega) h);obtain ⟨i1, j1⟩ := getN_in bs 1;generalize getN bs 1 = N1 at *;have W0 := hidden (fun o1 o2 => ((Below.refl w.heap.size w).alloc (Nat.le_refl _) o1).alloc (by simp) o2);clear hcl hcell hf hf2;go_enter Tryz.func36, Tryz.ntmps36;go_wp2_with (first | (go_at_call 66; refine (uses_ref _ _ KK.out).mono ?_; rintro e w4 ⟨rfl, rfl⟩; rw [show usesL 6 = [97, 118] from rfl]) | (go_at_call 32; refine (in_at [97, 118] _ _ (by decide) (by decide)).mono ?_; rintro e w4 ⟨rfl, rfl⟩; first | rw [Ia.out] | rw [Ic.out]))
 refine (C1.out _ (hv.below ?b)).mono ?_
 case b =>
  repeat' (first | refine Below.setCell ?_ (by simp) _ | refine below_drewn ?_ _)
  exact W0.out _ _
 rintro e w1 ⟨rfl, nq0, rfl⟩;go_wp2_with (first | (go_at_call 66; refine (uses_ref _ _ KK.out).mono ?_; rintro e w4 ⟨rfl, rfl⟩; rw [show usesL 6 = [97, 118] from rfl]) | (go_at_call 32; refine (in_at [97, 118] _ _ (by decide) (by decide)).mono ?_; rintro e w4 ⟨rfl, rfl⟩; first | rw [Ia.out] | rw [Ic.out]))
 refine (words_ref _ bs 3 3 _ rfl (by decide) (hv.below ?b) hbl).mono ?_
 case b =>
  repeat' (first | refine Below.setCell ?_ (by simp) _ | refine below_drewn ?_ _)
  exact W0.out _ _
 rintro e w3 ⟨v3, rfl, hr3, B3, nv3⟩;have X1 := (((Blk.new_at (w.alloc (.cells #[.int .i64 0, .int .i64 0, .int .i64 0, .int .i64 0, .int .i64 0, .slice none 0 0, .slice none 0 0, .int .u16 0, .int .u16 0] 33)) 33 [.int .i64 6, .int .i64 0, .int .i64 0, .int .i64 0, .int .i64 0, .slice none 0 0, .slice none 0 0, .int .u16 0, .int .u16 0] (w.heap.size + 1) (by simp)).drewN nq0).set 1 (.int .i64 N1)).below B3 (by simp);have X0 := ((((Blk.new w 33 [.int .i64 0, .int .i64 0, .int .i64 0, .int .i64 0, .int .i64 0, .slice none 0 0, .slice none 0 0, .int .u16 0, .int .u16 0]).alloc (.cells #[.int .i64 6, .int .i64 0, .int .i64 0, .int .i64 0, .int .i64 0, .slice none 0 0, .slice none 0 0, .int .u16 0, .int .u16 0] 33)).drewN nq0).set_ne (g := w.heap.size + 1) (by omega) 1 (.int .i64 N1)).below B3 (by simp; omega);have B4 := fun h => below_then (w0 := w) h B3;replace B3 := B4 (by
  repeat' (first | refine Below.setCell ?_ (by simp) _ | refine below_drewn ?_ _)
  exact W0.out _ _)
 clear B4;simp at nv3;have m3 := nv3.le (base' := w.heap.size) (by omega);obtain ⟨a3, cap3, rfl, -⟩ := id hr3;simp only [List.length_map] at hr3 nv3 m3 ⊢;have c10 := X1.cell 0;have c00 := X0.cell 0;have c11 := X1.cell 1;have c01 := X0.cell 1;have c12 := X1.cell 2;have c02 := X0.cell 2;have c13 := X1.cell 3;have c03 := X0.cell 3;have c14 := X1.cell 4;have c04 := X0.cell 4;have c15 := X1.cell 5;have c05 := X0.cell 5;have c16 := X1.cell 6;have c06 := X0.cell 6;have c17 := X1.cell 7;have c07 := X0.cell 7;have c18 := X1.cell 8;have c08 := X0.cell 8;simp at c10 c00 c11 c01 c12 c02 c13 c03 c14 c04 c15 c05 c16 c06 c17 c07 c18 c08;have f1 := X1.frozen;have f0 := X0.frozen;have g1 := X1.lt;have g0 := X0.lt;clear X1 X0;go_wp2;refine bodyPost_ret (v := _) (by simp [results, Tryz.results36, go_sem, c00, c01, c02, c03, c04, c05, c06, c07, c08]; with_reducible rfl) rfl ?_;refine ⟨_, rfl, ?_, ?_, ?_⟩
 ·
  rw [EQ.out];refine ⟨_, _, rfl, Row.nil _, ?_⟩
  repeat' (refine Row.setCell_new ?_ nv3 (by omega))
  exact hr3
 ·
  repeat' (refine Below.setCell ?_ (by simp) _)
  exact B3
 ·
  exact ⟨_, _, _, _, _, _, _, _, _, rfl, NewV.none _ _ _, m3⟩
set_option maxRecDepth 100000 in
set_option maxHeartbeats 1000000 in
theorem guess_ref_8 (v : Value) (bs : List UInt8) (w : World) (hv : Row w v (bs.map bV)) (h0 : bs ≠ []) (hbl : bs.length ≤ 140737488351232) (hf : fnOf bs = 8) :
  Calls Tryz.prog 36 #[v] w fun e w' => ∃ v', e = .returned v' ∧ IsRq w' v' (gR bs) ∧ Below w.heap.size w w' ∧ NewQ w.heap.size v' := by
 obtain ⟨a, cap, rfl, -⟩ := id hv;obtain ⟨hl, hc, hm, hcell⟩ := hv.at;simp only [List.length_map] at hl hc hv hcell ⊢;obtain ⟨b, off, rfl, hcl⟩ := hcell 0 0 (List.length_pos_iff.2 h0);have c0 := hcl 0 (List.length_pos_iff.2 h0);have hp : (0 : Int) < (bs.length : Int) := by have := List.length_pos_iff.2 h0; omega
 have EQ : Hid (gR bs = ⟨8, 0, 0, 0, getN bs 1, [], wordsAt bs 3, 0, 0⟩) := by show _ = _; simp [gR, hf]
 have hf2 : (bs.getD 0 0).toNat = 8 := by unfold fnOf at hf; omega
 simp only [bV, hf2, Nat.add_zero] at c0;have hlt := lt_of_cell c0;have KK : Hid (knownB 8 = true) := by rfl
 have Ia : Hid (inI [115, 118] 97 = false) := by rfl
 have Ic : Hid (inI [115, 118] 99 = false) := by rfl
 have C1 := hidden (fun w' (h : Row w' (.slice (some ⟨b, off, none⟩) bs.length cap) (bs.map bV)) => num_ref _ bs 1 w' (by omega) h);obtain ⟨i1, j1⟩ := getN_in bs 1;generalize getN bs 1 = N1 at *;have W0 := hidden (fun o1 o2 => ((Below.refl w.heap.size w).alloc (Nat.le_refl _) o1).alloc (by simp) o2);clear hcl hcell hf hf2;go_enter Tryz.func36, Tryz.ntmps36;go_wp2_with (first | (go_at_call 66; refine (uses_ref _ _ KK.out).mono ?_; rintro e w4 ⟨rfl, rfl⟩; rw [show usesL 8 = [115, 118] from rfl]) | (go_at_call 32; refine (in_at [115, 118] _ _ (by decide) (by decide)).mono ?_; rintro e w4 ⟨rfl, rfl⟩; first | rw [Ia.out] | rw [Ic.out]))
 refine (C1.out _ (hv.below ?b)).mono ?_
 case b =>
  repeat' (first | refine Below.setCell ?_ (by simp) _ | refine below_drewn ?_ _)
  exact W0.out _ _
 rintro e w1 ⟨rfl, nq0, rfl⟩;go_wp2_with (first | (go_at_call 66; refine (uses_ref _ _ KK.out).mono ?_; rintro e w4 ⟨rfl, rfl⟩; rw [show usesL 8 = [115, 118] from rfl]) | (go_at_call 32; refine (in_at [115, 118] _ _ (by decide) (by decide)).mono ?_; rintro e w4 ⟨rfl, rfl⟩; first | rw [Ia.out] | rw [Ic.out]))
 refine (words_ref _ bs 3 3 _ rfl (by decide) (hv.below ?b) hbl).mono ?_
 case b =>
  repeat' (first | refine Below.setCell ?_ (by simp) _ | refine below_drewn ?_ _)
  exact W0.out _ _
 rintro e w3 ⟨v3, rfl, hr3, B3, nv3⟩;have X1 := ((Blk.new_at (w.alloc (.cells #[.int .i64 0, .int .i64 0, .int .i64 0, .int .i64 0, .int .i64 0, .slice none 0 0, .slice none 0 0, .int .u16 0, .int .u16 0] 33)) 33 [.int .i64 8, .int .i64 0, .int .i64 0, .int .i64 0, .int .i64 0, .slice none 0 0, .slice none 0 0, .int .u16 0, .int .u16 0] (w.heap.size + 1) (by simp)).drewN nq0).below B3 (by simp);have X0 := (((Blk.new w 33 [.int .i64 0, .int .i64 0, .int .i64 0, .int .i64 0, .int .i64 0, .slice none 0 0, .slice none 0 0, .int .u16 0, .int .u16 0]).alloc (.cells #[.int .i64 8, .int .i64 0, .int .i64 0, .int .i64 0, .int .i64 0, .slice none 0 0, .slice none 0 0, .int .u16 0, .int .u16 0] 33)).drewN nq0).below B3 (by simp; omega);have B4 := fun h => below_then (w0 := w) h B3;replace B3 := B4 (by
  repeat' (first | refine Below.setCell ?_ (by simp) _ | refine below_drewn ?_ _)
  exact W0.out _ _)
 clear B4;simp at nv3;have m3 := nv3.le (base' := w.heap.size) (by omega);obtain ⟨a3, cap3, rfl, -⟩ := id hr3;simp only [List.length_map] at hr3 nv3 m3 ⊢;have c10 := X1.cell 0;have c00 := X0.cell 0;have c11 := X1.cell 1;have c01 := X0.cell 1;have c12 := X1.cell 2;have c02 := X0.cell 2;have c13 := X1.cell 3;have c03 := X0.cell 3;have c14 := X1.cell 4;have c04 := X0.cell 4;have c15 := X1.cell 5;have c05 := X0.cell 5;have c16 := X1.cell 6;have c06 := X0.cell 6;have c17 := X1.cell 7;have c07 := X0.cell 7;have c18 := X1.cell 8;have c08 := X0.cell 8;simp at c10 c00 c11 c01 c12 c02 c13 c03 c14 c04 c15 c05 c16 c06 c17 c07 c18 c08;have f1 := X1.frozen;have f0 := X0.frozen;have g1 := X1.lt;have g0 := X0.lt;clear X1 X0;go_wp2;refine bodyPost_ret (v := _) (by simp [results, Tryz.results36, go_sem, c00, c01, c02, c03, c04, c05, c06, c07, c08]; with_reducible rfl) rfl ?_;refine ⟨_, rfl, ?_, ?_, ?_⟩
 ·
  rw [EQ.out];refine ⟨_, _, rfl, Row.nil _, ?_⟩
  repeat' (refine Row.setCell_new ?_ nv3 (by omega))
  exact hr3
 ·
  repeat' (refine Below.setCell ?_ (by simp) _)
  exact B3
 ·
  exact ⟨_, _, _, _, _, _, _, _, _, rfl, NewV.none _ _ _, m3⟩
set_option maxRecDepth 100000 in
set_option maxHeartbeats 1000000 in
theorem guess_ref_16 (v : Value) (bs : List UInt8) (w : World) (hv : Row w v (bs.map bV)) (h0 : bs ≠ []) (hbl : bs.length ≤ 140737488351232) (hf : fnOf bs = 16) :
  Calls Tryz.prog 36 #[v] w fun e w' => ∃ v', e = .returned v' ∧ IsRq w' v' (gR bs) ∧ Below w.heap.size w w' ∧ NewQ w.heap.size v' := by
 obtain ⟨a, cap, rfl, -⟩ := id hv;obtain ⟨hl, hc, hm, hcell⟩ := hv.at;simp only [List.length_map] at hl hc hv hcell ⊢;obtain ⟨b, off, rfl, hcl⟩ := hcell 0 0 (List.length_pos_iff.2 h0);have c0 := hcl 0 (List.length_pos_iff.2 h0);have hp : (0 : Int) < (bs.length : Int) := by have := List.length_pos_iff.2 h0; omega
 have EQ : Hid (gR bs = ⟨16, getN bs 1, getN bs 3, 0, 0, [], wordsAt bs 6, 0, 0⟩) := by show _ = _; simp [gR, hf]
 have hf2 : (bs.getD 0 0).toNat = 16 := by unfold fnOf at hf; omega
 simp only [bV, hf2, Nat.add_zero] at c0;have hlt := lt_of_cell c0;have KK : Hid (knownB 16 = true) := by rfl
 have Ia : Hid (inI [97, 99, 118] 97 = true) := by rfl
 have Ic : Hid (inI [97, 99, 118] 99 = true) := by rfl
 have C1 := hidden (fun w' (h : Row w' (.slice (some ⟨b, off, none⟩) bs.length cap) (bs.map bV)) => num_ref _ bs 1 w' (by omega) h);obtain ⟨i1, j1⟩ := getN_in bs 1;have C3 := hidden (fun w' (h : Row w' (.slice (some ⟨b, off, none⟩) bs.length cap) (bs.map bV)) => num_ref _ bs 3 w' (by omega) h);obtain ⟨i3, j3⟩ := getN_in bs 3;generalize getN bs 1 = N1 at *;generalize getN bs 3 = N3 at *;have W0 := hidden (fun o1 o2 => ((Below.refl w.heap.size w).alloc (Nat.le_refl _) o1).alloc (by simp) o2);clear hcl hcell hf hf2;go_enter Tryz.func36, Tryz.ntmps36;go_wp2_with (first | (go_at_call 66; refine (uses_ref _ _ KK.out).mono ?_; rintro e w4 ⟨rfl, rfl⟩; rw [show usesL 16 = [97, 99, 118] from rfl]) | (go_at_call 32; refine (in_at [97, 99, 118] _ _ (by decide) (by decide)).mono ?_; rintro e w4 ⟨rfl, rfl⟩; first | rw [Ia.out] | rw [Ic.out]))
 refine (C1.out _ (hv.below ?b)).mono ?_
 case b =>
  repeat' (first | refine Below.setCell ?_ (by simp) _ | refine below_drewn ?_ _)
  exact W0.out _ _
 rintro e w1 ⟨rfl, nq0, rfl⟩;go_wp2_with (first | (go_at_call 66; refine (uses_ref _ _ KK.out).mono ?_; rintro e w4 ⟨rfl, rfl⟩; rw [show usesL 16 = [97, 99, 118] from rfl]) | (go_at_call 32; refine (in_at [97, 99, 118] _ _ (by decide) (by decide)).mono ?_; rintro e w4 ⟨rfl, rfl⟩; first | rw [Ia.out] | rw [Ic.out]))
 refine (C3.out _ (hv.below ?b)).mono ?_
 case b =>
  repeat' (first | refine Below.setCell ?_ (by simp) _ | refine below_drewn ?_ _)
  exact W0.out _ _
 rintro e w1 ⟨rfl, nq1, rfl⟩;go_wp2_with (first | (go_at_call 66; refine (uses_ref _ _ KK.out).mono ?_; rintro e w4 ⟨rfl, rfl⟩; rw [show usesL 16 = [97, 99, 118] from rfl]) | (go_at_call 32; refine (in_at [97, 99, 118] _ _ (by decide) (by decide)).mono ?_; rintro e w4 ⟨rfl, rfl⟩; first | rw [Ia.out] | rw [Ic.out]))
 refine (words_ref _ bs 6 6 _ rfl (by decide) (hv.below ?b) hbl).mono ?_
 case b =>
  repeat' (first | refine Below.setCell ?_ (by simp) _ | refine below_drewn ?_ _)
  exact W0.out _ _
 rintro e w3 ⟨v3, rfl, hr3, B3, nv3⟩;have X1 := (((((Blk.new_at (w.alloc (.cells #[.int .i64 0, .int .i64 0, .int .i64 0, .int .i64 0, .int .i64 0, .slice none 0 0, .slice none 0 0, .int .u16 0, .int .u16 0] 33)) 33 [.int .i64 16, .int .i64 0, .int .i64 0, .int .i64 0, .int .i64 0, .slice none 0 0, .slice none 0 0, .int .u16 0, .int .u16 0] (w.heap.size + 1) (by simp)).drewN nq0).set 1 (.int .i64 N1)).drewN nq1).set 2 (.int .i64 N3)).below B3 (by simp);have X0 := ((((((Blk.new w 33 [.int .i64 0, .int .i64 0, .int .i64 0, .int .i64 0, .int .i64 0, .slice none 0 0, .slice none 0 0, .int .u16 0, .int .u16 0]).alloc (.cells #[.int .i64 16, .int .i64 0, .int .i64 0, .int .i64 0, .int .i64 0, .slice none 0 0, .slice none 0 0, .int .u16 0, .int .u16 0] 33)).drewN nq0).set_ne (g := w.heap.size + 1) (by omega) 1 (.int .i64 N1)).drewN nq1).set_ne (g := w.heap.size + 1) (by omega) 2 (.int .i64 N3)).below B3 (by simp; omega);have B4 := fun h => below_then (w0 := w) h B3;replace B3 := B4 (by
  repeat' (first | refine Below.setCell ?_ (by simp) _ | refine below_drewn ?_ _)
  exact W0.out _ _)
 clear B4;simp at nv3;have m3 := nv3.le (base' := w.heap.size) (by omega);obtain ⟨a3, cap3, rfl, -⟩ := id hr3;simp only [List.length_map] at hr3 nv3 m3 ⊢;have c10 := X1.cell 0;have c00 := X0.cell 0;have c11 := X1.cell 1;have c01 := X0.cell 1;have c12 := X1.cell 2;have c02 := X0.cell 2;have c13 := X1.cell 3;have c03 := X0.cell 3;have c14 := X1.cell 4;have c04 := X0.cell 4;have c15 := X1.cell 5;have c05 := X0.cell 5;have c16 := X1.cell 6;have c06 := X0.cell 6;have c17 := X1.cell 7;have c07 := X0.cell 7;have c18 := X1.cell 8;have c08 := X0.cell 8;simp at c10 c00 c11 c01 c12 c02 c13 c03 c14 c04 c15 c05 c16 c06 c17 c07 c18 c08;have f1 := X1.frozen;have f0 := X0.frozen;have g1 := X1.lt;have g0 := X0.lt;clear X1 X0;go_wp2;refine bodyPost_ret (v := _) (by simp [results, Tryz.results36, go_sem, c00, c01, c02, c03, c04, c05, c06, c07, c08]; with_reducible rfl) rfl ?_;refine ⟨_, rfl, ?_, ?_, ?_⟩
 ·
  rw [EQ.out];refine ⟨_, _, rfl, Row.nil _, ?_⟩
  repeat' (refine Row.setCell_new ?_ nv3 (by omega))
  exact hr3
 ·
  repeat' (refine Below.setCell ?_ (by simp) _)
  exact B3
 ·
  exact ⟨_, _, _, _, _, _, _, _, _, rfl, NewV.none _ _ _, m3⟩
set_option maxRecDepth 100000 in
set_option maxHeartbeats 1000000 in
theorem guess_ref_23 (v : Value) (bs : List UInt8) (w : World) (hv : Row w v (bs.map bV)) (h0 : bs ≠ []) (hbl : bs.length ≤ 140737488351232) (hf : fnOf bs = 23) :
  Calls Tryz.prog 36 #[v] w fun e w' => ∃ v', e = .returned v' ∧ IsRq w' v' (gR bs) ∧ Below w.heap.size w w' ∧ NewQ w.heap.size v' := by
 obtain ⟨a, cap, rfl, -⟩ := id hv;obtain ⟨hl, hc, hm, hcell⟩ := hv.at;simp only [List.length_map] at hl hc hv hcell ⊢;obtain ⟨b, off, rfl, hcl⟩ := hcell 0 0 (List.length_pos_iff.2 h0);have c0 := hcl 0 (List.length_pos_iff.2 h0);have hp : (0 : Int) < (bs.length : Int) := by have := List.length_pos_iff.2 h0; omega
 have EQ : Hid (gR bs = ⟨23, getN bs 1, getN bs 3, getN bs 5, 0, [], wordsAt bs 10, 0, 0⟩) := by show _ = _; simp [gR, hf]
 have hf2 : (bs.getD 0 0).toNat = 23 := by unfold fnOf at hf; omega
 simp only [bV, hf2, Nat.add_zero] at c0;have hlt := lt_of_cell c0;have KK : Hid (knownB 23 = true) := by rfl
 have Ia : Hid (inI [97, 99, 119, 118] 97 = true) := by rfl
 have Ic : Hid (inI [97, 99, 119, 118] 99 = true) := by rfl
 have C1 := hidden (fun w' (h : Row w' (.slice (some ⟨b, off, none⟩) bs.length cap) (bs.map bV)) => num_ref _ bs 1 w' (by omega) h);obtain ⟨i1, j1⟩ := getN_in bs 1;have C3 := hidden (fun w' (h : Row w' (.slice (some ⟨b, off, none⟩) bs.length cap) (bs.map bV)) => num_ref _ bs 3 w' (by omega) h);obtain ⟨i3, j3⟩ := getN_in bs 3;have C5 := hidden (fun w' (h : Row w' (.slice (some ⟨b, off, none⟩) bs.length cap) (bs.map bV)) => num_ref _ bs 5 w' (by omega) h);obtain ⟨i5, j5⟩ := getN_in bs 5;generalize getN bs 1 = N1 at *;generalize getN bs 3 = N3 at *;generalize getN bs 5 = N5 at *;have W0 := hidden (fun o1 o2 => ((Below.refl w.heap.size w).alloc (Nat.le_refl _) o1).alloc (by simp) o2);clear hcl hcell hf hf2;go_enter Tryz.func36, Tryz.ntmps36;go_wp2_with (first | (go_at_call 66; refine (uses_ref _ _ KK.out).mono ?_; rintro e w4 ⟨rfl, rfl⟩; rw [show usesL 23 = [97, 99, 119, 118] from rfl]) | (go_at_call 32; refine (in_at [97, 99, 119, 118] _ _ (by decide) (by decide)).mono ?_; rintro e w4 ⟨rfl, rfl⟩; first | rw [Ia.out] | rw [Ic.out]))
 refine (C1.out _ (hv.below ?b)).mono ?_
 case b =>
  repeat' (first | refine Below.setCell ?_ (by simp) _ | refine below_drewn ?_ _)
  exact W0.out _ _
 rintro e w1 ⟨rfl, nq0, rfl⟩;go_wp2_with (first | (go_at_call 66; refine (uses_ref _ _ KK.out).mono ?_; rintro e w4 ⟨rfl, rfl⟩; rw [show usesL 23 = [97, 99, 119, 118] from rfl]) | (go_at_call 32; refine (in_at [97, 99, 119, 118] _ _ (by decide) (by decide)).mono ?_; rintro e w4 ⟨rfl, rfl⟩; first | rw [Ia.out] | rw [Ic.out]))
 refine (C3.out _ (hv.below ?b)).mono ?_
 case b =>
  repeat' (first | refine Below.setCell ?_ (by simp) _ | refine below_drewn ?_ _)
  exact W0.out _ _
 rintro e w1 ⟨rfl, nq1, rfl⟩;go_wp2_with (first | (go_at_call 66; refine (uses_ref _ _ KK.out).mono ?_; rintro e w4 ⟨rfl, rfl⟩; rw [show usesL 23 = [97, 99, 119, 118] from rfl]) | (go_at_call 32; refine (in_at [97, 99, 119, 118] _ _ (by decide) (by decide)).mono ?_; rintro e w4 ⟨rfl, rfl⟩; first | rw [Ia.out] | rw [Ic.out]))
 refine (C5.out _ (hv.below ?b)).mono ?_
 case b =>
  repeat' (first | refine Below.setCell ?_ (by simp) _ | refine below_drewn ?_ _)
  exact W0.out _ _
 rintro e w1 ⟨rfl, nq2, rfl⟩;go_wp2_with (first | (go_at_call 66; refine (uses_ref _ _ KK.out).mono ?_; rintro e w4 ⟨rfl, rfl⟩; rw [show usesL 23 = [97, 99, 119, 118] from rfl]) | (go_at_call 32; refine (in_at [97, 99, 119, 118] _ _ (by decide) (by decide)).mono ?_; rintro e w4 ⟨rfl, rfl⟩; first | rw [Ia.out] | rw [Ic.out]))
 refine (words_ref _ bs 10 10 _ rfl (by decide) (hv.below ?b) hbl).mono ?_
 case b =>
  repeat' (first | refine Below.setCell ?_ (by simp) _ | refine below_drewn ?_ _)
  exact W0.out _ _
 rintro e w3 ⟨v3, rfl, hr3, B3, nv3⟩;have X1 := ((((((Blk.new_at (w.alloc (.cells #[.int .i64 0, .int .i64 0, .int .i64 0, .int .i64 0, .int .i64 0, .slice none 0 0, .slice none 0 0, .int .u16 0, .int .u16 0] 33)) 33 [.int .i64 23, .int .i64 0, .int .i64 0, .int .i64 0, .int .i64 0, .slice none 0 0, .slice none 0 0, .int .u16 0, .int .u16 0] (w.heap.size + 1) (by simp)).drewN nq0).set 1 (.int .i64 N1)).drewN nq1).set 2 (.int .i64 N3)).drewN nq2).below B3 (by simp);have X0 := (((((((Blk.new w 33 [.int .i64 0, .int .i64 0, .int .i64 0, .int .i64 0, .int .i64 0, .slice none 0 0, .slice none 0 0, .int .u16 0, .int .u16 0]).alloc (.cells #[.int .i64 23, .int .i64 0, .int .i64 0, .int .i64 0, .int .i64 0, .slice none 0 0, .slice none 0 0, .int .u16 0, .int .u16 0] 33)).drewN nq0).set_ne (g := w.heap.size + 1) (by omega) 1 (.int .i64 N1)).drewN nq1).set_ne (g := w.heap.size + 1) (by omega) 2 (.int .i64 N3)).drewN nq2).below B3 (by simp; omega);have B4 := fun h => below_then (w0 := w) h B3;replace B3 := B4 (by
  repeat' (first | refine Below.setCell ?_ (by simp) _ | refine below_drewn ?_ _)
  exact W0.out _ _)
 clear B4;simp at nv3;have m3 := nv3.le (base' := w.heap.size) (by omega);obtain ⟨a3, cap3, rfl, -⟩ := id hr3;simp only [List.length_map] at hr3 nv3 m3 ⊢;have c10 := X1.cell 0;have c00 := X0.cell 0;have c11 := X1.cell 1;have c01 := X0.cell 1;have c12 := X1.cell 2;have c02 := X0.cell 2;have c13 := X1.cell 3;have c03 := X0.cell 3;have c14 := X1.cell 4;have c04 := X0.cell 4;have c15 := X1.cell 5;have c05 := X0.cell 5;have c16 := X1.cell 6;have c06 := X0.cell 6;have c17 := X1.cell 7;have c07 := X0.cell 7;have c18 := X1.cell 8;have c08 := X0.cell 8;simp at c10 c00 c11 c01 c12 c02 c13 c03 c14 c04 c15 c05 c16 c06 c17 c07 c18 c08;have f1 := X1.frozen;have f0 := X0.frozen;have g1 := X1.lt;have g0 := X0.lt;clear X1 X0;go_wp2;refine bodyPost_ret (v := _) (by simp [results, Tryz.results36, go_sem, c00, c01, c02, c03, c04, c05, c06, c07, c08]; with_reducible rfl) rfl ?_;refine ⟨_, rfl, ?_, ?_, ?_⟩
 ·
  rw [EQ.out];refine ⟨_, _, rfl, Row.nil _, ?_⟩
  repeat' (refine Row.setCell_new ?_ nv3 (by omega))
  exact hr3
 ·
  repeat' (refine Below.setCell ?_ (by simp) _)
  exact B3
 ·
  exact ⟨_, _, _, _, _, _, _, _, _, rfl, NewV.none _ _ _, m3⟩
set_option maxRecDepth 100000 in
set_option maxHeartbeats 1000000 in
theorem guess_ref_15 (v : Value) (bs : List UInt8) (w : World) (hv : Row w v (bs.map bV)) (h0 : bs ≠ []) (hbl : bs.length ≤ 140737488351232) (hf : fnOf bs = 15) (h6 : bs.length ≤ 6) :
  Calls Tryz.prog 36 #[v] w fun e w' => ∃ v', e = .returned v' ∧ IsRq w' v' (gR bs) ∧ Below w.heap.size w w' ∧ NewQ w.heap.size v' := by
 obtain ⟨a, cap, rfl, -⟩ := id hv;obtain ⟨hl, hc, hm, hcell⟩ := hv.at;simp only [List.length_map] at hl hc hv hcell ⊢;obtain ⟨b, off, rfl, hcl⟩ := hcell 0 0 (List.length_pos_iff.2 h0);have c0 := hcl 0 (List.length_pos_iff.2 h0);have hp : (0 : Int) < (bs.length : Int) := by have := List.length_pos_iff.2 h0; omega
 have EQ : Hid (gR bs = ⟨15, getN bs 1, getN bs 3, 0, 0, [], [], 0, 0⟩) := by show _ = _; simp [gR, hf, h6]
 have hf2 : (bs.getD 0 0).toNat = 15 := by unfold fnOf at hf; omega
 simp only [bV, hf2, Nat.add_zero] at c0;have hlt := lt_of_cell c0;have KK : Hid (knownB 15 = true) := by rfl
 have Ia : Hid (inI [97, 99, 98] 97 = true) := by rfl
 have Ic : Hid (inI [97, 99, 98] 99 = true) := by rfl
 have C1 := hidden (fun w' (h : Row w' (.slice (some ⟨b, off, none⟩) bs.length cap) (bs.map bV)) => num_ref _ bs 1 w' (by omega) h);obtain ⟨i1, j1⟩ := getN_in bs 1;have C3 := hidden (fun w' (h : Row w' (.slice (some ⟨b, off, none⟩) bs.length cap) (bs.map bV)) => num_ref _ bs 3 w' (by omega) h);obtain ⟨i3, j3⟩ := getN_in bs 3;generalize getN bs 1 = N1 at *;generalize getN bs 3 = N3 at *;have W0 := hidden (fun o1 o2 => ((Below.refl w.heap.size w).alloc (Nat.le_refl _) o1).alloc (by simp) o2);clear hcl hcell hf hf2;go_enter Tryz.func36, Tryz.ntmps36;go_wp2_with (first | (go_at_call 66; refine (uses_ref _ _ KK.out).mono ?_; rintro e w4 ⟨rfl, rfl⟩; rw [show usesL 15 = [97, 99, 98] from rfl]) | (go_at_call 32; refine (in_at [97, 99, 98] _ _ (by decide) (by decide)).mono ?_; rintro e w4 ⟨rfl, rfl⟩; first | rw [Ia.out] | rw [Ic.out]))
 refine (C1.out _ (hv.below ?b)).mono ?_
 case b =>
  repeat' (first | refine Below.setCell ?_ (by simp) _ | refine below_drewn ?_ _)
  exact W0.out _ _
 rintro e w1 ⟨rfl, nq0, rfl⟩;go_wp2_with (first | (go_at_call 66; refine (uses_ref _ _ KK.out).mono ?_; rintro e w4 ⟨rfl, rfl⟩; rw [show usesL 15 = [97, 99, 98] from rfl]) | (go_at_call 32; refine (in_at [97, 99, 98] _ _ (by decide) (by decide)).mono ?_; rintro e w4 ⟨rfl, rfl⟩; first | rw [Ia.out] | rw [Ic.out]))
 refine (C3.out _ (hv.below ?b)).mono ?_
 case b =>
  repeat' (first | refine Below.setCell ?_ (by simp) _ | refine below_drewn ?_ _)
  exact W0.out _ _
 rintro e w1 ⟨rfl, nq1, rfl⟩;have h6' : ¬ (6 : Int) < (bs.length : Int) := by omega
 go_wp2_with (first | (go_at_call 66; refine (uses_ref _ _ KK.out).mono ?_; rintro e w4 ⟨rfl, rfl⟩; rw [show usesL 15 = [97, 99, 98] from rfl]) | (go_at_call 32; refine (in_at [97, 99, 98] _ _ (by decide) (by decide)).mono ?_; rintro e w4 ⟨rfl, rfl⟩; first | rw [Ia.out] | rw [Ic.out]))
 refine bodyPost_ret (v := _) (by simp [results, Tryz.results36, go_sem]; with_reducible rfl) rfl ?_;refine ⟨_, rfl, ?_, ?_, ?_⟩
 ·
  rw [EQ.out];exact ⟨_, _, rfl, Row.nil _, Row.nil _⟩
 ·
  repeat' (first | refine Below.setCell ?_ (by simp) _ | refine below_drewn ?_ _)
  exact W0.out _ _
 ·
  exact ⟨_, _, _, _, _, _, _, _, _, rfl, NewV.none _ _ _, NewV.none _ _ _⟩
set_option maxRecDepth 100000 in
set_option maxHeartbeats 1000000 in
theorem guess_ref_15b (v : Value) (bs : List UInt8) (w : World) (hv : Row w v (bs.map bV)) (h0 : bs ≠ []) (hbl : bs.length ≤ 140737488351232) (hf : fnOf bs = 15) (h6 : ¬ bs.length ≤ 6) :
  Calls Tryz.prog 36 #[v] w fun e w' => ∃ v', e = .returned v' ∧ IsRq w' v' (gR bs) ∧ Below w.heap.size w w' ∧ NewQ w.heap.size v' := by
 obtain ⟨a, cap, rfl, -⟩ := id hv;obtain ⟨hl, hc, hm, hcell⟩ := hv.at;simp only [List.length_map] at hl hc hv hcell ⊢;obtain ⟨b, off, rfl, hcl⟩ := hcell 0 0 (List.length_pos_iff.2 h0);have c0 := hcl 0 (List.length_pos_iff.2 h0);have hp : (0 : Int) < (bs.length : Int) := by have := List.length_pos_iff.2 h0; omega
 have EQ : Hid (gR bs = ⟨15, getN bs 1, getN bs 3, 0, 0, openR (bs.drop 6) (getN bs 3), [], 0, 0⟩) := by show _ = _; simp [gR, hf, h6]
 have hf2 : (bs.getD 0 0).toNat = 15 := by unfold fnOf at hf; omega
 simp only [bV, hf2, Nat.add_zero] at c0;have hlt := lt_of_cell c0;have KK : Hid (knownB 15 = true) := by rfl
 have Ia : Hid (inI [97, 99, 98] 97 = true) := by rfl
 have Ic : Hid (inI [97, 99, 98] 99 = true) := by rfl
 have C1 := hidden (fun w' (h : Row w' (.slice (some ⟨b, off, none⟩) bs.length cap) (bs.map bV)) => num_ref _ bs 1 w' (by omega) h);obtain ⟨i1, j1⟩ := getN_in bs 1;have C3 := hidden (fun w' (h : Row w' (.slice (some ⟨b, off, none⟩) bs.length cap) (bs.map bV)) => num_ref _ bs 3 w' (by omega) h);obtain ⟨i3, j3⟩ := getN_in bs 3;have HO := hidden (fun v w' (h : Row w' v ((bs.drop 6).map bV)) => ropen_all v (bs.drop 6) (getN bs 3) w' (by omega) h (by rw [List.length_drop]; omega) (.inl (by omega)));have HD := hv.drop 6 (by omega) b off rfl;rw [← List.map_drop] at HD;have HDR := hidden HD;clear HD;generalize getN bs 1 = N1 at *;generalize getN bs 3 = N3 at *;have W0 := hidden (fun o1 o2 => ((Below.refl w.heap.size w).alloc (Nat.le_refl _) o1).alloc (by simp) o2);clear hcl hcell hf hf2;go_enter Tryz.func36, Tryz.ntmps36;go_wp2_with (first | (go_at_call 66; refine (uses_ref _ _ KK.out).mono ?_; rintro e w4 ⟨rfl, rfl⟩; rw [show usesL 15 = [97, 99, 98] from rfl]) | (go_at_call 32; refine (in_at [97, 99, 98] _ _ (by decide) (by decide)).mono ?_; rintro e w4 ⟨rfl, rfl⟩; first | rw [Ia.out] | rw [Ic.out]))
 refine (C1.out _ (hv.below ?b)).mono ?_
 case b =>
  repeat' (first | refine Below.setCell ?_ (by simp) _ | refine below_drewn ?_ _)
  exact W0.out _ _
 rintro e w1 ⟨rfl, nq0, rfl⟩;go_wp2_with (first | (go_at_call 66; refine (uses_ref _ _ KK.out).mono ?_; rintro e w4 ⟨rfl, rfl⟩; rw [show usesL 15 = [97, 99, 98] from rfl]) | (go_at_call 32; refine (in_at [97, 99, 98] _ _ (by decide) (by decide)).mono ?_; rintro e w4 ⟨rfl, rfl⟩; first | rw [Ia.out] | rw [Ic.out]))
 refine (C3.out _ (hv.below ?b)).mono ?_
 case b =>
  repeat' (first | refine Below.setCell ?_ (by simp) _ | refine below_drewn ?_ _)
  exact W0.out _ _
 rintro e w1 ⟨rfl, nq1, rfl⟩;have h6' : (6 : Int) < (bs.length : Int) := by omega
 have h7' : (6 : Int) ≤ (bs.length : Int) := by omega
 have h8' : 6 ≤ bs.length := by omega
 have e1 : ((bs.length : Int) - 6).toNat = bs.length - 6 := by omega
 have e2 : ((cap : Int) - 6).toNat = cap - 6 := by omega
 go_wp2_with (first | (go_at_call 66; refine (uses_ref _ _ KK.out).mono ?_; rintro e w4 ⟨rfl, rfl⟩; rw [show usesL 15 = [97, 99, 98] from rfl]) | (go_at_call 32; refine (in_at [97, 99, 98] _ _ (by decide) (by decide)).mono ?_; rintro e w4 ⟨rfl, rfl⟩; first | rw [Ia.out] | rw [Ic.out]))
 refine c_begin 10 rfl (by kernel_rfl) ?_;have X1 := (((((Blk.new_at (w.alloc (.cells #[.int .i64 0, .int .i64 0, .int .i64 0, .int .i64 0, .int .i64 0, .slice none 0 0, .slice none 0 0, .int .u16 0, .int .u16 0] 33)) 33 [.int .i64 15, .int .i64 0, .int .i64 0, .int .i64 0, .int .i64 0, .slice none 0 0, .slice none 0 0, .int .u16 0, .int .u16 0] (w.heap.size + 1) (by simp)).drewN nq0).set 1 (.int .i64 N1)).drewN nq1).set 2 (.int .i64 N3)).drew;have X0 := ((((((Blk.new w 33 [.int .i64 0, .int .i64 0, .int .i64 0, .int .i64 0, .int .i64 0, .slice none 0 0, .slice none 0 0, .int .u16 0, .int .u16 0]).alloc (.cells #[.int .i64 15, .int .i64 0, .int .i64 0, .int .i64 0, .int .i64 0, .slice none 0 0, .slice none 0 0, .int .u16 0, .int .u16 0] 33)).drewN nq0).set_ne (g := w.heap.size + 1) (by omega) 1 (.int .i64 N1)).drewN nq1).set_ne (g := w.heap.size + 1) (by omega) 2 (.int .i64 N3)).drew;have B2 := blk_world X1 (P := fun W => Below w.heap.size w W) (by
  refine Below.drew ?_
  repeat' (first | refine Below.setCell ?_ (by simp) _ | refine below_drewn ?_ _)
  exact W0.out _ _)
 have s2 := X1.cell 2;simp at s2;refine c_P trivial 0 rfl ?_;refine c_P trivial 1 rfl ?_;refine c_P trivial 2 rfl ?_;refine c_R (fun w' => w'.cell? ⟨w.heap.size + 1, 2, none⟩ = some (.int .i64 N3)) s2 trivial 3 rfl (fun w' hx => by go_simp; with_reducible rfl) ?_;refine c_move 4 (by kernel_rfl) (c_op 4 [] (by kernel_rfl) rfl (by kernel_rfl) (fun K hK => ?_));go_wp2_with fail
 refine (HO.out _ _ (HDR.out.below B2)).mono ?_;rintro e w3 ⟨v3, rfl, hr3, B3, nv3⟩;replace X1 := X1.below B3 X1.lt;replace X0 := X0.below B3 X0.lt;replace B3 := below_then B2 B3;simp at nv3;have m3 := nv3.le (base' := w.heap.size) (by omega);go_simp;refine hK.out _ _ trivial ?_;clear K hK B2 s2;try simp only [Act.put, PuA, PuB, PuC]
 obtain ⟨a3, cap3, rfl, -⟩ := id hr3;simp only [List.length_map] at hr3 nv3 m3 ⊢;generalize openOk (bs.drop 6) N3 = ok at *;refine c_P trivial 5 rfl ?_;refine c_P trivial 6 rfl ?_;refine c_P trivial 7 rfl ?_;refine c_P trivial 8 rfl ?_;have s5 : w3.cell? ⟨w.heap.size + 1, 5, none⟩ = some (.slice none 0 0) := X1.cell 5;have f5 := X1.frozen;have g5 := X1.lt;refine c_move 9 (by kernel_rfl) (c_op 9 [] (by kernel_rfl) rfl (by kernel_rfl) (fun K hK => ?_));go_simp;refine hK.out _ _ trivial ?_;clear K hK s5 f5 g5;try simp only [Act.put, PuA, PuB, PuC]
 refine c_done (by kernel_rfl) ?_;have c10 := X1.cell 0;have c00 := X0.cell 0;have c11 := X1.cell 1;have c01 := X0.cell 1;have c12 := X1.cell 2;have c02 := X0.cell 2;have c13 := X1.cell 3;have c03 := X0.cell 3;have c14 := X1.cell 4;have c04 := X0.cell 4;have c15 := X1.cell 5;have c05 := X0.cell 5;have c16 := X1.cell 6;have c06 := X0.cell 6;have c17 := X1.cell 7;have c07 := X0.cell 7;have c18 := X1.cell 8;have c08 := X0.cell 8;simp at c10 c00 c11 c01 c12 c02 c13 c03 c14 c04 c15 c05 c16 c06 c17 c07 c18 c08;have f1 := X1.frozen;have f0 := X0.frozen;have g1 := X1.lt;have g0 := X0.lt;clear X1 X0;go_wp2;refine bodyPost_ret (v := _) (by simp [results, Tryz.results36, go_sem, c00, c01, c02, c03, c04, c05, c06, c07, c08]; with_reducible rfl) rfl ?_;refine ⟨_, rfl, ?_, ?_, ?_⟩
 ·
  rw [EQ.out];refine ⟨_, _, rfl, ?_, Row.nil _⟩
  repeat' (refine Row.setCell_new ?_ nv3 (by omega))
  exact hr3
 ·
  repeat' (refine Below.setCell ?_ (by simp) _)
  exact B3
 ·
  exact ⟨_, _, _, _, _, _, _, _, _, rfl, m3, NewV.none _ _ _⟩
set_option maxRecDepth 100000 in
set_option maxHeartbeats 1000000 in
theorem guess_ref_no (v : Value) (bs : List UInt8) (w : World) (hv : Row w v (bs.map bV)) (h0 : bs ≠ []) (hk : knownB (fnOf bs) = false) :
  Calls Tryz.prog 36 #[v] w fun e w' => ∃ v', e = .returned v' ∧ IsRq w' v' (gR bs) ∧ Below w.heap.size w w' ∧ NewQ w.heap.size v' := by
 obtain ⟨a, cap, rfl, -⟩ := id hv;obtain ⟨hl, hc, hm, hcell⟩ := hv.at;simp only [List.length_map] at hl hc hv hcell ⊢;obtain ⟨b, off, rfl, hcl⟩ := hcell 0 0 (List.length_pos_iff.2 h0);have c0 := hcl 0 (List.length_pos_iff.2 h0);have hp : (0 : Int) < (bs.length : Int) := by have := List.length_pos_iff.2 h0; omega
 have EQ : Hid (gR bs = ⟨fnOf bs, 0, 0, 0, 0, [], [], 0, 0⟩) := by
  show _ = _;obtain ⟨t1, t2, t3, t4, t5, t6, t8, t15, t16, t17, t22, t23⟩ := known_no hk;simp only [beq_eq_false_iff_ne] at *;simp only [gR];rw [if_neg (by omega), if_neg (by omega), if_neg (by omega), if_neg (by omega), if_neg (by omega), if_neg (by omega), if_neg (by omega), if_neg (by omega)]
 have F : Hid (fnOf bs = ((bs.getD 0 0).toNat : Int)) := rfl;rw [F.out] at hk EQ;have KK := hidden hk;obtain ⟨t1, t2, t3, t4, t5, t6, t8, t15, t16, t17, t22, t23⟩ := known_no hk;have hx := (bs.getD 0 0).toNat_lt;simp only [Nat.add_zero] at c0;have hlt := lt_of_cell c0;have Ia : Hid (inI ([] : List UInt8) 97 = false) := by rfl
 have Ic : Hid (inI ([] : List UInt8) 99 = false) := by rfl
 have W0 := hidden (fun o1 o2 => ((Below.refl w.heap.size w).alloc (Nat.le_refl _) o1).alloc (by simp) o2);clear hcl hcell hc hk F;generalize bs.getD 0 0 = x at *;have wx : IntKind.i64.wrap (x.toNat : Int) = x.toNat := by rw [IntKind.wrap_i64]; omega
 go_enter Tryz.func36, Tryz.ntmps36;go_wp2_with (first | (go_at_call 66; refine (uses_no _ _ KK.out).mono ?_; rintro e w4 ⟨rfl, rfl⟩) | (go_at_call 32; refine (in_at [] _ _ (by decide) (by decide)).mono ?_; rintro e w4 ⟨rfl, rfl⟩; first | rw [Ia.out] | rw [Ic.out]))
 refine bodyPost_ret (v := _) (by simp [results, Tryz.results36, go_sem]; with_reducible rfl) rfl ?_;refine ⟨_, rfl, ?_, ?_, ?_⟩
 ·
  rw [EQ.out];exact ⟨_, _, rfl, Row.nil _, Row.nil _⟩
 ·
  repeat' (refine Below.setCell ?_ (by simp) _)
  exact W0.out _ _
 ·
  exact ⟨_, _, _, _, _, _, _, _, _, rfl, NewV.none _ _ _, NewV.none _ _ _⟩
theorem guess_ref (v : Value) (bs : List UInt8) (w : World) (hv : Row w v (bs.map bV)) (h0 : bs ≠ []) (hbl : bs.length ≤ 140737488351232) :
  Calls Tryz.prog 36 #[v] w fun e w' => ∃ v', e = .returned v' ∧ IsRq w' v' (gR bs) ∧ Below w.heap.size w w' ∧ NewQ w.heap.size v' := by
 cases hk : knownB (fnOf bs)
 ·
  exact guess_ref_no v bs w hv h0 hk
 ·
  rcases known_cases hk with e | e | e | e | e | e | e | e | e | e | e | e
  ·
   exact guess_ref_1 v bs w hv h0 hbl e
  ·
   exact guess_ref_2 v bs w hv h0 hbl e
  ·
   exact guess_ref_3 v bs w hv h0 hbl e
  ·
   exact guess_ref_4 v bs w hv h0 hbl e
  ·
   exact guess_ref_5 v bs w hv h0 hbl e
  ·
   exact guess_ref_6 v bs w hv h0 hbl e
  ·
   exact guess_ref_8 v bs w hv h0 hbl e
  ·
   by_cases h6 : bs.length ≤ 6
   ·
    exact guess_ref_15 v bs w hv h0 hbl e h6
   ·
    exact guess_ref_15b v bs w hv h0 hbl e h6
  ·
   exact guess_ref_16 v bs w hv h0 hbl e
  ·
   exact guess_ref_17 v bs w hv h0 hbl e
  ·
   exact guess_ref_22 v bs w hv h0 hbl e
  ·
   exact guess_ref_23 v bs w hv h0 hbl e
end Go.Proofs.YtdihcdphgiaepaaGreat
