/- Contracts of the fifth statements' own helpers: known, same, splits. -/
import Derived.Test.YtfbmejfnblopgaaF4
namespace Go.Proofs.Ytfbmejfnblopgaa
open Go.RowKit

theorem frame_b (a : Int) (v : Value) (bs p : List UInt8) (c : Int) (w : World) (ha : -9223372036854775808 ≤ a ∧ a ≤ 9223372036854775807) (hv : Row w v (bs.map bV)) (h1 : frmE a bs = c) (h2 : frmL a bs = p) :
    Calls Try.prog 14 #[.int .i64 a, v] w fun e w' => ∃ v', e = .returned (.tuple #[v', .int .i64 c]) ∧ Row w' v' (p.map bV) ∧ Below w.heap.size w w' := by
  subst h1 h2; exact frame_any a v bs w ha hv
theorem read_b (v : Value) (bs p : List UInt8) (a c : Int) (w : World) (hv : Row w v (bs.map bV)) (h1 : rdA bs = a) (h2 : rdP bs = p) (h3 : rdE bs = c) :
    Calls Try.prog 15 #[v] w fun e w' => ∃ v', e = .returned (.tuple #[.int .i64 a, v', .int .i64 c]) ∧ Row w' v' (p.map bV) ∧ Below w.heap.size w w' := by
  subst h1 h2 h3; exact read_any v bs w hv
theorem split_b (vt vb : Value) (ts : List Int) (bs : List UInt8) (p : List (List UInt8)) (w : World) (ht : Row w vt (ts.map lV)) (hv : Row w vb (bs.map bV)) (hr : ∀ i, i < ts.length → -9223372036854775808 ≤ ts.getD i 0 ∧ ts.getD i 0 ≤ 9223372036854775807) (h5 : bs.length ≤ 5000000000000) (h : splitL ts bs = p) :
    Calls Try.prog 16 #[vt, vb] w fun e w' => ∃ v', e = .returned v' ∧ RowsB w' v' p ∧ Below w.heap.size w w' := by
  subst h; exact split_any vt vb ts bs w ht hv hr h5

set_option maxHeartbeats 2000000 in
theorem same5_any (a : Int) (v : Value) (bs : List UInt8) (w : World) (ha : -9223372036854775808 ≤ a ∧ a ≤ 9223372036854775807) (hv : Row w v (bs.map bV)) :
    Calls Try.prog 9 #[.int .i64 a, v] w fun e w' => e = .returned (.bool true) ∧ Below w.heap.size w w' := by
  have C1 := hidden (fun w' h => frame_any a v bs w' ha h)
  have C2 := hidden (fun w' h => rframe_any a v bs w' ha h)
  have C3 := hidden (fun w' h => read_any v bs w' h)
  have C4 := hidden (fun w' h => rread_any v bs w' h)
  generalize frmL a bs = x at *
  generalize frmE a bs = xe at *
  generalize rdP bs = p at *
  generalize rdE bs = pe at *
  generalize rdA bs = pa at *
  have E1 : (xe == xe) = true := by simp
  have E2 : (pe == pe) = true := by simp
  have E3 : (pa == pa) = true := by simp
  go_enter Try.func9, Try.ntmps9
  go_wp2_with fail
  refine (C1.out _ hv).mono ?_
  rintro e w1 ⟨v1, rfl, hr1, hb1⟩
  go_wp2_with fail
  refine (C2.out _ (hv.below hb1)).mono ?_
  rintro e w2 ⟨v2, rfl, hr2, hb2⟩
  replace hr1 := hr1.below hb2
  replace hb2 := below_then hb1 hb2
  clear hb1
  go_wp2_with fail
  refine (C3.out _ (hv.below hb2)).mono ?_
  rintro e w3 ⟨v3, rfl, hr3, hb3⟩
  replace hr1 := hr1.below hb3
  replace hr2 := hr2.below hb3
  replace hb3 := below_then hb2 hb3
  clear hb2
  go_wp2_with fail
  refine (C4.out _ (hv.below hb3)).mono ?_
  rintro e w4 ⟨v4, rfl, hr4, hb4⟩
  replace hr1 := hr1.below hb4
  replace hr2 := hr2.below hb4
  replace hr3 := hr3.below hb4
  replace hb4 := below_then hb3 hb4
  clear hb3 C1 C2 C3 C4
  have hc1 := conv_row (P := Try.prog) hr1 23 9 5 Try.underlying23 Try.underlying5 Try.underlying9
  have hc2 := conv_row (P := Try.prog) hr2 23 9 5 Try.underlying23 Try.underlying5 Try.underlying9
  have hc3 := conv_row (P := Try.prog) hr3 23 9 5 Try.underlying23 Try.underlying5 Try.underlying9
  have hc4 := conv_row (P := Try.prog) hr4 23 9 5 Try.underlying23 Try.underlying5 Try.underlying9
  go_wp2
  go_ret
  exact ⟨rfl, hb4⟩

set_option maxRecDepth 100000 in
set_option maxHeartbeats 2000000 in
theorem splits_any (vt vb : Value) (ts : List Int) (bs : List UInt8) (w : World) (ht : Row w vt (ts.map lV)) (hv : Row w vb (bs.map bV)) (hr : ∀ i, i < ts.length → -9223372036854775808 ≤ ts.getD i 0 ∧ ts.getD i 0 ≤ 9223372036854775807) (h5 : bs.length ≤ 5000000000000) :
    Calls Try.prog 11 #[vt, vb] w fun e w' => e = .returned (.bool true) ∧ Below w.heap.size w w' := by
  have C1 := hidden (split_any vt vb ts bs w ht hv hr h5)
  have C2 := hidden (fun w' h1 h2 => rsplit_any vt vb ts bs w' h1 h2 hr h5)
  generalize splitL ts bs = xss at *
  have E1 : ((xss.length : Int) != (xss.length : Int)) = false := by simp
  go_enter Try.func11, Try.ntmps11
  go_wp2_with fail
  refine C1.out.mono ?_
  rintro e w1 ⟨v1, rfl, hr1, hb1⟩
  go_wp2_with fail
  refine (C2.out _ (ht.below hb1) (hv.below hb1)).mono ?_
  rintro e w2 ⟨v2, rfl, hr2, hb2⟩
  replace hr1 := hr1.ext hb2
  replace hb2 := below_then hb1 hb2
  clear hb1 C1 C2
  obtain ⟨a1, c1, rfl, k1, k2, k3⟩ := hr1.at
  obtain ⟨a2, c2, rfl, m1, m2, m3⟩ := hr2.at
  unfold maxLen at k2 m2
  have K3 := hidden k3
  have M3 := hidden m3
  clear k3 m3 hr1 hr2
  generalize xss.length = n at *
  go_wp2
  go_loopw [21] (fun i wr => ∃ k : Nat, k ≤ n ∧ i = .int .i64 k ∧ Below w2.heap.size w2 wr) (fun i _ => n - (intOf i).toNat)
  case atStart => exact ⟨0, Nat.zero_le _, rfl, Below.refl _ _⟩
  case round =>
    obtain ⟨k, hk, rfl, hb⟩ := hrel
    by_cases hlt : k < n
    · obtain ⟨b1, o1, rfl, q1⟩ := K3.out k hlt
      obtain ⟨b2, o2, rfl, q2⟩ := M3.out k hlt
      obtain ⟨u1, e1, s1⟩ := q1 k hlt
      obtain ⟨u2, e2, s2⟩ := q2 k hlt
      have hlt' : (k : Int) < (n : Int) := by omega
      clear q1 q2
      generalize xss.getD k [] = x at *
      have hx := hb.drew
      obtain ⟨ua, uc, rfl, -⟩ := id s1
      obtain ⟨ub, ud, rfl, -⟩ := id s2
      have ce1 := fun w' (hy : Ext w2 w') => (hy.cell (p := ⟨b1, o1 + k, none⟩) (lt_of_cell e1)).trans e1
      have ce2 := fun w' (hy : Ext w2 w') => (hy.cell (p := ⟨b2, o2 + k, none⟩) (lt_of_cell e2)).trans e2
      have cv1 := fun w' (hy : Ext w2 w') => conv_row (P := Try.prog) (s1.below hy) 23 9 5 Try.underlying23 Try.underlying5 Try.underlying9
      have cv2 := fun w' (hy : Ext w2 w') => conv_row (P := Try.prog) (s2.below hy) 23 9 5 Try.underlying23 Try.underlying5 Try.underlying9
      simp only [List.length_map] at e1 e2 ce1 ce2 cv1 cv2
      clear s1 s2 e1 e2
      go_wp2
      refine wp_region_pi [(0, true), (1, true), (2, true), (3, true), (4, true), (5, true), (6, true), (7, true), (8, true), (9, true), (10, true)] (by kernel_rfl) (by kernel_rfl) (by kernel_rfl) (fun _ _ _ d _ h => by cases d <;> exact h) ?_
      have x6 := Ext.refl wr.drew
      iterate 3 (refine pi_pure x6 rfl (by kernel_rfl) (fun w' => by go_simp; with_reducible rfl) ?_; simp only [Act.put, List.setIfInBounds_toArray, List.set_cons_zero, List.set_cons_succ])
      refine pi_read x6 rfl (by kernel_rfl) (fun w' hy => by have h := ce1 w' (below_then hx hy); go_simp; with_reducible rfl) ?_
      try simp only [Act.put, List.setIfInBounds_toArray, List.set_cons_zero, List.set_cons_succ]
      refine pi_read x6 rfl (by kernel_rfl) (fun w' hy => by have h := cv1 w' (below_then hx hy); go_simp; with_reducible rfl) ?_
      try simp only [Act.put, List.setIfInBounds_toArray, List.set_cons_zero, List.set_cons_succ]
      iterate 3 (refine pi_pure x6 rfl (by kernel_rfl) (fun w' => by go_simp; with_reducible rfl) ?_; simp only [Act.put, List.setIfInBounds_toArray, List.set_cons_zero, List.set_cons_succ])
      refine pi_read x6 rfl (by kernel_rfl) (fun w' hy => by have h := ce2 w' (below_then hx hy); go_simp; with_reducible rfl) ?_
      try simp only [Act.put, List.setIfInBounds_toArray, List.set_cons_zero, List.set_cons_succ]
      refine pi_read x6 rfl (by kernel_rfl) (fun w' hy => by have h := cv2 w' (below_then hx hy); go_simp; with_reducible rfl) ?_
      try simp only [Act.put, List.setIfInBounds_toArray, List.set_cons_zero, List.set_cons_succ]
      refine pi_pure x6 rfl (by kernel_rfl) (fun w' => by go_simp; with_reducible rfl) ?_
      try simp only [Act.put, List.setIfInBounds_toArray, List.set_cons_zero, List.set_cons_succ]
      refine pi_nil ?_
      clear ce1 ce2 cv1 cv2
      go_wp2
      go_roundw
      case rel => exact ⟨k + 1, by omega, by go_num, hx⟩
      case measure => simp [intOf]; omega
    · have hlt' : ¬ (k : Int) < (n : Int) := by omega
      go_wp2
      go_ret
      exact ⟨rfl, below_then hb2 hb⟩

theorem row_zeros (w : World) (n : Nat) (h : n ≤ maxLen) : Row (w.alloc (.cells (zer n (.int .u8 0)) 5)) (.slice (some ⟨w.heap.size, 0, none⟩) n n) ((List.replicate n (0 : UInt8)).map bV) := by
  have h2 := (zer_blk w n (.int .u8 0) 5).row n (by simp) h
  rw [List.length_replicate] at h2
  rw [List.map_replicate]
  exact h2
theorem row_consts (w : World) (e : TypeId) (xs : List Value) (n : Nat) (hn : n = xs.length) (h : n ≤ maxLen) : Row (w.alloc (.cells xs.toArray e)) (.slice (some ⟨w.heap.size, 0, none⟩) n n) xs := row_new w xs e n hn h

set_option maxRecDepth 100000 in
set_option maxHeartbeats 2000000 in
theorem known5_any (w : World) : Calls Try.prog 12 #[] w fun e w' => e = .returned (.bool true) ∧ Below w.heap.size w w' := by
  have mk := fun u => mk_zer 23 5 (.int .u8 0) 1 Try.underlying23 info_u8 rfl 254 254 (by omega) (by omega) (by omega) u
  go_enter Try.func12, Try.ntmps12
  go_wp2_with fail
  refine (frame_b 17 _ [3, 0, 107, 0, 3] [17, 3, 0, 107, 0, 3, 118, 135] 0 _ (by omega) (row_consts w 5 [.int .u8 3, .int .u8 0, .int .u8 107, .int .u8 0, .int .u8 3] 5 rfl (by decide)) (by decide +kernel) (by decide +kernel)).mono ?_
  rintro e w1 ⟨v1, rfl, hr1, hb1⟩
  replace hb1 := below_step (Below.refl _ _) hb1
  go_wp2_with fail
  refine (read_b _ [17, 3, 0, 107, 0, 3, 118, 135] [3, 0, 107, 0, 3] 17 0 _ hr1 (by decide +kernel) (by decide +kernel) (by decide +kernel)).mono ?_
  rintro e w2 ⟨v2, rfl, hr2, hb2⟩
  replace hr1 := hr1.below hb2
  replace hb2 := below_then hb1 hb2
  clear hb1
  go_wp2_with fail
  refine (frame_b 0 _ [1] [] 1 _ (by omega) (row_consts w2 5 [.int .u8 1] 1 rfl (by decide)) (by decide +kernel) (by decide +kernel)).mono ?_
  rintro e w3 ⟨v3, rfl, -, hb3⟩
  replace hr1 := hr1.below (below_step (Below.refl _ _) hb3)
  replace hr2 := hr2.below (below_step (Below.refl _ _) hb3)
  replace hb3 := below_step hb2 hb3
  clear hb2
  go_wp2_with fail
  refine (frame_b 1 _ [] [] 13 _ (by omega) (Row.nil _) (by decide +kernel) (by decide +kernel)).mono ?_
  rintro e w4 ⟨v4, rfl, -, hb4⟩
  replace hr1 := hr1.below hb4
  replace hr2 := hr2.below hb4
  replace hb4 := below_then hb3 hb4
  clear hb3
  have mk4 := mk w4
  clear mk
  go_wp2_with fail
  have RZ := row_zeros w4 254 (by decide)
  refine (frame_b 1 _ (List.replicate 254 0) [] 3 _ (by omega) RZ (by decide +kernel) (by decide +kernel)).mono ?_
  rintro e w5 ⟨v5, rfl, -, hb5⟩
  replace hr1 := hr1.below (below_step (Below.refl _ _) hb5)
  replace hr2 := hr2.below (below_step (Below.refl _ _) hb5)
  replace hb5 := below_step hb4 hb5
  clear hb4 mk4 RZ
  go_wp2_with fail
  refine (read_b _ [1, 2, 3] [] 0 13 _ (row_consts w5 5 [.int .u8 1, .int .u8 2, .int .u8 3] 3 rfl (by decide)) (by decide +kernel) (by decide +kernel) (by decide +kernel)).mono ?_
  rintro e w6 ⟨v6, rfl, -, hb6⟩
  replace hr1 := hr1.below (below_step (Below.refl _ _) hb6)
  replace hr2 := hr2.below (below_step (Below.refl _ _) hb6)
  replace hb6 := below_step hb5 hb6
  clear hb5
  go_wp2_with fail
  have T1 := (row_consts w6 2 [.int .i64 0, .int .i64 1, .int .i64 5, .int .i64 6, .int .i64 8, .int .i64 12] 6 rfl (by decide)).below ((Below.refl _ _).alloc (Nat.le_refl _) (.cells [Value.int .u8 1, .int .u8 2, .int .u8 3, .int .u8 4, .int .u8 5, .int .u8 6].toArray 5))
  have T2 := row_consts (w6.alloc (.cells [Value.int .i64 0, .int .i64 1, .int .i64 5, .int .i64 6, .int .i64 8, .int .i64 12].toArray 2)) 5 [.int .u8 1, .int .u8 2, .int .u8 3, .int .u8 4, .int .u8 5, .int .u8 6] 6 rfl (by decide)
  rw [World.size_alloc] at T2
  refine (split_b _ _ [0, 1, 5, 6, 8, 12] [1, 2, 3, 4, 5, 6] [[1, 2], [6]] _ T1 T2 (by decide) (by decide) (by decide +kernel)).mono ?_
  rintro e w7 ⟨v7, rfl, hr7, hb7⟩
  have hb67 := below_step ((Below.refl w6.heap.size w6).alloc (Nat.le_refl _) _) hb7
  replace hr1 := hr1.below hb67
  replace hr2 := hr2.below hb67
  replace hb7 := below_then hb6 hb67
  clear hb6 hb67 T1 T2
  obtain ⟨a7, c7, rfl, k1, k2, k3⟩ := hr7.at
  obtain ⟨b, off, rfl, k4⟩ := k3 0 (by decide)
  obtain ⟨u0, e0, s0⟩ := k4 0 (by decide)
  obtain ⟨u1, e1, s1⟩ := k4 1 (by decide)
  obtain ⟨a2, c2, rfl, -⟩ := id hr2
  clear k3 k4 hr7
  unfold maxLen at k2
  have hc1 := conv_row (P := Try.prog) hr1 23 9 5 Try.underlying23 Try.underlying5 Try.underlying9
  have hc2 := conv_row (P := Try.prog) s0 23 9 5 Try.underlying23 Try.underlying5 Try.underlying9
  have hc3 := conv_row (P := Try.prog) s1 23 9 5 Try.underlying23 Try.underlying5 Try.underlying9
  obtain ⟨a3, c3, rfl, -⟩ := id s0
  obtain ⟨a4, c4, rfl, -⟩ := id s1
  simp at e0 e1 hc2 hc3 k1
  clear s0 s1 hr1 hr2
  go_wp2
  go_ret
  exact ⟨rfl, hb7⟩

end Go.Proofs.Ytfbmejfnblopgaa
