/- CrcMixes: sums of rows as long mix as the rows do. The walk. -/
import Derived.Test.YtkmpoefjgaeopaaL3
namespace Go.Proofs.Ytkmpoefjgaeopaa
open Go.RowKit

theorem xor_two (x y : UInt8) : ∃ z : UInt8, bits BinOp.xor IntKind.u8 (x.toNat : Int) (y.toNat : Int) = (z.toNat : Int) ∧ z.toNat = x.toNat ^^^ y.toNat := by
  have hz : x.toNat ^^^ y.toNat < 256 := Nat.xor_lt_two_pow (n := 8) x.toNat_lt y.toNat_lt
  have hy : (UInt8.ofNat (x.toNat ^^^ y.toNat)).toNat = x.toNat ^^^ y.toNat := by rw [UInt8.toNat_ofNat']; omega
  exact ⟨UInt8.ofNat (x.toNat ^^^ y.toNat), by rw [xor_u8, hy], hy⟩
theorem Blk.set_ne {w : World} {g g' : Nat} {e : TypeId} {xs : List Value} (h : Blk w g' e xs) (hne : g ≠ g') (i : Nat) (v : Value) : Blk (w.setCell ⟨g, i, none⟩ v) g' e xs := by
  unfold Blk at h ⊢
  simp only [World.setCell, Array.getElem?_modify, if_neg hne, h]

set_option maxRecDepth 100000 in
set_option maxHeartbeats 2000000 in
theorem cmixes_walk (va vb : Value) (xs ys : List UInt8) (w : World)
    (hx : Row w va (xs.map bV)) (hy : Row w vb (ys.map bV)) (r1 : xs.length ≤ 140737488351232) (r2 : ys.length ≤ 140737488351232) :
    Calls Try.prog 6 #[va, vb] w fun e w' => e = .returned (.bool true) ∧ Below w.heap.size w w' := by
  obtain ⟨a, cap, rfl, -⟩ := id hx
  obtain ⟨-, hc, hm, -⟩ := hx.at
  obtain ⟨a2, cap2, rfl, -⟩ := id hy
  obtain ⟨-, hc2, hm2, -⟩ := hy.at
  simp only [List.length_map] at hc hx hc2 hy ⊢
  obtain ⟨lx, hlx⟩ : ∃ l, xs.length = l := ⟨_, rfl⟩
  obtain ⟨ly, hly⟩ : ∃ l, ys.length = l := ⟨_, rfl⟩
  have HX := hidden hlx
  have HY := hidden hly
  rw [hlx] at hc hx r1 ⊢
  rw [hly] at hc2 hy r2 ⊢
  clear hlx hly
  obtain ⟨n, hn⟩ : ∃ n, min lx ly = n := ⟨_, rfl⟩
  have hn1 : n ≤ lx := by omega
  have hn2 : n ≤ ly := by omega
  have hmk := mk_zer 22 5 (.int .u8 0) 1 Try.underlying22 info_u8 rfl (n : Int) n (by omega) (by omega) (by omega)
  have hB : Below w.heap.size w ((w.alloc (.cells (zer n (.int .u8 0)) 5)).alloc (.cells (zer n (.int .u8 0)) 5)).drew := (((Below.refl _ _).alloc (Nat.le_refl _) _).alloc (by simp) _).drew
  have hG1 : Blk ((w.alloc (.cells (zer n (.int .u8 0)) 5)).alloc (.cells (zer n (.int .u8 0)) 5)).drew w.heap.size 5 (List.replicate n (.int .u8 0)) := ((zer_blk w n (.int .u8 0) 5).alloc _).drew
  have hG2 : Blk ((w.alloc (.cells (zer n (.int .u8 0)) 5)).alloc (.cells (zer n (.int .u8 0)) 5)).drew (w.heap.size + 1) 5 (List.replicate n (.int .u8 0)) := by
    have := (zer_blk (w.alloc (.cells (zer n (.int .u8 0)) 5)) n (.int .u8 0) 5).drew
    simpa using this
  have hcase : (n = ly ∧ (ly : Int) < (lx : Int)) ∨ (n = lx ∧ ¬ (ly : Int) < (lx : Int)) := by omega
  clear hn
  rcases hcase with ⟨rfl, hlt⟩ | ⟨rfl, hlt⟩
  all_goals
    go_enter Try.func6, Try.ntmps6
    go_wp2
    go_region
  focus
    obtain ⟨W2, hW2⟩ : ∃ u : World, u = ((w.alloc (.cells (zer n (.int .u8 0)) 5)).alloc (.cells (zer n (.int .u8 0)) 5)).drew := ⟨_, rfl⟩
    rw [← hW2] at hB hG1 hG2 ⊢
    obtain ⟨gz, hz⟩ : ∃ g, g = w.heap.size + 1 := ⟨_, rfl⟩
    rw [← hz] at hG2 ⊢
    obtain ⟨gx, hx'⟩ : ∃ g, g = w.heap.size := ⟨_, rfl⟩
    rw [← hx'] at hG1 ⊢
    have hxz : gx ≠ gz := by omega
    have hgx : w.heap.size ≤ gx := by omega
    have hgz : w.heap.size ≤ gz := by omega
    have hGx := hG1
    have hGz := hG2
    clear hz hx' hW2 hmk hG1 hG2
  rotate_left
  focus
    obtain ⟨W2, hW2⟩ : ∃ u : World, u = ((w.alloc (.cells (zer n (.int .u8 0)) 5)).alloc (.cells (zer n (.int .u8 0)) 5)).drew := ⟨_, rfl⟩
    rw [← hW2] at hB hG1 hG2 ⊢
    obtain ⟨gx, hz⟩ : ∃ g, g = w.heap.size + 1 := ⟨_, rfl⟩
    rw [← hz] at hG2 ⊢
    obtain ⟨gz, hx'⟩ : ∃ g, g = w.heap.size := ⟨_, rfl⟩
    rw [← hx'] at hG1 ⊢
    have hxz : gx ≠ gz := by omega
    have hgx : w.heap.size ≤ gx := by omega
    have hgz : w.heap.size ≤ gz := by omega
    have hGx := hG2
    have hGz := hG1
    clear hz hx' hW2 hmk hG1 hG2
  rotate_left
  focus
    obtain ⟨W2, hW2⟩ : ∃ u : World, u = ((w.alloc (.cells (zer n (.int .u8 0)) 5)).alloc (.cells (zer n (.int .u8 0)) 5)).drew := ⟨_, rfl⟩
    rw [← hW2] at hB hG1 hG2 ⊢
    obtain ⟨gz, hz⟩ : ∃ g, g = w.heap.size + 1 := ⟨_, rfl⟩
    rw [← hz] at hG2 ⊢
    obtain ⟨gx, hx'⟩ : ∃ g, g = w.heap.size := ⟨_, rfl⟩
    rw [← hx'] at hG1 ⊢
    have hxz : gx ≠ gz := by omega
    have hgx : w.heap.size ≤ gx := by omega
    have hgz : w.heap.size ≤ gz := by omega
    have hGx := hG1
    have hGz := hG2
    clear hz hx' hW2 hmk hG1 hG2
  rotate_left
  focus
    obtain ⟨W2, hW2⟩ : ∃ u : World, u = ((w.alloc (.cells (zer n (.int .u8 0)) 5)).alloc (.cells (zer n (.int .u8 0)) 5)).drew := ⟨_, rfl⟩
    rw [← hW2] at hB hG1 hG2 ⊢
    obtain ⟨gx, hz⟩ : ∃ g, g = w.heap.size + 1 := ⟨_, rfl⟩
    rw [← hz] at hG2 ⊢
    obtain ⟨gz, hx'⟩ : ∃ g, g = w.heap.size := ⟨_, rfl⟩
    rw [← hx'] at hG1 ⊢
    have hxz : gx ≠ gz := by omega
    have hgx : w.heap.size ≤ gx := by omega
    have hgz : w.heap.size ≤ gz := by omega
    have hGx := hG2
    have hGz := hG1
    clear hz hx' hW2 hmk hG1 hG2
  rotate_left
  all_goals
    have hE : Hid (List.replicate n (Value.int .u8 0) = (List.replicate n (0 : UInt8)).map bV) := by show _ = _; simp [bV]
    rw [hE.out] at hGx hGz
    clear hE
    go_wp2
    go_loopw [8] (fun i wr => ∃ (j : Nat) (Z : List UInt8), j ≤ n ∧ i = .int .i64 j ∧ Hid (Z.length = n ∧ ∀ i, i < j → (Z.getD i 0).toNat = (xs.getD i 0).toNat ^^^ (ys.getD i 0).toNat) ∧ Blk wr gx 5 (Z.map bV) ∧ Blk wr gz 5 ((List.replicate n (0 : UInt8)).map bV) ∧ Below w.heap.size w wr) (fun i _ => n - (intOf i).toNat)
    case atStart => exact ⟨0, List.replicate n 0, by omega, rfl, ⟨by simp, fun i hi => by omega⟩, hGx, hGz, hB⟩
    case round =>
      obtain ⟨j, Z, hj, rfl, HZ, hX, hZ, hb⟩ := hrel
      clear hGx hGz hB
      by_cases hjn : j < n
      · have hjn' : (j : Int) < (n : Int) := by omega
        obtain ⟨-, -, -, hcell⟩ := (hx.below hb).at
        obtain ⟨b, off, rfl, hcl⟩ := hcell j 0 (by omega)
        obtain ⟨-, -, -, hcell2⟩ := (hy.below hb).at
        obtain ⟨b2, off2, rfl, hcl2⟩ := hcell2 j 0 (by omega)
        have c1 := hcl j (by omega)
        have c2 := hcl2 j (by omega)
        clear hcell hcl hcell2 hcl2
        obtain ⟨u, c3⟩ := hX.some j (by have := HZ.out.1; simp; omega)
        have f3 := hX.frozen j
        obtain ⟨p, hp⟩ : ∃ p, xs.getD j 0 = p := ⟨_, rfl⟩
        obtain ⟨q, hq⟩ : ∃ q, ys.getD j 0 = q := ⟨_, rfl⟩
        rw [hp] at c1
        rw [hq] at c2
        have HP := hidden hp
        have HQ := hidden hq
        clear hp hq
        obtain ⟨z, hz, hz2⟩ := xor_two p q
        have HZ2 := hidden hz2
        clear hz2
        go_wp2
        go_region
        go_wp2
        go_roundw
        case rel =>
          refine ⟨j + 1, Z.set j z, by omega, by go_num, ⟨by simpa using HZ.out.1, fun i hi => ?_⟩, ?_, hZ.set_ne hxz j _, ?_⟩
          · by_cases e : i = j
            · subst e
              rw [HP.out, HQ.out, ← HZ2.out]
              have := HZ.out.1
              simp [List.getD_eq_getElem?_getD, show i < Z.length by omega]
            · rw [← HZ.out.2 i (by omega), List.getD_eq_getElem?_getD, List.getElem?_set_ne (fun h => e h.symm), List.getD_eq_getElem?_getD]
          · rw [List.map_set]; exact hX.set j (bV z)
          · first | exact (hb.setCell (p := ⟨gx, j, none⟩) hgx _).drew | exact hb.drew.setCell (p := ⟨gx, j, none⟩) hgx _
        case measure => simp [intOf]; omega
      · have hjn' : ¬ (j : Int) < (n : Int) := by omega
        have E := hidden (crcN_xor (xs.take n) (ys.take n) Z (by have := HX.out; have := HY.out; simp; omega) (by have := HX.out; have := HZ.out.1; simp; omega) (fun i hi => by
          have h1 : i < n := by simp at hi; omega
          rw [HZ.out.2 i (by omega)]
          simp [List.getD_eq_getElem?_getD, h1]))
        have hlt : (xs.take n).length = n := by have := HX.out; simp; omega
        rw [hlt] at E
        clear hlt
        have hrX := hX.row n (by have := HZ.out.1; simp; omega) (by unfold maxLen; omega)
        have hrZ := hZ.row n (by simp) (by unfold maxLen; omega)
        simp only [List.length_map, List.length_replicate, HZ.out.1] at hrX hrZ
        have hxt := (hx.below hb).take n hn1
        have hyt := (hy.below hb).take n hn2
        rw [← List.map_take] at hxt hyt
        have b1 := crcN_lt Z
        have b2 := crcN_lt (xs.take n)
        have b3 := crcN_lt (ys.take n)
        have b4 := crcN_lt (List.replicate n 0)
        have C1 := hidden (fun w' (h : Ext wr w') => of_any _ _ w' (hrX.below h))
        have C2 := hidden (fun w' (h : Ext wr w') => of_any _ _ w' (hxt.below h))
        have C3 := hidden (fun w' (h : Ext wr w') => of_any _ _ w' (hyt.below h))
        have C4 := hidden (fun w' (h : Ext wr w') => of_any _ _ w' (hrZ.below h))
        clear hrX hrZ hxt hyt hX hZ HZ
        generalize crcN Z = s1 at *
        generalize crcN (xs.take n) = s2 at *
        generalize crcN (ys.take n) = s3 at *
        generalize crcN (List.replicate n 0) = s4 at *
        have e1 := u16_xor_nat s2 s3 b2 b3
        have e2 := u16_xor_nat (s2 ^^^ s3) s4 (xor_lt16 b2 b3) b4
        rw [← E.out] at e2
        clear E
        generalize s2 ^^^ s3 = s5 at *
        have E3 : ((s1 : Int) == (s1 : Int)) = true := by simp
        have hb' := hb.drew
        have x0 := below_drewn0 wr.heap.size wr 1
        have hk1 : (n : Int) ≤ (cap : Int) := by omega
        have hk2 : (n : Int) ≤ (cap2 : Int) := by omega
        go_wp2
        refine wp_region_pi [(0, true), (2, true), (3, true), (4, true), (6, true), (7, true), (8, true), (11, true), (1, false), (5, false), (9, false), (10, true), (12, false), (13, true), (14, true), (15, true), (16, false), (17, true), (18, true)] (by kernel_rfl) (by kernel_rfl) (by kernel_rfl) (fun _ _ _ d _ h => by cases d <;> exact h) ?_
        have x2 := Ext.refl wr.drew
        iterate 3 (refine pi_pure x2 rfl (by kernel_rfl) (fun w' => by go_simp; with_reducible rfl) ?_; simp only [Act.put, List.setIfInBounds_toArray, List.set_cons_zero, List.set_cons_succ])
        refine pi_pure (v := .slice a n cap) x2 rfl (by kernel_rfl) (fun w' => by go_simp) ?_
        simp only [Act.put, List.setIfInBounds_toArray, List.set_cons_zero, List.set_cons_succ]
        iterate 2 (refine pi_pure x2 rfl (by kernel_rfl) (fun w' => by go_simp; with_reducible rfl) ?_; simp only [Act.put, List.setIfInBounds_toArray, List.set_cons_zero, List.set_cons_succ])
        refine pi_pure (v := .slice a2 n cap2) x2 rfl (by kernel_rfl) (fun w' => by go_simp) ?_
        simp only [Act.put, List.setIfInBounds_toArray, List.set_cons_zero, List.set_cons_succ]
        iterate 1 (refine pi_pure x2 rfl (by kernel_rfl) (fun w' => by go_simp; with_reducible rfl) ?_; simp only [Act.put, List.setIfInBounds_toArray, List.set_cons_zero, List.set_cons_succ])
        refine pi_move rfl (by kernel_rfl) (fun K hK => ?_)
        go_wp2_with fail
        refine (C1.out _ x0).mono ?_
        rintro e w3 ⟨rfl, rfl⟩
        go_simp
        refine hK.out _ _ x2 ?_
        clear K hK C1
        try simp only [Act.put, List.setIfInBounds_toArray, List.set_cons_zero, List.set_cons_succ]
        refine pi_move rfl (by kernel_rfl) (fun K hK => ?_)
        go_wp2_with fail
        refine (C2.out _ x0).mono ?_
        rintro e w3 ⟨rfl, rfl⟩
        go_simp
        refine hK.out _ _ x2 ?_
        clear K hK C2
        try simp only [Act.put, List.setIfInBounds_toArray, List.set_cons_zero, List.set_cons_succ]
        refine pi_move rfl (by kernel_rfl) (fun K hK => ?_)
        go_wp2_with fail
        refine (C3.out _ x0).mono ?_
        rintro e w3 ⟨rfl, rfl⟩
        go_simp
        refine hK.out _ _ x2 ?_
        clear K hK C3
        try simp only [Act.put, List.setIfInBounds_toArray, List.set_cons_zero, List.set_cons_succ]
        iterate 1 (refine pi_pure x2 rfl (by kernel_rfl) (fun w' => by go_simp; with_reducible rfl) ?_; simp only [Act.put, List.setIfInBounds_toArray, List.set_cons_zero, List.set_cons_succ])
        refine pi_move rfl (by kernel_rfl) (fun K hK => ?_)
        go_wp2_with fail
        refine (C4.out _ x0).mono ?_
        rintro e w3 ⟨rfl, rfl⟩
        go_simp
        refine hK.out _ _ x2 ?_
        clear K hK C4
        try simp only [Act.put, List.setIfInBounds_toArray, List.set_cons_zero, List.set_cons_succ]
        iterate 3 (refine pi_pure x2 rfl (by kernel_rfl) (fun w' => by go_simp; with_reducible rfl) ?_; simp only [Act.put, List.setIfInBounds_toArray, List.set_cons_zero, List.set_cons_succ])
        refine pi_move rfl (by kernel_rfl) (fun K hK => ?_)
        go_wp2_with fail
        refine (known2_any _).mono ?_
        rintro e w6 ⟨rfl, hb6⟩
        have x6 := x2.trans hb6
        have hb7 := below_then hb' hb6
        go_simp
        refine hK.out _ _ x6 ?_
        clear K hK hb6
        try simp only [Act.put, List.setIfInBounds_toArray, List.set_cons_zero, List.set_cons_succ]
        iterate 2 (refine pi_pure x6 rfl (by kernel_rfl) (fun w' => by go_simp; with_reducible rfl) ?_; simp only [Act.put, List.setIfInBounds_toArray, List.set_cons_zero, List.set_cons_succ])
        refine pi_nil ?_
        go_wp2
        go_ret
        exact ⟨rfl, hb7⟩

end Go.Proofs.Ytkmpoefjgaeopaa
