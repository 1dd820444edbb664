/- burgagelaw9.DeviceMasks. -/
import Derived.Test.YtdihcdphgiaepaaZZ49
namespace Go.Proofs.Ytdihcdphgiaepaa
open Go.RowKit
theorem bit16 (x : UInt16) (k : Nat) : bits .and .u16 ((x.toNat : Int) / 2 ^ k) 1 = ((x.toNat / 2 ^ k % 2 : Nat) : Int) := by
 have e : (x.toNat : Int) / 2 ^ k = ((x.toNat / 2 ^ k : Nat) : Int) := by push_cast; rfl
 rw [e]
 show IntKind.u16.wrap (((BitVec.ofInt 16 ((x.toNat / 2 ^ k : Nat) : Int) &&& BitVec.ofInt 16 1).toNat : Nat) : Int) = _
 rw [BitVec.ofInt_natCast, BitVec.toNat_and, BitVec.toNat_ofNat, show (BitVec.ofInt 16 1).toNat = 1 from rfl, Nat.and_one_is_mod, IntKind.wrap_u16]
 omega
theorem mask_bit (v m o : UInt16) (k : Nat) (hk : k < 16) : (maskW v m o).toNat / 2 ^ k % 2 = if m.toNat / 2 ^ k % 2 = 0 then o.toNat / 2 ^ k % 2 else v.toNat / 2 ^ k % 2 := by
 have t : ∀ x : UInt16, x.toNat / 2 ^ k % 2 = (x.toBitVec.getLsbD k).toNat := by
  intro x
  rw [BitVec.getLsbD, Nat.testBit_eq_decide_div_mod_eq]
  show x.toNat / 2 ^ k % 2 = (decide (x.toNat / 2 ^ k % 2 = 1)).toNat
  by_cases h : x.toNat / 2 ^ k % 2 = 1
  ·
   rw [h]; rfl
  ·
   rw [decide_eq_false h]; show _ = 0; omega
 have g : (maskW v m o).toBitVec.getLsbD k = ((v.toBitVec.getLsbD k && m.toBitVec.getLsbD k) || (o.toBitVec.getLsbD k && !m.toBitVec.getLsbD k)) := by
  simp [maskW, UInt16.toBitVec_or, UInt16.toBitVec_and, UInt16.toBitVec_not, hk]
 rw [t, t, t, t, g]
 cases v.toBitVec.getLsbD k <;> cases m.toBitVec.getLsbD k <;> cases o.toBitVec.getLsbD k <;> rfl
set_option maxRecDepth 100000 in
set_option maxHeartbeats 4000000 in
theorem masks9 (v m o : UInt16) (w : World) : Calls Try.prog 4 #[wV v, wV m, wV o] w fun e w' => e = .returned (.bool true) ∧ Below w.heap.size w w' := by
 have BW := Below.refl w.heap.size w
 skip
 go_enter Try.func4, Try.ntmps4
 go_wp2_with fail
 refine (vnew_any 3 3 w rfl (by omega)).mono ?_
 rintro e u1 ⟨g, gs, lo, hi, rfl, D, hg1, hg2, E⟩
 have HG : Hid (w.heap.size ≤ lo ∧ hi ≤ g ∧ w.heap.size ≤ g) := ⟨by have := BW.size; omega, hg2, by have := BW.size; have := D.sto.me; have h1 := this.1; have h2 := this.2; omega⟩
 clear hg1 hg2
 replace BW := below_then BW E
 clear E
 go_wp2_with fail
 have E := (Below.refl u1.heap.size u1).alloc (Nat.le_refl _) (.cells #[wV v] 24)
 have RI : RowF (Gd g lo hi) (u1.alloc (.cells #[wV v] 24)) (.slice (some ⟨u1.heap.size, 0, none⟩) 1 1) [wV v] := ⟨row_new u1 [wV v] 24 1 rfl (by unfold maxLen; omega), fun _ => nw_off (NwV.mk _ _ _ _ _ (Nat.le_refl _)) D.blk.lt D.sto.top⟩
 have s1 := hidden (World.size_alloc u1 (.cells #[wV v] 24))
 replace D := D.ext E
 replace BW := below_then BW E
 clear E
 generalize u1.heap.size = q1 at *
 generalize u1.alloc (.cells #[wV v] 24) = u2 at *
 clear s1
 obtain ⟨X0, hX0⟩ : ∃ X, doD 3 ⟨Cs.zero 3, 0, 0, 0⟩ ⟨6, 2, 0, 0, 0, [], [v], 0, 0⟩ = X := ⟨_, rfl⟩
 refine (vdo_any g gs lo hi 3 ⟨Cs.zero 3, 0, 0, 0⟩ ⟨6, 2, 0, 0, 0, [], [v], 0, 0⟩ _ u2 D ⟨_, _, rfl, RowF.nil _ _, RI⟩ ⟨by simp, by simp, by simp, by simp⟩ ⟨by simp, by simp⟩).mono ?_
 rintro e u3 ⟨v', rfl, NR, D2, KK⟩
 rw [hX0] at NR D2
 have HX0 := hidden hX0
 clear hX0
 obtain ⟨vb, vv, vd, rfl, ⟨NB0, NV0, ND0⟩, nb, nv, nd⟩ := NR
 have hg := D.blk.lt
 have hh := D.sto.top
 clear D
 have D := D2
 clear D2
 replace BW := bw_gd BW KK HG.out
 replace RI := RI.kp KK (fun _ _ h => h)
 clear KK
 have NB0 : RowF (Gd g lo hi) u3 _ _ := ⟨NB0, fun _ => nw_off nb hg hh⟩
 have NV0 : RowF (Gd g lo hi) u3 _ _ := ⟨NV0, fun _ => nw_off nv hg hh⟩
 have ND0 : RowF (Gd g lo hi) u3 _ _ := ⟨ND0, fun _ => nw_off nd hg hh⟩
 clear nb nv nd hg hh
 obtain ⟨ab0, cb0, rfl, -⟩ := id NB0.1
 obtain ⟨av0, cv0, rfl, -⟩ := id NV0.1
 obtain ⟨ad0, cd0, rfl, -⟩ := id ND0.1
 obtain rfl : ((⟨6, 0, 2, 0, 0, [], [v], 0, 0, []⟩ : Rp), (⟨⟨List.replicate 3 false, List.replicate 3 false, List.replicate 3 0, [0, 0, v]⟩, 1, 0, 0⟩ : Dv)) = X0 := by rw [← HX0.out]; kernel_rfl
 clear HX0
 simp only at D
 simp only [List.map_nil, List.map_cons, List.length_nil, List.length_cons] at NB0 NV0 ND0 ⊢
 clear NB0
 clear NV0
 clear ND0
 clear RI
 go_wp2_with fail
 obtain ⟨X1, hX1⟩ : ∃ X, doD 3 ⟨⟨List.replicate 3 false, List.replicate 3 false, List.replicate 3 0, [0, 0, v]⟩, 1, 0, 0⟩ ⟨22, 2, 0, 0, 0, [], [], m, o⟩ = X := ⟨_, rfl⟩
 refine (vdo_any g gs lo hi 3 ⟨⟨List.replicate 3 false, List.replicate 3 false, List.replicate 3 0, [0, 0, v]⟩, 1, 0, 0⟩ ⟨22, 2, 0, 0, 0, [], [], m, o⟩ _ u3 D ⟨_, _, rfl, RowF.nil _ _, RowF.nil _ _⟩ ⟨by simp, by simp, by simp, by simp⟩ ⟨by simp, by simp⟩).mono ?_
 rintro e u4 ⟨v', rfl, NR, D2, KK⟩
 rw [hX1] at NR D2
 have HX1 := hidden hX1
 clear hX1
 obtain ⟨vb, vv, vd, rfl, ⟨NB1, NV1, ND1⟩, nb, nv, nd⟩ := NR
 have hg := D.blk.lt
 have hh := D.sto.top
 clear D
 have D := D2
 clear D2
 replace BW := bw_gd BW KK HG.out
 clear KK
 have NB1 : RowF (Gd g lo hi) u4 _ _ := ⟨NB1, fun _ => nw_off nb hg hh⟩
 have NV1 : RowF (Gd g lo hi) u4 _ _ := ⟨NV1, fun _ => nw_off nv hg hh⟩
 have ND1 : RowF (Gd g lo hi) u4 _ _ := ⟨ND1, fun _ => nw_off nd hg hh⟩
 clear nb nv nd hg hh
 obtain ⟨ab1, cb1, rfl, -⟩ := id NB1.1
 obtain ⟨av1, cv1, rfl, -⟩ := id NV1.1
 obtain ⟨ad1, cd1, rfl, -⟩ := id ND1.1
 obtain rfl : ((⟨22, 0, 2, 0, 0, [], [], m, o, []⟩ : Rp), (⟨⟨List.replicate 3 false, List.replicate 3 false, List.replicate 3 0, [0, 0, (maskW v m o)]⟩, 2, 0, 0⟩ : Dv)) = X1 := by rw [← HX1.out]; kernel_rfl
 clear HX1
 simp only at D
 simp only [List.map_nil, List.length_nil] at NB1 NV1 ND1 ⊢
 clear NB1
 clear NV1
 clear ND1
 go_wp2_with fail
 have E := (Below.refl u4.heap.size u4).alloc (Nat.le_refl _) (.cells #[.int .i64 22, .int .i64 0, .int .i64 2, .int .i64 0, .int .i64 0, .slice ab1 0 cb1, .slice av1 0 cv1, wV m, wV o, .slice ad1 0 cd1] tP)
 have BR := Blk.new u4 tP [.int .i64 22, .int .i64 0, .int .i64 2, .int .i64 0, .int .i64 0, .slice ab1 0 cb1, .slice av1 0 cv1, wV m, wV o, .slice ad1 0 cd1]
 have BRn : Hid (¬ Gd g lo hi u4.heap.size) := gd_no D.blk.lt D.sto.top
 have s1 := hidden (World.size_alloc u4 (.cells #[.int .i64 22, .int .i64 0, .int .i64 2, .int .i64 0, .int .i64 0, .slice ab1 0 cb1, .slice av1 0 cv1, wV m, wV o, .slice ad1 0 cd1] tP))
 replace D := D.ext E
 replace BW := below_then BW E
 clear E
 generalize u4.heap.size = q2 at *
 generalize u4.alloc (.cells #[.int .i64 22, .int .i64 0, .int .i64 2, .int .i64 0, .int .i64 0, .slice ab1 0 cb1, .slice av1 0 cv1, wV m, wV o, .slice ad1 0 cd1] tP) = u5 at *
 clear s1
 obtain ⟨X2, hX2⟩ : ∃ X, doD 3 ⟨⟨List.replicate 3 false, List.replicate 3 false, List.replicate 3 0, [0, 0, (maskW v m o)]⟩, 2, 0, 0⟩ ⟨3, 2, 1, 0, 0, [], [], 0, 0⟩ = X := ⟨_, rfl⟩
 refine (vdo_any g gs lo hi 3 ⟨⟨List.replicate 3 false, List.replicate 3 false, List.replicate 3 0, [0, 0, (maskW v m o)]⟩, 2, 0, 0⟩ ⟨3, 2, 1, 0, 0, [], [], 0, 0⟩ _ u5 D ⟨_, _, rfl, RowF.nil _ _, RowF.nil _ _⟩ ⟨by simp, by simp, by simp, by simp⟩ ⟨by simp, by simp⟩).mono ?_
 rintro e u6 ⟨v', rfl, NR, D2, KK⟩
 rw [hX2] at NR D2
 have HX2 := hidden hX2
 clear hX2
 obtain ⟨vb, vv, vd, rfl, ⟨NB2, NV2, ND2⟩, nb, nv, nd⟩ := NR
 have hg := D.blk.lt
 have hh := D.sto.top
 clear D
 have D := D2
 clear D2
 replace BW := bw_gd BW KK HG.out
 replace BR := BR.kp KK BRn.out
 clear KK
 have NB2 : RowF (Gd g lo hi) u6 _ _ := ⟨NB2, fun _ => nw_off nb hg hh⟩
 have NV2 : RowF (Gd g lo hi) u6 _ _ := ⟨NV2, fun _ => nw_off nv hg hh⟩
 have ND2 : RowF (Gd g lo hi) u6 _ _ := ⟨ND2, fun _ => nw_off nd hg hh⟩
 clear nb nv nd hg hh
 obtain ⟨ab2, cb2, rfl, -⟩ := id NB2.1
 obtain ⟨av2, cv2, rfl, -⟩ := id NV2.1
 obtain ⟨ad2, cd2, rfl, -⟩ := id ND2.1
 obtain rfl : ((⟨3, 0, 0, 0, 0, [], [maskW v m o], 0, 0, []⟩ : Rp), (⟨⟨List.replicate 3 false, List.replicate 3 false, List.replicate 3 0, [0, 0, (maskW v m o)]⟩, 3, 0, 0⟩ : Dv)) = X2 := by rw [← HX2.out]; kernel_rfl
 clear HX2
 simp only at D
 simp only [List.map_nil, List.map_cons, List.length_nil, List.length_cons] at NB2 NV2 ND2 ⊢
 clear NB2
 clear ND2
 have E := (Below.refl u6.heap.size u6).alloc (Nat.le_refl _) (.cells #[.int .i64 3, .int .i64 0, .int .i64 0, .int .i64 0, .int .i64 0, .slice ab2 0 cb2, .slice av2 1 cv2, .int .u16 0, .int .u16 0, .slice ad2 0 cd2] tP)
 have BX := Blk.new u6 tP [.int .i64 3, .int .i64 0, .int .i64 0, .int .i64 0, .int .i64 0, .slice ab2 0 cb2, .slice av2 1 cv2, .int .u16 0, .int .u16 0, .slice ad2 0 cd2]
 have BXn : Hid (¬ Gd g lo hi u6.heap.size) := gd_no D.blk.lt D.sto.top
 replace D := D.ext E
 replace BW := below_then BW E
 replace BR := BR.below E BR.lt
 replace NV2 := NV2.ext E
 clear E
 have x0 : (u6.alloc (.cells #[.int .i64 3, .int .i64 0, .int .i64 0, .int .i64 0, .int .i64 0, .slice ab2 0 cb2, .slice av2 1 cv2, .int .u16 0, .int .u16 0, .slice ad2 0 cd2] tP)).cell? ⟨q2, 1, none⟩ = some (.int .i64 0) := BR.cell 1
 have x1 : (u6.alloc (.cells #[.int .i64 3, .int .i64 0, .int .i64 0, .int .i64 0, .int .i64 0, .slice ab2 0 cb2, .slice av2 1 cv2, .int .u16 0, .int .u16 0, .slice ad2 0 cd2] tP)).cell? ⟨q2, 7, none⟩ = some (wV m) := BR.cell 7
 have x2 : (u6.alloc (.cells #[.int .i64 3, .int .i64 0, .int .i64 0, .int .i64 0, .int .i64 0, .slice ab2 0 cb2, .slice av2 1 cv2, .int .u16 0, .int .u16 0, .slice ad2 0 cd2] tP)).cell? ⟨q2, 8, none⟩ = some (wV o) := BR.cell 8
 have x3 : (u6.alloc (.cells #[.int .i64 3, .int .i64 0, .int .i64 0, .int .i64 0, .int .i64 0, .slice ab2 0 cb2, .slice av2 1 cv2, .int .u16 0, .int .u16 0, .slice ad2 0 cd2] tP)).cell? ⟨q2, 2, none⟩ = some (.int .i64 2) := BR.cell 2
 have y6 : (u6.alloc (.cells #[.int .i64 3, .int .i64 0, .int .i64 0, .int .i64 0, .int .i64 0, .slice ab2 0 cb2, .slice av2 1 cv2, .int .u16 0, .int .u16 0, .slice ad2 0 cd2] tP)).cell? ⟨u6.heap.size, 6, none⟩ = some (.slice av2 1 cv2) := BX.cell 6
 go_upto_region 9 with fail
 clear x0 x1 x2 x3 y6
 generalize u6.heap.size = qx at *
 generalize (u6.alloc (.cells #[.int .i64 3, .int .i64 0, .int .i64 0, .int .i64 0, .int .i64 0, .slice ab2 0 cb2, .slice av2 1 cv2, .int .u16 0, .int .u16 0, .slice ad2 0 cd2] tP)) = wl at *
 have y6 : wl.cell? ⟨qx, 6, none⟩ = some (.slice av2 1 cv2) := BX.cell 6
 obtain ⟨bz, oz, cz, ez, zc⟩ := row_one NV2.1
 simp only [Value.slice.injEq] at ez
 obtain ⟨rfl, -, rfl⟩ := ez
 have BWH := hidden BW
 clear BR BRn BX BXn NV2 D BW
 go_wp2_with fail
 go_loopw [10, 11] (fun i _ wr => wr = wl ∧ ∃ k : Nat, k ≤ 16 ∧ i = .int .u64 (k : Nat)) (fun i _ _ => 16 - (intOf i).toNat)
 case atStart => exact ⟨rfl, 0, by omega, rfl⟩
 case round =>
  obtain ⟨rfl, k, hk, rfl⟩ := hrel
  by_cases hlt : k < 16
  ·
   have hlt' : (k : Int) < 16 := by omega
   have mb := mask_bit v m o k hlt
   have em0 := bit16 m k
   have eo0 := bit16 o k
   have ev0 := bit16 v k
   have ey := bit16 (maskW v m o) k
   rw [mb] at ey
   clear mb
   by_cases hb : m.toNat / 2 ^ k % 2 = 0
   ·
    rw [if_pos hb] at ey
    rw [hb] at em0
    generalize ((o.toNat / 2 ^ k % 2 : Nat) : Int) = c at *
    have em : (bits BinOp.and IntKind.u16 ((m.toNat : Int) / 2 ^ k) 1 == 0) = true := by rw [em0]; rfl
    clear em0 ev0 hb
    go_wp2_with fail
    exact ⟨⟨trivial, k + 1, hlt, by simp⟩, by simp only [intOf]; omega⟩
   ·
    rw [if_neg hb] at ey
    rw [show m.toNat / 2 ^ k % 2 = 1 by omega] at em0
    generalize ((v.toNat / 2 ^ k % 2 : Nat) : Int) = c at *
    have em : (bits BinOp.and IntKind.u16 ((m.toNat : Int) / 2 ^ k) 1 == 0) = false := by rw [em0]; rfl
    clear em0 eo0 hb
    go_wp2_with fail
    exact ⟨⟨trivial, k + 1, hlt, by simp⟩, by simp only [intOf]; omega⟩
  ·
   have hlt' : ¬ (k : Int) < 16 := by omega
   go_wp2_with fail
   refine (known9 wr).mono ?_
   rintro e wz ⟨rfl, E⟩
   have E2 := hidden (below_then BWH.out E)
   clear E
   go_wp2
   go_ret
   exact ⟨rfl, E2.out⟩
theorem masks_law (a b c : Int) (w : World) (ha : 0 ≤ a ∧ a ≤ 65535) (hb : 0 ≤ b ∧ b ≤ 65535) (hc : 0 ≤ c ∧ c ≤ 65535) : Calls Try.prog 4 #[.int .u16 a, .int .u16 b, .int .u16 c] w fun e w' => e = .returned (.bool true) ∧ Below w.heap.size w w' := by
 have e : ∀ x : Int, 0 ≤ x ∧ x ≤ 65535 → Value.int .u16 x = wV (wOf x) := fun x hx => by rw [wV, wOf_nat, show x % 65536 = x by omega]
 rw [e a ha, e b hb, e c hc]
 exact masks9 _ _ _ w
end Go.Proofs.Ytdihcdphgiaepaa
