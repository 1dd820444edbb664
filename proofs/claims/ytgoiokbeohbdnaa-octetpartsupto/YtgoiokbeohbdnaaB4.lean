/- OctetParts: bytes of two rows of words are those of both; bits by whole bytes likewise. The walk. -/
import Derived.Test.YtgoiokbeohbdnaaL1
import Derived.Test.YtgoiokbeohbdnaaL2
namespace Go.Proofs.Ytgoiokbeohbdnaa
open Go.RowKit

theorem cat_bytes (x y z : List UInt8) (h : z = x ++ y) : ((⟨x.toArray⟩ : ByteArray) ++ (⟨y.toArray⟩ : ByteArray)) = ⟨z.toArray⟩ := by
  subst h
  apply ByteArray.ext
  simp

set_option maxRecDepth 100000 in
set_option maxHeartbeats 4000000 in
theorem parts_walk (va vb vl vm : Value) (a b : List UInt16) (l m : List Bool) (w : World)
    (ha : Row w va (a.map wV)) (hb : Row w vb (b.map wV)) (hl : Row w vl (l.map Value.bool)) (hm : Row w vm (m.map Value.bool)) (r1 : a.length ≤ 1048576) (r2 : b.length ≤ 1048576) (r3 : l.length ≤ 1048576) (r4 : m.length ≤ 1048576) :
    Calls Try.prog 6 #[va, vb, vl, vm] w fun e w' => e = .returned (.bool true) ∧ Below w.heap.size w w' := by
  obtain ⟨a2, cap2, rfl, -⟩ := id hl
  obtain ⟨-, hcp2, hm2, -⟩ := hl.at
  simp only [List.length_map] at hl ⊢ hcp2
  unfold maxLen at hm2
  have hx : Row w (.slice a2 (l.length / 8 * 8) cap2) ((l.take (l.length / 8 * 8)).map Value.bool) := by rw [List.map_take]; exact hl.take _ (by omega)
  have hx8 : Hid ((l.take (l.length / 8 * 8)).length % 8 = 0) := by show _ = _; simp; omega
  have hxl : (l.take (l.length / 8 * 8)).length ≤ 1048576 := by simp; omega
  generalize l.take (l.length / 8 * 8) = x at *
  have oneW : ∀ c : List UInt16, ∀ u ∈ c.map wV, u.oneCell' = true := by intro c u hu; simp at hu; obtain ⟨y, -, rfl⟩ := hu; rfl
  have oneB : ∀ c : List Bool, ∀ u ∈ c.map Value.bool, u.oneCell' = true := by intro c u hu; simp only [List.mem_map] at hu; obtain ⟨y, -, rfl⟩ := hu; rfl
  go_enter Try.func6, Try.ntmps6
  go_wp2
  refine wp_region_pi [(1, true), (3, true), (7, true), (10, true), (0, false), (2, false), (4, false), (5, false), (6, true), (8, false), (9, true), (11, false), (12, true), (13, true), (14, true), (15, true), (17, true), (19, true), (23, true), (26, true), (16, false), (18, false), (20, false), (21, false), (22, true), (24, false), (25, true), (27, false), (28, true), (29, true), (30, true), (31, true), (32, true), (33, false), (34, true), (35, true)] (by kernel_rfl) (by kernel_rfl) (by kernel_rfl) (fun _ _ _ d _ h => by cases d <;> exact h) ?_
  replace ha := ha.drew
  replace hb := hb.drew
  replace hx := hx.drew
  replace hm := hm.drew
  have B0 : Below w.heap.size w w.drew := (Below.refl _ _).drew
  have x0 := Ext.refl w.drew
  generalize w.drew = w0 at *
  iterate 4 (refine pi_pure x0 rfl (by kernel_rfl) (fun w' => by go_simp; with_reducible rfl) ?_; try simp only [Act.put, List.setIfInBounds_toArray, List.set_cons_zero, List.set_cons_succ])
  refine pi_move rfl (by kernel_rfl) (fun K hK => ?_)
  go_simp
  have q1 : Below w0.heap.size w0 (w0.alloc (.cells #[] 27)) := (Below.refl _ _).alloc (Nat.le_refl _) _
  have oo1 := World.ownsRow_made (base := w0.heap.size) (e := 27) (size := 1) w0 #[] 0 (Nat.le_refl _) (Nat.zero_le _) (by simp)
  refine hK.out _ _ (x0.trans q1) ?_
  clear K hK
  try simp only [Act.put, List.setIfInBounds_toArray, List.set_cons_zero, List.set_cons_succ]
  refine pi_move rfl (by kernel_rfl) (fun K hK => ?_)
  refine wp_app (.tmp 16) (.tmp 17) 23 rfl w0.heap.size 27 (.int .u16 0) 2 Try.underlying23 info_u16 rfl rfl oo1 rfl (ha.below q1) (oneW a) (by simp [maxLen]; omega) (by simp; omega) (by simp) ?_
  intro va1 wa1 oa1 ga1
  have qa1 : Below w0.heap.size w0 wa1 := q1.grown ga1 (by simp) (fun k hk => (oo1.lt k (by exact hk)).1)
  refine hK.out _ _ (x0.trans qa1) ?_
  clear K hK
  try simp only [Act.put, List.setIfInBounds_toArray, List.set_cons_zero, List.set_cons_succ]
  refine pi_move rfl (by kernel_rfl) (fun K hK => ?_)
  refine wp_app (.tmp 18) (.tmp 19) 23 rfl w0.heap.size 27 (.int .u16 0) 2 Try.underlying23 info_u16 rfl rfl oa1 rfl (hb.below qa1) (oneW b) (by simp [maxLen]; omega) (by simp; omega) qa1.size ?_
  intro vc1 wc1 oc1 gc1
  have qc1 : Below w0.heap.size w0 wc1 := qa1.grown gc1 qa1.size (fun k hk => (oa1.lt k hk).1)
  have xc1 := x0.trans qc1
  refine hK.out _ _ xc1 ?_
  clear K hK
  try simp only [Act.put, List.setIfInBounds_toArray, List.set_cons_zero, List.set_cons_succ]
  have rc1 := Row.of_owns oc1
  rw [List.nil_append, ← List.map_append] at rc1
  clear q1 oo1 oa1 ga1 oc1 gc1 qa1
  refine pi_move rfl (by kernel_rfl) (fun K hK => ?_)
  go_wp2_with fail
  refine (bytes_any _ (a ++ b) _ rc1 (by simp; omega)).mono ?_
  rintro e w10 ⟨v10, rfl, hr10, hb10⟩
  go_simp
  have e10 : Below w0.heap.size w0 w10 := below_then qc1 hb10
  refine hK.out _ _ (xc1.trans hb10) ?_
  clear K hK
  try simp only [Act.put, List.setIfInBounds_toArray, List.set_cons_zero, List.set_cons_succ]
  have hc10 := fun w' (hx : Ext w10 w') => conv_row (P := Try.prog) (hr10.below hx) 24 9 5 Try.underlying24 Try.underlying5 Try.underlying9
  refine pi_read (xc1.trans hb10) rfl (by kernel_rfl) (fun w' hx => by have h := hc10 w' hx; go_simp; with_reducible rfl) ?_
  try simp only [Act.put, List.setIfInBounds_toArray, List.set_cons_zero, List.set_cons_succ]
  clear hc10 hr10
  refine pi_move rfl (by kernel_rfl) (fun K hK => ?_)
  go_wp2_with fail
  refine (bytes_any _ (a) _ (ha.below e10) (by omega)).mono ?_
  rintro e w11 ⟨v11, rfl, hr11, hb11⟩
  go_simp
  have e11 : Below w0.heap.size w0 w11 := below_then e10 hb11
  refine hK.out _ _ hb11 ?_
  clear K hK
  try simp only [Act.put, List.setIfInBounds_toArray, List.set_cons_zero, List.set_cons_succ]
  have hc11 := fun w' (hx : Ext w11 w') => conv_row (P := Try.prog) (hr11.below hx) 24 9 5 Try.underlying24 Try.underlying5 Try.underlying9
  refine pi_read hb11 rfl (by kernel_rfl) (fun w' hx => by have h := hc11 w' hx; go_simp; with_reducible rfl) ?_
  try simp only [Act.put, List.setIfInBounds_toArray, List.set_cons_zero, List.set_cons_succ]
  clear hc11 hr11
  refine pi_move rfl (by kernel_rfl) (fun K hK => ?_)
  go_wp2_with fail
  refine (bytes_any _ (b) _ (hb.below e11) (by omega)).mono ?_
  rintro e w12 ⟨v12, rfl, hr12, hb12⟩
  go_simp
  have e12 : Below w0.heap.size w0 w12 := below_then e11 hb12
  refine hK.out _ _ hb12 ?_
  clear K hK
  try simp only [Act.put, List.setIfInBounds_toArray, List.set_cons_zero, List.set_cons_succ]
  have hc12 := fun w' (hx : Ext w12 w') => conv_row (P := Try.prog) (hr12.below hx) 24 9 5 Try.underlying24 Try.underlying5 Try.underlying9
  refine pi_read hb12 rfl (by kernel_rfl) (fun w' hx => by have h := hc12 w' hx; go_simp; with_reducible rfl) ?_
  try simp only [Act.put, List.setIfInBounds_toArray, List.set_cons_zero, List.set_cons_succ]
  clear hc12 hr12
  have xS := Ext.refl w12
  obtain ⟨S1, hS1⟩ : ∃ S : ByteArray, (⟨(bytesL (a ++ b)).toArray⟩ : ByteArray) = S := ⟨_, rfl⟩
  obtain ⟨S2, hS2⟩ : ∃ S : ByteArray, (⟨(bytesL a).toArray⟩ : ByteArray) = S := ⟨_, rfl⟩
  obtain ⟨S3, hS3⟩ : ∃ S : ByteArray, (⟨(bytesL b).toArray⟩ : ByteArray) = S := ⟨_, rfl⟩
  have hadd1 : S2 ++ S3 = S1 := by rw [← hS1, ← hS2, ← hS3]; exact cat_bytes _ _ _ (bytesL_append a b)
  have hle1 : ¬ 9223372036854775807 < S2.size + S3.size := by
    have e2 : S2.size = (bytesL a).length := by rw [← hS2]; rfl
    have e3 : S3.size = (bytesL b).length := by rw [← hS3]; rfl
    rw [e2, e3, bytesL_len, bytesL_len]; omega
  rw [hS1, hS2, hS3]
  clear hS1 hS2 hS3
  iterate 7 (refine pi_pure xS rfl (by kernel_rfl) (fun w' => by go_simp; with_reducible rfl) ?_; try simp only [Act.put, List.setIfInBounds_toArray, List.set_cons_zero, List.set_cons_succ])
  clear hadd1 hle1
  replace hx := hx.below e12
  replace hm := hm.below e12
  replace B0 := below_then B0 e12
  clear e12 e11 e10 hb12 hb11 hb10 qc1 xc1 x0 ha hb
  generalize w12 = wS at *
  refine pi_move rfl (by kernel_rfl) (fun K hK => ?_)
  go_simp
  have q2 : Below wS.heap.size wS (wS.alloc (.cells #[] 4)) := (Below.refl _ _).alloc (Nat.le_refl _) _
  have oo2 := World.ownsRow_made (base := wS.heap.size) (e := 4) (size := 1) wS #[] 0 (Nat.le_refl _) (Nat.zero_le _) (by simp)
  refine hK.out _ _ (xS.trans q2) ?_
  clear K hK
  try simp only [Act.put, List.setIfInBounds_toArray, List.set_cons_zero, List.set_cons_succ]
  refine pi_move rfl (by kernel_rfl) (fun K hK => ?_)
  refine wp_app (.tmp 32) (.tmp 33) 22 rfl wS.heap.size 4 (.bool false) 1 Try.underlying22 info_bool rfl rfl oo2 rfl (hx.below q2) (oneB x) (by simp [maxLen]; omega) (by simp; omega) (by simp) ?_
  intro va2 wa2 oa2 ga2
  have qa2 : Below wS.heap.size wS wa2 := q2.grown ga2 (by simp) (fun k hk => (oo2.lt k (by exact hk)).1)
  refine hK.out _ _ (xS.trans qa2) ?_
  clear K hK
  try simp only [Act.put, List.setIfInBounds_toArray, List.set_cons_zero, List.set_cons_succ]
  refine pi_move rfl (by kernel_rfl) (fun K hK => ?_)
  refine wp_app (.tmp 34) (.tmp 35) 22 rfl wS.heap.size 4 (.bool false) 1 Try.underlying22 info_bool rfl rfl oa2 rfl (hm.below qa2) (oneB m) (by simp [maxLen]; omega) (by simp; omega) qa2.size ?_
  intro vc2 wc2 oc2 gc2
  have qc2 : Below wS.heap.size wS wc2 := qa2.grown gc2 qa2.size (fun k hk => (oa2.lt k hk).1)
  have xc2 := xS.trans qc2
  refine hK.out _ _ xc2 ?_
  clear K hK
  try simp only [Act.put, List.setIfInBounds_toArray, List.set_cons_zero, List.set_cons_succ]
  have rc2 := Row.of_owns oc2
  rw [List.nil_append, ← List.map_append] at rc2
  clear q2 oo2 oa2 ga2 oc2 gc2 qa2
  refine pi_move rfl (by kernel_rfl) (fun K hK => ?_)
  go_wp2_with fail
  refine (pack_any _ (x ++ m) _ rc2 (by simp; omega)).mono ?_
  rintro e w20 ⟨v20, rfl, hr20, hb20⟩
  go_simp
  have e20 : Below wS.heap.size wS w20 := below_then qc2 hb20
  refine hK.out _ _ (xc2.trans hb20) ?_
  clear K hK
  try simp only [Act.put, List.setIfInBounds_toArray, List.set_cons_zero, List.set_cons_succ]
  have hc20 := fun w' (hx : Ext w20 w') => conv_row (P := Try.prog) (hr20.below hx) 24 9 5 Try.underlying24 Try.underlying5 Try.underlying9
  refine pi_read (xc2.trans hb20) rfl (by kernel_rfl) (fun w' hx => by have h := hc20 w' hx; go_simp; with_reducible rfl) ?_
  try simp only [Act.put, List.setIfInBounds_toArray, List.set_cons_zero, List.set_cons_succ]
  clear hc20 hr20
  refine pi_move rfl (by kernel_rfl) (fun K hK => ?_)
  go_wp2_with fail
  refine (pack_any _ (x) _ (hx.below e20) (by omega)).mono ?_
  rintro e w21 ⟨v21, rfl, hr21, hb21⟩
  go_simp
  have e21 : Below wS.heap.size wS w21 := below_then e20 hb21
  refine hK.out _ _ hb21 ?_
  clear K hK
  try simp only [Act.put, List.setIfInBounds_toArray, List.set_cons_zero, List.set_cons_succ]
  have hc21 := fun w' (hx : Ext w21 w') => conv_row (P := Try.prog) (hr21.below hx) 24 9 5 Try.underlying24 Try.underlying5 Try.underlying9
  refine pi_read hb21 rfl (by kernel_rfl) (fun w' hx => by have h := hc21 w' hx; go_simp; with_reducible rfl) ?_
  try simp only [Act.put, List.setIfInBounds_toArray, List.set_cons_zero, List.set_cons_succ]
  clear hc21 hr21
  refine pi_move rfl (by kernel_rfl) (fun K hK => ?_)
  go_wp2_with fail
  refine (pack_any _ (m) _ (hm.below e21) (by omega)).mono ?_
  rintro e w22 ⟨v22, rfl, hr22, hb22⟩
  go_simp
  have e22 : Below wS.heap.size wS w22 := below_then e21 hb22
  refine hK.out _ _ hb22 ?_
  clear K hK
  try simp only [Act.put, List.setIfInBounds_toArray, List.set_cons_zero, List.set_cons_succ]
  have hc22 := fun w' (hx : Ext w22 w') => conv_row (P := Try.prog) (hr22.below hx) 24 9 5 Try.underlying24 Try.underlying5 Try.underlying9
  refine pi_read hb22 rfl (by kernel_rfl) (fun w' hx => by have h := hc22 w' hx; go_simp; with_reducible rfl) ?_
  try simp only [Act.put, List.setIfInBounds_toArray, List.set_cons_zero, List.set_cons_succ]
  clear hc22 hr22
  have xT := Ext.refl w22
  obtain ⟨S1, hS1⟩ : ∃ S : ByteArray, (⟨(packL (x ++ m)).toArray⟩ : ByteArray) = S := ⟨_, rfl⟩
  obtain ⟨S2, hS2⟩ : ∃ S : ByteArray, (⟨(packL x).toArray⟩ : ByteArray) = S := ⟨_, rfl⟩
  obtain ⟨S3, hS3⟩ : ∃ S : ByteArray, (⟨(packL m).toArray⟩ : ByteArray) = S := ⟨_, rfl⟩
  have hadd2 : S2 ++ S3 = S1 := by rw [← hS1, ← hS2, ← hS3]; exact cat_bytes _ _ _ (packL_append x m hx8.out)
  have hle2 : ¬ 9223372036854775807 < S2.size + S3.size := by
    have e2 : S2.size = (packL x).length := by rw [← hS2]; rfl
    have e3 : S3.size = (packL m).length := by rw [← hS3]; rfl
    rw [e2, e3, packL_len, packL_len]; omega
  rw [hS1, hS2, hS3]
  clear hS1 hS2 hS3
  iterate 4 (refine pi_pure xT rfl (by kernel_rfl) (fun w' => by go_simp; with_reducible rfl) ?_; try simp only [Act.put, List.setIfInBounds_toArray, List.set_cons_zero, List.set_cons_succ])
  clear hadd2 hle2
  refine pi_move rfl (by kernel_rfl) (fun K hK => ?_)
  go_wp2_with fail
  refine (known_any _).mono ?_
  rintro e wk ⟨rfl, hbk⟩
  go_simp
  refine hK.out _ _ hbk ?_
  clear K hK
  try simp only [Act.put, List.setIfInBounds_toArray, List.set_cons_zero, List.set_cons_succ]
  iterate 2 (refine pi_pure hbk rfl (by kernel_rfl) (fun w' => by go_simp; with_reducible rfl) ?_; try simp only [Act.put, List.setIfInBounds_toArray, List.set_cons_zero, List.set_cons_succ])
  refine pi_nil ?_
  go_wp2
  go_ret
  exact ⟨rfl, below_then (below_then B0 e22) hbk⟩

end Go.Proofs.Ytgoiokbeohbdnaa
