/- Contract of burgageref3.Good: one function. -/
import Derived.Test.YtdihcdphgiaepaaGreatZZ40
namespace Go.Proofs.YtdihcdphgiaepaaGreat
open Go.RowKit
set_option maxRecDepth 100000 in
set_option maxHeartbeats 6000000 in
theorem good_ref_15c (v : Value) (r : Rp) (w : World) (h : IsRp w v r) (hc : r.code = 0) (hf : r.fn = 15 ∨ r.fn = 16) :
  Calls Tryz.prog 37 #[v] w fun e w' => e = .returned (.int .i64 (goodE r)) ∧ Below w.heap.size w w' := by
 obtain ⟨ab, capb, av, capv, ad, capd, rfl, z1, z2, z3⟩ := h.slices;have W0 := hidden (fun o => (Below.refl w.heap.size w).alloc (Nat.le_refl _) o);have HE := hidden (@goodE_12 r);have H0 := hidden (@goodE_0 r);have KK : Hid (knownB r.fn = true) := by show _ = _; rcases hf with e | e <;> rw [e] <;> rfl
 obtain ⟨f, k, a, c, s, bs, vs, m, o, ds⟩ := r;simp only at HE H0 KK hf hc z1 z2 z3 ⊢;have HF := hidden hf;subst hc;have hm := m.toNat_lt;have ho := o.toNat_lt;have N0 : Hid (numB 0 = true) := by rfl
 clear h;have Ia : Hid (inI [97, 99] 97 = true) := by rfl
 have Ic : Hid (inI [97, 99] 99 = true) := by rfl
 have Is : Hid (inI [97, 99] 115 = false) := by rfl
 have Ib : Hid (inI [97, 99] 98 = false) := by rfl
 have Iv : Hid (inI [97, 99] 118 = false) := by rfl
 have Im : Hid (inI [97, 99] 109 = false) := by rfl
 have Id : Hid (inI [97, 99] 100 = false) := by rfl
 have n1 : ¬ f = 1 := by omega
 have n2 : ¬ f = 2 := by omega
 have n3 : ¬ f = 3 := by omega
 have n4 : ¬ f = 4 := by omega
 have n5 : ¬ f = 5 := by omega
 have n6 : ¬ f = 6 := by omega
 have n8 : ¬ f = 8 := by omega
 have n17 : ¬ f = 17 := by omega
 have n22 : ¬ f = 22 := by omega
 have n23 : ¬ f = 23 := by omega
 have t5 : (f == 5) = false := by rw [beq_eq_false_iff_ne]; exact n5
 have t6 : (f == 6) = false := by rw [beq_eq_false_iff_ne]; exact n6
 have t8 : (f == 8) = false := by rw [beq_eq_false_iff_ne]; exact n8
 have HL : Hid (hasL f = [97, 99]) := by rcases hf with rfl | rfl <;> rfl
 go_enter Tryz.func37, Tryz.ntmps37;go_upto_region 8 with (first | (go_at_call 48; refine (has_ref _ _).mono ?_; rintro e w4 ⟨rfl, rfl⟩; rw [KK.out]) | (go_at_call 31; refine (has_str _ _).mono ?_; rintro e w4 ⟨rfl, rfl⟩; rw [HL.out]))
 have XB := BoxP.new w f 0 a c s (.slice ab bs.length capb) (.slice av vs.length capv) m o (.slice ad ds.length capd) 46;have BW := W0.out (.cells #[.int .i64 f, .int .i64 0, .int .i64 a, .int .i64 c, .int .i64 s, .slice ab bs.length capb, .slice av vs.length capv, wV m, wV o, .slice ad ds.length capd] 46);generalize w.alloc (.cells #[.int .i64 f, .int .i64 0, .int .i64 a, .int .i64 c, .int .i64 s, .slice ab bs.length capb, .slice av vs.length capv, wV m, wV o, .slice ad ds.length capd] 46) = w0 at *;obtain ⟨gl, c0, c1, c2, c3, c4, c5, c6, c7, c8, c9⟩ := XB;refine l_begin (fun O HO => ?_);try simp only [List.cons_append, List.nil_append]
 iterate 1 (refine l_V HO ?_)
 refine l_move (by rw [HO.out]; kernel_rfl) (fun K hK => ?_);go_wp2_with fail
 refine (in_at [97, 99] _ _ (by decide) (by decide)).mono ?_;rintro e w4 ⟨rfl, rfl⟩;rw [Ia.out];go_simp;refine hK.out _ _ ?_;clear K hK;try simp only [Act.put, PuA, PuB, PuC]
 iterate 2 (refine l_V HO ?_)
 iterate 3 (refine l_S HO ?_)
 iterate 3 (refine l_V HO ?_)
 refine l_move (by rw [HO.out]; kernel_rfl) (fun K hK => ?_);go_wp2_with fail
 refine (in_at [97, 99] _ _ (by decide) (by decide)).mono ?_;rintro e w4 ⟨rfl, rfl⟩;rw [Ic.out];go_simp;refine hK.out _ _ ?_;clear K hK;try simp only [Act.put, PuA, PuB, PuC]
 iterate 2 (refine l_V HO ?_)
 iterate 3 (refine l_S HO ?_)
 iterate 4 (refine l_V HO ?_)
 refine l_move (by rw [HO.out]; kernel_rfl) (fun K hK => ?_);go_wp2_with fail
 refine (in_at [97, 99] _ _ (by decide) (by decide)).mono ?_;rintro e w4 ⟨rfl, rfl⟩;rw [Is.out];go_simp;refine hK.out _ _ ?_;clear K hK;try simp only [Act.put, PuA, PuB, PuC]
 iterate 4 (refine l_V HO ?_)
 by_cases hs : s ≠ 0
 ·
  have Ts : (s != 0) = true := by simpa using hs
  have L := hidden (HE.out trivial KK.out (.inl (fun h => hs (by simpa [formA, HF.out, n1, n2, n3, n4, n5, n6, n8, n17, n22, n23] using h.2.2.1))));clear hs;refine l_V HO ?_;iterate 3 (refine l_V HO ?_)
  iterate 9 (refine l_S HO ?_)
  iterate 2 (refine l_V HO ?_)
  iterate 9 (refine l_S HO ?_)
  iterate 2 (refine l_V HO ?_)
  iterate 13 (refine l_S HO ?_)
  iterate 2 (refine l_V HO ?_)
  iterate 9 (refine l_S HO ?_)
  iterate 1 (refine l_V HO ?_)
  refine l_done ?_;go_wp2;go_ret;exact ⟨ret_int L.out.symm, BW⟩
 ·
  have hs' : s = 0 := by simpa using hs
  clear hs;subst hs';refine l_V HO ?_;iterate 4 (refine l_V HO ?_)
  refine l_move (by rw [HO.out]; kernel_rfl) (fun K hK => ?_);go_wp2_with fail
  refine (in_at [97, 99] _ _ (by decide) (by decide)).mono ?_;rintro e w4 ⟨rfl, rfl⟩;rw [Ib.out];go_simp;refine hK.out _ _ ?_;clear K hK;try simp only [Act.put, PuA, PuB, PuC]
  iterate 5 (refine l_V HO ?_)
  by_cases hb : bs ≠ []
  ·
   have Tb : (0 : Int) < (bs.length : Int) := by have := List.length_pos_iff.2 hb; omega
   have Ub : 0 < bs.length := List.length_pos_iff.2 hb;have L := hidden (HE.out trivial KK.out (.inl (fun h => hb (by simpa [formA, HF.out, n1, n2, n3, n4, n5, n6, n8, n17, n22, n23] using h.2.2.2.1))));clear hb;refine l_V HO ?_;iterate 3 (refine l_V HO ?_)
   iterate 9 (refine l_S HO ?_)
   iterate 2 (refine l_V HO ?_)
   iterate 13 (refine l_S HO ?_)
   iterate 2 (refine l_V HO ?_)
   iterate 9 (refine l_S HO ?_)
   iterate 1 (refine l_V HO ?_)
   refine l_done ?_;go_wp2;go_ret;exact ⟨ret_int L.out.symm, BW⟩
  ·
   have hb' : bs = [] := by simpa using hb
   clear hb;subst hb';simp only [List.length_nil] at *;refine l_V HO ?_;iterate 4 (refine l_V HO ?_)
   refine l_move (by rw [HO.out]; kernel_rfl) (fun K hK => ?_);go_wp2_with fail
   refine (in_at [97, 99] _ _ (by decide) (by decide)).mono ?_;rintro e w4 ⟨rfl, rfl⟩;rw [Iv.out];go_simp;refine hK.out _ _ ?_;clear K hK;try simp only [Act.put, PuA, PuB, PuC]
   iterate 5 (refine l_V HO ?_)
   by_cases hv : vs ≠ []
   ·
    have Tv : (0 : Int) < (vs.length : Int) := by have := List.length_pos_iff.2 hv; omega
    have Uv : 0 < vs.length := List.length_pos_iff.2 hv;have L := hidden (HE.out trivial KK.out (.inl (fun h => hv (by simpa [formA, HF.out, n1, n2, n3, n4, n5, n6, n8, n17, n22, n23] using h.2.2.2.2.1))));clear hv;refine l_V HO ?_;iterate 3 (refine l_V HO ?_)
    iterate 13 (refine l_S HO ?_)
    iterate 2 (refine l_V HO ?_)
    iterate 9 (refine l_S HO ?_)
    iterate 1 (refine l_V HO ?_)
    refine l_done ?_;go_wp2;go_ret;exact ⟨ret_int L.out.symm, BW⟩
   ·
    have hv' : vs = [] := by simpa using hv
    clear hv;subst hv';simp only [List.length_nil] at *;refine l_V HO ?_;iterate 4 (refine l_V HO ?_)
    refine l_move (by rw [HO.out]; kernel_rfl) (fun K hK => ?_);go_wp2_with fail
    refine (in_at [97, 99] _ _ (by decide) (by decide)).mono ?_;rintro e w4 ⟨rfl, rfl⟩;rw [Im.out];go_simp;refine hK.out _ _ ?_;clear K hK;try simp only [Act.put, PuA, PuB, PuC]
    iterate 4 (refine l_V HO ?_)
    by_cases hm0 : m ≠ 0
    ·
     have Tm : ((m.toNat : Int) != 0) = true := by simp; intro h; exact hm0 (UInt16.toNat_inj.1 h)
     have L := hidden (HE.out trivial KK.out (.inl (fun h => hm0 (by have := h.2.2.2.2.2.1; simp [n22] at this; exact this.1))));clear hm0;refine l_V HO ?_;iterate 1 (refine l_V HO ?_)
     iterate 3 (refine l_S HO ?_)
     iterate 4 (refine l_V HO ?_)
     iterate 9 (refine l_S HO ?_)
     iterate 1 (refine l_V HO ?_)
     refine l_done ?_;go_wp2;go_ret;exact ⟨ret_int L.out.symm, BW⟩
    ·
     have hm0' : m = 0 := by simpa using hm0
     clear hm0;subst hm0';refine l_V HO ?_;iterate 3 (refine l_V HO ?_)
     by_cases ho0 : o ≠ 0
     ·
      have To : ((o.toNat : Int) != 0) = true := by simp; intro h; exact ho0 (UInt16.toNat_inj.1 h)
      have L := hidden (HE.out trivial KK.out (.inl (fun h => ho0 (by have := h.2.2.2.2.2.1; simp [n22] at this; exact this))));clear ho0;refine l_V HO ?_;iterate 4 (refine l_V HO ?_)
      iterate 9 (refine l_S HO ?_)
      iterate 1 (refine l_V HO ?_)
      refine l_done ?_;go_wp2;go_ret;exact ⟨ret_int L.out.symm, BW⟩
     ·
      have ho0' : o = 0 := by simpa using ho0
      clear ho0;subst ho0';refine l_V HO ?_;iterate 5 (refine l_V HO ?_)
      refine l_move (by rw [HO.out]; kernel_rfl) (fun K hK => ?_);go_wp2_with fail
      refine (in_at [97, 99] _ _ (by decide) (by decide)).mono ?_;rintro e w4 ⟨rfl, rfl⟩;rw [Id.out];go_simp;refine hK.out _ _ ?_;clear K hK;try simp only [Act.put, PuA, PuB, PuC]
      iterate 5 (refine l_V HO ?_)
      by_cases hd : ds ≠ []
      ·
       have Td : (0 : Int) < (ds.length : Int) := by have := List.length_pos_iff.2 hd; omega
       have Ud : 0 < ds.length := List.length_pos_iff.2 hd;have L := hidden (HE.out trivial KK.out (.inl (fun h => hd (by simpa [formA, HF.out, n1, n2, n3, n4, n5, n6, n8, n17, n22, n23] using h.2.2.2.2.2.2))));clear hd;refine l_V HO ?_;iterate 2 (refine l_V HO ?_)
       refine l_done ?_;go_wp2;go_ret;exact ⟨ret_int L.out.symm, BW⟩
      ·
       have hd' : ds = [] := by simpa using hd
       clear hd;subst hd';simp only [List.length_nil] at *;refine l_V HO ?_;iterate 2 (refine l_V HO ?_)
       refine l_done ?_;have G1 := hidden (show formA ⟨f, 0, a, c, 0, [], [], 0, 0, []⟩ by simp [formA, HF.out, n1, n2, n3, n4, n5, n6, n8, n17, n22, n23]);go_upto_region 10 with fail
       cases han : numB a
       ·
        have L := hidden (HE.out trivial KK.out (.inr (.inl (by rw [han]; simp))));have Na := hidden han;clear han;refine l_begin (fun O HO => ?_);try simp only [List.cons_append, List.nil_append]
        iterate 2 (refine l_V HO ?_)
        refine l_move (by rw [HO.out]; kernel_rfl) (fun K hK => ?_);go_wp2_with fail
        refine (word_ref _ _).mono ?_;rintro e w4 ⟨rfl, rfl⟩;rw [Na.out];go_simp;refine hK.out _ _ ?_;clear K hK;try simp only [Act.put, PuA, PuB, PuC]
        iterate 2 (refine l_V HO ?_)
        iterate 4 (refine l_S HO ?_)
        iterate 2 (refine l_V HO ?_)
        iterate 4 (refine l_S HO ?_)
        iterate 2 (refine l_V HO ?_)
        iterate 9 (refine l_S HO ?_)
        iterate 2 (refine l_V HO ?_)
        iterate 14 (refine l_S HO ?_)
        iterate 2 (refine l_V HO ?_)
        iterate 4 (refine l_S HO ?_)
        iterate 2 (refine l_V HO ?_)
        iterate 4 (refine l_S HO ?_)
        iterate 2 (refine l_V HO ?_)
        iterate 4 (refine l_S HO ?_)
        iterate 1 (refine l_V HO ?_)
        refine l_done ?_;go_wp2;go_ret;exact ⟨ret_int L.out.symm, BW⟩
       ·
        have Na := hidden han;clear han;cases hcn : numB c
        ·
         have L := hidden (HE.out trivial KK.out (.inr (.inl (by rw [hcn]; simp))));have Nc := hidden hcn;clear hcn;refine l_begin (fun O HO => ?_);try simp only [List.cons_append, List.nil_append]
         iterate 2 (refine l_V HO ?_)
         refine l_move (by rw [HO.out]; kernel_rfl) (fun K hK => ?_);go_wp2_with fail
         refine (word_ref _ _).mono ?_;rintro e w4 ⟨rfl, rfl⟩;rw [Na.out];go_simp;refine hK.out _ _ ?_;clear K hK;try simp only [Act.put, PuA, PuB, PuC]
         iterate 4 (refine l_V HO ?_)
         refine l_move (by rw [HO.out]; kernel_rfl) (fun K hK => ?_);go_wp2_with fail
         refine (word_ref _ _).mono ?_;rintro e w4 ⟨rfl, rfl⟩;rw [Nc.out];go_simp;refine hK.out _ _ ?_;clear K hK;try simp only [Act.put, PuA, PuB, PuC]
         iterate 3 (refine l_V HO ?_)
         iterate 4 (refine l_S HO ?_)
         iterate 2 (refine l_V HO ?_)
         iterate 9 (refine l_S HO ?_)
         iterate 2 (refine l_V HO ?_)
         iterate 14 (refine l_S HO ?_)
         iterate 2 (refine l_V HO ?_)
         iterate 4 (refine l_S HO ?_)
         iterate 2 (refine l_V HO ?_)
         iterate 4 (refine l_S HO ?_)
         iterate 2 (refine l_V HO ?_)
         iterate 4 (refine l_S HO ?_)
         iterate 1 (refine l_V HO ?_)
         refine l_done ?_;go_wp2;go_ret;exact ⟨ret_int L.out.symm, BW⟩
        ·
         have Nc := hidden hcn;clear hcn;have E2 := hidden (show (numB a && numB 0 && numB c) = true by simp [Na.out, N0.out, Nc.out]);have L := hidden (H0.out trivial KK.out G1.out E2.out (by simp [listA, n1, n2, n3, n4, n5, n6, n8, n17, n23]; try omega));refine l_begin (fun O HO => ?_);try simp only [List.cons_append, List.nil_append]
         iterate 2 (refine l_V HO ?_)
         refine l_move (by rw [HO.out]; kernel_rfl) (fun K hK => ?_);go_wp2_with fail
         refine (word_ref _ _).mono ?_;rintro e w4 ⟨rfl, rfl⟩;rw [Na.out];go_simp;refine hK.out _ _ ?_;clear K hK;try simp only [Act.put, PuA, PuB, PuC]
         iterate 4 (refine l_V HO ?_)
         refine l_move (by rw [HO.out]; kernel_rfl) (fun K hK => ?_);go_wp2_with fail
         refine (word_ref _ _).mono ?_;rintro e w4 ⟨rfl, rfl⟩;rw [Nc.out];go_simp;refine hK.out _ _ ?_;clear K hK;try simp only [Act.put, PuA, PuB, PuC]
         iterate 5 (refine l_V HO ?_)
         refine l_move (by rw [HO.out]; kernel_rfl) (fun K hK => ?_);go_wp2_with fail
         refine (word_ref _ _).mono ?_;rintro e w4 ⟨rfl, rfl⟩;rw [N0.out];go_simp;refine hK.out _ _ ?_;clear K hK;try simp only [Act.put, PuA, PuB, PuC]
         iterate 7 (refine l_V HO ?_)
         iterate 4 (refine l_S HO ?_)
         iterate 12 (refine l_V HO ?_)
         iterate 4 (refine l_S HO ?_)
         iterate 20 (refine l_V HO ?_)
         refine l_done ?_;go_wp2;go_ret;exact ⟨ret_int L.out.symm, BW⟩
set_option maxRecDepth 100000 in
set_option maxHeartbeats 6000000 in
theorem good_ref_5 (v : Value) (r : Rp) (w : World) (h : IsRp w v r) (hc : r.code = 0) (hf : r.fn = 5) :
  Calls Tryz.prog 37 #[v] w fun e w' => e = .returned (.int .i64 (goodE r)) ∧ Below w.heap.size w w' := by
 obtain ⟨ab, capb, av, capv, ad, capd, rfl, z1, z2, z3⟩ := h.slices;have W0 := hidden (fun o => (Below.refl w.heap.size w).alloc (Nat.le_refl _) o);have HE := hidden (@goodE_12 r);have H0 := hidden (@goodE_0 r);have KK : Hid (knownB r.fn = true) := by show _ = _; rw [hf]; rfl
 obtain ⟨f, k, a, c, s, bs, vs, m, o, ds⟩ := r;simp only at HE H0 KK hf hc z1 z2 z3 ⊢;subst hf;subst hc;have hm := m.toNat_lt;have ho := o.toNat_lt;have N0 : Hid (numB 0 = true) := by rfl
 clear h;have Ia : Hid (inI [97, 98] 97 = true) := by rfl
 have Ic : Hid (inI [97, 98] 99 = false) := by rfl
 have Is : Hid (inI [97, 98] 115 = false) := by rfl
 have Ib : Hid (inI [97, 98] 98 = true) := by rfl
 have Iv : Hid (inI [97, 98] 118 = false) := by rfl
 have Im : Hid (inI [97, 98] 109 = false) := by rfl
 have Id : Hid (inI [97, 98] 100 = false) := by rfl
 go_enter Tryz.func37, Tryz.ntmps37;go_upto_region 8 with (first | (go_at_call 48; refine (has_ref _ _).mono ?_; rintro e w4 ⟨rfl, rfl⟩; rw [KK.out]) | (go_at_call 31; refine (has_str _ _).mono ?_; rintro e w4 ⟨rfl, rfl⟩; rw [show hasL 5 = [97, 98] from rfl]))
 have XB := BoxP.new w 5 0 a c s (.slice ab bs.length capb) (.slice av vs.length capv) m o (.slice ad ds.length capd) 46;have BW := W0.out (.cells #[.int .i64 5, .int .i64 0, .int .i64 a, .int .i64 c, .int .i64 s, .slice ab bs.length capb, .slice av vs.length capv, wV m, wV o, .slice ad ds.length capd] 46);generalize w.alloc (.cells #[.int .i64 5, .int .i64 0, .int .i64 a, .int .i64 c, .int .i64 s, .slice ab bs.length capb, .slice av vs.length capv, wV m, wV o, .slice ad ds.length capd] 46) = w0 at *;obtain ⟨gl, c0, c1, c2, c3, c4, c5, c6, c7, c8, c9⟩ := XB;refine l_begin (fun O HO => ?_);try simp only [List.cons_append, List.nil_append]
 iterate 1 (refine l_V HO ?_)
 refine l_move (by rw [HO.out]; kernel_rfl) (fun K hK => ?_);go_wp2_with fail
 refine (in_at [97, 98] _ _ (by decide) (by decide)).mono ?_;rintro e w4 ⟨rfl, rfl⟩;rw [Ia.out];go_simp;refine hK.out _ _ ?_;clear K hK;try simp only [Act.put, PuA, PuB, PuC]
 iterate 2 (refine l_V HO ?_)
 iterate 3 (refine l_S HO ?_)
 iterate 3 (refine l_V HO ?_)
 refine l_move (by rw [HO.out]; kernel_rfl) (fun K hK => ?_);go_wp2_with fail
 refine (in_at [97, 98] _ _ (by decide) (by decide)).mono ?_;rintro e w4 ⟨rfl, rfl⟩;rw [Ic.out];go_simp;refine hK.out _ _ ?_;clear K hK;try simp only [Act.put, PuA, PuB, PuC]
 iterate 4 (refine l_V HO ?_)
 by_cases hc : c ≠ 0
 ·
  have Tc : (c != 0) = true := by simpa using hc
  have L := hidden (HE.out trivial KK.out (.inl (fun h => hc (by simpa [formA] using h.2.1))));clear hc;refine l_V HO ?_;iterate 3 (refine l_V HO ?_)
  iterate 8 (refine l_S HO ?_)
  iterate 2 (refine l_V HO ?_)
  iterate 9 (refine l_S HO ?_)
  iterate 2 (refine l_V HO ?_)
  iterate 9 (refine l_S HO ?_)
  iterate 2 (refine l_V HO ?_)
  iterate 13 (refine l_S HO ?_)
  iterate 2 (refine l_V HO ?_)
  iterate 9 (refine l_S HO ?_)
  iterate 1 (refine l_V HO ?_)
  refine l_done ?_;go_wp2;go_ret;exact ⟨ret_int L.out.symm, BW⟩
 ·
  have hc' : c = 0 := by simpa using hc
  clear hc;subst hc';refine l_V HO ?_;iterate 4 (refine l_V HO ?_)
  refine l_move (by rw [HO.out]; kernel_rfl) (fun K hK => ?_);go_wp2_with fail
  refine (in_at [97, 98] _ _ (by decide) (by decide)).mono ?_;rintro e w4 ⟨rfl, rfl⟩;rw [Is.out];go_simp;refine hK.out _ _ ?_;clear K hK;try simp only [Act.put, PuA, PuB, PuC]
  iterate 4 (refine l_V HO ?_)
  by_cases hs : s ≠ 0
  ·
   have Ts : (s != 0) = true := by simpa using hs
   have L := hidden (HE.out trivial KK.out (.inl (fun h => hs (by simpa [formA] using h.2.2.1))));clear hs;refine l_V HO ?_;iterate 3 (refine l_V HO ?_)
   iterate 9 (refine l_S HO ?_)
   iterate 2 (refine l_V HO ?_)
   iterate 9 (refine l_S HO ?_)
   iterate 2 (refine l_V HO ?_)
   iterate 13 (refine l_S HO ?_)
   iterate 2 (refine l_V HO ?_)
   iterate 9 (refine l_S HO ?_)
   iterate 1 (refine l_V HO ?_)
   refine l_done ?_;go_wp2;go_ret;exact ⟨ret_int L.out.symm, BW⟩
  ·
   have hs' : s = 0 := by simpa using hs
   clear hs;subst hs';refine l_V HO ?_;iterate 4 (refine l_V HO ?_)
   refine l_move (by rw [HO.out]; kernel_rfl) (fun K hK => ?_);go_wp2_with fail
   refine (in_at [97, 98] _ _ (by decide) (by decide)).mono ?_;rintro e w4 ⟨rfl, rfl⟩;rw [Ib.out];go_simp;refine hK.out _ _ ?_;clear K hK;try simp only [Act.put, PuA, PuB, PuC]
   iterate 2 (refine l_V HO ?_)
   iterate 4 (refine l_S HO ?_)
   iterate 4 (refine l_V HO ?_)
   refine l_move (by rw [HO.out]; kernel_rfl) (fun K hK => ?_);go_wp2_with fail
   refine (in_at [97, 98] _ _ (by decide) (by decide)).mono ?_;rintro e w4 ⟨rfl, rfl⟩;rw [Iv.out];go_simp;refine hK.out _ _ ?_;clear K hK;try simp only [Act.put, PuA, PuB, PuC]
   iterate 5 (refine l_V HO ?_)
   by_cases hv : vs ≠ []
   ·
    have Tv : (0 : Int) < (vs.length : Int) := by have := List.length_pos_iff.2 hv; omega
    have Uv : 0 < vs.length := List.length_pos_iff.2 hv;have L := hidden (HE.out trivial KK.out (.inl (fun h => hv (by simpa [formA] using h.2.2.2.2.1))));clear hv;refine l_V HO ?_;iterate 3 (refine l_V HO ?_)
    iterate 13 (refine l_S HO ?_)
    iterate 2 (refine l_V HO ?_)
    iterate 9 (refine l_S HO ?_)
    iterate 1 (refine l_V HO ?_)
    refine l_done ?_;go_wp2;go_ret;exact ⟨ret_int L.out.symm, BW⟩
   ·
    have hv' : vs = [] := by simpa using hv
    clear hv;subst hv';simp only [List.length_nil] at *;refine l_V HO ?_;iterate 4 (refine l_V HO ?_)
    refine l_move (by rw [HO.out]; kernel_rfl) (fun K hK => ?_);go_wp2_with fail
    refine (in_at [97, 98] _ _ (by decide) (by decide)).mono ?_;rintro e w4 ⟨rfl, rfl⟩;rw [Im.out];go_simp;refine hK.out _ _ ?_;clear K hK;try simp only [Act.put, PuA, PuB, PuC]
    iterate 4 (refine l_V HO ?_)
    by_cases hm0 : m ≠ 0
    ·
     have Tm : ((m.toNat : Int) != 0) = true := by simp; intro h; exact hm0 (UInt16.toNat_inj.1 h)
     have L := hidden (HE.out trivial KK.out (.inl (fun h => hm0 (by have := h.2.2.2.2.2.1; simp at this; exact this.1))));clear hm0;refine l_V HO ?_;iterate 1 (refine l_V HO ?_)
     iterate 3 (refine l_S HO ?_)
     iterate 4 (refine l_V HO ?_)
     iterate 9 (refine l_S HO ?_)
     iterate 1 (refine l_V HO ?_)
     refine l_done ?_;go_wp2;go_ret;exact ⟨ret_int L.out.symm, BW⟩
    ·
     have hm0' : m = 0 := by simpa using hm0
     clear hm0;subst hm0';refine l_V HO ?_;iterate 3 (refine l_V HO ?_)
     by_cases ho0 : o ≠ 0
     ·
      have To : ((o.toNat : Int) != 0) = true := by simp; intro h; exact ho0 (UInt16.toNat_inj.1 h)
      have L := hidden (HE.out trivial KK.out (.inl (fun h => ho0 (by have := h.2.2.2.2.2.1; simp at this; exact this))));clear ho0;refine l_V HO ?_;iterate 4 (refine l_V HO ?_)
      iterate 9 (refine l_S HO ?_)
      iterate 1 (refine l_V HO ?_)
      refine l_done ?_;go_wp2;go_ret;exact ⟨ret_int L.out.symm, BW⟩
     ·
      have ho0' : o = 0 := by simpa using ho0
      clear ho0;subst ho0';refine l_V HO ?_;iterate 5 (refine l_V HO ?_)
      refine l_move (by rw [HO.out]; kernel_rfl) (fun K hK => ?_);go_wp2_with fail
      refine (in_at [97, 98] _ _ (by decide) (by decide)).mono ?_;rintro e w4 ⟨rfl, rfl⟩;rw [Id.out];go_simp;refine hK.out _ _ ?_;clear K hK;try simp only [Act.put, PuA, PuB, PuC]
      iterate 5 (refine l_V HO ?_)
      by_cases hd : ds ≠ []
      ·
       have Td : (0 : Int) < (ds.length : Int) := by have := List.length_pos_iff.2 hd; omega
       have Ud : 0 < ds.length := List.length_pos_iff.2 hd;have L := hidden (HE.out trivial KK.out (.inl (fun h => hd (by simpa [formA] using h.2.2.2.2.2.2))));clear hd;refine l_V HO ?_;iterate 2 (refine l_V HO ?_)
       refine l_done ?_;go_wp2;go_ret;exact ⟨ret_int L.out.symm, BW⟩
      ·
       have hd' : ds = [] := by simpa using hd
       clear hd;subst hd';simp only [List.length_nil] at *;refine l_V HO ?_;iterate 2 (refine l_V HO ?_)
       refine l_done ?_;have G1 := hidden (show formA ⟨5, 0, a, 0, 0, bs, [], 0, 0, []⟩ by simp [formA]);go_upto_region 10 with fail
       cases han : numB a
       ·
        have L := hidden (HE.out trivial KK.out (.inr (.inl (by rw [han]; simp))));have Na := hidden han;clear han;refine l_begin (fun O HO => ?_);try simp only [List.cons_append, List.nil_append]
        iterate 2 (refine l_V HO ?_)
        refine l_move (by rw [HO.out]; kernel_rfl) (fun K hK => ?_);go_wp2_with fail
        refine (word_ref _ _).mono ?_;rintro e w4 ⟨rfl, rfl⟩;rw [Na.out];go_simp;refine hK.out _ _ ?_;clear K hK;try simp only [Act.put, PuA, PuB, PuC]
        iterate 2 (refine l_V HO ?_)
        iterate 4 (refine l_S HO ?_)
        iterate 2 (refine l_V HO ?_)
        iterate 4 (refine l_S HO ?_)
        iterate 2 (refine l_V HO ?_)
        iterate 9 (refine l_S HO ?_)
        iterate 2 (refine l_V HO ?_)
        iterate 14 (refine l_S HO ?_)
        iterate 2 (refine l_V HO ?_)
        iterate 4 (refine l_S HO ?_)
        iterate 2 (refine l_V HO ?_)
        iterate 4 (refine l_S HO ?_)
        iterate 2 (refine l_V HO ?_)
        iterate 4 (refine l_S HO ?_)
        iterate 1 (refine l_V HO ?_)
        refine l_done ?_;go_wp2;go_ret;exact ⟨ret_int L.out.symm, BW⟩
       ·
        have Na := hidden han;clear han;by_cases hl : (bs.length : Int) = 1
        ·
         have t1 : ((bs.length : Int) != 1) = false := by simp; omega
         have t2 : ¬ (2040 : Int) < (bs.length : Int) := by omega
         have u2 : ¬ 2040 < bs.length := by omega
         have E2 := hidden (show (numB a && numB 0 && numB 0) = true by simp [Na.out, N0.out]);have L := hidden (H0.out trivial KK.out G1.out E2.out (by simp [listA]; try omega));refine l_begin (fun O HO => ?_);try simp only [List.cons_append, List.nil_append]
         iterate 2 (refine l_V HO ?_)
         refine l_move (by rw [HO.out]; kernel_rfl) (fun K hK => ?_);go_wp2_with fail
         refine (word_ref _ _).mono ?_;rintro e w4 ⟨rfl, rfl⟩;rw [Na.out];go_simp;refine hK.out _ _ ?_;clear K hK;try simp only [Act.put, PuA, PuB, PuC]
         iterate 4 (refine l_V HO ?_)
         refine l_move (by rw [HO.out]; kernel_rfl) (fun K hK => ?_);go_wp2_with fail
         refine (word_ref _ _).mono ?_;rintro e w4 ⟨rfl, rfl⟩;rw [N0.out];go_simp;refine hK.out _ _ ?_;clear K hK;try simp only [Act.put, PuA, PuB, PuC]
         iterate 5 (refine l_V HO ?_)
         refine l_move (by rw [HO.out]; kernel_rfl) (fun K hK => ?_);go_wp2_with fail
         refine (word_ref _ _).mono ?_;rintro e w4 ⟨rfl, rfl⟩;rw [N0.out];go_simp;refine hK.out _ _ ?_;clear K hK;try simp only [Act.put, PuA, PuB, PuC]
         iterate 23 (refine l_V HO ?_)
         iterate 4 (refine l_S HO ?_)
         iterate 20 (refine l_V HO ?_)
         refine l_done ?_;go_wp2;go_ret;exact ⟨ret_int L.out.symm, BW⟩
        ·
         have t1 : ((bs.length : Int) != 1) = true := by simp; omega
         have L := hidden (HE.out trivial KK.out (.inr (.inr (by simp [listA]; omega))));refine l_begin (fun O HO => ?_);try simp only [List.cons_append, List.nil_append]
         iterate 2 (refine l_V HO ?_)
         refine l_move (by rw [HO.out]; kernel_rfl) (fun K hK => ?_);go_wp2_with fail
         refine (word_ref _ _).mono ?_;rintro e w4 ⟨rfl, rfl⟩;rw [Na.out];go_simp;refine hK.out _ _ ?_;clear K hK;try simp only [Act.put, PuA, PuB, PuC]
         iterate 4 (refine l_V HO ?_)
         refine l_move (by rw [HO.out]; kernel_rfl) (fun K hK => ?_);go_wp2_with fail
         refine (word_ref _ _).mono ?_;rintro e w4 ⟨rfl, rfl⟩;rw [N0.out];go_simp;refine hK.out _ _ ?_;clear K hK;try simp only [Act.put, PuA, PuB, PuC]
         iterate 5 (refine l_V HO ?_)
         refine l_move (by rw [HO.out]; kernel_rfl) (fun K hK => ?_);go_wp2_with fail
         refine (word_ref _ _).mono ?_;rintro e w4 ⟨rfl, rfl⟩;rw [N0.out];go_simp;refine hK.out _ _ ?_;clear K hK;try simp only [Act.put, PuA, PuB, PuC]
         iterate 14 (refine l_V HO ?_)
         iterate 14 (refine l_S HO ?_)
         iterate 2 (refine l_V HO ?_)
         iterate 4 (refine l_S HO ?_)
         iterate 2 (refine l_V HO ?_)
         iterate 4 (refine l_S HO ?_)
         iterate 2 (refine l_V HO ?_)
         iterate 4 (refine l_S HO ?_)
         iterate 1 (refine l_V HO ?_)
         refine l_done ?_;go_wp2;go_ret;exact ⟨ret_int L.out.symm, BW⟩
end Go.Proofs.YtdihcdphgiaepaaGreat
