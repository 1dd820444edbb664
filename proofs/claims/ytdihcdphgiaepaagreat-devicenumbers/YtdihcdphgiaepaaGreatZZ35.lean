/- Joined texts. -/
import Derived.Test.YtdihcdphgiaepaaGreatZZ34
set_option maxHeartbeats 6000000
set_option maxRecDepth 100000
namespace Go.Proofs.YtdihcdphgiaepaaGreat
open Go.RowKit
theorem good_ref_1c (v : Value) (r : Rp) (w : World) (h : IsRp w v r) (hc : r.code = 0) (hf : r.fn = 1 ∨ r.fn = 2) :
  Calls Tryz.prog 37 #[v] w fun e w' => e = .returned (J (goodE r)) ∧ Bo w w' := by
 obtain ⟨ab, cb, av, cv, ad, capd, rfl, z1, z2, z3⟩ := h.slices;have W0 := Hh (aL w);have HE := Hh (@goodE_12 r);have H0 := Hh (@goodE_0 r);have KK : Hid (knownB r.fn = true) := by show _ = _; rcases hf with e | e <;> rw [e] <;> rfl
 obtain ⟨f, k, a, c, s, bs, vs, m, o, ds⟩ := r;simp only at HE H0 KK hf hc z1 z2 z3 ⊢;have HF := Hh hf;subst hc;have hm := m.toNat_lt;have ho := o.toNat_lt;have N0 : Hid (numB 0 = true) := by rfl
 clear h;have Ia : Hid (inI [98] 97 = false) := by rfl
 have Ic : Hid (inI [98] 99 = false) := by rfl
 have Is : Hid (inI [98] 115 = false) := by rfl
 have Ib : Hid (inI [98] 98 = true) := by rfl
 have Iv : Hid (inI [98] 118 = false) := by rfl
 have Im : Hid (inI [98] 109 = false) := by rfl
 have Id : Hid (inI [98] 100 = false) := by rfl
 have n3 : ¬ f = 3 := by omega
 have n4 : ¬ f = 4 := by omega
 have n5 : ¬ f = 5 := by omega
 have n6 : ¬ f = 6 := by omega
 have n8 : ¬ f = 8 := by omega
 have n15 : ¬ f = 15 := by omega
 have n16 : ¬ f = 16 := by omega
 have n17 : ¬ f = 17 := by omega
 have n22 : ¬ f = 22 := by omega
 have n23 : ¬ f = 23 := by omega
 have t5 : (f == 5) = false := by rw [beq_eq_false_iff_ne]; exact n5
 have t6 : (f == 6) = false := by rw [beq_eq_false_iff_ne]; exact n6
 have t8 : (f == 8) = false := by rw [beq_eq_false_iff_ne]; exact n8
 have HL : Hid (hasL f = [98]) := by rcases hf with rfl | rfl <;> rfl
 go_enter Tryz.func37, Tryz.ntmps37;go_upto_region 8 with (first | (go_at_call 48; refine (has_ref _ _).mono ?_; rintro e w4 ⟨rfl, rfl⟩; rw [KK.out]) | (go_at_call 31; refine (has_str _ _).mono ?_; rintro e w4 ⟨rfl, rfl⟩; rw [HL.out]))
 have XB := BoxP.new w f 0 a c s (.slice ab bs.length cb) (.slice av vs.length cv) m o (.slice ad ds.length capd) 46;have BW := W0.out (.cells #[J f, J 0, J a, J c, J s, .slice ab bs.length cb, .slice av vs.length cv, wV m, wV o, .slice ad ds.length capd] 46);generalize w.alloc (.cells #[J f, J 0, J a, J c, J s, .slice ab bs.length cb, .slice av vs.length cv, wV m, wV o, .slice ad ds.length capd] 46) = w0 at *;obtain ⟨gl, c0, c1, c2, c3, c4, c5, c6, c7, c8, c9⟩ := XB;refine l_begin (fun O HO => ?_);try simp only [List.cons_append, List.nil_append]
 refine l_V HO ?_
 refine l_M HO (fun K hK => ?_);go_wp2_with fail
 refine (in_at [98] _ _ (by decide) (by decide)).mono ?_;rintro e w4 ⟨rfl, rfl⟩;rw [Ia.out];go_simp;refine hK.out _ _ ?_;clear K hK;try simp only [Pu]
 iterate 4 (refine l_V HO ?_)
 by_cases ha : a ≠ 0
 ·
  have Ta : (a != 0) = true := by simpa using ha
  have L := Hh (HE.out trivial KK.out (.inl (fun h => ha (by simpa [formA, HF.out, n3, n4, n5, n6, n8, n15, n16, n17, n22, n23] using h.1))));clear ha;refine l_V HO ?_;iterate 2 (refine l_V HO ?_)
  iterate 8 (refine l_S HO ?_)
  iterate 2 (refine l_V HO ?_)
  iterate 8 (refine l_S HO ?_)
  iterate 2 (refine l_V HO ?_)
  iterate 9 (refine l_S HO ?_)
  iterate 2 (refine l_V HO ?_)
  iterate 9 (refine l_S HO ?_)
  iterate 2 (refine l_V HO ?_)
  iterate 13 (refine l_S HO ?_)
  iterate 2 (refine l_V HO ?_)
  iterate 9 (refine l_S HO ?_)
  refine l_V HO ?_
  refine l_done ?_;go_wp2;go_ret;exact ⟨ret_int L.out.symm, BW⟩
 ·
  have ha' : a = 0 := by simpa using ha
  clear ha;subst ha';refine l_V HO ?_;iterate 3 (refine l_V HO ?_)
  refine l_M HO (fun K hK => ?_);go_wp2_with fail
  refine (in_at [98] _ _ (by decide) (by decide)).mono ?_;rintro e w4 ⟨rfl, rfl⟩;rw [Ic.out];go_simp;refine hK.out _ _ ?_;clear K hK;try simp only [Pu]
  iterate 4 (refine l_V HO ?_)
  by_cases hc : c ≠ 0
  ·
   have Tc : (c != 0) = true := by simpa using hc
   have L := Hh (HE.out trivial KK.out (.inl (fun h => hc (by simpa [formA, HF.out, n3, n4, n5, n6, n8, n15, n16, n17, n22, n23] using h.2.1))));clear hc;refine l_V HO ?_;iterate 3 (refine l_V HO ?_)
   iterate 8 (refine l_S HO ?_)
   iterate 2 (refine l_V HO ?_)
   iterate 9 (refine l_S HO ?_)
   iterate 2 (refine l_V HO ?_)
   iterate 9 (refine l_S HO ?_)
   iterate 2 (refine l_V HO ?_)
   iterate 13 (refine l_S HO ?_)
   iterate 2 (refine l_V HO ?_)
   iterate 9 (refine l_S HO ?_)
   refine l_V HO ?_
   refine l_done ?_;go_wp2;go_ret;exact ⟨ret_int L.out.symm, BW⟩
  ·
   have hc' : c = 0 := by simpa using hc
   clear hc;subst hc';refine l_V HO ?_;iterate 4 (refine l_V HO ?_)
   refine l_M HO (fun K hK => ?_);go_wp2_with fail
   refine (in_at [98] _ _ (by decide) (by decide)).mono ?_;rintro e w4 ⟨rfl, rfl⟩;rw [Is.out];go_simp;refine hK.out _ _ ?_;clear K hK;try simp only [Pu]
   iterate 4 (refine l_V HO ?_)
   by_cases hs : s ≠ 0
   ·
    have Ts : (s != 0) = true := by simpa using hs
    have L := Hh (HE.out trivial KK.out (.inl (fun h => hs (by simpa [formA, HF.out, n3, n4, n5, n6, n8, n15, n16, n17, n22, n23] using h.2.2.1))));clear hs;refine l_V HO ?_;iterate 3 (refine l_V HO ?_)
    iterate 9 (refine l_S HO ?_)
    iterate 2 (refine l_V HO ?_)
    iterate 9 (refine l_S HO ?_)
    iterate 2 (refine l_V HO ?_)
    iterate 13 (refine l_S HO ?_)
    iterate 2 (refine l_V HO ?_)
    iterate 9 (refine l_S HO ?_)
    refine l_V HO ?_
    refine l_done ?_;go_wp2;go_ret;exact ⟨ret_int L.out.symm, BW⟩
   ·
    have hs' : s = 0 := by simpa using hs
    clear hs;subst hs';refine l_V HO ?_;iterate 4 (refine l_V HO ?_)
    refine l_M HO (fun K hK => ?_);go_wp2_with fail
    refine (in_at [98] _ _ (by decide) (by decide)).mono ?_;rintro e w4 ⟨rfl, rfl⟩;rw [Ib.out];go_simp;refine hK.out _ _ ?_;clear K hK;try simp only [Pu]
    iterate 2 (refine l_V HO ?_)
    iterate 4 (refine l_S HO ?_)
    iterate 4 (refine l_V HO ?_)
    refine l_M HO (fun K hK => ?_);go_wp2_with fail
    refine (in_at [98] _ _ (by decide) (by decide)).mono ?_;rintro e w4 ⟨rfl, rfl⟩;rw [Iv.out];go_simp;refine hK.out _ _ ?_;clear K hK;try simp only [Pu]
    iterate 5 (refine l_V HO ?_)
    by_cases hv : vs ≠ []
    ·
     have Tv : (0 : Int) < (vs.length : Int) := by have := lpi.2 hv; omega
     have Uv : 0 < vs.length := lpi.2 hv;have L := Hh (HE.out trivial KK.out (.inl (fun h => hv (by simpa [formA, HF.out, n3, n4, n5, n6, n8, n15, n16, n17, n22, n23] using h.2.2.2.2.1))));clear hv;refine l_V HO ?_;iterate 3 (refine l_V HO ?_)
     iterate 13 (refine l_S HO ?_)
     iterate 2 (refine l_V HO ?_)
     iterate 9 (refine l_S HO ?_)
     refine l_V HO ?_
     refine l_done ?_;go_wp2;go_ret;exact ⟨ret_int L.out.symm, BW⟩
    ·
     have hv' : vs = [] := by simpa using hv
     clear hv;subst hv';simp only [List.length_nil] at *;refine l_V HO ?_;iterate 4 (refine l_V HO ?_)
     refine l_M HO (fun K hK => ?_);go_wp2_with fail
     refine (in_at [98] _ _ (by decide) (by decide)).mono ?_;rintro e w4 ⟨rfl, rfl⟩;rw [Im.out];go_simp;refine hK.out _ _ ?_;clear K hK;try simp only [Pu]
     iterate 4 (refine l_V HO ?_)
     by_cases hm0 : m ≠ 0
     ·
      have Tm : ((m.toNat : Int) != 0) = true := by simp; intro h; exact hm0 (UInt16.toNat_inj.1 h)
      have L := Hh (HE.out trivial KK.out (.inl (fun h => hm0 (by have := h.2.2.2.2.2.1; simp [n22] at this; exact this.1))));clear hm0;refine l_V HO ?_;refine l_V HO ?_
      iterate 3 (refine l_S HO ?_)
      iterate 4 (refine l_V HO ?_)
      iterate 9 (refine l_S HO ?_)
      refine l_V HO ?_
      refine l_done ?_;go_wp2;go_ret;exact ⟨ret_int L.out.symm, BW⟩
     ·
      have hm0' : m = 0 := by simpa using hm0
      clear hm0;subst hm0';refine l_V HO ?_;iterate 3 (refine l_V HO ?_)
      by_cases ho0 : o ≠ 0
      ·
       have To : ((o.toNat : Int) != 0) = true := by simp; intro h; exact ho0 (UInt16.toNat_inj.1 h)
       have L := Hh (HE.out trivial KK.out (.inl (fun h => ho0 (by have := h.2.2.2.2.2.1; simp [n22] at this; exact this))));clear ho0;refine l_V HO ?_;iterate 4 (refine l_V HO ?_)
       iterate 9 (refine l_S HO ?_)
       refine l_V HO ?_
       refine l_done ?_;go_wp2;go_ret;exact ⟨ret_int L.out.symm, BW⟩
      ·
       have ho0' : o = 0 := by simpa using ho0
       clear ho0;subst ho0';refine l_V HO ?_;iterate 5 (refine l_V HO ?_)
       refine l_M HO (fun K hK => ?_);go_wp2_with fail
       refine (in_at [98] _ _ (by decide) (by decide)).mono ?_;rintro e w4 ⟨rfl, rfl⟩;rw [Id.out];go_simp;refine hK.out _ _ ?_;clear K hK;try simp only [Pu]
       iterate 5 (refine l_V HO ?_)
       by_cases hd : ds ≠ []
       ·
        have Td : (0 : Int) < (ds.length : Int) := by have := lpi.2 hd; omega
        have Ud : 0 < ds.length := lpi.2 hd;have L := Hh (HE.out trivial KK.out (.inl (fun h => hd (by simpa [formA, HF.out, n3, n4, n5, n6, n8, n15, n16, n17, n22, n23] using h.2.2.2.2.2.2))));clear hd;refine l_V HO ?_;iterate 2 (refine l_V HO ?_)
        refine l_done ?_;go_wp2;go_ret;exact ⟨ret_int L.out.symm, BW⟩
       ·
        have hd' : ds = [] := by simpa using hd
        clear hd;subst hd';simp only [List.length_nil] at *;refine l_V HO ?_;iterate 2 (refine l_V HO ?_)
        refine l_done ?_;have G1 := Hh (show formA ⟨f, 0, 0, 0, 0, bs, [], 0, 0, []⟩ by simp [formA, HF.out, n3, n4, n5, n6, n8, n15, n16, n17, n22, n23]);go_upto_region 10 with fail
        by_cases hl : (bs.length : Int) ≤ 2040
        ·
         have t1 : ¬ (2040 : Int) < (bs.length : Int) := by omega
         have u1 : ¬ 2040 < bs.length := by omega
         have u3 : decide (2040 < bs.length) = false := by rw [decide_eq_false_iff_not]; omega
         have u4 : decide ((2040 : Int) < (bs.length : Int)) = false := by rw [decide_eq_false_iff_not]; omega
         have E2 := Hh (show (numB 0 && numB 0 && numB 0) = true by simp [N0.out]);have L := Hh (H0.out trivial KK.out G1.out E2.out (by simp [listA, HF.out]; try omega));refine l_begin (fun O HO => ?_);try simp only [List.cons_append, List.nil_append]
         iterate 2 (refine l_V HO ?_)
         refine l_M HO (fun K hK => ?_);go_wp2_with fail
         refine (word_ref _ _).mono ?_;rintro e w4 ⟨rfl, rfl⟩;rw [N0.out];go_simp;refine hK.out _ _ ?_;clear K hK;try simp only [Pu]
         iterate 4 (refine l_V HO ?_)
         refine l_M HO (fun K hK => ?_);go_wp2_with fail
         refine (word_ref _ _).mono ?_;rintro e w4 ⟨rfl, rfl⟩;rw [N0.out];go_simp;refine hK.out _ _ ?_;clear K hK;try simp only [Pu]
         iterate 5 (refine l_V HO ?_)
         refine l_M HO (fun K hK => ?_);go_wp2_with fail
         refine (word_ref _ _).mono ?_;rintro e w4 ⟨rfl, rfl⟩;rw [N0.out];go_simp;refine hK.out _ _ ?_;clear K hK;try simp only [Pu]
         iterate 7 (refine l_V HO ?_)
         iterate 4 (refine l_S HO ?_)
         iterate 12 (refine l_V HO ?_)
         iterate 4 (refine l_S HO ?_)
         iterate 20 (refine l_V HO ?_)
         refine l_done ?_;go_wp2;go_ret;exact ⟨ret_int L.out.symm, BW⟩
        ·
         have t1 : (2040 : Int) < (bs.length : Int) := by omega
         have u1 : 2040 < bs.length := by omega
         have u3 : decide (2040 < bs.length) = true := by rw [decide_eq_true_iff]; omega
         have u4 : decide ((2040 : Int) < (bs.length : Int)) = true := by rw [decide_eq_true_iff]; omega
         have L := Hh (HE.out trivial KK.out (.inr (.inr (by simp [listA, HF.out]; omega))));refine l_begin (fun O HO => ?_);try simp only [List.cons_append, List.nil_append]
         iterate 2 (refine l_V HO ?_)
         refine l_M HO (fun K hK => ?_);go_wp2_with fail
         refine (word_ref _ _).mono ?_;rintro e w4 ⟨rfl, rfl⟩;rw [N0.out];go_simp;refine hK.out _ _ ?_;clear K hK;try simp only [Pu]
         iterate 4 (refine l_V HO ?_)
         refine l_M HO (fun K hK => ?_);go_wp2_with fail
         refine (word_ref _ _).mono ?_;rintro e w4 ⟨rfl, rfl⟩;rw [N0.out];go_simp;refine hK.out _ _ ?_;clear K hK;try simp only [Pu]
         iterate 5 (refine l_V HO ?_)
         refine l_M HO (fun K hK => ?_);go_wp2_with fail
         refine (word_ref _ _).mono ?_;rintro e w4 ⟨rfl, rfl⟩;rw [N0.out];go_simp;refine hK.out _ _ ?_;clear K hK;try simp only [Pu]
         iterate 7 (refine l_V HO ?_)
         iterate 4 (refine l_S HO ?_)
         iterate 12 (refine l_V HO ?_)
         iterate 4 (refine l_S HO ?_)
         iterate 9 (refine l_V HO ?_)
         iterate 4 (refine l_S HO ?_)
         iterate 2 (refine l_V HO ?_)
         iterate 4 (refine l_S HO ?_)
         refine l_V HO ?_
         refine l_done ?_;go_wp2;go_ret;exact ⟨ret_int L.out.symm, BW⟩
theorem good_ref_3c (v : Value) (r : Rp) (w : World) (h : IsRp w v r) (hc : r.code = 0) (hf : r.fn = 3 ∨ r.fn = 4 ∨ r.fn = 23) :
  Calls Tryz.prog 37 #[v] w fun e w' => e = .returned (J (goodE r)) ∧ Bo w w' := by
 obtain ⟨ab, cb, av, cv, ad, capd, rfl, z1, z2, z3⟩ := h.slices;have W0 := Hh (aL w);have HE := Hh (@goodE_12 r);have H0 := Hh (@goodE_0 r);have KK : Hid (knownB r.fn = true) := by show _ = _; rcases hf with e | e | e <;> rw [e] <;> rfl
 obtain ⟨f, k, a, c, s, bs, vs, m, o, ds⟩ := r;simp only at HE H0 KK hf hc z1 z2 z3 ⊢;have HF := Hh hf;subst hc;have hm := m.toNat_lt;have ho := o.toNat_lt;have N0 : Hid (numB 0 = true) := by rfl
 clear h;have Ia : Hid (inI [118] 97 = false) := by rfl
 have Ic : Hid (inI [118] 99 = false) := by rfl
 have Is : Hid (inI [118] 115 = false) := by rfl
 have Ib : Hid (inI [118] 98 = false) := by rfl
 have Iv : Hid (inI [118] 118 = true) := by rfl
 have Im : Hid (inI [118] 109 = false) := by rfl
 have Id : Hid (inI [118] 100 = false) := by rfl
 have n1 : ¬ f = 1 := by omega
 have n2 : ¬ f = 2 := by omega
 have n5 : ¬ f = 5 := by omega
 have n6 : ¬ f = 6 := by omega
 have n8 : ¬ f = 8 := by omega
 have n15 : ¬ f = 15 := by omega
 have n16 : ¬ f = 16 := by omega
 have n17 : ¬ f = 17 := by omega
 have n22 : ¬ f = 22 := by omega
 have t5 : (f == 5) = false := by rw [beq_eq_false_iff_ne]; exact n5
 have t6 : (f == 6) = false := by rw [beq_eq_false_iff_ne]; exact n6
 have t8 : (f == 8) = false := by rw [beq_eq_false_iff_ne]; exact n8
 have HL : Hid (hasL f = [118]) := by rcases hf with rfl | rfl | rfl <;> rfl
 go_enter Tryz.func37, Tryz.ntmps37;go_upto_region 8 with (first | (go_at_call 48; refine (has_ref _ _).mono ?_; rintro e w4 ⟨rfl, rfl⟩; rw [KK.out]) | (go_at_call 31; refine (has_str _ _).mono ?_; rintro e w4 ⟨rfl, rfl⟩; rw [HL.out]))
 have XB := BoxP.new w f 0 a c s (.slice ab bs.length cb) (.slice av vs.length cv) m o (.slice ad ds.length capd) 46;have BW := W0.out (.cells #[J f, J 0, J a, J c, J s, .slice ab bs.length cb, .slice av vs.length cv, wV m, wV o, .slice ad ds.length capd] 46);generalize w.alloc (.cells #[J f, J 0, J a, J c, J s, .slice ab bs.length cb, .slice av vs.length cv, wV m, wV o, .slice ad ds.length capd] 46) = w0 at *;obtain ⟨gl, c0, c1, c2, c3, c4, c5, c6, c7, c8, c9⟩ := XB;refine l_begin (fun O HO => ?_);try simp only [List.cons_append, List.nil_append]
 refine l_V HO ?_
 refine l_M HO (fun K hK => ?_);go_wp2_with fail
 refine (in_at [118] _ _ (by decide) (by decide)).mono ?_;rintro e w4 ⟨rfl, rfl⟩;rw [Ia.out];go_simp;refine hK.out _ _ ?_;clear K hK;try simp only [Pu]
 iterate 4 (refine l_V HO ?_)
 by_cases ha : a ≠ 0
 ·
  have Ta : (a != 0) = true := by simpa using ha
  have L := Hh (HE.out trivial KK.out (.inl (fun h => ha (by simpa [formA, HF.out, n1, n2, n5, n6, n8, n15, n16, n17, n22] using h.1))));clear ha;refine l_V HO ?_;iterate 2 (refine l_V HO ?_)
  iterate 8 (refine l_S HO ?_)
  iterate 2 (refine l_V HO ?_)
  iterate 8 (refine l_S HO ?_)
  iterate 2 (refine l_V HO ?_)
  iterate 9 (refine l_S HO ?_)
  iterate 2 (refine l_V HO ?_)
  iterate 9 (refine l_S HO ?_)
  iterate 2 (refine l_V HO ?_)
  iterate 13 (refine l_S HO ?_)
  iterate 2 (refine l_V HO ?_)
  iterate 9 (refine l_S HO ?_)
  refine l_V HO ?_
  refine l_done ?_;go_wp2;go_ret;exact ⟨ret_int L.out.symm, BW⟩
 ·
  have ha' : a = 0 := by simpa using ha
  clear ha;subst ha';refine l_V HO ?_;iterate 3 (refine l_V HO ?_)
  refine l_M HO (fun K hK => ?_);go_wp2_with fail
  refine (in_at [118] _ _ (by decide) (by decide)).mono ?_;rintro e w4 ⟨rfl, rfl⟩;rw [Ic.out];go_simp;refine hK.out _ _ ?_;clear K hK;try simp only [Pu]
  iterate 4 (refine l_V HO ?_)
  by_cases hc : c ≠ 0
  ·
   have Tc : (c != 0) = true := by simpa using hc
   have L := Hh (HE.out trivial KK.out (.inl (fun h => hc (by simpa [formA, HF.out, n1, n2, n5, n6, n8, n15, n16, n17, n22] using h.2.1))));clear hc;refine l_V HO ?_;iterate 3 (refine l_V HO ?_)
   iterate 8 (refine l_S HO ?_)
   iterate 2 (refine l_V HO ?_)
   iterate 9 (refine l_S HO ?_)
   iterate 2 (refine l_V HO ?_)
   iterate 9 (refine l_S HO ?_)
   iterate 2 (refine l_V HO ?_)
   iterate 13 (refine l_S HO ?_)
   iterate 2 (refine l_V HO ?_)
   iterate 9 (refine l_S HO ?_)
   refine l_V HO ?_
   refine l_done ?_;go_wp2;go_ret;exact ⟨ret_int L.out.symm, BW⟩
  ·
   have hc' : c = 0 := by simpa using hc
   clear hc;subst hc';refine l_V HO ?_;iterate 4 (refine l_V HO ?_)
   refine l_M HO (fun K hK => ?_);go_wp2_with fail
   refine (in_at [118] _ _ (by decide) (by decide)).mono ?_;rintro e w4 ⟨rfl, rfl⟩;rw [Is.out];go_simp;refine hK.out _ _ ?_;clear K hK;try simp only [Pu]
   iterate 4 (refine l_V HO ?_)
   by_cases hs : s ≠ 0
   ·
    have Ts : (s != 0) = true := by simpa using hs
    have L := Hh (HE.out trivial KK.out (.inl (fun h => hs (by simpa [formA, HF.out, n1, n2, n5, n6, n8, n15, n16, n17, n22] using h.2.2.1))));clear hs;refine l_V HO ?_;iterate 3 (refine l_V HO ?_)
    iterate 9 (refine l_S HO ?_)
    iterate 2 (refine l_V HO ?_)
    iterate 9 (refine l_S HO ?_)
    iterate 2 (refine l_V HO ?_)
    iterate 13 (refine l_S HO ?_)
    iterate 2 (refine l_V HO ?_)
    iterate 9 (refine l_S HO ?_)
    refine l_V HO ?_
    refine l_done ?_;go_wp2;go_ret;exact ⟨ret_int L.out.symm, BW⟩
   ·
    have hs' : s = 0 := by simpa using hs
    clear hs;subst hs';refine l_V HO ?_;iterate 4 (refine l_V HO ?_)
    refine l_M HO (fun K hK => ?_);go_wp2_with fail
    refine (in_at [118] _ _ (by decide) (by decide)).mono ?_;rintro e w4 ⟨rfl, rfl⟩;rw [Ib.out];go_simp;refine hK.out _ _ ?_;clear K hK;try simp only [Pu]
    iterate 5 (refine l_V HO ?_)
    by_cases hb : bs ≠ []
    ·
     have Tb : (0 : Int) < (bs.length : Int) := by have := lpi.2 hb; omega
     have Ub : 0 < bs.length := lpi.2 hb;have L := Hh (HE.out trivial KK.out (.inl (fun h => hb (by simpa [formA, HF.out, n1, n2, n5, n6, n8, n15, n16, n17, n22] using h.2.2.2.1))));clear hb;refine l_V HO ?_;iterate 3 (refine l_V HO ?_)
     iterate 9 (refine l_S HO ?_)
     iterate 2 (refine l_V HO ?_)
     iterate 13 (refine l_S HO ?_)
     iterate 2 (refine l_V HO ?_)
     iterate 9 (refine l_S HO ?_)
     refine l_V HO ?_
     refine l_done ?_;go_wp2;go_ret;exact ⟨ret_int L.out.symm, BW⟩
    ·
     have hb' : bs = [] := by simpa using hb
     clear hb;subst hb';simp only [List.length_nil] at *;refine l_V HO ?_;iterate 4 (refine l_V HO ?_)
     refine l_M HO (fun K hK => ?_);go_wp2_with fail
     refine (in_at [118] _ _ (by decide) (by decide)).mono ?_;rintro e w4 ⟨rfl, rfl⟩;rw [Iv.out];go_simp;refine hK.out _ _ ?_;clear K hK;try simp only [Pu]
     iterate 2 (refine l_V HO ?_)
     iterate 4 (refine l_S HO ?_)
     iterate 4 (refine l_V HO ?_)
     refine l_M HO (fun K hK => ?_);go_wp2_with fail
     refine (in_at [118] _ _ (by decide) (by decide)).mono ?_;rintro e w4 ⟨rfl, rfl⟩;rw [Im.out];go_simp;refine hK.out _ _ ?_;clear K hK;try simp only [Pu]
     iterate 4 (refine l_V HO ?_)
     by_cases hm0 : m ≠ 0
     ·
      have Tm : ((m.toNat : Int) != 0) = true := by simp; intro h; exact hm0 (UInt16.toNat_inj.1 h)
      have L := Hh (HE.out trivial KK.out (.inl (fun h => hm0 (by have := h.2.2.2.2.2.1; simp [n22] at this; exact this.1))));clear hm0;refine l_V HO ?_;refine l_V HO ?_
      iterate 3 (refine l_S HO ?_)
      iterate 4 (refine l_V HO ?_)
      iterate 9 (refine l_S HO ?_)
      refine l_V HO ?_
      refine l_done ?_;go_wp2;go_ret;exact ⟨ret_int L.out.symm, BW⟩
     ·
      have hm0' : m = 0 := by simpa using hm0
      clear hm0;subst hm0';refine l_V HO ?_;iterate 3 (refine l_V HO ?_)
      by_cases ho0 : o ≠ 0
      ·
       have To : ((o.toNat : Int) != 0) = true := by simp; intro h; exact ho0 (UInt16.toNat_inj.1 h)
       have L := Hh (HE.out trivial KK.out (.inl (fun h => ho0 (by have := h.2.2.2.2.2.1; simp [n22] at this; exact this))));clear ho0;refine l_V HO ?_;iterate 4 (refine l_V HO ?_)
       iterate 9 (refine l_S HO ?_)
       refine l_V HO ?_
       refine l_done ?_;go_wp2;go_ret;exact ⟨ret_int L.out.symm, BW⟩
      ·
       have ho0' : o = 0 := by simpa using ho0
       clear ho0;subst ho0';refine l_V HO ?_;iterate 5 (refine l_V HO ?_)
       refine l_M HO (fun K hK => ?_);go_wp2_with fail
       refine (in_at [118] _ _ (by decide) (by decide)).mono ?_;rintro e w4 ⟨rfl, rfl⟩;rw [Id.out];go_simp;refine hK.out _ _ ?_;clear K hK;try simp only [Pu]
       iterate 5 (refine l_V HO ?_)
       by_cases hd : ds ≠ []
       ·
        have Td : (0 : Int) < (ds.length : Int) := by have := lpi.2 hd; omega
        have Ud : 0 < ds.length := lpi.2 hd;have L := Hh (HE.out trivial KK.out (.inl (fun h => hd (by simpa [formA, HF.out, n1, n2, n5, n6, n8, n15, n16, n17, n22] using h.2.2.2.2.2.2))));clear hd;refine l_V HO ?_;iterate 2 (refine l_V HO ?_)
        refine l_done ?_;go_wp2;go_ret;exact ⟨ret_int L.out.symm, BW⟩
       ·
        have hd' : ds = [] := by simpa using hd
        clear hd;subst hd';simp only [List.length_nil] at *;refine l_V HO ?_;iterate 2 (refine l_V HO ?_)
        refine l_done ?_;have G1 := Hh (show formA ⟨f, 0, 0, 0, 0, [], vs, 0, 0, []⟩ by simp [formA, HF.out, n1, n2, n5, n6, n8, n15, n16, n17, n22]);go_upto_region 10 with fail
        by_cases hl : (vs.length : Int) ≤ 127
        ·
         have t1 : ¬ (127 : Int) < (vs.length : Int) := by omega
         have u1 : ¬ 127 < vs.length := by omega
         have u3 : decide (127 < vs.length) = false := by rw [decide_eq_false_iff_not]; omega
         have u4 : decide ((127 : Int) < (vs.length : Int)) = false := by rw [decide_eq_false_iff_not]; omega
         have E2 := Hh (show (numB 0 && numB 0 && numB 0) = true by simp [N0.out]);have L := Hh (H0.out trivial KK.out G1.out E2.out (by simp [listA, HF.out, n1, n2]; try omega));refine l_begin (fun O HO => ?_);try simp only [List.cons_append, List.nil_append]
         iterate 2 (refine l_V HO ?_)
         refine l_M HO (fun K hK => ?_);go_wp2_with fail
         refine (word_ref _ _).mono ?_;rintro e w4 ⟨rfl, rfl⟩;rw [N0.out];go_simp;refine hK.out _ _ ?_;clear K hK;try simp only [Pu]
         iterate 4 (refine l_V HO ?_)
         refine l_M HO (fun K hK => ?_);go_wp2_with fail
         refine (word_ref _ _).mono ?_;rintro e w4 ⟨rfl, rfl⟩;rw [N0.out];go_simp;refine hK.out _ _ ?_;clear K hK;try simp only [Pu]
         iterate 5 (refine l_V HO ?_)
         refine l_M HO (fun K hK => ?_);go_wp2_with fail
         refine (word_ref _ _).mono ?_;rintro e w4 ⟨rfl, rfl⟩;rw [N0.out];go_simp;refine hK.out _ _ ?_;clear K hK;try simp only [Pu]
         iterate 7 (refine l_V HO ?_)
         iterate 4 (refine l_S HO ?_)
         iterate 12 (refine l_V HO ?_)
         iterate 4 (refine l_S HO ?_)
         iterate 20 (refine l_V HO ?_)
         refine l_done ?_;go_wp2;go_ret;exact ⟨ret_int L.out.symm, BW⟩
        ·
         have t1 : (127 : Int) < (vs.length : Int) := by omega
         have u1 : 127 < vs.length := by omega
         have u3 : decide (127 < vs.length) = true := by rw [decide_eq_true_iff]; omega
         have u4 : decide ((127 : Int) < (vs.length : Int)) = true := by rw [decide_eq_true_iff]; omega
         have L := Hh (HE.out trivial KK.out (.inr (.inr (by simp [listA, HF.out, n1, n2]; omega))));refine l_begin (fun O HO => ?_);try simp only [List.cons_append, List.nil_append]
         iterate 2 (refine l_V HO ?_)
         refine l_M HO (fun K hK => ?_);go_wp2_with fail
         refine (word_ref _ _).mono ?_;rintro e w4 ⟨rfl, rfl⟩;rw [N0.out];go_simp;refine hK.out _ _ ?_;clear K hK;try simp only [Pu]
         iterate 4 (refine l_V HO ?_)
         refine l_M HO (fun K hK => ?_);go_wp2_with fail
         refine (word_ref _ _).mono ?_;rintro e w4 ⟨rfl, rfl⟩;rw [N0.out];go_simp;refine hK.out _ _ ?_;clear K hK;try simp only [Pu]
         iterate 5 (refine l_V HO ?_)
         refine l_M HO (fun K hK => ?_);go_wp2_with fail
         refine (word_ref _ _).mono ?_;rintro e w4 ⟨rfl, rfl⟩;rw [N0.out];go_simp;refine hK.out _ _ ?_;clear K hK;try simp only [Pu]
         iterate 7 (refine l_V HO ?_)
         iterate 4 (refine l_S HO ?_)
         iterate 12 (refine l_V HO ?_)
         iterate 4 (refine l_S HO ?_)
         iterate 15 (refine l_V HO ?_)
         iterate 4 (refine l_S HO ?_)
         refine l_V HO ?_
         refine l_done ?_;go_wp2;go_ret;exact ⟨ret_int L.out.symm, BW⟩
end Go.Proofs.YtdihcdphgiaepaaGreat
