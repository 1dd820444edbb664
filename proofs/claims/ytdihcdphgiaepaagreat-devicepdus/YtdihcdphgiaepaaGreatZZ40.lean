/- Contract of burgageref3.Good: some functions. -/
import Derived.Test.YtdihcdphgiaepaaGreatZZ34
import Derived.Test.YtdihcdphgiaepaaGreatZZ35
import Derived.Test.YtdihcdphgiaepaaGreatZZ36
import Derived.Test.YtdihcdphgiaepaaGreatZZ38
import Derived.Test.YtdihcdphgiaepaaGreatZZ39
import Derived.Test.YtdihcdphgiaepaaGreatZZ9
import Derived.Deep.Cut
import Derived.Test.YtdihcdphgiaepaaGreatZZ27
import Derived.Test.YtdihcdphgiaepaaGreatZZ28
namespace Go.Proofs.YtdihcdphgiaepaaGreat
open Go.RowKit
set_option maxHeartbeats 1000000 in
theorem right_ref (v : Value) (q : Rq) (w : World) (h : IsRq w v q) :
  Calls Tryz.prog 29 #[v] w fun e w' => e = .returned (.int .i64 (rightE q)) ∧ Below w.heap.size w w' := by
 cases hk : knownB q.fn
 ·
  obtain ⟨ab, capb, av, capv, rfl, -, -⟩ := h.slices;have W0 := hidden (fun o => (Below.refl w.heap.size w).alloc (Nat.le_refl _) o);have e : rightE q = 15 := by simp [rightE, hk]
  rw [e];have KK := hidden hk;obtain ⟨f, a, c, p, s, bs, vs, m, o⟩ := q;simp only at KK ⊢;clear hk e h;go_enter Tryz.func29, Tryz.ntmps29;go_wp2_with (go_at_call 48; refine (has_ref _ _).mono ?_; rintro e w1 ⟨rfl, rfl⟩; rw [KK.out])
  go_ret;exact ⟨rfl, W0.out _⟩
 ·
  rcases known_cases hk with e | e | e | e | e | e | e | e | e | e | e | e
  ·
   exact right_ref_1c v q w h (.inl e)
  ·
   exact right_ref_1c v q w h (.inr (.inl e))
  ·
   exact right_ref_1c v q w h (.inr (.inr (.inl e)))
  ·
   exact right_ref_1c v q w h (.inr (.inr (.inr e)))
  ·
   exact right_ref_5 v q w h e
  ·
   exact right_ref_6 v q w h e
  ·
   exact right_ref_8 v q w h e
  ·
   exact right_ref_15 v q w h e
  ·
   exact right_ref_16 v q w h e
  ·
   exact right_ref_17 v q w h e
  ·
   exact right_ref_22 v q w h e
  ·
   exact right_ref_23 v q w h e
set_option maxHeartbeats 1000000 in
theorem bytes_ref (v : Value) (q : Rq) (w : World) (h : IsRq w v q) :
  Calls Tryz.prog 12 #[v] w fun e w' => ∃ v', e = .returned (.tuple #[v', .int .i64 (rightE q)]) ∧ w'.ownsRow w.heap.size 5 1 v' (bytesR q).length ((bytesR q).map bV) ∧ Below w.heap.size w w' := by
 obtain ⟨ab, capb, av, capv, rfl, -, -⟩ := h.slices;have W0 := hidden (fun o => (Below.refl w.heap.size w).alloc (Nat.le_refl _) o);have C := hidden (fun w' (hb : Below w.heap.size w w') => right_ref _ _ _ (h.below hb));by_cases hr : rightE q = 0
 ·
  rw [bytesR_0 hr];have HQ := hidden (fun w' (hb : Below w.heap.size w w') => write_ref _ _ _ (h.below hb) hr);rw [hr] at C ⊢;clear hr h;obtain ⟨f, a, c, p, s, bs, vs, m, o⟩ := q;simp only at C HQ ⊢;go_enter Tryz.func12, Tryz.ntmps12;go_wp2_with fail
  refine (C.out _ (W0.out _)).mono ?_;rintro e w1 ⟨rfl, B1⟩;have X := (Box.new w _ _ _ _ _ _ _ _ _ _).ext B1;replace B1 := below_then (W0.out _) B1;obtain ⟨lt, c0, c1, c2, c3, c4, c5, c6, c7, c8⟩ := X;have S1 := B1.size;go_wp2_with fail
  refine (HQ.out _ B1).mono ?_;rintro e w2 ⟨v2, rfl, o2, B2⟩;replace B2 := below_then B1 B2;replace o2 := owns_base o2 (base' := w.heap.size) S1;go_wp2;go_ret2
  exact ⟨_, rfl, o2, B2⟩
 ·
  rw [bytesR_no hr];have t : (rightE q != 0) = true := by simpa using hr
  generalize rightE q = E at *;clear hr h;go_enter Tryz.func12, Tryz.ntmps12;go_wp2_with fail
  refine (C.out _ (W0.out _)).mono ?_;rintro e w1 ⟨rfl, B1⟩;replace B1 := below_then (W0.out _) B1;go_wp2;go_ret2
  exact ⟨_, rfl, World.ownsRow_nil _ _ _ _, B1⟩
def hasL (f : Int) : List UInt8 :=
 if f = 1 ∨ f = 2 then [98]
 else if f = 3 ∨ f = 4 ∨ f = 23 then [118]
 else if f = 5 then [97, 98]
 else if f = 6 then [97, 118]
 else if f = 8 then [115, 118]
 else if f = 15 ∨ f = 16 then [97, 99]
 else if f = 17 then [100]
 else [97, 109]
set_option maxHeartbeats 400000 in
theorem has_str (f : Int) (w : World) : Calls Tryz.prog 31 #[.int .i64 f] w fun e w' => e = .returned (.string ⟨(hasL f).toArray⟩) ∧ w = w' := by
 cases hk : knownB f
 ·
  obtain ⟨h1, h2, h3, h4, h5, h6, h8, h15, h16, h17, h22, h23⟩ := known_no hk;have e : hasL f = [97, 109] := by
   simp only [beq_eq_false_iff_ne] at *;unfold hasL;rw [if_neg (by omega), if_neg (by omega), if_neg (by omega), if_neg (by omega), if_neg (by omega), if_neg (by omega), if_neg (by omega)]
  rw [e];clear hk e;go_enter Tryz.func31, Tryz.ntmps31;go_wp2;go_ret;exact ⟨rfl, rfl⟩
 ·
  rcases known_cases hk with rfl | rfl | rfl | rfl | rfl | rfl | rfl | rfl | rfl | rfl | rfl | rfl
  all_goals
   clear hk;go_enter Tryz.func31, Tryz.ntmps31;go_wp2;go_ret;exact ⟨rfl, rfl⟩
set_option maxRecDepth 100000 in
set_option maxHeartbeats 6000000 in
theorem good_ref_1c (v : Value) (r : Rp) (w : World) (h : IsRp w v r) (hc : r.code = 0) (hf : r.fn = 1 ∨ r.fn = 2) :
  Calls Tryz.prog 37 #[v] w fun e w' => e = .returned (.int .i64 (goodE r)) ∧ Below w.heap.size w w' := by
 obtain ⟨ab, capb, av, capv, ad, capd, rfl, z1, z2, z3⟩ := h.slices;have W0 := hidden (fun o => (Below.refl w.heap.size w).alloc (Nat.le_refl _) o);have HE := hidden (@goodE_12 r);have H0 := hidden (@goodE_0 r);have KK : Hid (knownB r.fn = true) := by show _ = _; rcases hf with e | e <;> rw [e] <;> rfl
 obtain ⟨f, k, a, c, s, bs, vs, m, o, ds⟩ := r;simp only at HE H0 KK hf hc z1 z2 z3 ⊢;have HF := hidden hf;subst hc;have hm := m.toNat_lt;have ho := o.toNat_lt;have N0 : Hid (numB 0 = true) := by rfl
 clear h;have Ia : Hid (inI [98] 97 = false) := by rfl
 have Ic : Hid (inI [98] 99 = false) := by rfl
 have Is : Hid (inI [98] 115 = false) := by rfl
 have Ib : Hid (inI [98] 98 = true) := by rfl
 have Iv : Hid (inI [98] 118 = false) := by rfl
 have Im : Hid (inI [98] 109 = false) := by rfl
 have Id : Hid (inI [98] 100 = false) := by rfl
 have n3 : ¬ f = 3 := by omega
 have n4 : ¬ f = 4 := by omega
 have n5 : ¬ f = 5 := by omega
 have n6 : ¬ f = 6 := by omega
 have n8 : ¬ f = 8 := by omega
 have n15 : ¬ f = 15 := by omega
 have n16 : ¬ f = 16 := by omega
 have n17 : ¬ f = 17 := by omega
 have n22 : ¬ f = 22 := by omega
 have n23 : ¬ f = 23 := by omega
 have t5 : (f == 5) = false := by rw [beq_eq_false_iff_ne]; exact n5
 have t6 : (f == 6) = false := by rw [beq_eq_false_iff_ne]; exact n6
 have t8 : (f == 8) = false := by rw [beq_eq_false_iff_ne]; exact n8
 have HL : Hid (hasL f = [98]) := by rcases hf with rfl | rfl <;> rfl
 go_enter Tryz.func37, Tryz.ntmps37;go_upto_region 8 with (first | (go_at_call 48; refine (has_ref _ _).mono ?_; rintro e w4 ⟨rfl, rfl⟩; rw [KK.out]) | (go_at_call 31; refine (has_str _ _).mono ?_; rintro e w4 ⟨rfl, rfl⟩; rw [HL.out]))
 have XB := BoxP.new w f 0 a c s (.slice ab bs.length capb) (.slice av vs.length capv) m o (.slice ad ds.length capd) 46;have BW := W0.out (.cells #[.int .i64 f, .int .i64 0, .int .i64 a, .int .i64 c, .int .i64 s, .slice ab bs.length capb, .slice av vs.length capv, wV m, wV o, .slice ad ds.length capd] 46);generalize w.alloc (.cells #[.int .i64 f, .int .i64 0, .int .i64 a, .int .i64 c, .int .i64 s, .slice ab bs.length capb, .slice av vs.length capv, wV m, wV o, .slice ad ds.length capd] 46) = w0 at *;obtain ⟨gl, c0, c1, c2, c3, c4, c5, c6, c7, c8, c9⟩ := XB;refine l_begin (fun O HO => ?_);try simp only [List.cons_append, List.nil_append]
 iterate 1 (refine l_V HO ?_)
 refine l_move (by rw [HO.out]; kernel_rfl) (fun K hK => ?_);go_wp2_with fail
 refine (in_at [98] _ _ (by decide) (by decide)).mono ?_;rintro e w4 ⟨rfl, rfl⟩;rw [Ia.out];go_simp;refine hK.out _ _ ?_;clear K hK;try simp only [Act.put, PuA, PuB, PuC]
 iterate 4 (refine l_V HO ?_)
 by_cases ha : a ≠ 0
 ·
  have Ta : (a != 0) = true := by simpa using ha
  have L := hidden (HE.out trivial KK.out (.inl (fun h => ha (by simpa [formA, HF.out, n3, n4, n5, n6, n8, n15, n16, n17, n22, n23] using h.1))));clear ha;refine l_V HO ?_;iterate 2 (refine l_V HO ?_)
  iterate 8 (refine l_S HO ?_)
  iterate 2 (refine l_V HO ?_)
  iterate 8 (refine l_S HO ?_)
  iterate 2 (refine l_V HO ?_)
  iterate 9 (refine l_S HO ?_)
  iterate 2 (refine l_V HO ?_)
  iterate 9 (refine l_S HO ?_)
  iterate 2 (refine l_V HO ?_)
  iterate 13 (refine l_S HO ?_)
  iterate 2 (refine l_V HO ?_)
  iterate 9 (refine l_S HO ?_)
  iterate 1 (refine l_V HO ?_)
  refine l_done ?_;go_wp2;go_ret;exact ⟨ret_int L.out.symm, BW⟩
 ·
  have ha' : a = 0 := by simpa using ha
  clear ha;subst ha';refine l_V HO ?_;iterate 3 (refine l_V HO ?_)
  refine l_move (by rw [HO.out]; kernel_rfl) (fun K hK => ?_);go_wp2_with fail
  refine (in_at [98] _ _ (by decide) (by decide)).mono ?_;rintro e w4 ⟨rfl, rfl⟩;rw [Ic.out];go_simp;refine hK.out _ _ ?_;clear K hK;try simp only [Act.put, PuA, PuB, PuC]
  iterate 4 (refine l_V HO ?_)
  by_cases hc : c ≠ 0
  ·
   have Tc : (c != 0) = true := by simpa using hc
   have L := hidden (HE.out trivial KK.out (.inl (fun h => hc (by simpa [formA, HF.out, n3, n4, n5, n6, n8, n15, n16, n17, n22, n23] using h.2.1))));clear hc;refine l_V HO ?_;iterate 3 (refine l_V HO ?_)
   iterate 8 (refine l_S HO ?_)
   iterate 2 (refine l_V HO ?_)
   iterate 9 (refine l_S HO ?_)
   iterate 2 (refine l_V HO ?_)
   iterate 9 (refine l_S HO ?_)
   iterate 2 (refine l_V HO ?_)
   iterate 13 (refine l_S HO ?_)
   iterate 2 (refine l_V HO ?_)
   iterate 9 (refine l_S HO ?_)
   iterate 1 (refine l_V HO ?_)
   refine l_done ?_;go_wp2;go_ret;exact ⟨ret_int L.out.symm, BW⟩
  ·
   have hc' : c = 0 := by simpa using hc
   clear hc;subst hc';refine l_V HO ?_;iterate 4 (refine l_V HO ?_)
   refine l_move (by rw [HO.out]; kernel_rfl) (fun K hK => ?_);go_wp2_with fail
   refine (in_at [98] _ _ (by decide) (by decide)).mono ?_;rintro e w4 ⟨rfl, rfl⟩;rw [Is.out];go_simp;refine hK.out _ _ ?_;clear K hK;try simp only [Act.put, PuA, PuB, PuC]
   iterate 4 (refine l_V HO ?_)
   by_cases hs : s ≠ 0
   ·
    have Ts : (s != 0) = true := by simpa using hs
    have L := hidden (HE.out trivial KK.out (.inl (fun h => hs (by simpa [formA, HF.out, n3, n4, n5, n6, n8, n15, n16, n17, n22, n23] using h.2.2.1))));clear hs;refine l_V HO ?_;iterate 3 (refine l_V HO ?_)
    iterate 9 (refine l_S HO ?_)
    iterate 2 (refine l_V HO ?_)
    iterate 9 (refine l_S HO ?_)
    iterate 2 (refine l_V HO ?_)
    iterate 13 (refine l_S HO ?_)
    iterate 2 (refine l_V HO ?_)
    iterate 9 (refine l_S HO ?_)
    iterate 1 (refine l_V HO ?_)
    refine l_done ?_;go_wp2;go_ret;exact ⟨ret_int L.out.symm, BW⟩
   ·
    have hs' : s = 0 := by simpa using hs
    clear hs;subst hs';refine l_V HO ?_;iterate 4 (refine l_V HO ?_)
    refine l_move (by rw [HO.out]; kernel_rfl) (fun K hK => ?_);go_wp2_with fail
    refine (in_at [98] _ _ (by decide) (by decide)).mono ?_;rintro e w4 ⟨rfl, rfl⟩;rw [Ib.out];go_simp;refine hK.out _ _ ?_;clear K hK;try simp only [Act.put, PuA, PuB, PuC]
    iterate 2 (refine l_V HO ?_)
    iterate 4 (refine l_S HO ?_)
    iterate 4 (refine l_V HO ?_)
    refine l_move (by rw [HO.out]; kernel_rfl) (fun K hK => ?_);go_wp2_with fail
    refine (in_at [98] _ _ (by decide) (by decide)).mono ?_;rintro e w4 ⟨rfl, rfl⟩;rw [Iv.out];go_simp;refine hK.out _ _ ?_;clear K hK;try simp only [Act.put, PuA, PuB, PuC]
    iterate 5 (refine l_V HO ?_)
    by_cases hv : vs ≠ []
    ·
     have Tv : (0 : Int) < (vs.length : Int) := by have := List.length_pos_iff.2 hv; omega
     have Uv : 0 < vs.length := List.length_pos_iff.2 hv;have L := hidden (HE.out trivial KK.out (.inl (fun h => hv (by simpa [formA, HF.out, n3, n4, n5, n6, n8, n15, n16, n17, n22, n23] using h.2.2.2.2.1))));clear hv;refine l_V HO ?_;iterate 3 (refine l_V HO ?_)
     iterate 13 (refine l_S HO ?_)
     iterate 2 (refine l_V HO ?_)
     iterate 9 (refine l_S HO ?_)
     iterate 1 (refine l_V HO ?_)
     refine l_done ?_;go_wp2;go_ret;exact ⟨ret_int L.out.symm, BW⟩
    ·
     have hv' : vs = [] := by simpa using hv
     clear hv;subst hv';simp only [List.length_nil] at *;refine l_V HO ?_;iterate 4 (refine l_V HO ?_)
     refine l_move (by rw [HO.out]; kernel_rfl) (fun K hK => ?_);go_wp2_with fail
     refine (in_at [98] _ _ (by decide) (by decide)).mono ?_;rintro e w4 ⟨rfl, rfl⟩;rw [Im.out];go_simp;refine hK.out _ _ ?_;clear K hK;try simp only [Act.put, PuA, PuB, PuC]
     iterate 4 (refine l_V HO ?_)
     by_cases hm0 : m ≠ 0
     ·
      have Tm : ((m.toNat : Int) != 0) = true := by simp; intro h; exact hm0 (UInt16.toNat_inj.1 h)
      have L := hidden (HE.out trivial KK.out (.inl (fun h => hm0 (by have := h.2.2.2.2.2.1; simp [n22] at this; exact this.1))));clear hm0;refine l_V HO ?_;iterate 1 (refine l_V HO ?_)
      iterate 3 (refine l_S HO ?_)
      iterate 4 (refine l_V HO ?_)
      iterate 9 (refine l_S HO ?_)
      iterate 1 (refine l_V HO ?_)
      refine l_done ?_;go_wp2;go_ret;exact ⟨ret_int L.out.symm, BW⟩
     ·
      have hm0' : m = 0 := by simpa using hm0
      clear hm0;subst hm0';refine l_V HO ?_;iterate 3 (refine l_V HO ?_)
      by_cases ho0 : o ≠ 0
      ·
       have To : ((o.toNat : Int) != 0) = true := by simp; intro h; exact ho0 (UInt16.toNat_inj.1 h)
       have L := hidden (HE.out trivial KK.out (.inl (fun h => ho0 (by have := h.2.2.2.2.2.1; simp [n22] at this; exact this))));clear ho0;refine l_V HO ?_;iterate 4 (refine l_V HO ?_)
       iterate 9 (refine l_S HO ?_)
       iterate 1 (refine l_V HO ?_)
       refine l_done ?_;go_wp2;go_ret;exact ⟨ret_int L.out.symm, BW⟩
      ·
       have ho0' : o = 0 := by simpa using ho0
       clear ho0;subst ho0';refine l_V HO ?_;iterate 5 (refine l_V HO ?_)
       refine l_move (by rw [HO.out]; kernel_rfl) (fun K hK => ?_);go_wp2_with fail
       refine (in_at [98] _ _ (by decide) (by decide)).mono ?_;rintro e w4 ⟨rfl, rfl⟩;rw [Id.out];go_simp;refine hK.out _ _ ?_;clear K hK;try simp only [Act.put, PuA, PuB, PuC]
       iterate 5 (refine l_V HO ?_)
       by_cases hd : ds ≠ []
       ·
        have Td : (0 : Int) < (ds.length : Int) := by have := List.length_pos_iff.2 hd; omega
        have Ud : 0 < ds.length := List.length_pos_iff.2 hd;have L := hidden (HE.out trivial KK.out (.inl (fun h => hd (by simpa [formA, HF.out, n3, n4, n5, n6, n8, n15, n16, n17, n22, n23] using h.2.2.2.2.2.2))));clear hd;refine l_V HO ?_;iterate 2 (refine l_V HO ?_)
        refine l_done ?_;go_wp2;go_ret;exact ⟨ret_int L.out.symm, BW⟩
       ·
        have hd' : ds = [] := by simpa using hd
        clear hd;subst hd';simp only [List.length_nil] at *;refine l_V HO ?_;iterate 2 (refine l_V HO ?_)
        refine l_done ?_;have G1 := hidden (show formA ⟨f, 0, 0, 0, 0, bs, [], 0, 0, []⟩ by simp [formA, HF.out, n3, n4, n5, n6, n8, n15, n16, n17, n22, n23]);go_upto_region 10 with fail
        by_cases hl : (bs.length : Int) ≤ 2040
        ·
         have t1 : ¬ (2040 : Int) < (bs.length : Int) := by omega
         have u1 : ¬ 2040 < bs.length := by omega
         have u3 : decide (2040 < bs.length) = false := by rw [decide_eq_false_iff_not]; omega
         have u4 : decide ((2040 : Int) < (bs.length : Int)) = false := by rw [decide_eq_false_iff_not]; omega
         have E2 := hidden (show (numB 0 && numB 0 && numB 0) = true by simp [N0.out]);have L := hidden (H0.out trivial KK.out G1.out E2.out (by simp [listA, HF.out]; try omega));refine l_begin (fun O HO => ?_);try simp only [List.cons_append, List.nil_append]
         iterate 2 (refine l_V HO ?_)
         refine l_move (by rw [HO.out]; kernel_rfl) (fun K hK => ?_);go_wp2_with fail
         refine (word_ref _ _).mono ?_;rintro e w4 ⟨rfl, rfl⟩;rw [N0.out];go_simp;refine hK.out _ _ ?_;clear K hK;try simp only [Act.put, PuA, PuB, PuC]
         iterate 4 (refine l_V HO ?_)
         refine l_move (by rw [HO.out]; kernel_rfl) (fun K hK => ?_);go_wp2_with fail
         refine (word_ref _ _).mono ?_;rintro e w4 ⟨rfl, rfl⟩;rw [N0.out];go_simp;refine hK.out _ _ ?_;clear K hK;try simp only [Act.put, PuA, PuB, PuC]
         iterate 5 (refine l_V HO ?_)
         refine l_move (by rw [HO.out]; kernel_rfl) (fun K hK => ?_);go_wp2_with fail
         refine (word_ref _ _).mono ?_;rintro e w4 ⟨rfl, rfl⟩;rw [N0.out];go_simp;refine hK.out _ _ ?_;clear K hK;try simp only [Act.put, PuA, PuB, PuC]
         iterate 7 (refine l_V HO ?_)
         iterate 4 (refine l_S HO ?_)
         iterate 12 (refine l_V HO ?_)
         iterate 4 (refine l_S HO ?_)
         iterate 20 (refine l_V HO ?_)
         refine l_done ?_;go_wp2;go_ret;exact ⟨ret_int L.out.symm, BW⟩
        ·
         have t1 : (2040 : Int) < (bs.length : Int) := by omega
         have u1 : 2040 < bs.length := by omega
         have u3 : decide (2040 < bs.length) = true := by rw [decide_eq_true_iff]; omega
         have u4 : decide ((2040 : Int) < (bs.length : Int)) = true := by rw [decide_eq_true_iff]; omega
         have L := hidden (HE.out trivial KK.out (.inr (.inr (by simp [listA, HF.out]; omega))));refine l_begin (fun O HO => ?_);try simp only [List.cons_append, List.nil_append]
         iterate 2 (refine l_V HO ?_)
         refine l_move (by rw [HO.out]; kernel_rfl) (fun K hK => ?_);go_wp2_with fail
         refine (word_ref _ _).mono ?_;rintro e w4 ⟨rfl, rfl⟩;rw [N0.out];go_simp;refine hK.out _ _ ?_;clear K hK;try simp only [Act.put, PuA, PuB, PuC]
         iterate 4 (refine l_V HO ?_)
         refine l_move (by rw [HO.out]; kernel_rfl) (fun K hK => ?_);go_wp2_with fail
         refine (word_ref _ _).mono ?_;rintro e w4 ⟨rfl, rfl⟩;rw [N0.out];go_simp;refine hK.out _ _ ?_;clear K hK;try simp only [Act.put, PuA, PuB, PuC]
         iterate 5 (refine l_V HO ?_)
         refine l_move (by rw [HO.out]; kernel_rfl) (fun K hK => ?_);go_wp2_with fail
         refine (word_ref _ _).mono ?_;rintro e w4 ⟨rfl, rfl⟩;rw [N0.out];go_simp;refine hK.out _ _ ?_;clear K hK;try simp only [Act.put, PuA, PuB, PuC]
         iterate 7 (refine l_V HO ?_)
         iterate 4 (refine l_S HO ?_)
         iterate 12 (refine l_V HO ?_)
         iterate 4 (refine l_S HO ?_)
         iterate 9 (refine l_V HO ?_)
         iterate 4 (refine l_S HO ?_)
         iterate 2 (refine l_V HO ?_)
         iterate 4 (refine l_S HO ?_)
         iterate 1 (refine l_V HO ?_)
         refine l_done ?_;go_wp2;go_ret;exact ⟨ret_int L.out.symm, BW⟩
set_option maxRecDepth 100000 in
set_option maxHeartbeats 6000000 in
theorem good_ref_3c (v : Value) (r : Rp) (w : World) (h : IsRp w v r) (hc : r.code = 0) (hf : r.fn = 3 ∨ r.fn = 4 ∨ r.fn = 23) :
  Calls Tryz.prog 37 #[v] w fun e w' => e = .returned (.int .i64 (goodE r)) ∧ Below w.heap.size w w' := by
 obtain ⟨ab, capb, av, capv, ad, capd, rfl, z1, z2, z3⟩ := h.slices;have W0 := hidden (fun o => (Below.refl w.heap.size w).alloc (Nat.le_refl _) o);have HE := hidden (@goodE_12 r);have H0 := hidden (@goodE_0 r);have KK : Hid (knownB r.fn = true) := by show _ = _; rcases hf with e | e | e <;> rw [e] <;> rfl
 obtain ⟨f, k, a, c, s, bs, vs, m, o, ds⟩ := r;simp only at HE H0 KK hf hc z1 z2 z3 ⊢;have HF := hidden hf;subst hc;have hm := m.toNat_lt;have ho := o.toNat_lt;have N0 : Hid (numB 0 = true) := by rfl
 clear h;have Ia : Hid (inI [118] 97 = false) := by rfl
 have Ic : Hid (inI [118] 99 = false) := by rfl
 have Is : Hid (inI [118] 115 = false) := by rfl
 have Ib : Hid (inI [118] 98 = false) := by rfl
 have Iv : Hid (inI [118] 118 = true) := by rfl
 have Im : Hid (inI [118] 109 = false) := by rfl
 have Id : Hid (inI [118] 100 = false) := by rfl
 have n1 : ¬ f = 1 := by omega
 have n2 : ¬ f = 2 := by omega
 have n5 : ¬ f = 5 := by omega
 have n6 : ¬ f = 6 := by omega
 have n8 : ¬ f = 8 := by omega
 have n15 : ¬ f = 15 := by omega
 have n16 : ¬ f = 16 := by omega
 have n17 : ¬ f = 17 := by omega
 have n22 : ¬ f = 22 := by omega
 have t5 : (f == 5) = false := by rw [beq_eq_false_iff_ne]; exact n5
 have t6 : (f == 6) = false := by rw [beq_eq_false_iff_ne]; exact n6
 have t8 : (f == 8) = false := by rw [beq_eq_false_iff_ne]; exact n8
 have HL : Hid (hasL f = [118]) := by rcases hf with rfl | rfl | rfl <;> rfl
 go_enter Tryz.func37, Tryz.ntmps37;go_upto_region 8 with (first | (go_at_call 48; refine (has_ref _ _).mono ?_; rintro e w4 ⟨rfl, rfl⟩; rw [KK.out]) | (go_at_call 31; refine (has_str _ _).mono ?_; rintro e w4 ⟨rfl, rfl⟩; rw [HL.out]))
 have XB := BoxP.new w f 0 a c s (.slice ab bs.length capb) (.slice av vs.length capv) m o (.slice ad ds.length capd) 46;have BW := W0.out (.cells #[.int .i64 f, .int .i64 0, .int .i64 a, .int .i64 c, .int .i64 s, .slice ab bs.length capb, .slice av vs.length capv, wV m, wV o, .slice ad ds.length capd] 46);generalize w.alloc (.cells #[.int .i64 f, .int .i64 0, .int .i64 a, .int .i64 c, .int .i64 s, .slice ab bs.length capb, .slice av vs.length capv, wV m, wV o, .slice ad ds.length capd] 46) = w0 at *;obtain ⟨gl, c0, c1, c2, c3, c4, c5, c6, c7, c8, c9⟩ := XB;refine l_begin (fun O HO => ?_);try simp only [List.cons_append, List.nil_append]
 iterate 1 (refine l_V HO ?_)
 refine l_move (by rw [HO.out]; kernel_rfl) (fun K hK => ?_);go_wp2_with fail
 refine (in_at [118] _ _ (by decide) (by decide)).mono ?_;rintro e w4 ⟨rfl, rfl⟩;rw [Ia.out];go_simp;refine hK.out _ _ ?_;clear K hK;try simp only [Act.put, PuA, PuB, PuC]
 iterate 4 (refine l_V HO ?_)
 by_cases ha : a ≠ 0
 ·
  have Ta : (a != 0) = true := by simpa using ha
  have L := hidden (HE.out trivial KK.out (.inl (fun h => ha (by simpa [formA, HF.out, n1, n2, n5, n6, n8, n15, n16, n17, n22] using h.1))));clear ha;refine l_V HO ?_;iterate 2 (refine l_V HO ?_)
  iterate 8 (refine l_S HO ?_)
  iterate 2 (refine l_V HO ?_)
  iterate 8 (refine l_S HO ?_)
  iterate 2 (refine l_V HO ?_)
  iterate 9 (refine l_S HO ?_)
  iterate 2 (refine l_V HO ?_)
  iterate 9 (refine l_S HO ?_)
  iterate 2 (refine l_V HO ?_)
  iterate 13 (refine l_S HO ?_)
  iterate 2 (refine l_V HO ?_)
  iterate 9 (refine l_S HO ?_)
  iterate 1 (refine l_V HO ?_)
  refine l_done ?_;go_wp2;go_ret;exact ⟨ret_int L.out.symm, BW⟩
 ·
  have ha' : a = 0 := by simpa using ha
  clear ha;subst ha';refine l_V HO ?_;iterate 3 (refine l_V HO ?_)
  refine l_move (by rw [HO.out]; kernel_rfl) (fun K hK => ?_);go_wp2_with fail
  refine (in_at [118] _ _ (by decide) (by decide)).mono ?_;rintro e w4 ⟨rfl, rfl⟩;rw [Ic.out];go_simp;refine hK.out _ _ ?_;clear K hK;try simp only [Act.put, PuA, PuB, PuC]
  iterate 4 (refine l_V HO ?_)
  by_cases hc : c ≠ 0
  ·
   have Tc : (c != 0) = true := by simpa using hc
   have L := hidden (HE.out trivial KK.out (.inl (fun h => hc (by simpa [formA, HF.out, n1, n2, n5, n6, n8, n15, n16, n17, n22] using h.2.1))));clear hc;refine l_V HO ?_;iterate 3 (refine l_V HO ?_)
   iterate 8 (refine l_S HO ?_)
   iterate 2 (refine l_V HO ?_)
   iterate 9 (refine l_S HO ?_)
   iterate 2 (refine l_V HO ?_)
   iterate 9 (refine l_S HO ?_)
   iterate 2 (refine l_V HO ?_)
   iterate 13 (refine l_S HO ?_)
   iterate 2 (refine l_V HO ?_)
   iterate 9 (refine l_S HO ?_)
   iterate 1 (refine l_V HO ?_)
   refine l_done ?_;go_wp2;go_ret;exact ⟨ret_int L.out.symm, BW⟩
  ·
   have hc' : c = 0 := by simpa using hc
   clear hc;subst hc';refine l_V HO ?_;iterate 4 (refine l_V HO ?_)
   refine l_move (by rw [HO.out]; kernel_rfl) (fun K hK => ?_);go_wp2_with fail
   refine (in_at [118] _ _ (by decide) (by decide)).mono ?_;rintro e w4 ⟨rfl, rfl⟩;rw [Is.out];go_simp;refine hK.out _ _ ?_;clear K hK;try simp only [Act.put, PuA, PuB, PuC]
   iterate 4 (refine l_V HO ?_)
   by_cases hs : s ≠ 0
   ·
    have Ts : (s != 0) = true := by simpa using hs
    have L := hidden (HE.out trivial KK.out (.inl (fun h => hs (by simpa [formA, HF.out, n1, n2, n5, n6, n8, n15, n16, n17, n22] using h.2.2.1))));clear hs;refine l_V HO ?_;iterate 3 (refine l_V HO ?_)
    iterate 9 (refine l_S HO ?_)
    iterate 2 (refine l_V HO ?_)
    iterate 9 (refine l_S HO ?_)
    iterate 2 (refine l_V HO ?_)
    iterate 13 (refine l_S HO ?_)
    iterate 2 (refine l_V HO ?_)
    iterate 9 (refine l_S HO ?_)
    iterate 1 (refine l_V HO ?_)
    refine l_done ?_;go_wp2;go_ret;exact ⟨ret_int L.out.symm, BW⟩
   ·
    have hs' : s = 0 := by simpa using hs
    clear hs;subst hs';refine l_V HO ?_;iterate 4 (refine l_V HO ?_)
    refine l_move (by rw [HO.out]; kernel_rfl) (fun K hK => ?_);go_wp2_with fail
    refine (in_at [118] _ _ (by decide) (by decide)).mono ?_;rintro e w4 ⟨rfl, rfl⟩;rw [Ib.out];go_simp;refine hK.out _ _ ?_;clear K hK;try simp only [Act.put, PuA, PuB, PuC]
    iterate 5 (refine l_V HO ?_)
    by_cases hb : bs ≠ []
    ·
     have Tb : (0 : Int) < (bs.length : Int) := by have := List.length_pos_iff.2 hb; omega
     have Ub : 0 < bs.length := List.length_pos_iff.2 hb;have L := hidden (HE.out trivial KK.out (.inl (fun h => hb (by simpa [formA, HF.out, n1, n2, n5, n6, n8, n15, n16, n17, n22] using h.2.2.2.1))));clear hb;refine l_V HO ?_;iterate 3 (refine l_V HO ?_)
     iterate 9 (refine l_S HO ?_)
     iterate 2 (refine l_V HO ?_)
     iterate 13 (refine l_S HO ?_)
     iterate 2 (refine l_V HO ?_)
     iterate 9 (refine l_S HO ?_)
     iterate 1 (refine l_V HO ?_)
     refine l_done ?_;go_wp2;go_ret;exact ⟨ret_int L.out.symm, BW⟩
    ·
     have hb' : bs = [] := by simpa using hb
     clear hb;subst hb';simp only [List.length_nil] at *;refine l_V HO ?_;iterate 4 (refine l_V HO ?_)
     refine l_move (by rw [HO.out]; kernel_rfl) (fun K hK => ?_);go_wp2_with fail
     refine (in_at [118] _ _ (by decide) (by decide)).mono ?_;rintro e w4 ⟨rfl, rfl⟩;rw [Iv.out];go_simp;refine hK.out _ _ ?_;clear K hK;try simp only [Act.put, PuA, PuB, PuC]
     iterate 2 (refine l_V HO ?_)
     iterate 4 (refine l_S HO ?_)
     iterate 4 (refine l_V HO ?_)
     refine l_move (by rw [HO.out]; kernel_rfl) (fun K hK => ?_);go_wp2_with fail
     refine (in_at [118] _ _ (by decide) (by decide)).mono ?_;rintro e w4 ⟨rfl, rfl⟩;rw [Im.out];go_simp;refine hK.out _ _ ?_;clear K hK;try simp only [Act.put, PuA, PuB, PuC]
     iterate 4 (refine l_V HO ?_)
     by_cases hm0 : m ≠ 0
     ·
      have Tm : ((m.toNat : Int) != 0) = true := by simp; intro h; exact hm0 (UInt16.toNat_inj.1 h)
      have L := hidden (HE.out trivial KK.out (.inl (fun h => hm0 (by have := h.2.2.2.2.2.1; simp [n22] at this; exact this.1))));clear hm0;refine l_V HO ?_;iterate 1 (refine l_V HO ?_)
      iterate 3 (refine l_S HO ?_)
      iterate 4 (refine l_V HO ?_)
      iterate 9 (refine l_S HO ?_)
      iterate 1 (refine l_V HO ?_)
      refine l_done ?_;go_wp2;go_ret;exact ⟨ret_int L.out.symm, BW⟩
     ·
      have hm0' : m = 0 := by simpa using hm0
      clear hm0;subst hm0';refine l_V HO ?_;iterate 3 (refine l_V HO ?_)
      by_cases ho0 : o ≠ 0
      ·
       have To : ((o.toNat : Int) != 0) = true := by simp; intro h; exact ho0 (UInt16.toNat_inj.1 h)
       have L := hidden (HE.out trivial KK.out (.inl (fun h => ho0 (by have := h.2.2.2.2.2.1; simp [n22] at this; exact this))));clear ho0;refine l_V HO ?_;iterate 4 (refine l_V HO ?_)
       iterate 9 (refine l_S HO ?_)
       iterate 1 (refine l_V HO ?_)
       refine l_done ?_;go_wp2;go_ret;exact ⟨ret_int L.out.symm, BW⟩
      ·
       have ho0' : o = 0 := by simpa using ho0
       clear ho0;subst ho0';refine l_V HO ?_;iterate 5 (refine l_V HO ?_)
       refine l_move (by rw [HO.out]; kernel_rfl) (fun K hK => ?_);go_wp2_with fail
       refine (in_at [118] _ _ (by decide) (by decide)).mono ?_;rintro e w4 ⟨rfl, rfl⟩;rw [Id.out];go_simp;refine hK.out _ _ ?_;clear K hK;try simp only [Act.put, PuA, PuB, PuC]
       iterate 5 (refine l_V HO ?_)
       by_cases hd : ds ≠ []
       ·
        have Td : (0 : Int) < (ds.length : Int) := by have := List.length_pos_iff.2 hd; omega
        have Ud : 0 < ds.length := List.length_pos_iff.2 hd;have L := hidden (HE.out trivial KK.out (.inl (fun h => hd (by simpa [formA, HF.out, n1, n2, n5, n6, n8, n15, n16, n17, n22] using h.2.2.2.2.2.2))));clear hd;refine l_V HO ?_;iterate 2 (refine l_V HO ?_)
        refine l_done ?_;go_wp2;go_ret;exact ⟨ret_int L.out.symm, BW⟩
       ·
        have hd' : ds = [] := by simpa using hd
        clear hd;subst hd';simp only [List.length_nil] at *;refine l_V HO ?_;iterate 2 (refine l_V HO ?_)
        refine l_done ?_;have G1 := hidden (show formA ⟨f, 0, 0, 0, 0, [], vs, 0, 0, []⟩ by simp [formA, HF.out, n1, n2, n5, n6, n8, n15, n16, n17, n22]);go_upto_region 10 with fail
        by_cases hl : (vs.length : Int) ≤ 127
        ·
         have t1 : ¬ (127 : Int) < (vs.length : Int) := by omega
         have u1 : ¬ 127 < vs.length := by omega
         have u3 : decide (127 < vs.length) = false := by rw [decide_eq_false_iff_not]; omega
         have u4 : decide ((127 : Int) < (vs.length : Int)) = false := by rw [decide_eq_false_iff_not]; omega
         have E2 := hidden (show (numB 0 && numB 0 && numB 0) = true by simp [N0.out]);have L := hidden (H0.out trivial KK.out G1.out E2.out (by simp [listA, HF.out, n1, n2]; try omega));refine l_begin (fun O HO => ?_);try simp only [List.cons_append, List.nil_append]
         iterate 2 (refine l_V HO ?_)
         refine l_move (by rw [HO.out]; kernel_rfl) (fun K hK => ?_);go_wp2_with fail
         refine (word_ref _ _).mono ?_;rintro e w4 ⟨rfl, rfl⟩;rw [N0.out];go_simp;refine hK.out _ _ ?_;clear K hK;try simp only [Act.put, PuA, PuB, PuC]
         iterate 4 (refine l_V HO ?_)
         refine l_move (by rw [HO.out]; kernel_rfl) (fun K hK => ?_);go_wp2_with fail
         refine (word_ref _ _).mono ?_;rintro e w4 ⟨rfl, rfl⟩;rw [N0.out];go_simp;refine hK.out _ _ ?_;clear K hK;try simp only [Act.put, PuA, PuB, PuC]
         iterate 5 (refine l_V HO ?_)
         refine l_move (by rw [HO.out]; kernel_rfl) (fun K hK => ?_);go_wp2_with fail
         refine (word_ref _ _).mono ?_;rintro e w4 ⟨rfl, rfl⟩;rw [N0.out];go_simp;refine hK.out _ _ ?_;clear K hK;try simp only [Act.put, PuA, PuB, PuC]
         iterate 7 (refine l_V HO ?_)
         iterate 4 (refine l_S HO ?_)
         iterate 12 (refine l_V HO ?_)
         iterate 4 (refine l_S HO ?_)
         iterate 20 (refine l_V HO ?_)
         refine l_done ?_;go_wp2;go_ret;exact ⟨ret_int L.out.symm, BW⟩
        ·
         have t1 : (127 : Int) < (vs.length : Int) := by omega
         have u1 : 127 < vs.length := by omega
         have u3 : decide (127 < vs.length) = true := by rw [decide_eq_true_iff]; omega
         have u4 : decide ((127 : Int) < (vs.length : Int)) = true := by rw [decide_eq_true_iff]; omega
         have L := hidden (HE.out trivial KK.out (.inr (.inr (by simp [listA, HF.out, n1, n2]; omega))));refine l_begin (fun O HO => ?_);try simp only [List.cons_append, List.nil_append]
         iterate 2 (refine l_V HO ?_)
         refine l_move (by rw [HO.out]; kernel_rfl) (fun K hK => ?_);go_wp2_with fail
         refine (word_ref _ _).mono ?_;rintro e w4 ⟨rfl, rfl⟩;rw [N0.out];go_simp;refine hK.out _ _ ?_;clear K hK;try simp only [Act.put, PuA, PuB, PuC]
         iterate 4 (refine l_V HO ?_)
         refine l_move (by rw [HO.out]; kernel_rfl) (fun K hK => ?_);go_wp2_with fail
         refine (word_ref _ _).mono ?_;rintro e w4 ⟨rfl, rfl⟩;rw [N0.out];go_simp;refine hK.out _ _ ?_;clear K hK;try simp only [Act.put, PuA, PuB, PuC]
         iterate 5 (refine l_V HO ?_)
         refine l_move (by rw [HO.out]; kernel_rfl) (fun K hK => ?_);go_wp2_with fail
         refine (word_ref _ _).mono ?_;rintro e w4 ⟨rfl, rfl⟩;rw [N0.out];go_simp;refine hK.out _ _ ?_;clear K hK;try simp only [Act.put, PuA, PuB, PuC]
         iterate 7 (refine l_V HO ?_)
         iterate 4 (refine l_S HO ?_)
         iterate 12 (refine l_V HO ?_)
         iterate 4 (refine l_S HO ?_)
         iterate 15 (refine l_V HO ?_)
         iterate 4 (refine l_S HO ?_)
         iterate 1 (refine l_V HO ?_)
         refine l_done ?_;go_wp2;go_ret;exact ⟨ret_int L.out.symm, BW⟩
end Go.Proofs.YtdihcdphgiaepaaGreat
