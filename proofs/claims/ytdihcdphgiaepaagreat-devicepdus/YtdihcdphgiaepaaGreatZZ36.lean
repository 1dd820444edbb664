/- Contract of burgageref3.Right by function: joined of RR16, RR17, RR22, RR23. -/
import Derived.Test.YtdihcdphgiaepaaGreatZZ34
namespace Go.Proofs.YtdihcdphgiaepaaGreat
open Go.RowKit
set_option maxRecDepth 100000 in
set_option maxHeartbeats 6000000 in
theorem right_ref_16 (v : Value) (q : Rq) (w : World) (h : IsRq w v q) (hf : q.fn = 16) :
  Calls Tryz.prog 29 #[v] w fun e w' => e = .returned (.int .i64 (rightE q)) ∧ Below w.heap.size w w' := by
 obtain ⟨ab, capb, av, capv, rfl, -, -⟩ := h.slices;have W0 := hidden (fun o => (Below.refl w.heap.size w).alloc (Nat.le_refl _) o);have HH := hidden (fun w' (hb : Below w.heap.size w w') => h.below hb);have HE := hidden (@rightE_12 q);have H0 := hidden (@rightE_0 q);have KK : Hid (knownB q.fn = true) := by show _ = _; rw [hf]; rfl
 obtain ⟨f, a, c, p, s, bs, vs, m, o⟩ := q;simp only at HE H0 HH KK hf ⊢;subst hf;have hm := m.toNat_lt;have ho := o.toNat_lt;clear h;have Ia : Hid (inI [97, 99, 118] 97 = true) := by rfl
 have Ic : Hid (inI [97, 99, 118] 99 = true) := by rfl
 have Iw : Hid (inI [97, 99, 118] 119 = false) := by rfl
 have Is : Hid (inI [97, 99, 118] 115 = false) := by rfl
 have Ib : Hid (inI [97, 99, 118] 98 = false) := by rfl
 have Iv : Hid (inI [97, 99, 118] 118 = true) := by rfl
 have Im : Hid (inI [97, 99, 118] 109 = false) := by rfl
 go_enter Tryz.func29, Tryz.ntmps29;go_upto_region 4 with (first | (go_at_call 48; refine (has_ref _ _).mono ?_; rintro e w4 ⟨rfl, rfl⟩; rw [KK.out]) | (go_at_call 66; refine (uses_ref _ _ KK.out).mono ?_; rintro e w4 ⟨rfl, rfl⟩; rw [show usesL 16 = [97, 99, 118] from rfl]))
 have XB := Box.new w 16 a c p s (.slice ab bs.length capb) (.slice av vs.length capv) m o 33;have BW := W0.out (.cells #[.int .i64 16, .int .i64 a, .int .i64 c, .int .i64 p, .int .i64 s, .slice ab bs.length capb, .slice av vs.length capv, wV m, wV o] 33);generalize w.alloc (.cells #[.int .i64 16, .int .i64 a, .int .i64 c, .int .i64 p, .int .i64 s, .slice ab bs.length capb, .slice av vs.length capv, wV m, wV o] 33) = w0 at *;obtain ⟨gl, c0, c1, c2, c3, c4, c5, c6, c7, c8⟩ := XB;refine l_begin (fun O HO => ?_);try simp only [List.cons_append, List.nil_append]
 iterate 1 (refine l_V HO ?_)
 refine l_move (by rw [HO.out]; kernel_rfl) (fun K hK => ?_);go_wp2_with fail
 refine (in_at [97, 99, 118] _ _ (by decide) (by decide)).mono ?_;rintro e w4 ⟨rfl, rfl⟩;rw [Ia.out];go_simp;refine hK.out _ _ ?_;clear K hK;try simp only [Act.put, PuA, PuB, PuC]
 iterate 2 (refine l_V HO ?_)
 iterate 3 (refine l_S HO ?_)
 iterate 2 (refine l_V HO ?_)
 iterate 1 (refine l_V HO ?_)
 refine l_move (by rw [HO.out]; kernel_rfl) (fun K hK => ?_);go_wp2_with fail
 refine (in_at [97, 99, 118] _ _ (by decide) (by decide)).mono ?_;rintro e w4 ⟨rfl, rfl⟩;rw [Ic.out];go_simp;refine hK.out _ _ ?_;clear K hK;try simp only [Act.put, PuA, PuB, PuC]
 iterate 2 (refine l_V HO ?_)
 iterate 3 (refine l_S HO ?_)
 iterate 3 (refine l_V HO ?_)
 iterate 1 (refine l_V HO ?_)
 refine l_move (by rw [HO.out]; kernel_rfl) (fun K hK => ?_);go_wp2_with fail
 refine (in_at [97, 99, 118] _ _ (by decide) (by decide)).mono ?_;rintro e w4 ⟨rfl, rfl⟩;rw [Iw.out];go_simp;refine hK.out _ _ ?_;clear K hK;try simp only [Act.put, PuA, PuB, PuC]
 iterate 2 (refine l_V HO ?_)
 by_cases hw : p = 0
 ·
  subst hw;iterate 6 (refine l_V HO ?_)
  iterate 1 (refine l_V HO ?_)
  refine l_move (by rw [HO.out]; kernel_rfl) (fun K hK => ?_);go_wp2_with fail
  refine (in_at [97, 99, 118] _ _ (by decide) (by decide)).mono ?_;rintro e w4 ⟨rfl, rfl⟩;rw [Is.out];go_simp;refine hK.out _ _ ?_;clear K hK;try simp only [Act.put, PuA, PuB, PuC]
  iterate 2 (refine l_V HO ?_)
  by_cases hs : s = 0
  ·
   subst hs;iterate 6 (refine l_V HO ?_)
   iterate 1 (refine l_V HO ?_)
   refine l_move (by rw [HO.out]; kernel_rfl) (fun K hK => ?_);go_wp2_with fail
   refine (in_at [97, 99, 118] _ _ (by decide) (by decide)).mono ?_;rintro e w4 ⟨rfl, rfl⟩;rw [Ib.out];go_simp;refine hK.out _ _ ?_;clear K hK;try simp only [Act.put, PuA, PuB, PuC]
   iterate 2 (refine l_V HO ?_)
   by_cases hb : bs = []
   ·
    subst hb;simp only [List.length_nil] at *;iterate 7 (refine l_V HO ?_)
    iterate 1 (refine l_V HO ?_)
    refine l_move (by rw [HO.out]; kernel_rfl) (fun K hK => ?_);go_wp2_with fail
    refine (in_at [97, 99, 118] _ _ (by decide) (by decide)).mono ?_;rintro e w4 ⟨rfl, rfl⟩;rw [Iv.out];go_simp;refine hK.out _ _ ?_;clear K hK;try simp only [Act.put, PuA, PuB, PuC]
    iterate 2 (refine l_V HO ?_)
    iterate 4 (refine l_S HO ?_)
    iterate 3 (refine l_V HO ?_)
    iterate 1 (refine l_V HO ?_)
    refine l_move (by rw [HO.out]; kernel_rfl) (fun K hK => ?_);go_wp2_with fail
    refine (in_at [97, 99, 118] _ _ (by decide) (by decide)).mono ?_;rintro e w4 ⟨rfl, rfl⟩;rw [Im.out];go_simp;refine hK.out _ _ ?_;clear K hK;try simp only [Act.put, PuA, PuB, PuC]
    iterate 2 (refine l_V HO ?_)
    by_cases hm0 : m = 0
    ·
     subst hm0;iterate 4 (refine l_V HO ?_)
     by_cases ho0 : o = 0
     ·
      subst ho0;iterate 6 (refine l_V HO ?_)
      refine l_done ?_;go_wp2_with fail
      refine (word_ref _ _).mono ?_;rintro e w4 ⟨rfl, rfl⟩;cases ha : numB a
      ·
       have L := hidden (HE.out KK.out (.inr (.inl (by rw [ha]; simp))));have Na := hidden ha;clear ha;go_wp2;go_ret;exact ⟨ret_int L.out.symm, BW⟩
      ·
       have Na := hidden ha;clear ha;go_wp2_with fail
       refine (word_ref _ _).mono ?_;rintro e w4 ⟨rfl, rfl⟩;cases hc : numB c
       ·
        have L := hidden (HE.out KK.out (.inr (.inl (by rw [hc]; simp))));have Nc := hidden hc;clear hc;go_wp2;go_ret;exact ⟨ret_int L.out.symm, BW⟩
       ·
        have Nc := hidden hc;clear hc;go_wp2_with fail
        refine (word_ref _ _).mono ?_;rintro e w4 ⟨rfl, rfl⟩;have Np : Hid (numB 0 = true) := by rfl
        rw [Np.out];go_wp2_with fail
        refine (word_ref _ _).mono ?_;rintro e w4 ⟨rfl, rfl⟩;have Ns : Hid (numB 0 = true) := by rfl
        rw [Ns.out];go_wp2_with fail
        have E2 := hidden (show (numB a && numB 0 && numB 0 && numB c) = true by simp [Na.out, Np.out, Nc.out]);have G1 := hidden (show formP ⟨16, a, c, 0, 0, [], vs, 0, 0⟩ by simp [formP]);refine (lists_ref _ ⟨16, a, c, 0, 0, [], vs, 0, 0⟩ _ (HH.out _ BW) KK.out).mono ?_;rintro e w5 ⟨rfl, B5⟩;replace B5 := below_then BW B5;cases hl : listB ⟨16, a, c, 0, 0, [], vs, 0, 0⟩
        ·
         have L := hidden (HE.out KK.out (.inr (.inr hl)));clear hl;go_wp2;go_ret;exact ⟨ret_int L.out.symm, B5⟩
        ·
         have L := hidden (H0.out KK.out G1.out E2.out hl);clear hl;go_wp2;go_ret;exact ⟨ret_int L.out.symm, B5⟩
     ·
      have To : ((o.toNat : Int) != 0) = true := by simp; intro h; exact ho0 (UInt16.toNat_inj.1 h)
      have L := hidden (HE.out KK.out (.inl (fun h => ho0 (by have := h.2.2.2.2.2.2; simp at this; exact this))));clear ho0;iterate 6 (refine l_V HO ?_)
      refine l_done ?_;go_wp2;go_ret;exact ⟨ret_int L.out.symm, BW⟩
    ·
     have Tm : ((m.toNat : Int) != 0) = true := by simp; intro h; exact hm0 (UInt16.toNat_inj.1 h)
     have L := hidden (HE.out KK.out (.inl (fun h => hm0 (by have := h.2.2.2.2.2.2; simp at this; exact this.1))));clear hm0;iterate 4 (refine l_V HO ?_)
     iterate 3 (refine l_S HO ?_)
     iterate 3 (refine l_V HO ?_)
     refine l_done ?_;go_wp2;go_ret;exact ⟨ret_int L.out.symm, BW⟩
   ·
    have Tb : (0 : Int) < (bs.length : Int) := by have := List.length_pos_iff.2 hb; omega
    have Ub : 0 < bs.length := List.length_pos_iff.2 hb;have L := hidden (HE.out KK.out (.inl (fun h => hb (by simpa [formP] using h.2.2.2.2.1))));clear hb;iterate 7 (refine l_V HO ?_)
    iterate 9 (refine l_S HO ?_)
    iterate 2 (refine l_V HO ?_)
    iterate 13 (refine l_S HO ?_)
    iterate 1 (refine l_V HO ?_)
    refine l_done ?_;go_wp2;go_ret;exact ⟨ret_int L.out.symm, BW⟩
  ·
   have Ts : (s != 0) = true := by simpa using hs
   have L := hidden (HE.out KK.out (.inl (fun h => hs (by simpa [formP] using h.2.2.2.1))));clear hs;iterate 6 (refine l_V HO ?_)
   iterate 9 (refine l_S HO ?_)
   iterate 2 (refine l_V HO ?_)
   iterate 9 (refine l_S HO ?_)
   iterate 2 (refine l_V HO ?_)
   iterate 13 (refine l_S HO ?_)
   iterate 1 (refine l_V HO ?_)
   refine l_done ?_;go_wp2;go_ret;exact ⟨ret_int L.out.symm, BW⟩
 ·
  have Tw : (p != 0) = true := by simpa using hw
  have L := hidden (HE.out KK.out (.inl (fun h => hw (by simpa [formP] using h.2.2.1))));clear hw;iterate 6 (refine l_V HO ?_)
  iterate 8 (refine l_S HO ?_)
  iterate 2 (refine l_V HO ?_)
  iterate 9 (refine l_S HO ?_)
  iterate 2 (refine l_V HO ?_)
  iterate 9 (refine l_S HO ?_)
  iterate 2 (refine l_V HO ?_)
  iterate 13 (refine l_S HO ?_)
  iterate 1 (refine l_V HO ?_)
  refine l_done ?_;go_wp2;go_ret;exact ⟨ret_int L.out.symm, BW⟩
set_option maxRecDepth 100000 in
set_option maxHeartbeats 6000000 in
theorem right_ref_17 (v : Value) (q : Rq) (w : World) (h : IsRq w v q) (hf : q.fn = 17) :
  Calls Tryz.prog 29 #[v] w fun e w' => e = .returned (.int .i64 (rightE q)) ∧ Below w.heap.size w w' := by
 obtain ⟨ab, capb, av, capv, rfl, -, -⟩ := h.slices;have W0 := hidden (fun o => (Below.refl w.heap.size w).alloc (Nat.le_refl _) o);have HH := hidden (fun w' (hb : Below w.heap.size w w') => h.below hb);have HE := hidden (@rightE_12 q);have H0 := hidden (@rightE_0 q);have KK : Hid (knownB q.fn = true) := by show _ = _; rw [hf]; rfl
 obtain ⟨f, a, c, p, s, bs, vs, m, o⟩ := q;simp only at HE H0 HH KK hf ⊢;subst hf;have hm := m.toNat_lt;have ho := o.toNat_lt;clear h;have Ia : Hid (inI ([] : List UInt8) 97 = false) := by rfl
 have Ic : Hid (inI ([] : List UInt8) 99 = false) := by rfl
 have Iw : Hid (inI ([] : List UInt8) 119 = false) := by rfl
 have Is : Hid (inI ([] : List UInt8) 115 = false) := by rfl
 have Ib : Hid (inI ([] : List UInt8) 98 = false) := by rfl
 have Iv : Hid (inI ([] : List UInt8) 118 = false) := by rfl
 have Im : Hid (inI ([] : List UInt8) 109 = false) := by rfl
 go_enter Tryz.func29, Tryz.ntmps29;go_upto_region 4 with (first | (go_at_call 48; refine (has_ref _ _).mono ?_; rintro e w4 ⟨rfl, rfl⟩; rw [KK.out]) | (go_at_call 66; refine (uses_ref _ _ KK.out).mono ?_; rintro e w4 ⟨rfl, rfl⟩; rw [show usesL 17 = ([] : List UInt8) from rfl]))
 have XB := Box.new w 17 a c p s (.slice ab bs.length capb) (.slice av vs.length capv) m o 33;have BW := W0.out (.cells #[.int .i64 17, .int .i64 a, .int .i64 c, .int .i64 p, .int .i64 s, .slice ab bs.length capb, .slice av vs.length capv, wV m, wV o] 33);generalize w.alloc (.cells #[.int .i64 17, .int .i64 a, .int .i64 c, .int .i64 p, .int .i64 s, .slice ab bs.length capb, .slice av vs.length capv, wV m, wV o] 33) = w0 at *;obtain ⟨gl, c0, c1, c2, c3, c4, c5, c6, c7, c8⟩ := XB;refine l_begin (fun O HO => ?_);try simp only [List.cons_append, List.nil_append]
 iterate 1 (refine l_V HO ?_)
 refine l_move (by rw [HO.out]; kernel_rfl) (fun K hK => ?_);go_wp2_with fail
 refine (in_at ([] : List UInt8) _ _ (by decide) (by decide)).mono ?_;rintro e w4 ⟨rfl, rfl⟩;rw [Ia.out];go_simp;refine hK.out _ _ ?_;clear K hK;try simp only [Act.put, PuA, PuB, PuC]
 iterate 2 (refine l_V HO ?_)
 by_cases ha : a = 0
 ·
  subst ha;iterate 5 (refine l_V HO ?_)
  iterate 1 (refine l_V HO ?_)
  refine l_move (by rw [HO.out]; kernel_rfl) (fun K hK => ?_);go_wp2_with fail
  refine (in_at ([] : List UInt8) _ _ (by decide) (by decide)).mono ?_;rintro e w4 ⟨rfl, rfl⟩;rw [Ic.out];go_simp;refine hK.out _ _ ?_;clear K hK;try simp only [Act.put, PuA, PuB, PuC]
  iterate 2 (refine l_V HO ?_)
  by_cases hc : c = 0
  ·
   subst hc;iterate 6 (refine l_V HO ?_)
   iterate 1 (refine l_V HO ?_)
   refine l_move (by rw [HO.out]; kernel_rfl) (fun K hK => ?_);go_wp2_with fail
   refine (in_at ([] : List UInt8) _ _ (by decide) (by decide)).mono ?_;rintro e w4 ⟨rfl, rfl⟩;rw [Iw.out];go_simp;refine hK.out _ _ ?_;clear K hK;try simp only [Act.put, PuA, PuB, PuC]
   iterate 2 (refine l_V HO ?_)
   by_cases hw : p = 0
   ·
    subst hw;iterate 6 (refine l_V HO ?_)
    iterate 1 (refine l_V HO ?_)
    refine l_move (by rw [HO.out]; kernel_rfl) (fun K hK => ?_);go_wp2_with fail
    refine (in_at ([] : List UInt8) _ _ (by decide) (by decide)).mono ?_;rintro e w4 ⟨rfl, rfl⟩;rw [Is.out];go_simp;refine hK.out _ _ ?_;clear K hK;try simp only [Act.put, PuA, PuB, PuC]
    iterate 2 (refine l_V HO ?_)
    by_cases hs : s = 0
    ·
     subst hs;iterate 6 (refine l_V HO ?_)
     iterate 1 (refine l_V HO ?_)
     refine l_move (by rw [HO.out]; kernel_rfl) (fun K hK => ?_);go_wp2_with fail
     refine (in_at ([] : List UInt8) _ _ (by decide) (by decide)).mono ?_;rintro e w4 ⟨rfl, rfl⟩;rw [Ib.out];go_simp;refine hK.out _ _ ?_;clear K hK;try simp only [Act.put, PuA, PuB, PuC]
     iterate 2 (refine l_V HO ?_)
     by_cases hb : bs = []
     ·
      subst hb;simp only [List.length_nil] at *;iterate 7 (refine l_V HO ?_)
      iterate 1 (refine l_V HO ?_)
      refine l_move (by rw [HO.out]; kernel_rfl) (fun K hK => ?_);go_wp2_with fail
      refine (in_at ([] : List UInt8) _ _ (by decide) (by decide)).mono ?_;rintro e w4 ⟨rfl, rfl⟩;rw [Iv.out];go_simp;refine hK.out _ _ ?_;clear K hK;try simp only [Act.put, PuA, PuB, PuC]
      iterate 2 (refine l_V HO ?_)
      by_cases hv : vs = []
      ·
       subst hv;simp only [List.length_nil] at *;iterate 7 (refine l_V HO ?_)
       iterate 1 (refine l_V HO ?_)
       refine l_move (by rw [HO.out]; kernel_rfl) (fun K hK => ?_);go_wp2_with fail
       refine (in_at ([] : List UInt8) _ _ (by decide) (by decide)).mono ?_;rintro e w4 ⟨rfl, rfl⟩;rw [Im.out];go_simp;refine hK.out _ _ ?_;clear K hK;try simp only [Act.put, PuA, PuB, PuC]
       iterate 2 (refine l_V HO ?_)
       by_cases hm0 : m = 0
       ·
        subst hm0;iterate 4 (refine l_V HO ?_)
        by_cases ho0 : o = 0
        ·
         subst ho0;iterate 6 (refine l_V HO ?_)
         refine l_done ?_;go_wp2_with fail
         refine (word_ref _ _).mono ?_;rintro e w4 ⟨rfl, rfl⟩;have Na : Hid (numB 0 = true) := by rfl
         rw [Na.out];go_wp2_with fail
         refine (word_ref _ _).mono ?_;rintro e w4 ⟨rfl, rfl⟩;have Nc : Hid (numB 0 = true) := by rfl
         rw [Nc.out];go_wp2_with fail
         refine (word_ref _ _).mono ?_;rintro e w4 ⟨rfl, rfl⟩;have Np : Hid (numB 0 = true) := by rfl
         rw [Np.out];go_wp2_with fail
         refine (word_ref _ _).mono ?_;rintro e w4 ⟨rfl, rfl⟩;have Ns : Hid (numB 0 = true) := by rfl
         rw [Ns.out];go_wp2_with fail
         have E2 := hidden (show (numB 0 && numB 0 && numB 0 && numB 0) = true by simp [Na.out]);have G1 := hidden (show formP ⟨17, 0, 0, 0, 0, [], [], 0, 0⟩ by simp [formP]);refine (lists_ref _ ⟨17, 0, 0, 0, 0, [], [], 0, 0⟩ _ (HH.out _ BW) KK.out).mono ?_;rintro e w5 ⟨rfl, B5⟩;replace B5 := below_then BW B5;cases hl : listB ⟨17, 0, 0, 0, 0, [], [], 0, 0⟩
         ·
          have L := hidden (HE.out KK.out (.inr (.inr hl)));clear hl;go_wp2;go_ret;exact ⟨ret_int L.out.symm, B5⟩
         ·
          have L := hidden (H0.out KK.out G1.out E2.out hl);clear hl;go_wp2;go_ret;exact ⟨ret_int L.out.symm, B5⟩
        ·
         have To : ((o.toNat : Int) != 0) = true := by simp; intro h; exact ho0 (UInt16.toNat_inj.1 h)
         have L := hidden (HE.out KK.out (.inl (fun h => ho0 (by have := h.2.2.2.2.2.2; simp at this; exact this))));clear ho0;iterate 6 (refine l_V HO ?_)
         refine l_done ?_;go_wp2;go_ret;exact ⟨ret_int L.out.symm, BW⟩
       ·
        have Tm : ((m.toNat : Int) != 0) = true := by simp; intro h; exact hm0 (UInt16.toNat_inj.1 h)
        have L := hidden (HE.out KK.out (.inl (fun h => hm0 (by have := h.2.2.2.2.2.2; simp at this; exact this.1))));clear hm0;iterate 4 (refine l_V HO ?_)
        iterate 3 (refine l_S HO ?_)
        iterate 3 (refine l_V HO ?_)
        refine l_done ?_;go_wp2;go_ret;exact ⟨ret_int L.out.symm, BW⟩
      ·
       have Tv : (0 : Int) < (vs.length : Int) := by have := List.length_pos_iff.2 hv; omega
       have Uv : 0 < vs.length := List.length_pos_iff.2 hv;have L := hidden (HE.out KK.out (.inl (fun h => hv (by simpa [formP] using h.2.2.2.2.2.1))));clear hv;iterate 7 (refine l_V HO ?_)
       iterate 13 (refine l_S HO ?_)
       iterate 1 (refine l_V HO ?_)
       refine l_done ?_;go_wp2;go_ret;exact ⟨ret_int L.out.symm, BW⟩
     ·
      have Tb : (0 : Int) < (bs.length : Int) := by have := List.length_pos_iff.2 hb; omega
      have Ub : 0 < bs.length := List.length_pos_iff.2 hb;have L := hidden (HE.out KK.out (.inl (fun h => hb (by simpa [formP] using h.2.2.2.2.1))));clear hb;iterate 7 (refine l_V HO ?_)
      iterate 9 (refine l_S HO ?_)
      iterate 2 (refine l_V HO ?_)
      iterate 13 (refine l_S HO ?_)
      iterate 1 (refine l_V HO ?_)
      refine l_done ?_;go_wp2;go_ret;exact ⟨ret_int L.out.symm, BW⟩
    ·
     have Ts : (s != 0) = true := by simpa using hs
     have L := hidden (HE.out KK.out (.inl (fun h => hs (by simpa [formP] using h.2.2.2.1))));clear hs;iterate 6 (refine l_V HO ?_)
     iterate 9 (refine l_S HO ?_)
     iterate 2 (refine l_V HO ?_)
     iterate 9 (refine l_S HO ?_)
     iterate 2 (refine l_V HO ?_)
     iterate 13 (refine l_S HO ?_)
     iterate 1 (refine l_V HO ?_)
     refine l_done ?_;go_wp2;go_ret;exact ⟨ret_int L.out.symm, BW⟩
   ·
    have Tw : (p != 0) = true := by simpa using hw
    have L := hidden (HE.out KK.out (.inl (fun h => hw (by simpa [formP] using h.2.2.1))));clear hw;iterate 6 (refine l_V HO ?_)
    iterate 8 (refine l_S HO ?_)
    iterate 2 (refine l_V HO ?_)
    iterate 9 (refine l_S HO ?_)
    iterate 2 (refine l_V HO ?_)
    iterate 9 (refine l_S HO ?_)
    iterate 2 (refine l_V HO ?_)
    iterate 13 (refine l_S HO ?_)
    iterate 1 (refine l_V HO ?_)
    refine l_done ?_;go_wp2;go_ret;exact ⟨ret_int L.out.symm, BW⟩
  ·
   have Tc : (c != 0) = true := by simpa using hc
   have L := hidden (HE.out KK.out (.inl (fun h => hc (by simpa [formP] using h.2.1))));clear hc;iterate 6 (refine l_V HO ?_)
   iterate 8 (refine l_S HO ?_)
   iterate 2 (refine l_V HO ?_)
   iterate 8 (refine l_S HO ?_)
   iterate 2 (refine l_V HO ?_)
   iterate 9 (refine l_S HO ?_)
   iterate 2 (refine l_V HO ?_)
   iterate 9 (refine l_S HO ?_)
   iterate 2 (refine l_V HO ?_)
   iterate 13 (refine l_S HO ?_)
   iterate 1 (refine l_V HO ?_)
   refine l_done ?_;go_wp2;go_ret;exact ⟨ret_int L.out.symm, BW⟩
 ·
  have Ta : (a != 0) = true := by simpa using ha
  have L := hidden (HE.out KK.out (.inl (fun h => ha (by simpa [formP] using h.1))));clear ha;iterate 5 (refine l_V HO ?_)
  iterate 8 (refine l_S HO ?_)
  iterate 2 (refine l_V HO ?_)
  iterate 8 (refine l_S HO ?_)
  iterate 2 (refine l_V HO ?_)
  iterate 8 (refine l_S HO ?_)
  iterate 2 (refine l_V HO ?_)
  iterate 9 (refine l_S HO ?_)
  iterate 2 (refine l_V HO ?_)
  iterate 9 (refine l_S HO ?_)
  iterate 2 (refine l_V HO ?_)
  iterate 13 (refine l_S HO ?_)
  iterate 1 (refine l_V HO ?_)
  refine l_done ?_;go_wp2;go_ret;exact ⟨ret_int L.out.symm, BW⟩
set_option maxRecDepth 100000 in
set_option maxHeartbeats 6000000 in
theorem right_ref_22 (v : Value) (q : Rq) (w : World) (h : IsRq w v q) (hf : q.fn = 22) :
  Calls Tryz.prog 29 #[v] w fun e w' => e = .returned (.int .i64 (rightE q)) ∧ Below w.heap.size w w' := by
 obtain ⟨ab, capb, av, capv, rfl, -, -⟩ := h.slices;have W0 := hidden (fun o => (Below.refl w.heap.size w).alloc (Nat.le_refl _) o);have HH := hidden (fun w' (hb : Below w.heap.size w w') => h.below hb);have HE := hidden (@rightE_12 q);have H0 := hidden (@rightE_0 q);have KK : Hid (knownB q.fn = true) := by show _ = _; rw [hf]; rfl
 obtain ⟨f, a, c, p, s, bs, vs, m, o⟩ := q;simp only at HE H0 HH KK hf ⊢;subst hf;have hm := m.toNat_lt;have ho := o.toNat_lt;clear h;have Ia : Hid (inI [97, 109] 97 = true) := by rfl
 have Ic : Hid (inI [97, 109] 99 = false) := by rfl
 have Iw : Hid (inI [97, 109] 119 = false) := by rfl
 have Is : Hid (inI [97, 109] 115 = false) := by rfl
 have Ib : Hid (inI [97, 109] 98 = false) := by rfl
 have Iv : Hid (inI [97, 109] 118 = false) := by rfl
 have Im : Hid (inI [97, 109] 109 = true) := by rfl
 go_enter Tryz.func29, Tryz.ntmps29;go_upto_region 4 with (first | (go_at_call 48; refine (has_ref _ _).mono ?_; rintro e w4 ⟨rfl, rfl⟩; rw [KK.out]) | (go_at_call 66; refine (uses_ref _ _ KK.out).mono ?_; rintro e w4 ⟨rfl, rfl⟩; rw [show usesL 22 = [97, 109] from rfl]))
 have XB := Box.new w 22 a c p s (.slice ab bs.length capb) (.slice av vs.length capv) m o 33;have BW := W0.out (.cells #[.int .i64 22, .int .i64 a, .int .i64 c, .int .i64 p, .int .i64 s, .slice ab bs.length capb, .slice av vs.length capv, wV m, wV o] 33);generalize w.alloc (.cells #[.int .i64 22, .int .i64 a, .int .i64 c, .int .i64 p, .int .i64 s, .slice ab bs.length capb, .slice av vs.length capv, wV m, wV o] 33) = w0 at *;obtain ⟨gl, c0, c1, c2, c3, c4, c5, c6, c7, c8⟩ := XB;refine l_begin (fun O HO => ?_);try simp only [List.cons_append, List.nil_append]
 iterate 1 (refine l_V HO ?_)
 refine l_move (by rw [HO.out]; kernel_rfl) (fun K hK => ?_);go_wp2_with fail
 refine (in_at [97, 109] _ _ (by decide) (by decide)).mono ?_;rintro e w4 ⟨rfl, rfl⟩;rw [Ia.out];go_simp;refine hK.out _ _ ?_;clear K hK;try simp only [Act.put, PuA, PuB, PuC]
 iterate 2 (refine l_V HO ?_)
 iterate 3 (refine l_S HO ?_)
 iterate 2 (refine l_V HO ?_)
 iterate 1 (refine l_V HO ?_)
 refine l_move (by rw [HO.out]; kernel_rfl) (fun K hK => ?_);go_wp2_with fail
 refine (in_at [97, 109] _ _ (by decide) (by decide)).mono ?_;rintro e w4 ⟨rfl, rfl⟩;rw [Ic.out];go_simp;refine hK.out _ _ ?_;clear K hK;try simp only [Act.put, PuA, PuB, PuC]
 iterate 2 (refine l_V HO ?_)
 by_cases hc : c = 0
 ·
  subst hc;iterate 6 (refine l_V HO ?_)
  iterate 1 (refine l_V HO ?_)
  refine l_move (by rw [HO.out]; kernel_rfl) (fun K hK => ?_);go_wp2_with fail
  refine (in_at [97, 109] _ _ (by decide) (by decide)).mono ?_;rintro e w4 ⟨rfl, rfl⟩;rw [Iw.out];go_simp;refine hK.out _ _ ?_;clear K hK;try simp only [Act.put, PuA, PuB, PuC]
  iterate 2 (refine l_V HO ?_)
  by_cases hw : p = 0
  ·
   subst hw;iterate 6 (refine l_V HO ?_)
   iterate 1 (refine l_V HO ?_)
   refine l_move (by rw [HO.out]; kernel_rfl) (fun K hK => ?_);go_wp2_with fail
   refine (in_at [97, 109] _ _ (by decide) (by decide)).mono ?_;rintro e w4 ⟨rfl, rfl⟩;rw [Is.out];go_simp;refine hK.out _ _ ?_;clear K hK;try simp only [Act.put, PuA, PuB, PuC]
   iterate 2 (refine l_V HO ?_)
   by_cases hs : s = 0
   ·
    subst hs;iterate 6 (refine l_V HO ?_)
    iterate 1 (refine l_V HO ?_)
    refine l_move (by rw [HO.out]; kernel_rfl) (fun K hK => ?_);go_wp2_with fail
    refine (in_at [97, 109] _ _ (by decide) (by decide)).mono ?_;rintro e w4 ⟨rfl, rfl⟩;rw [Ib.out];go_simp;refine hK.out _ _ ?_;clear K hK;try simp only [Act.put, PuA, PuB, PuC]
    iterate 2 (refine l_V HO ?_)
    by_cases hb : bs = []
    ·
     subst hb;simp only [List.length_nil] at *;iterate 7 (refine l_V HO ?_)
     iterate 1 (refine l_V HO ?_)
     refine l_move (by rw [HO.out]; kernel_rfl) (fun K hK => ?_);go_wp2_with fail
     refine (in_at [97, 109] _ _ (by decide) (by decide)).mono ?_;rintro e w4 ⟨rfl, rfl⟩;rw [Iv.out];go_simp;refine hK.out _ _ ?_;clear K hK;try simp only [Act.put, PuA, PuB, PuC]
     iterate 2 (refine l_V HO ?_)
     by_cases hv : vs = []
     ·
      subst hv;simp only [List.length_nil] at *;iterate 7 (refine l_V HO ?_)
      iterate 1 (refine l_V HO ?_)
      refine l_move (by rw [HO.out]; kernel_rfl) (fun K hK => ?_);go_wp2_with fail
      refine (in_at [97, 109] _ _ (by decide) (by decide)).mono ?_;rintro e w4 ⟨rfl, rfl⟩;rw [Im.out];go_simp;refine hK.out _ _ ?_;clear K hK;try simp only [Act.put, PuA, PuB, PuC]
      iterate 2 (refine l_V HO ?_)
      iterate 8 (refine l_S HO ?_)
      iterate 2 (refine l_V HO ?_)
      refine l_done ?_;go_wp2_with fail
      refine (word_ref _ _).mono ?_;rintro e w4 ⟨rfl, rfl⟩;cases ha : numB a
      ·
       have L := hidden (HE.out KK.out (.inr (.inl (by rw [ha]; simp))));have Na := hidden ha;clear ha;go_wp2;go_ret;exact ⟨ret_int L.out.symm, BW⟩
      ·
       have Na := hidden ha;clear ha;go_wp2_with fail
       refine (word_ref _ _).mono ?_;rintro e w4 ⟨rfl, rfl⟩;have Nc : Hid (numB 0 = true) := by rfl
       rw [Nc.out];go_wp2_with fail
       refine (word_ref _ _).mono ?_;rintro e w4 ⟨rfl, rfl⟩;have Np : Hid (numB 0 = true) := by rfl
       rw [Np.out];go_wp2_with fail
       refine (word_ref _ _).mono ?_;rintro e w4 ⟨rfl, rfl⟩;have Ns : Hid (numB 0 = true) := by rfl
       rw [Ns.out];go_wp2_with fail
       have E2 := hidden (show (numB a && numB 0 && numB 0 && numB 0) = true by simp [Na.out, Np.out]);have G1 := hidden (show formP ⟨22, a, 0, 0, 0, [], [], m, o⟩ by simp [formP]);refine (lists_ref _ ⟨22, a, 0, 0, 0, [], [], m, o⟩ _ (HH.out _ BW) KK.out).mono ?_;rintro e w5 ⟨rfl, B5⟩;replace B5 := below_then BW B5;cases hl : listB ⟨22, a, 0, 0, 0, [], [], m, o⟩
       ·
        have L := hidden (HE.out KK.out (.inr (.inr hl)));clear hl;go_wp2;go_ret;exact ⟨ret_int L.out.symm, B5⟩
       ·
        have L := hidden (H0.out KK.out G1.out E2.out hl);clear hl;go_wp2;go_ret;exact ⟨ret_int L.out.symm, B5⟩
     ·
      have Tv : (0 : Int) < (vs.length : Int) := by have := List.length_pos_iff.2 hv; omega
      have Uv : 0 < vs.length := List.length_pos_iff.2 hv;have L := hidden (HE.out KK.out (.inl (fun h => hv (by simpa [formP] using h.2.2.2.2.2.1))));clear hv;iterate 7 (refine l_V HO ?_)
      iterate 13 (refine l_S HO ?_)
      iterate 1 (refine l_V HO ?_)
      refine l_done ?_;go_wp2;go_ret;exact ⟨ret_int L.out.symm, BW⟩
    ·
     have Tb : (0 : Int) < (bs.length : Int) := by have := List.length_pos_iff.2 hb; omega
     have Ub : 0 < bs.length := List.length_pos_iff.2 hb;have L := hidden (HE.out KK.out (.inl (fun h => hb (by simpa [formP] using h.2.2.2.2.1))));clear hb;iterate 7 (refine l_V HO ?_)
     iterate 9 (refine l_S HO ?_)
     iterate 2 (refine l_V HO ?_)
     iterate 13 (refine l_S HO ?_)
     iterate 1 (refine l_V HO ?_)
     refine l_done ?_;go_wp2;go_ret;exact ⟨ret_int L.out.symm, BW⟩
   ·
    have Ts : (s != 0) = true := by simpa using hs
    have L := hidden (HE.out KK.out (.inl (fun h => hs (by simpa [formP] using h.2.2.2.1))));clear hs;iterate 6 (refine l_V HO ?_)
    iterate 9 (refine l_S HO ?_)
    iterate 2 (refine l_V HO ?_)
    iterate 9 (refine l_S HO ?_)
    iterate 2 (refine l_V HO ?_)
    iterate 13 (refine l_S HO ?_)
    iterate 1 (refine l_V HO ?_)
    refine l_done ?_;go_wp2;go_ret;exact ⟨ret_int L.out.symm, BW⟩
  ·
   have Tw : (p != 0) = true := by simpa using hw
   have L := hidden (HE.out KK.out (.inl (fun h => hw (by simpa [formP] using h.2.2.1))));clear hw;iterate 6 (refine l_V HO ?_)
   iterate 8 (refine l_S HO ?_)
   iterate 2 (refine l_V HO ?_)
   iterate 9 (refine l_S HO ?_)
   iterate 2 (refine l_V HO ?_)
   iterate 9 (refine l_S HO ?_)
   iterate 2 (refine l_V HO ?_)
   iterate 13 (refine l_S HO ?_)
   iterate 1 (refine l_V HO ?_)
   refine l_done ?_;go_wp2;go_ret;exact ⟨ret_int L.out.symm, BW⟩
 ·
  have Tc : (c != 0) = true := by simpa using hc
  have L := hidden (HE.out KK.out (.inl (fun h => hc (by simpa [formP] using h.2.1))));clear hc;iterate 6 (refine l_V HO ?_)
  iterate 8 (refine l_S HO ?_)
  iterate 2 (refine l_V HO ?_)
  iterate 8 (refine l_S HO ?_)
  iterate 2 (refine l_V HO ?_)
  iterate 9 (refine l_S HO ?_)
  iterate 2 (refine l_V HO ?_)
  iterate 9 (refine l_S HO ?_)
  iterate 2 (refine l_V HO ?_)
  iterate 13 (refine l_S HO ?_)
  iterate 1 (refine l_V HO ?_)
  refine l_done ?_;go_wp2;go_ret;exact ⟨ret_int L.out.symm, BW⟩
set_option maxRecDepth 100000 in
set_option maxHeartbeats 6000000 in
theorem right_ref_23 (v : Value) (q : Rq) (w : World) (h : IsRq w v q) (hf : q.fn = 23) :
  Calls Tryz.prog 29 #[v] w fun e w' => e = .returned (.int .i64 (rightE q)) ∧ Below w.heap.size w w' := by
 obtain ⟨ab, capb, av, capv, rfl, -, -⟩ := h.slices;have W0 := hidden (fun o => (Below.refl w.heap.size w).alloc (Nat.le_refl _) o);have HH := hidden (fun w' (hb : Below w.heap.size w w') => h.below hb);have HE := hidden (@rightE_12 q);have H0 := hidden (@rightE_0 q);have KK : Hid (knownB q.fn = true) := by show _ = _; rw [hf]; rfl
 obtain ⟨f, a, c, p, s, bs, vs, m, o⟩ := q;simp only at HE H0 HH KK hf ⊢;subst hf;have hm := m.toNat_lt;have ho := o.toNat_lt;clear h;have Ia : Hid (inI [97, 99, 119, 118] 97 = true) := by rfl
 have Ic : Hid (inI [97, 99, 119, 118] 99 = true) := by rfl
 have Iw : Hid (inI [97, 99, 119, 118] 119 = true) := by rfl
 have Is : Hid (inI [97, 99, 119, 118] 115 = false) := by rfl
 have Ib : Hid (inI [97, 99, 119, 118] 98 = false) := by rfl
 have Iv : Hid (inI [97, 99, 119, 118] 118 = true) := by rfl
 have Im : Hid (inI [97, 99, 119, 118] 109 = false) := by rfl
 go_enter Tryz.func29, Tryz.ntmps29;go_upto_region 4 with (first | (go_at_call 48; refine (has_ref _ _).mono ?_; rintro e w4 ⟨rfl, rfl⟩; rw [KK.out]) | (go_at_call 66; refine (uses_ref _ _ KK.out).mono ?_; rintro e w4 ⟨rfl, rfl⟩; rw [show usesL 23 = [97, 99, 119, 118] from rfl]))
 have XB := Box.new w 23 a c p s (.slice ab bs.length capb) (.slice av vs.length capv) m o 33;have BW := W0.out (.cells #[.int .i64 23, .int .i64 a, .int .i64 c, .int .i64 p, .int .i64 s, .slice ab bs.length capb, .slice av vs.length capv, wV m, wV o] 33);generalize w.alloc (.cells #[.int .i64 23, .int .i64 a, .int .i64 c, .int .i64 p, .int .i64 s, .slice ab bs.length capb, .slice av vs.length capv, wV m, wV o] 33) = w0 at *;obtain ⟨gl, c0, c1, c2, c3, c4, c5, c6, c7, c8⟩ := XB;refine l_begin (fun O HO => ?_);try simp only [List.cons_append, List.nil_append]
 iterate 1 (refine l_V HO ?_)
 refine l_move (by rw [HO.out]; kernel_rfl) (fun K hK => ?_);go_wp2_with fail
 refine (in_at [97, 99, 119, 118] _ _ (by decide) (by decide)).mono ?_;rintro e w4 ⟨rfl, rfl⟩;rw [Ia.out];go_simp;refine hK.out _ _ ?_;clear K hK;try simp only [Act.put, PuA, PuB, PuC]
 iterate 2 (refine l_V HO ?_)
 iterate 3 (refine l_S HO ?_)
 iterate 2 (refine l_V HO ?_)
 iterate 1 (refine l_V HO ?_)
 refine l_move (by rw [HO.out]; kernel_rfl) (fun K hK => ?_);go_wp2_with fail
 refine (in_at [97, 99, 119, 118] _ _ (by decide) (by decide)).mono ?_;rintro e w4 ⟨rfl, rfl⟩;rw [Ic.out];go_simp;refine hK.out _ _ ?_;clear K hK;try simp only [Act.put, PuA, PuB, PuC]
 iterate 2 (refine l_V HO ?_)
 iterate 3 (refine l_S HO ?_)
 iterate 3 (refine l_V HO ?_)
 iterate 1 (refine l_V HO ?_)
 refine l_move (by rw [HO.out]; kernel_rfl) (fun K hK => ?_);go_wp2_with fail
 refine (in_at [97, 99, 119, 118] _ _ (by decide) (by decide)).mono ?_;rintro e w4 ⟨rfl, rfl⟩;rw [Iw.out];go_simp;refine hK.out _ _ ?_;clear K hK;try simp only [Act.put, PuA, PuB, PuC]
 iterate 2 (refine l_V HO ?_)
 iterate 3 (refine l_S HO ?_)
 iterate 3 (refine l_V HO ?_)
 iterate 1 (refine l_V HO ?_)
 refine l_move (by rw [HO.out]; kernel_rfl) (fun K hK => ?_);go_wp2_with fail
 refine (in_at [97, 99, 119, 118] _ _ (by decide) (by decide)).mono ?_;rintro e w4 ⟨rfl, rfl⟩;rw [Is.out];go_simp;refine hK.out _ _ ?_;clear K hK;try simp only [Act.put, PuA, PuB, PuC]
 iterate 2 (refine l_V HO ?_)
 by_cases hs : s = 0
 ·
  subst hs;iterate 6 (refine l_V HO ?_)
  iterate 1 (refine l_V HO ?_)
  refine l_move (by rw [HO.out]; kernel_rfl) (fun K hK => ?_);go_wp2_with fail
  refine (in_at [97, 99, 119, 118] _ _ (by decide) (by decide)).mono ?_;rintro e w4 ⟨rfl, rfl⟩;rw [Ib.out];go_simp;refine hK.out _ _ ?_;clear K hK;try simp only [Act.put, PuA, PuB, PuC]
  iterate 2 (refine l_V HO ?_)
  by_cases hb : bs = []
  ·
   subst hb;simp only [List.length_nil] at *;iterate 7 (refine l_V HO ?_)
   iterate 1 (refine l_V HO ?_)
   refine l_move (by rw [HO.out]; kernel_rfl) (fun K hK => ?_);go_wp2_with fail
   refine (in_at [97, 99, 119, 118] _ _ (by decide) (by decide)).mono ?_;rintro e w4 ⟨rfl, rfl⟩;rw [Iv.out];go_simp;refine hK.out _ _ ?_;clear K hK;try simp only [Act.put, PuA, PuB, PuC]
   iterate 2 (refine l_V HO ?_)
   iterate 4 (refine l_S HO ?_)
   iterate 3 (refine l_V HO ?_)
   iterate 1 (refine l_V HO ?_)
   refine l_move (by rw [HO.out]; kernel_rfl) (fun K hK => ?_);go_wp2_with fail
   refine (in_at [97, 99, 119, 118] _ _ (by decide) (by decide)).mono ?_;rintro e w4 ⟨rfl, rfl⟩;rw [Im.out];go_simp;refine hK.out _ _ ?_;clear K hK;try simp only [Act.put, PuA, PuB, PuC]
   iterate 2 (refine l_V HO ?_)
   by_cases hm0 : m = 0
   ·
    subst hm0;iterate 4 (refine l_V HO ?_)
    by_cases ho0 : o = 0
    ·
     subst ho0;iterate 6 (refine l_V HO ?_)
     refine l_done ?_;go_wp2_with fail
     refine (word_ref _ _).mono ?_;rintro e w4 ⟨rfl, rfl⟩;cases ha : numB a
     ·
      have L := hidden (HE.out KK.out (.inr (.inl (by rw [ha]; simp))));have Na := hidden ha;clear ha;go_wp2;go_ret;exact ⟨ret_int L.out.symm, BW⟩
     ·
      have Na := hidden ha;clear ha;go_wp2_with fail
      refine (word_ref _ _).mono ?_;rintro e w4 ⟨rfl, rfl⟩;cases hc : numB c
      ·
       have L := hidden (HE.out KK.out (.inr (.inl (by rw [hc]; simp))));have Nc := hidden hc;clear hc;go_wp2;go_ret;exact ⟨ret_int L.out.symm, BW⟩
      ·
       have Nc := hidden hc;clear hc;go_wp2_with fail
       refine (word_ref _ _).mono ?_;rintro e w4 ⟨rfl, rfl⟩;cases hp : numB p
       ·
        have L := hidden (HE.out KK.out (.inr (.inl (by rw [hp]; simp))));have Np := hidden hp;clear hp;go_wp2;go_ret;exact ⟨ret_int L.out.symm, BW⟩
       ·
        have Np := hidden hp;clear hp;go_wp2_with fail
        refine (word_ref _ _).mono ?_;rintro e w4 ⟨rfl, rfl⟩;have Ns : Hid (numB 0 = true) := by rfl
        rw [Ns.out];go_wp2_with fail
        have E2 := hidden (show (numB a && numB p && numB 0 && numB c) = true by simp [Na.out, Np.out, Ns.out, Nc.out]);have G1 := hidden (show formP ⟨23, a, c, p, 0, [], vs, 0, 0⟩ by simp [formP]);refine (lists_ref _ ⟨23, a, c, p, 0, [], vs, 0, 0⟩ _ (HH.out _ BW) KK.out).mono ?_;rintro e w5 ⟨rfl, B5⟩;replace B5 := below_then BW B5;cases hl : listB ⟨23, a, c, p, 0, [], vs, 0, 0⟩
        ·
         have L := hidden (HE.out KK.out (.inr (.inr hl)));clear hl;go_wp2;go_ret;exact ⟨ret_int L.out.symm, B5⟩
        ·
         have L := hidden (H0.out KK.out G1.out E2.out hl);clear hl;go_wp2;go_ret;exact ⟨ret_int L.out.symm, B5⟩
    ·
     have To : ((o.toNat : Int) != 0) = true := by simp; intro h; exact ho0 (UInt16.toNat_inj.1 h)
     have L := hidden (HE.out KK.out (.inl (fun h => ho0 (by have := h.2.2.2.2.2.2; simp at this; exact this))));clear ho0;iterate 6 (refine l_V HO ?_)
     refine l_done ?_;go_wp2;go_ret;exact ⟨ret_int L.out.symm, BW⟩
   ·
    have Tm : ((m.toNat : Int) != 0) = true := by simp; intro h; exact hm0 (UInt16.toNat_inj.1 h)
    have L := hidden (HE.out KK.out (.inl (fun h => hm0 (by have := h.2.2.2.2.2.2; simp at this; exact this.1))));clear hm0;iterate 4 (refine l_V HO ?_)
    iterate 3 (refine l_S HO ?_)
    iterate 3 (refine l_V HO ?_)
    refine l_done ?_;go_wp2;go_ret;exact ⟨ret_int L.out.symm, BW⟩
  ·
   have Tb : (0 : Int) < (bs.length : Int) := by have := List.length_pos_iff.2 hb; omega
   have Ub : 0 < bs.length := List.length_pos_iff.2 hb;have L := hidden (HE.out KK.out (.inl (fun h => hb (by simpa [formP] using h.2.2.2.2.1))));clear hb;iterate 7 (refine l_V HO ?_)
   iterate 9 (refine l_S HO ?_)
   iterate 2 (refine l_V HO ?_)
   iterate 13 (refine l_S HO ?_)
   iterate 1 (refine l_V HO ?_)
   refine l_done ?_;go_wp2;go_ret;exact ⟨ret_int L.out.symm, BW⟩
 ·
  have Ts : (s != 0) = true := by simpa using hs
  have L := hidden (HE.out KK.out (.inl (fun h => hs (by simpa [formP] using h.2.2.2.1))));clear hs;iterate 6 (refine l_V HO ?_)
  iterate 9 (refine l_S HO ?_)
  iterate 2 (refine l_V HO ?_)
  iterate 9 (refine l_S HO ?_)
  iterate 2 (refine l_V HO ?_)
  iterate 13 (refine l_S HO ?_)
  iterate 1 (refine l_V HO ?_)
  refine l_done ?_;go_wp2;go_ret;exact ⟨ret_int L.out.symm, BW⟩
end Go.Proofs.YtdihcdphgiaepaaGreat
