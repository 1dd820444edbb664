/- Joined texts. -/
import Derived.Test.YtdihcdphgiaepaaGreatZZ28
set_option maxHeartbeats 6000000
set_option maxRecDepth 100000
namespace Go.Proofs.YtdihcdphgiaepaaGreat
open Go.RowKit
theorem right_ref_16 (v : Value) (q : Rq) (w : World) (h : IsRq w v q) (hf : q.fn = 16) :
  Calls Tryz.prog 29 #[v] w fun e w' => e = .returned (J (rightE q)) ∧ Bo w w' := by
 obtain ⟨ab, cb, av, cv, rfl, -, -⟩ := h.slices;have W0 := Hh (aL w);have HH := Hh (fun w' (hb : Bo w w') => h.below hb);have HE := Hh (@rightE_12 q);have H0 := Hh (@rightE_0 q);have KK : Hid (knownB q.fn = true) := by show _ = _; rw [hf]; rfl
 obtain ⟨f, a, c, p, s, bs, vs, m, o⟩ := q;simp only at HE H0 HH KK hf ⊢;subst hf;have hm := m.toNat_lt;have ho := o.toNat_lt;clear h;have Ia : Hid (inI [97, 99, 118] 97 = true) := by rfl
 have Ic : Hid (inI [97, 99, 118] 99 = true) := by rfl
 have Iw : Hid (inI [97, 99, 118] 119 = false) := by rfl
 have Is : Hid (inI [97, 99, 118] 115 = false) := by rfl
 have Ib : Hid (inI [97, 99, 118] 98 = false) := by rfl
 have Iv : Hid (inI [97, 99, 118] 118 = true) := by rfl
 have Im : Hid (inI [97, 99, 118] 109 = false) := by rfl
 go_enter Tryz.func29, Tryz.ntmps29;go_upto_region 4 with (first | (go_at_call 48; refine (has_ref _ _).mono ?_; rintro e w4 ⟨rfl, rfl⟩; rw [KK.out]) | (go_at_call 66; refine (uses_ref _ _ KK.out).mono ?_; rintro e w4 ⟨rfl, rfl⟩; rw [show usesL 16 = [97, 99, 118] from rfl]))
 have XB := Box.new w 16 a c p s (.slice ab bs.length cb) (.slice av vs.length cv) m o 33;have BW := W0.out (.cells (Qa 16 a c p s ab bs cb av vs cv m o) 33);generalize w.alloc (.cells (Qa 16 a c p s ab bs cb av vs cv m o) 33) = w0 at *;obtain ⟨gl, c0, c1, c2, c3, c4, c5, c6, c7, c8⟩ := XB;refine l_begin (fun O HO => ?_);try simp only [List.cons_append, List.nil_append]
 refine l_V HO ?_
 refine l_M HO (fun K hK => ?_);go_wp2_with fail
 refine (in_at [97, 99, 118] _ _ (by decide) (by decide)).mono ?_;rintro e w4 ⟨rfl, rfl⟩;rw [Ia.out];go_simp;refine hK.out _ _ ?_;clear K hK;try simp only [Pu]
 iterate 2 (refine l_V HO ?_)
 iterate 3 (refine l_S HO ?_)
 iterate 2 (refine l_V HO ?_)
 refine l_V HO ?_
 refine l_M HO (fun K hK => ?_);go_wp2_with fail
 refine (in_at [97, 99, 118] _ _ (by decide) (by decide)).mono ?_;rintro e w4 ⟨rfl, rfl⟩;rw [Ic.out];go_simp;refine hK.out _ _ ?_;clear K hK;try simp only [Pu]
 iterate 2 (refine l_V HO ?_)
 iterate 3 (refine l_S HO ?_)
 iterate 3 (refine l_V HO ?_)
 refine l_V HO ?_
 refine l_M HO (fun K hK => ?_);go_wp2_with fail
 refine (in_at [97, 99, 118] _ _ (by decide) (by decide)).mono ?_;rintro e w4 ⟨rfl, rfl⟩;rw [Iw.out];go_simp;refine hK.out _ _ ?_;clear K hK;try simp only [Pu]
 iterate 2 (refine l_V HO ?_)
 by_cases hw : p = 0
 ·
  subst hw;iterate 6 (refine l_V HO ?_)
  refine l_V HO ?_
  refine l_M HO (fun K hK => ?_);go_wp2_with fail
  refine (in_at [97, 99, 118] _ _ (by decide) (by decide)).mono ?_;rintro e w4 ⟨rfl, rfl⟩;rw [Is.out];go_simp;refine hK.out _ _ ?_;clear K hK;try simp only [Pu]
  iterate 2 (refine l_V HO ?_)
  by_cases hs : s = 0
  ·
   subst hs;iterate 6 (refine l_V HO ?_)
   refine l_V HO ?_
   refine l_M HO (fun K hK => ?_);go_wp2_with fail
   refine (in_at [97, 99, 118] _ _ (by decide) (by decide)).mono ?_;rintro e w4 ⟨rfl, rfl⟩;rw [Ib.out];go_simp;refine hK.out _ _ ?_;clear K hK;try simp only [Pu]
   iterate 2 (refine l_V HO ?_)
   by_cases hb : bs = []
   ·
    subst hb;simp only [List.length_nil] at *;iterate 7 (refine l_V HO ?_)
    refine l_V HO ?_
    refine l_M HO (fun K hK => ?_);go_wp2_with fail
    refine (in_at [97, 99, 118] _ _ (by decide) (by decide)).mono ?_;rintro e w4 ⟨rfl, rfl⟩;rw [Iv.out];go_simp;refine hK.out _ _ ?_;clear K hK;try simp only [Pu]
    iterate 2 (refine l_V HO ?_)
    iterate 4 (refine l_S HO ?_)
    iterate 3 (refine l_V HO ?_)
    refine l_V HO ?_
    refine l_M HO (fun K hK => ?_);go_wp2_with fail
    refine (in_at [97, 99, 118] _ _ (by decide) (by decide)).mono ?_;rintro e w4 ⟨rfl, rfl⟩;rw [Im.out];go_simp;refine hK.out _ _ ?_;clear K hK;try simp only [Pu]
    iterate 2 (refine l_V HO ?_)
    by_cases hm0 : m = 0
    ·
     subst hm0;iterate 4 (refine l_V HO ?_)
     by_cases ho0 : o = 0
     ·
      subst ho0;iterate 6 (refine l_V HO ?_)
      refine l_done ?_;go_wp2_with fail
      refine (word_ref _ _).mono ?_;rintro e w4 ⟨rfl, rfl⟩;cases ha : numB a
      ·
       have L := Hh (HE.out KK.out (.inr (.inl (by rw [ha]; simp))));have Na := Hh ha;clear ha;go_wp2;go_ret;exact ⟨ret_int L.out.symm, BW⟩
      ·
       have Na := Hh ha;clear ha;go_wp2_with fail
       refine (word_ref _ _).mono ?_;rintro e w4 ⟨rfl, rfl⟩;cases hc : numB c
       ·
        have L := Hh (HE.out KK.out (.inr (.inl (by rw [hc]; simp))));have Nc := Hh hc;clear hc;go_wp2;go_ret;exact ⟨ret_int L.out.symm, BW⟩
       ·
        have Nc := Hh hc;clear hc;go_wp2_with fail
        refine (word_ref _ _).mono ?_;rintro e w4 ⟨rfl, rfl⟩;have Np : Hid (numB 0 = true) := by rfl
        rw [Np.out];go_wp2_with fail
        refine (word_ref _ _).mono ?_;rintro e w4 ⟨rfl, rfl⟩;have Ns : Hid (numB 0 = true) := by rfl
        rw [Ns.out];go_wp2_with fail
        have E2 := Hh (show (numB a && numB 0 && numB 0 && numB c) = true by simp [Na.out, Np.out, Nc.out]);have G1 := Hh (show formP ⟨16, a, c, 0, 0, [], vs, 0, 0⟩ by simp [formP]);refine (lists_ref _ ⟨16, a, c, 0, 0, [], vs, 0, 0⟩ _ (HH.out _ BW) KK.out).mono ?_;rintro e w5 ⟨rfl, B5⟩;replace B5 := bT BW B5;cases hl : listB ⟨16, a, c, 0, 0, [], vs, 0, 0⟩
        ·
         have L := Hh (HE.out KK.out (.inr (.inr hl)));clear hl;go_wp2;go_ret;exact ⟨ret_int L.out.symm, B5⟩
        ·
         have L := Hh (H0.out KK.out G1.out E2.out hl);clear hl;go_wp2;go_ret;exact ⟨ret_int L.out.symm, B5⟩
     ·
      have To : ((o.toNat : Int) != 0) = true := by simp; intro h; exact ho0 (UInt16.toNat_inj.1 h)
      have L := Hh (HE.out KK.out (.inl (fun h => ho0 (by have := h.2.2.2.2.2.2; simp at this; exact this))));clear ho0;iterate 6 (refine l_V HO ?_)
      refine l_done ?_;go_wp2;go_ret;exact ⟨ret_int L.out.symm, BW⟩
    ·
     have Tm : ((m.toNat : Int) != 0) = true := by simp; intro h; exact hm0 (UInt16.toNat_inj.1 h)
     have L := Hh (HE.out KK.out (.inl (fun h => hm0 (by have := h.2.2.2.2.2.2; simp at this; exact this.1))));clear hm0;iterate 4 (refine l_V HO ?_)
     iterate 3 (refine l_S HO ?_)
     iterate 3 (refine l_V HO ?_)
     refine l_done ?_;go_wp2;go_ret;exact ⟨ret_int L.out.symm, BW⟩
   ·
    have Tb : (0 : Int) < (bs.length : Int) := by have := lpi.2 hb; omega
    have Ub : 0 < bs.length := lpi.2 hb;have L := Hh (HE.out KK.out (.inl (fun h => hb (by simpa [formP] using h.2.2.2.2.1))));clear hb;iterate 7 (refine l_V HO ?_)
    iterate 9 (refine l_S HO ?_)
    iterate 2 (refine l_V HO ?_)
    iterate 13 (refine l_S HO ?_)
    refine l_V HO ?_
    refine l_done ?_;go_wp2;go_ret;exact ⟨ret_int L.out.symm, BW⟩
  ·
   have Ts : (s != 0) = true := by simpa using hs
   have L := Hh (HE.out KK.out (.inl (fun h => hs (by simpa [formP] using h.2.2.2.1))));clear hs;iterate 6 (refine l_V HO ?_)
   iterate 9 (refine l_S HO ?_)
   iterate 2 (refine l_V HO ?_)
   iterate 9 (refine l_S HO ?_)
   iterate 2 (refine l_V HO ?_)
   iterate 13 (refine l_S HO ?_)
   refine l_V HO ?_
   refine l_done ?_;go_wp2;go_ret;exact ⟨ret_int L.out.symm, BW⟩
 ·
  have Tw : (p != 0) = true := by simpa using hw
  have L := Hh (HE.out KK.out (.inl (fun h => hw (by simpa [formP] using h.2.2.1))));clear hw;iterate 6 (refine l_V HO ?_)
  iterate 8 (refine l_S HO ?_)
  iterate 2 (refine l_V HO ?_)
  iterate 9 (refine l_S HO ?_)
  iterate 2 (refine l_V HO ?_)
  iterate 9 (refine l_S HO ?_)
  iterate 2 (refine l_V HO ?_)
  iterate 13 (refine l_S HO ?_)
  refine l_V HO ?_
  refine l_done ?_;go_wp2;go_ret;exact ⟨ret_int L.out.symm, BW⟩
theorem right_ref_17 (v : Value) (q : Rq) (w : World) (h : IsRq w v q) (hf : q.fn = 17) :
  Calls Tryz.prog 29 #[v] w fun e w' => e = .returned (J (rightE q)) ∧ Bo w w' := by
 obtain ⟨ab, cb, av, cv, rfl, -, -⟩ := h.slices;have W0 := Hh (aL w);have HH := Hh (fun w' (hb : Bo w w') => h.below hb);have HE := Hh (@rightE_12 q);have H0 := Hh (@rightE_0 q);have KK : Hid (knownB q.fn = true) := by show _ = _; rw [hf]; rfl
 obtain ⟨f, a, c, p, s, bs, vs, m, o⟩ := q;simp only at HE H0 HH KK hf ⊢;subst hf;have hm := m.toNat_lt;have ho := o.toNat_lt;clear h;have Ia : Hid (inI ([] : List UInt8) 97 = false) := by rfl
 have Ic : Hid (inI ([] : List UInt8) 99 = false) := by rfl
 have Iw : Hid (inI ([] : List UInt8) 119 = false) := by rfl
 have Is : Hid (inI ([] : List UInt8) 115 = false) := by rfl
 have Ib : Hid (inI ([] : List UInt8) 98 = false) := by rfl
 have Iv : Hid (inI ([] : List UInt8) 118 = false) := by rfl
 have Im : Hid (inI ([] : List UInt8) 109 = false) := by rfl
 go_enter Tryz.func29, Tryz.ntmps29;go_upto_region 4 with (first | (go_at_call 48; refine (has_ref _ _).mono ?_; rintro e w4 ⟨rfl, rfl⟩; rw [KK.out]) | (go_at_call 66; refine (uses_ref _ _ KK.out).mono ?_; rintro e w4 ⟨rfl, rfl⟩; rw [show usesL 17 = ([] : List UInt8) from rfl]))
 have XB := Box.new w 17 a c p s (.slice ab bs.length cb) (.slice av vs.length cv) m o 33;have BW := W0.out (.cells (Qa 17 a c p s ab bs cb av vs cv m o) 33);generalize w.alloc (.cells (Qa 17 a c p s ab bs cb av vs cv m o) 33) = w0 at *;obtain ⟨gl, c0, c1, c2, c3, c4, c5, c6, c7, c8⟩ := XB;refine l_begin (fun O HO => ?_);try simp only [List.cons_append, List.nil_append]
 refine l_V HO ?_
 refine l_M HO (fun K hK => ?_);go_wp2_with fail
 refine (in_at ([] : List UInt8) _ _ (by decide) (by decide)).mono ?_;rintro e w4 ⟨rfl, rfl⟩;rw [Ia.out];go_simp;refine hK.out _ _ ?_;clear K hK;try simp only [Pu]
 iterate 2 (refine l_V HO ?_)
 by_cases ha : a = 0
 ·
  subst ha;iterate 5 (refine l_V HO ?_)
  refine l_V HO ?_
  refine l_M HO (fun K hK => ?_);go_wp2_with fail
  refine (in_at ([] : List UInt8) _ _ (by decide) (by decide)).mono ?_;rintro e w4 ⟨rfl, rfl⟩;rw [Ic.out];go_simp;refine hK.out _ _ ?_;clear K hK;try simp only [Pu]
  iterate 2 (refine l_V HO ?_)
  by_cases hc : c = 0
  ·
   subst hc;iterate 6 (refine l_V HO ?_)
   refine l_V HO ?_
   refine l_M HO (fun K hK => ?_);go_wp2_with fail
   refine (in_at ([] : List UInt8) _ _ (by decide) (by decide)).mono ?_;rintro e w4 ⟨rfl, rfl⟩;rw [Iw.out];go_simp;refine hK.out _ _ ?_;clear K hK;try simp only [Pu]
   iterate 2 (refine l_V HO ?_)
   by_cases hw : p = 0
   ·
    subst hw;iterate 6 (refine l_V HO ?_)
    refine l_V HO ?_
    refine l_M HO (fun K hK => ?_);go_wp2_with fail
    refine (in_at ([] : List UInt8) _ _ (by decide) (by decide)).mono ?_;rintro e w4 ⟨rfl, rfl⟩;rw [Is.out];go_simp;refine hK.out _ _ ?_;clear K hK;try simp only [Pu]
    iterate 2 (refine l_V HO ?_)
    by_cases hs : s = 0
    ·
     subst hs;iterate 6 (refine l_V HO ?_)
     refine l_V HO ?_
     refine l_M HO (fun K hK => ?_);go_wp2_with fail
     refine (in_at ([] : List UInt8) _ _ (by decide) (by decide)).mono ?_;rintro e w4 ⟨rfl, rfl⟩;rw [Ib.out];go_simp;refine hK.out _ _ ?_;clear K hK;try simp only [Pu]
     iterate 2 (refine l_V HO ?_)
     by_cases hb : bs = []
     ·
      subst hb;simp only [List.length_nil] at *;iterate 7 (refine l_V HO ?_)
      refine l_V HO ?_
      refine l_M HO (fun K hK => ?_);go_wp2_with fail
      refine (in_at ([] : List UInt8) _ _ (by decide) (by decide)).mono ?_;rintro e w4 ⟨rfl, rfl⟩;rw [Iv.out];go_simp;refine hK.out _ _ ?_;clear K hK;try simp only [Pu]
      iterate 2 (refine l_V HO ?_)
      by_cases hv : vs = []
      ·
       subst hv;simp only [List.length_nil] at *;iterate 7 (refine l_V HO ?_)
       refine l_V HO ?_
       refine l_M HO (fun K hK => ?_);go_wp2_with fail
       refine (in_at ([] : List UInt8) _ _ (by decide) (by decide)).mono ?_;rintro e w4 ⟨rfl, rfl⟩;rw [Im.out];go_simp;refine hK.out _ _ ?_;clear K hK;try simp only [Pu]
       iterate 2 (refine l_V HO ?_)
       by_cases hm0 : m = 0
       ·
        subst hm0;iterate 4 (refine l_V HO ?_)
        by_cases ho0 : o = 0
        ·
         subst ho0;iterate 6 (refine l_V HO ?_)
         refine l_done ?_;go_wp2_with fail
         refine (word_ref _ _).mono ?_;rintro e w4 ⟨rfl, rfl⟩;have Na : Hid (numB 0 = true) := by rfl
         rw [Na.out];go_wp2_with fail
         refine (word_ref _ _).mono ?_;rintro e w4 ⟨rfl, rfl⟩;have Nc : Hid (numB 0 = true) := by rfl
         rw [Nc.out];go_wp2_with fail
         refine (word_ref _ _).mono ?_;rintro e w4 ⟨rfl, rfl⟩;have Np : Hid (numB 0 = true) := by rfl
         rw [Np.out];go_wp2_with fail
         refine (word_ref _ _).mono ?_;rintro e w4 ⟨rfl, rfl⟩;have Ns : Hid (numB 0 = true) := by rfl
         rw [Ns.out];go_wp2_with fail
         have E2 := Hh (show (numB 0 && numB 0 && numB 0 && numB 0) = true by simp [Na.out]);have G1 := Hh (show formP ⟨17, 0, 0, 0, 0, [], [], 0, 0⟩ by simp [formP]);refine (lists_ref _ ⟨17, 0, 0, 0, 0, [], [], 0, 0⟩ _ (HH.out _ BW) KK.out).mono ?_;rintro e w5 ⟨rfl, B5⟩;replace B5 := bT BW B5;cases hl : listB ⟨17, 0, 0, 0, 0, [], [], 0, 0⟩
         ·
          have L := Hh (HE.out KK.out (.inr (.inr hl)));clear hl;go_wp2;go_ret;exact ⟨ret_int L.out.symm, B5⟩
         ·
          have L := Hh (H0.out KK.out G1.out E2.out hl);clear hl;go_wp2;go_ret;exact ⟨ret_int L.out.symm, B5⟩
        ·
         have To : ((o.toNat : Int) != 0) = true := by simp; intro h; exact ho0 (UInt16.toNat_inj.1 h)
         have L := Hh (HE.out KK.out (.inl (fun h => ho0 (by have := h.2.2.2.2.2.2; simp at this; exact this))));clear ho0;iterate 6 (refine l_V HO ?_)
         refine l_done ?_;go_wp2;go_ret;exact ⟨ret_int L.out.symm, BW⟩
       ·
        have Tm : ((m.toNat : Int) != 0) = true := by simp; intro h; exact hm0 (UInt16.toNat_inj.1 h)
        have L := Hh (HE.out KK.out (.inl (fun h => hm0 (by have := h.2.2.2.2.2.2; simp at this; exact this.1))));clear hm0;iterate 4 (refine l_V HO ?_)
        iterate 3 (refine l_S HO ?_)
        iterate 3 (refine l_V HO ?_)
        refine l_done ?_;go_wp2;go_ret;exact ⟨ret_int L.out.symm, BW⟩
      ·
       have Tv : (0 : Int) < (vs.length : Int) := by have := lpi.2 hv; omega
       have Uv : 0 < vs.length := lpi.2 hv;have L := Hh (HE.out KK.out (.inl (fun h => hv (by simpa [formP] using h.2.2.2.2.2.1))));clear hv;iterate 7 (refine l_V HO ?_)
       iterate 13 (refine l_S HO ?_)
       refine l_V HO ?_
       refine l_done ?_;go_wp2;go_ret;exact ⟨ret_int L.out.symm, BW⟩
     ·
      have Tb : (0 : Int) < (bs.length : Int) := by have := lpi.2 hb; omega
      have Ub : 0 < bs.length := lpi.2 hb;have L := Hh (HE.out KK.out (.inl (fun h => hb (by simpa [formP] using h.2.2.2.2.1))));clear hb;iterate 7 (refine l_V HO ?_)
      iterate 9 (refine l_S HO ?_)
      iterate 2 (refine l_V HO ?_)
      iterate 13 (refine l_S HO ?_)
      refine l_V HO ?_
      refine l_done ?_;go_wp2;go_ret;exact ⟨ret_int L.out.symm, BW⟩
    ·
     have Ts : (s != 0) = true := by simpa using hs
     have L := Hh (HE.out KK.out (.inl (fun h => hs (by simpa [formP] using h.2.2.2.1))));clear hs;iterate 6 (refine l_V HO ?_)
     iterate 9 (refine l_S HO ?_)
     iterate 2 (refine l_V HO ?_)
     iterate 9 (refine l_S HO ?_)
     iterate 2 (refine l_V HO ?_)
     iterate 13 (refine l_S HO ?_)
     refine l_V HO ?_
     refine l_done ?_;go_wp2;go_ret;exact ⟨ret_int L.out.symm, BW⟩
   ·
    have Tw : (p != 0) = true := by simpa using hw
    have L := Hh (HE.out KK.out (.inl (fun h => hw (by simpa [formP] using h.2.2.1))));clear hw;iterate 6 (refine l_V HO ?_)
    iterate 8 (refine l_S HO ?_)
    iterate 2 (refine l_V HO ?_)
    iterate 9 (refine l_S HO ?_)
    iterate 2 (refine l_V HO ?_)
    iterate 9 (refine l_S HO ?_)
    iterate 2 (refine l_V HO ?_)
    iterate 13 (refine l_S HO ?_)
    refine l_V HO ?_
    refine l_done ?_;go_wp2;go_ret;exact ⟨ret_int L.out.symm, BW⟩
  ·
   have Tc : (c != 0) = true := by simpa using hc
   have L := Hh (HE.out KK.out (.inl (fun h => hc (by simpa [formP] using h.2.1))));clear hc;iterate 6 (refine l_V HO ?_)
   iterate 8 (refine l_S HO ?_)
   iterate 2 (refine l_V HO ?_)
   iterate 8 (refine l_S HO ?_)
   iterate 2 (refine l_V HO ?_)
   iterate 9 (refine l_S HO ?_)
   iterate 2 (refine l_V HO ?_)
   iterate 9 (refine l_S HO ?_)
   iterate 2 (refine l_V HO ?_)
   iterate 13 (refine l_S HO ?_)
   refine l_V HO ?_
   refine l_done ?_;go_wp2;go_ret;exact ⟨ret_int L.out.symm, BW⟩
 ·
  have Ta : (a != 0) = true := by simpa using ha
  have L := Hh (HE.out KK.out (.inl (fun h => ha (by simpa [formP] using h.1))));clear ha;iterate 5 (refine l_V HO ?_)
  iterate 8 (refine l_S HO ?_)
  iterate 2 (refine l_V HO ?_)
  iterate 8 (refine l_S HO ?_)
  iterate 2 (refine l_V HO ?_)
  iterate 8 (refine l_S HO ?_)
  iterate 2 (refine l_V HO ?_)
  iterate 9 (refine l_S HO ?_)
  iterate 2 (refine l_V HO ?_)
  iterate 9 (refine l_S HO ?_)
  iterate 2 (refine l_V HO ?_)
  iterate 13 (refine l_S HO ?_)
  refine l_V HO ?_
  refine l_done ?_;go_wp2;go_ret;exact ⟨ret_int L.out.symm, BW⟩
theorem right_ref_22 (v : Value) (q : Rq) (w : World) (h : IsRq w v q) (hf : q.fn = 22) :
  Calls Tryz.prog 29 #[v] w fun e w' => e = .returned (J (rightE q)) ∧ Bo w w' := by
 obtain ⟨ab, cb, av, cv, rfl, -, -⟩ := h.slices;have W0 := Hh (aL w);have HH := Hh (fun w' (hb : Bo w w') => h.below hb);have HE := Hh (@rightE_12 q);have H0 := Hh (@rightE_0 q);have KK : Hid (knownB q.fn = true) := by show _ = _; rw [hf]; rfl
 obtain ⟨f, a, c, p, s, bs, vs, m, o⟩ := q;simp only at HE H0 HH KK hf ⊢;subst hf;have hm := m.toNat_lt;have ho := o.toNat_lt;clear h;have Ia : Hid (inI [97, 109] 97 = true) := by rfl
 have Ic : Hid (inI [97, 109] 99 = false) := by rfl
 have Iw : Hid (inI [97, 109] 119 = false) := by rfl
 have Is : Hid (inI [97, 109] 115 = false) := by rfl
 have Ib : Hid (inI [97, 109] 98 = false) := by rfl
 have Iv : Hid (inI [97, 109] 118 = false) := by rfl
 have Im : Hid (inI [97, 109] 109 = true) := by rfl
 go_enter Tryz.func29, Tryz.ntmps29;go_upto_region 4 with (first | (go_at_call 48; refine (has_ref _ _).mono ?_; rintro e w4 ⟨rfl, rfl⟩; rw [KK.out]) | (go_at_call 66; refine (uses_ref _ _ KK.out).mono ?_; rintro e w4 ⟨rfl, rfl⟩; rw [show usesL 22 = [97, 109] from rfl]))
 have XB := Box.new w 22 a c p s (.slice ab bs.length cb) (.slice av vs.length cv) m o 33;have BW := W0.out (.cells (Qa 22 a c p s ab bs cb av vs cv m o) 33);generalize w.alloc (.cells (Qa 22 a c p s ab bs cb av vs cv m o) 33) = w0 at *;obtain ⟨gl, c0, c1, c2, c3, c4, c5, c6, c7, c8⟩ := XB;refine l_begin (fun O HO => ?_);try simp only [List.cons_append, List.nil_append]
 refine l_V HO ?_
 refine l_M HO (fun K hK => ?_);go_wp2_with fail
 refine (in_at [97, 109] _ _ (by decide) (by decide)).mono ?_;rintro e w4 ⟨rfl, rfl⟩;rw [Ia.out];go_simp;refine hK.out _ _ ?_;clear K hK;try simp only [Pu]
 iterate 2 (refine l_V HO ?_)
 iterate 3 (refine l_S HO ?_)
 iterate 2 (refine l_V HO ?_)
 refine l_V HO ?_
 refine l_M HO (fun K hK => ?_);go_wp2_with fail
 refine (in_at [97, 109] _ _ (by decide) (by decide)).mono ?_;rintro e w4 ⟨rfl, rfl⟩;rw [Ic.out];go_simp;refine hK.out _ _ ?_;clear K hK;try simp only [Pu]
 iterate 2 (refine l_V HO ?_)
 by_cases hc : c = 0
 ·
  subst hc;iterate 6 (refine l_V HO ?_)
  refine l_V HO ?_
  refine l_M HO (fun K hK => ?_);go_wp2_with fail
  refine (in_at [97, 109] _ _ (by decide) (by decide)).mono ?_;rintro e w4 ⟨rfl, rfl⟩;rw [Iw.out];go_simp;refine hK.out _ _ ?_;clear K hK;try simp only [Pu]
  iterate 2 (refine l_V HO ?_)
  by_cases hw : p = 0
  ·
   subst hw;iterate 6 (refine l_V HO ?_)
   refine l_V HO ?_
   refine l_M HO (fun K hK => ?_);go_wp2_with fail
   refine (in_at [97, 109] _ _ (by decide) (by decide)).mono ?_;rintro e w4 ⟨rfl, rfl⟩;rw [Is.out];go_simp;refine hK.out _ _ ?_;clear K hK;try simp only [Pu]
   iterate 2 (refine l_V HO ?_)
   by_cases hs : s = 0
   ·
    subst hs;iterate 6 (refine l_V HO ?_)
    refine l_V HO ?_
    refine l_M HO (fun K hK => ?_);go_wp2_with fail
    refine (in_at [97, 109] _ _ (by decide) (by decide)).mono ?_;rintro e w4 ⟨rfl, rfl⟩;rw [Ib.out];go_simp;refine hK.out _ _ ?_;clear K hK;try simp only [Pu]
    iterate 2 (refine l_V HO ?_)
    by_cases hb : bs = []
    ·
     subst hb;simp only [List.length_nil] at *;iterate 7 (refine l_V HO ?_)
     refine l_V HO ?_
     refine l_M HO (fun K hK => ?_);go_wp2_with fail
     refine (in_at [97, 109] _ _ (by decide) (by decide)).mono ?_;rintro e w4 ⟨rfl, rfl⟩;rw [Iv.out];go_simp;refine hK.out _ _ ?_;clear K hK;try simp only [Pu]
     iterate 2 (refine l_V HO ?_)
     by_cases hv : vs = []
     ·
      subst hv;simp only [List.length_nil] at *;iterate 7 (refine l_V HO ?_)
      refine l_V HO ?_
      refine l_M HO (fun K hK => ?_);go_wp2_with fail
      refine (in_at [97, 109] _ _ (by decide) (by decide)).mono ?_;rintro e w4 ⟨rfl, rfl⟩;rw [Im.out];go_simp;refine hK.out _ _ ?_;clear K hK;try simp only [Pu]
      iterate 2 (refine l_V HO ?_)
      iterate 8 (refine l_S HO ?_)
      iterate 2 (refine l_V HO ?_)
      refine l_done ?_;go_wp2_with fail
      refine (word_ref _ _).mono ?_;rintro e w4 ⟨rfl, rfl⟩;cases ha : numB a
      ·
       have L := Hh (HE.out KK.out (.inr (.inl (by rw [ha]; simp))));have Na := Hh ha;clear ha;go_wp2;go_ret;exact ⟨ret_int L.out.symm, BW⟩
      ·
       have Na := Hh ha;clear ha;go_wp2_with fail
       refine (word_ref _ _).mono ?_;rintro e w4 ⟨rfl, rfl⟩;have Nc : Hid (numB 0 = true) := by rfl
       rw [Nc.out];go_wp2_with fail
       refine (word_ref _ _).mono ?_;rintro e w4 ⟨rfl, rfl⟩;have Np : Hid (numB 0 = true) := by rfl
       rw [Np.out];go_wp2_with fail
       refine (word_ref _ _).mono ?_;rintro e w4 ⟨rfl, rfl⟩;have Ns : Hid (numB 0 = true) := by rfl
       rw [Ns.out];go_wp2_with fail
       have E2 := Hh (show (numB a && numB 0 && numB 0 && numB 0) = true by simp [Na.out, Np.out]);have G1 := Hh (show formP ⟨22, a, 0, 0, 0, [], [], m, o⟩ by simp [formP]);refine (lists_ref _ ⟨22, a, 0, 0, 0, [], [], m, o⟩ _ (HH.out _ BW) KK.out).mono ?_;rintro e w5 ⟨rfl, B5⟩;replace B5 := bT BW B5;cases hl : listB ⟨22, a, 0, 0, 0, [], [], m, o⟩
       ·
        have L := Hh (HE.out KK.out (.inr (.inr hl)));clear hl;go_wp2;go_ret;exact ⟨ret_int L.out.symm, B5⟩
       ·
        have L := Hh (H0.out KK.out G1.out E2.out hl);clear hl;go_wp2;go_ret;exact ⟨ret_int L.out.symm, B5⟩
     ·
      have Tv : (0 : Int) < (vs.length : Int) := by have := lpi.2 hv; omega
      have Uv : 0 < vs.length := lpi.2 hv;have L := Hh (HE.out KK.out (.inl (fun h => hv (by simpa [formP] using h.2.2.2.2.2.1))));clear hv;iterate 7 (refine l_V HO ?_)
      iterate 13 (refine l_S HO ?_)
      refine l_V HO ?_
      refine l_done ?_;go_wp2;go_ret;exact ⟨ret_int L.out.symm, BW⟩
    ·
     have Tb : (0 : Int) < (bs.length : Int) := by have := lpi.2 hb; omega
     have Ub : 0 < bs.length := lpi.2 hb;have L := Hh (HE.out KK.out (.inl (fun h => hb (by simpa [formP] using h.2.2.2.2.1))));clear hb;iterate 7 (refine l_V HO ?_)
     iterate 9 (refine l_S HO ?_)
     iterate 2 (refine l_V HO ?_)
     iterate 13 (refine l_S HO ?_)
     refine l_V HO ?_
     refine l_done ?_;go_wp2;go_ret;exact ⟨ret_int L.out.symm, BW⟩
   ·
    have Ts : (s != 0) = true := by simpa using hs
    have L := Hh (HE.out KK.out (.inl (fun h => hs (by simpa [formP] using h.2.2.2.1))));clear hs;iterate 6 (refine l_V HO ?_)
    iterate 9 (refine l_S HO ?_)
    iterate 2 (refine l_V HO ?_)
    iterate 9 (refine l_S HO ?_)
    iterate 2 (refine l_V HO ?_)
    iterate 13 (refine l_S HO ?_)
    refine l_V HO ?_
    refine l_done ?_;go_wp2;go_ret;exact ⟨ret_int L.out.symm, BW⟩
  ·
   have Tw : (p != 0) = true := by simpa using hw
   have L := Hh (HE.out KK.out (.inl (fun h => hw (by simpa [formP] using h.2.2.1))));clear hw;iterate 6 (refine l_V HO ?_)
   iterate 8 (refine l_S HO ?_)
   iterate 2 (refine l_V HO ?_)
   iterate 9 (refine l_S HO ?_)
   iterate 2 (refine l_V HO ?_)
   iterate 9 (refine l_S HO ?_)
   iterate 2 (refine l_V HO ?_)
   iterate 13 (refine l_S HO ?_)
   refine l_V HO ?_
   refine l_done ?_;go_wp2;go_ret;exact ⟨ret_int L.out.symm, BW⟩
 ·
  have Tc : (c != 0) = true := by simpa using hc
  have L := Hh (HE.out KK.out (.inl (fun h => hc (by simpa [formP] using h.2.1))));clear hc;iterate 6 (refine l_V HO ?_)
  iterate 8 (refine l_S HO ?_)
  iterate 2 (refine l_V HO ?_)
  iterate 8 (refine l_S HO ?_)
  iterate 2 (refine l_V HO ?_)
  iterate 9 (refine l_S HO ?_)
  iterate 2 (refine l_V HO ?_)
  iterate 9 (refine l_S HO ?_)
  iterate 2 (refine l_V HO ?_)
  iterate 13 (refine l_S HO ?_)
  refine l_V HO ?_
  refine l_done ?_;go_wp2;go_ret;exact ⟨ret_int L.out.symm, BW⟩
theorem right_ref_23 (v : Value) (q : Rq) (w : World) (h : IsRq w v q) (hf : q.fn = 23) :
  Calls Tryz.prog 29 #[v] w fun e w' => e = .returned (J (rightE q)) ∧ Bo w w' := by
 obtain ⟨ab, cb, av, cv, rfl, -, -⟩ := h.slices;have W0 := Hh (aL w);have HH := Hh (fun w' (hb : Bo w w') => h.below hb);have HE := Hh (@rightE_12 q);have H0 := Hh (@rightE_0 q);have KK : Hid (knownB q.fn = true) := by show _ = _; rw [hf]; rfl
 obtain ⟨f, a, c, p, s, bs, vs, m, o⟩ := q;simp only at HE H0 HH KK hf ⊢;subst hf;have hm := m.toNat_lt;have ho := o.toNat_lt;clear h;have Ia : Hid (inI [97, 99, 119, 118] 97 = true) := by rfl
 have Ic : Hid (inI [97, 99, 119, 118] 99 = true) := by rfl
 have Iw : Hid (inI [97, 99, 119, 118] 119 = true) := by rfl
 have Is : Hid (inI [97, 99, 119, 118] 115 = false) := by rfl
 have Ib : Hid (inI [97, 99, 119, 118] 98 = false) := by rfl
 have Iv : Hid (inI [97, 99, 119, 118] 118 = true) := by rfl
 have Im : Hid (inI [97, 99, 119, 118] 109 = false) := by rfl
 go_enter Tryz.func29, Tryz.ntmps29;go_upto_region 4 with (first | (go_at_call 48; refine (has_ref _ _).mono ?_; rintro e w4 ⟨rfl, rfl⟩; rw [KK.out]) | (go_at_call 66; refine (uses_ref _ _ KK.out).mono ?_; rintro e w4 ⟨rfl, rfl⟩; rw [show usesL 23 = [97, 99, 119, 118] from rfl]))
 have XB := Box.new w 23 a c p s (.slice ab bs.length cb) (.slice av vs.length cv) m o 33;have BW := W0.out (.cells (Qa 23 a c p s ab bs cb av vs cv m o) 33);generalize w.alloc (.cells (Qa 23 a c p s ab bs cb av vs cv m o) 33) = w0 at *;obtain ⟨gl, c0, c1, c2, c3, c4, c5, c6, c7, c8⟩ := XB;refine l_begin (fun O HO => ?_);try simp only [List.cons_append, List.nil_append]
 refine l_V HO ?_
 refine l_M HO (fun K hK => ?_);go_wp2_with fail
 refine (in_at [97, 99, 119, 118] _ _ (by decide) (by decide)).mono ?_;rintro e w4 ⟨rfl, rfl⟩;rw [Ia.out];go_simp;refine hK.out _ _ ?_;clear K hK;try simp only [Pu]
 iterate 2 (refine l_V HO ?_)
 iterate 3 (refine l_S HO ?_)
 iterate 2 (refine l_V HO ?_)
 refine l_V HO ?_
 refine l_M HO (fun K hK => ?_);go_wp2_with fail
 refine (in_at [97, 99, 119, 118] _ _ (by decide) (by decide)).mono ?_;rintro e w4 ⟨rfl, rfl⟩;rw [Ic.out];go_simp;refine hK.out _ _ ?_;clear K hK;try simp only [Pu]
 iterate 2 (refine l_V HO ?_)
 iterate 3 (refine l_S HO ?_)
 iterate 3 (refine l_V HO ?_)
 refine l_V HO ?_
 refine l_M HO (fun K hK => ?_);go_wp2_with fail
 refine (in_at [97, 99, 119, 118] _ _ (by decide) (by decide)).mono ?_;rintro e w4 ⟨rfl, rfl⟩;rw [Iw.out];go_simp;refine hK.out _ _ ?_;clear K hK;try simp only [Pu]
 iterate 2 (refine l_V HO ?_)
 iterate 3 (refine l_S HO ?_)
 iterate 3 (refine l_V HO ?_)
 refine l_V HO ?_
 refine l_M HO (fun K hK => ?_);go_wp2_with fail
 refine (in_at [97, 99, 119, 118] _ _ (by decide) (by decide)).mono ?_;rintro e w4 ⟨rfl, rfl⟩;rw [Is.out];go_simp;refine hK.out _ _ ?_;clear K hK;try simp only [Pu]
 iterate 2 (refine l_V HO ?_)
 by_cases hs : s = 0
 ·
  subst hs;iterate 6 (refine l_V HO ?_)
  refine l_V HO ?_
  refine l_M HO (fun K hK => ?_);go_wp2_with fail
  refine (in_at [97, 99, 119, 118] _ _ (by decide) (by decide)).mono ?_;rintro e w4 ⟨rfl, rfl⟩;rw [Ib.out];go_simp;refine hK.out _ _ ?_;clear K hK;try simp only [Pu]
  iterate 2 (refine l_V HO ?_)
  by_cases hb : bs = []
  ·
   subst hb;simp only [List.length_nil] at *;iterate 7 (refine l_V HO ?_)
   refine l_V HO ?_
   refine l_M HO (fun K hK => ?_);go_wp2_with fail
   refine (in_at [97, 99, 119, 118] _ _ (by decide) (by decide)).mono ?_;rintro e w4 ⟨rfl, rfl⟩;rw [Iv.out];go_simp;refine hK.out _ _ ?_;clear K hK;try simp only [Pu]
   iterate 2 (refine l_V HO ?_)
   iterate 4 (refine l_S HO ?_)
   iterate 3 (refine l_V HO ?_)
   refine l_V HO ?_
   refine l_M HO (fun K hK => ?_);go_wp2_with fail
   refine (in_at [97, 99, 119, 118] _ _ (by decide) (by decide)).mono ?_;rintro e w4 ⟨rfl, rfl⟩;rw [Im.out];go_simp;refine hK.out _ _ ?_;clear K hK;try simp only [Pu]
   iterate 2 (refine l_V HO ?_)
   by_cases hm0 : m = 0
   ·
    subst hm0;iterate 4 (refine l_V HO ?_)
    by_cases ho0 : o = 0
    ·
     subst ho0;iterate 6 (refine l_V HO ?_)
     refine l_done ?_;go_wp2_with fail
     refine (word_ref _ _).mono ?_;rintro e w4 ⟨rfl, rfl⟩;cases ha : numB a
     ·
      have L := Hh (HE.out KK.out (.inr (.inl (by rw [ha]; simp))));have Na := Hh ha;clear ha;go_wp2;go_ret;exact ⟨ret_int L.out.symm, BW⟩
     ·
      have Na := Hh ha;clear ha;go_wp2_with fail
      refine (word_ref _ _).mono ?_;rintro e w4 ⟨rfl, rfl⟩;cases hc : numB c
      ·
       have L := Hh (HE.out KK.out (.inr (.inl (by rw [hc]; simp))));have Nc := Hh hc;clear hc;go_wp2;go_ret;exact ⟨ret_int L.out.symm, BW⟩
      ·
       have Nc := Hh hc;clear hc;go_wp2_with fail
       refine (word_ref _ _).mono ?_;rintro e w4 ⟨rfl, rfl⟩;cases hp : numB p
       ·
        have L := Hh (HE.out KK.out (.inr (.inl (by rw [hp]; simp))));have Np := Hh hp;clear hp;go_wp2;go_ret;exact ⟨ret_int L.out.symm, BW⟩
       ·
        have Np := Hh hp;clear hp;go_wp2_with fail
        refine (word_ref _ _).mono ?_;rintro e w4 ⟨rfl, rfl⟩;have Ns : Hid (numB 0 = true) := by rfl
        rw [Ns.out];go_wp2_with fail
        have E2 := Hh (show (numB a && numB p && numB 0 && numB c) = true by simp [Na.out, Np.out, Ns.out, Nc.out]);have G1 := Hh (show formP ⟨23, a, c, p, 0, [], vs, 0, 0⟩ by simp [formP]);refine (lists_ref _ ⟨23, a, c, p, 0, [], vs, 0, 0⟩ _ (HH.out _ BW) KK.out).mono ?_;rintro e w5 ⟨rfl, B5⟩;replace B5 := bT BW B5;cases hl : listB ⟨23, a, c, p, 0, [], vs, 0, 0⟩
        ·
         have L := Hh (HE.out KK.out (.inr (.inr hl)));clear hl;go_wp2;go_ret;exact ⟨ret_int L.out.symm, B5⟩
        ·
         have L := Hh (H0.out KK.out G1.out E2.out hl);clear hl;go_wp2;go_ret;exact ⟨ret_int L.out.symm, B5⟩
    ·
     have To : ((o.toNat : Int) != 0) = true := by simp; intro h; exact ho0 (UInt16.toNat_inj.1 h)
     have L := Hh (HE.out KK.out (.inl (fun h => ho0 (by have := h.2.2.2.2.2.2; simp at this; exact this))));clear ho0;iterate 6 (refine l_V HO ?_)
     refine l_done ?_;go_wp2;go_ret;exact ⟨ret_int L.out.symm, BW⟩
   ·
    have Tm : ((m.toNat : Int) != 0) = true := by simp; intro h; exact hm0 (UInt16.toNat_inj.1 h)
    have L := Hh (HE.out KK.out (.inl (fun h => hm0 (by have := h.2.2.2.2.2.2; simp at this; exact this.1))));clear hm0;iterate 4 (refine l_V HO ?_)
    iterate 3 (refine l_S HO ?_)
    iterate 3 (refine l_V HO ?_)
    refine l_done ?_;go_wp2;go_ret;exact ⟨ret_int L.out.symm, BW⟩
  ·
   have Tb : (0 : Int) < (bs.length : Int) := by have := lpi.2 hb; omega
   have Ub : 0 < bs.length := lpi.2 hb;have L := Hh (HE.out KK.out (.inl (fun h => hb (by simpa [formP] using h.2.2.2.2.1))));clear hb;iterate 7 (refine l_V HO ?_)
   iterate 9 (refine l_S HO ?_)
   iterate 2 (refine l_V HO ?_)
   iterate 13 (refine l_S HO ?_)
   refine l_V HO ?_
   refine l_done ?_;go_wp2;go_ret;exact ⟨ret_int L.out.symm, BW⟩
 ·
  have Ts : (s != 0) = true := by simpa using hs
  have L := Hh (HE.out KK.out (.inl (fun h => hs (by simpa [formP] using h.2.2.2.1))));clear hs;iterate 6 (refine l_V HO ?_)
  iterate 9 (refine l_S HO ?_)
  iterate 2 (refine l_V HO ?_)
  iterate 9 (refine l_S HO ?_)
  iterate 2 (refine l_V HO ?_)
  iterate 13 (refine l_S HO ?_)
  refine l_V HO ?_
  refine l_done ?_;go_wp2;go_ret;exact ⟨ret_int L.out.symm, BW⟩
abbrev ptrV (g : Nat) : Value := .pointer (some ⟨g, 0, none⟩)
def occ1 (g : Nat) : Value → Prop
 | .pointer (some a) => a.block = g
 | .slice (some a) n _ => 0 < n ∧ a.block = g
 | _ => False
def occ (g : Nat) (v : Value) : Prop := ∃ c ∈ v.cells.toList, occ1 g c
def RelO (base : Nat) (u v : Value) : Prop := ∀ g, base ≤ g → occ g u → occ g v → False
theorem RelO.symm {base : Nat} (u v : Value) (h : RelO base u v) : RelO base v u := fun g hg h1 h2 => h g hg h2 h1
def FreshV (base lo : Nat) (v : Value) : Prop := ∀ g, base ≤ g → occ g v → lo ≤ g
def LtV (v : Value) (w : World) : Prop := ∀ g, occ g v → g < w.heap.size
theorem RelO.of {base : Nat} {u v : Value} {w : World} (hv : FreshV base w.heap.size v) (hu : LtV u w) : RelO base v u := fun g hg h1 h2 => by
 have := hv g hg h1;have := hu g h2;omega
theorem Row.occ_lt {w : World} {v : Value} {xs : List Value} (h : Row w v xs) {g : Nat} (ho : occ1 g v) : g < w.heap.size := by
 obtain ⟨a, cap, rfl, h1, h2, h3, h4⟩ := h;cases a with
 | none => exact ho.elim
 | some a =>
  obtain ⟨hn, rfl⟩ := ho;rcases h4 with rfl | ⟨b, off, e, hc⟩
  ·
   simp at hn
  ·
   cases e
   have := hc 0 hn;rw [List.getElem?_eq_getElem hn] at this;exact lt_of_cell this
theorem Dev.set (B g o : Nat) (w : World) (v : Value) : Dev B g w (w.setCell ⟨g, o, none⟩ v) :=
 ⟨rfl, rfl, rfl, by simp [World.setCell], fun k _ hk => by simp [World.setCell, Array.getElem?_modify, Ne.symm hk]⟩
def NewBox (base : Nat) (t : TypeId) (xs : List Value) (v : Value) (w : World) : Prop := ∃ g, v = ptrV g ∧ base ≤ g ∧ Blk w g t xs
theorem NewBox.ext {base : Nat} {t : TypeId} {xs : List Value} {v : Value} {w w' : World} (h : NewBox base t xs v w) (hx : Ext w w') : NewBox base t xs v w' := by
 obtain ⟨g, e, h1, h2⟩ := h;exact ⟨g, e, h1, h2.below hx h2.lt⟩
end Go.Proofs.YtdihcdphgiaepaaGreat
