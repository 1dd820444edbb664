/- Contract of burgageref3.Alike. -/
import Derived.Test.YtdihcdphgiaepaaGreatZZ25
namespace Go.Proofs.YtdihcdphgiaepaaGreat
open Go.RowKit
set_option maxHeartbeats 4000000 in
theorem alike_ref (va vb : Value) (q r : Rp) (w : World) (hq : IsRp w va q) (hr : IsRp w vb r) :
  Calls Tryz.prog 16 #[va, vb] w fun e w' => e = .returned (.bool (decide (q = r))) ∧ Below w.heap.size w w' := by
 obtain ⟨f, k, a, c, s, bs, vs, m, o, ds⟩ := q;obtain ⟨f2, k2, a2, c2, s2, bs2, vs2, m2, o2, ds2⟩ := r;obtain ⟨vb, vv, vd, rfl, hb, hv, hd⟩ := hq;obtain ⟨vb2, vv2, vd2, rfl, hb2, hv2, hd2⟩ := hr;obtain ⟨ab, capb, rfl, -⟩ := id hb;obtain ⟨av, capv, rfl, -⟩ := id hv;obtain ⟨ad, capd, rfl, -⟩ := id hd;obtain ⟨ab2, capb2, rfl, -⟩ := id hb2;obtain ⟨av2, capv2, rfl, -⟩ := id hv2;obtain ⟨ad2, capd2, rfl, -⟩ := id hd2;simp only [List.length_map] at hb hv hd hb2 hv2 hd2 ⊢;rw [show (decide ((⟨f, k, a, c, s, bs, vs, m, o, ds⟩ : Rp) = ⟨f2, k2, a2, c2, s2, bs2, vs2, m2, o2, ds2⟩)) = decide (f = f2 ∧ k = k2 ∧ a = a2 ∧ c = c2 ∧ s = s2 ∧ bs = bs2 ∧ vs = vs2 ∧ m = m2 ∧ o = o2 ∧ ds = ds2) by simp];have G0 := ((Below.refl w.heap.size w).alloc (Nat.le_refl _) (.cells #[.int .i64 f, .int .i64 k, .int .i64 a, .int .i64 c, .int .i64 s, .slice ab bs.length capb, .slice av vs.length capv, wV m, wV o, .slice ad ds.length capd] 46)).alloc (by simp) (.cells #[.int .i64 f2, .int .i64 k2, .int .i64 a2, .int .i64 c2, .int .i64 s2, .slice ab2 bs2.length capb2, .slice av2 vs2.length capv2, wV m2, wV o2, .slice ad2 ds2.length capd2] 46);have Y1 := hidden ((Blk.new w 46 [.int .i64 f, .int .i64 k, .int .i64 a, .int .i64 c, .int .i64 s, .slice ab bs.length capb, .slice av vs.length capv, wV m, wV o, .slice ad ds.length capd]).alloc (.cells #[.int .i64 f2, .int .i64 k2, .int .i64 a2, .int .i64 c2, .int .i64 s2, .slice ab2 bs2.length capb2, .slice av2 vs2.length capv2, wV m2, wV o2, .slice ad2 ds2.length capd2] 46));have Y2 := hidden (Blk.new (w.alloc (.cells #[.int .i64 f, .int .i64 k, .int .i64 a, .int .i64 c, .int .i64 s, .slice ab bs.length capb, .slice av vs.length capv, wV m, wV o, .slice ad ds.length capd] 46)) 46 [.int .i64 f2, .int .i64 k2, .int .i64 a2, .int .i64 c2, .int .i64 s2, .slice ab2 bs2.length capb2, .slice av2 vs2.length capv2, wV m2, wV o2, .slice ad2 ds2.length capd2]);have HG := hidden G0;clear G0;by_cases hfn : f = f2
 ·
  have tfn : (f == f2) = true := by simpa using hfn
  by_cases hcode : k = k2
  ·
   have tcode : (k == k2) = true := by simpa using hcode
   by_cases hloc : a = a2
   ·
    have tloc : (a == a2) = true := by simpa using hloc
    by_cases hcnt : c = c2
    ·
     have tcnt : (c == c2) = true := by simpa using hcnt
     by_cases hsub : s = s2
     ·
      have tsub : (s == s2) = true := by simpa using hsub
      by_cases hland : m = m2
      ·
       have tland : ((m.toNat : Int) == (m2.toNat : Int)) = true := by rw [u16_beq]; simpa using hland
       by_cases hlor : o = o2
       ·
        have tlor : ((o.toNat : Int) == (o2.toNat : Int)) = true := by rw [u16_beq]; simpa using hlor
        by_cases hbits : bs = bs2
        ·
         have tbits : (bs == bs2) = true := by simpa using hbits
         by_cases hvals : vs = vs2
         ·
          have tvals : (vs == vs2) = true := by simpa using hvals
          by_cases hdata : ds = ds2
          ·
           have tdata : (ds == ds2) = true := by simpa using hdata
           have e : decide (f = f2 ∧ k = k2 ∧ a = a2 ∧ c = c2 ∧ s = s2 ∧ bs = bs2 ∧ vs = vs2 ∧ m = m2 ∧ o = o2 ∧ ds = ds2) = true := by simp [hfn, hcode, hloc, hcnt, hsub, hland, hlor, hbits, hvals, hdata]
           rw [e];clear e hfn hcode hloc hcnt hsub hland hlor hbits hvals hdata;go_enter Tryz.func16, Tryz.ntmps16;go_wp2_with fail
           have G0 := HG.out;have X1 := Y1.out;have X2 := Y2.out;refine (rbits_any _ _ _ _ _ (hb.below G0) (hb2.below G0)).mono ?_;rintro e w1 ⟨rfl, B0⟩;rw [tbits];replace X1 := X1.below B0 X1.lt;replace X2 := X2.below B0 X2.lt;try simp only [World.size_alloc] at X2
           have c06 := X1.cell 6;have d06 := X2.cell 6;simp at c06 d06;have c09 := X1.cell 9;have d09 := X2.cell 9;simp at c09 d09;go_wp2_with fail
           have G1 := below_then G0 B0;refine (rvals_any _ _ _ _ _ (hv.below G1) (hv2.below G1)).mono ?_;rintro e w2 ⟨rfl, B1⟩;rw [tvals];replace X1 := X1.below B1 X1.lt;replace X2 := X2.below B1 X2.lt;try simp only [World.size_alloc] at X2
           have c19 := X1.cell 9;have d19 := X2.cell 9;simp at c19 d19;have Q1 := conv_row (P := Tryz.prog) (hd.below (below_then G1 B1)) 27 9 5 Tryz.underlying27 Tryz.underlying5 Tryz.underlying9;have Q2 := conv_row (P := Tryz.prog) (hd2.below (below_then G1 B1)) 27 9 5 Tryz.underlying27 Tryz.underlying5 Tryz.underlying9;go_wp2;go_ret;exact ⟨rfl, below_then G1 B1⟩
          ·
           have tdata : (ds == ds2) = false := by simpa using hdata
           have e : decide (f = f2 ∧ k = k2 ∧ a = a2 ∧ c = c2 ∧ s = s2 ∧ bs = bs2 ∧ vs = vs2 ∧ m = m2 ∧ o = o2 ∧ ds = ds2) = false := by simp [hdata]
           rw [e];clear e hfn hcode hloc hcnt hsub hland hlor hbits hvals hdata;go_enter Tryz.func16, Tryz.ntmps16;go_wp2_with fail
           have G0 := HG.out;have X1 := Y1.out;have X2 := Y2.out;refine (rbits_any _ _ _ _ _ (hb.below G0) (hb2.below G0)).mono ?_;rintro e w1 ⟨rfl, B0⟩;rw [tbits];replace X1 := X1.below B0 X1.lt;replace X2 := X2.below B0 X2.lt;try simp only [World.size_alloc] at X2
           have c06 := X1.cell 6;have d06 := X2.cell 6;simp at c06 d06;have c09 := X1.cell 9;have d09 := X2.cell 9;simp at c09 d09;go_wp2_with fail
           have G1 := below_then G0 B0;refine (rvals_any _ _ _ _ _ (hv.below G1) (hv2.below G1)).mono ?_;rintro e w2 ⟨rfl, B1⟩;rw [tvals];replace X1 := X1.below B1 X1.lt;replace X2 := X2.below B1 X2.lt;try simp only [World.size_alloc] at X2
           have c19 := X1.cell 9;have d19 := X2.cell 9;simp at c19 d19;have Q1 := conv_row (P := Tryz.prog) (hd.below (below_then G1 B1)) 27 9 5 Tryz.underlying27 Tryz.underlying5 Tryz.underlying9;have Q2 := conv_row (P := Tryz.prog) (hd2.below (below_then G1 B1)) 27 9 5 Tryz.underlying27 Tryz.underlying5 Tryz.underlying9;go_wp2;go_ret;exact ⟨rfl, below_then G1 B1⟩
         ·
          have tvals : (vs == vs2) = false := by simpa using hvals
          have e : decide (f = f2 ∧ k = k2 ∧ a = a2 ∧ c = c2 ∧ s = s2 ∧ bs = bs2 ∧ vs = vs2 ∧ m = m2 ∧ o = o2 ∧ ds = ds2) = false := by simp [hvals]
          rw [e];clear e hfn hcode hloc hcnt hsub hland hlor hbits hvals;go_enter Tryz.func16, Tryz.ntmps16;go_wp2_with fail
          have G0 := HG.out;have X1 := Y1.out;have X2 := Y2.out;refine (rbits_any _ _ _ _ _ (hb.below G0) (hb2.below G0)).mono ?_;rintro e w1 ⟨rfl, B0⟩;rw [tbits];replace X1 := X1.below B0 X1.lt;replace X2 := X2.below B0 X2.lt;try simp only [World.size_alloc] at X2
          have c06 := X1.cell 6;have d06 := X2.cell 6;simp at c06 d06;go_wp2_with fail
          have G1 := below_then G0 B0;refine (rvals_any _ _ _ _ _ (hv.below G1) (hv2.below G1)).mono ?_;rintro e w2 ⟨rfl, B1⟩;rw [tvals];replace X1 := X1.below B1 X1.lt;replace X2 := X2.below B1 X2.lt;try simp only [World.size_alloc] at X2
          go_wp2;go_ret;exact ⟨rfl, below_then G1 B1⟩
        ·
         have tbits : (bs == bs2) = false := by simpa using hbits
         have e : decide (f = f2 ∧ k = k2 ∧ a = a2 ∧ c = c2 ∧ s = s2 ∧ bs = bs2 ∧ vs = vs2 ∧ m = m2 ∧ o = o2 ∧ ds = ds2) = false := by simp [hbits]
         rw [e];clear e hfn hcode hloc hcnt hsub hland hlor hbits;go_enter Tryz.func16, Tryz.ntmps16;go_wp2_with fail
         have G0 := HG.out;have X1 := Y1.out;have X2 := Y2.out;refine (rbits_any _ _ _ _ _ (hb.below G0) (hb2.below G0)).mono ?_;rintro e w1 ⟨rfl, B0⟩;rw [tbits];replace X1 := X1.below B0 X1.lt;replace X2 := X2.below B0 X2.lt;try simp only [World.size_alloc] at X2
         go_wp2;go_ret;exact ⟨rfl, below_then G0 B0⟩
       ·
        have tlor : ((o.toNat : Int) == (o2.toNat : Int)) = false := by rw [u16_beq]; simpa using hlor
        have e : decide (f = f2 ∧ k = k2 ∧ a = a2 ∧ c = c2 ∧ s = s2 ∧ bs = bs2 ∧ vs = vs2 ∧ m = m2 ∧ o = o2 ∧ ds = ds2) = false := by simp [hlor]
        rw [e];clear e hfn hcode hloc hcnt hsub hland hlor;go_enter Tryz.func16, Tryz.ntmps16;go_wp2_with fail
        go_ret;exact ⟨rfl, HG.out⟩
      ·
       have tland : ((m.toNat : Int) == (m2.toNat : Int)) = false := by rw [u16_beq]; simpa using hland
       have e : decide (f = f2 ∧ k = k2 ∧ a = a2 ∧ c = c2 ∧ s = s2 ∧ bs = bs2 ∧ vs = vs2 ∧ m = m2 ∧ o = o2 ∧ ds = ds2) = false := by simp [hland]
       rw [e];clear e hfn hcode hloc hcnt hsub hland;go_enter Tryz.func16, Tryz.ntmps16;go_wp2_with fail
       go_ret;exact ⟨rfl, HG.out⟩
     ·
      have tsub : (s == s2) = false := by simpa using hsub
      have e : decide (f = f2 ∧ k = k2 ∧ a = a2 ∧ c = c2 ∧ s = s2 ∧ bs = bs2 ∧ vs = vs2 ∧ m = m2 ∧ o = o2 ∧ ds = ds2) = false := by simp [hsub]
      rw [e];clear e hfn hcode hloc hcnt hsub;go_enter Tryz.func16, Tryz.ntmps16;go_wp2_with fail
      go_ret;exact ⟨rfl, HG.out⟩
    ·
     have tcnt : (c == c2) = false := by simpa using hcnt
     have e : decide (f = f2 ∧ k = k2 ∧ a = a2 ∧ c = c2 ∧ s = s2 ∧ bs = bs2 ∧ vs = vs2 ∧ m = m2 ∧ o = o2 ∧ ds = ds2) = false := by simp [hcnt]
     rw [e];clear e hfn hcode hloc hcnt;go_enter Tryz.func16, Tryz.ntmps16;go_wp2_with fail
     go_ret;exact ⟨rfl, HG.out⟩
   ·
    have tloc : (a == a2) = false := by simpa using hloc
    have e : decide (f = f2 ∧ k = k2 ∧ a = a2 ∧ c = c2 ∧ s = s2 ∧ bs = bs2 ∧ vs = vs2 ∧ m = m2 ∧ o = o2 ∧ ds = ds2) = false := by simp [hloc]
    rw [e];clear e hfn hcode hloc;go_enter Tryz.func16, Tryz.ntmps16;go_wp2_with fail
    go_ret;exact ⟨rfl, HG.out⟩
  ·
   have tcode : (k == k2) = false := by simpa using hcode
   have e : decide (f = f2 ∧ k = k2 ∧ a = a2 ∧ c = c2 ∧ s = s2 ∧ bs = bs2 ∧ vs = vs2 ∧ m = m2 ∧ o = o2 ∧ ds = ds2) = false := by simp [hcode]
   rw [e];clear e hfn hcode;go_enter Tryz.func16, Tryz.ntmps16;go_wp2_with fail
   go_ret;exact ⟨rfl, HG.out⟩
 ·
  have tfn : (f == f2) = false := by simpa using hfn
  have e : decide (f = f2 ∧ k = k2 ∧ a = a2 ∧ c = c2 ∧ s = s2 ∧ bs = bs2 ∧ vs = vs2 ∧ m = m2 ∧ o = o2 ∧ ds = ds2) = false := by simp [hfn]
  rw [e];clear e hfn;go_enter Tryz.func16, Tryz.ntmps16;go_wp2_with fail
  go_ret;exact ⟨rfl, HG.out⟩
end Go.Proofs.YtdihcdphgiaepaaGreat
