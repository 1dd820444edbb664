/- The developers' deed. -/
import Derived.Deep.Cut
import Derived.Test.YtdihcdphgiaepaaGreatZZ17
import Derived.Test.YtdihcdphgiaepaaGreatZZ18
import Derived.Test.YtdihcdphgiaepaaGreatZZ19
import Derived.Test.YtdihcdphgiaepaaGreatZZ20
import Derived.Test.YtdihcdphgiaepaaGreatZZ21
import Derived.Test.YtdihcdphgiaepaaGreatZZ22
import Derived.Test.YtdihcdphgiaepaaGreatZZ23
import Derived.Test.YtdihcdphgiaepaaGreatZZ16
namespace Go.Proofs.YtdihcdphgiaepaaGreat
open Go.RowKit
theorem vact_1 (g gs lo hi n : Nat) (dv : Dv) (a c p s : Int) (bs : List Bool) (vs : List UInt16) (m o : UInt16) (v : Value) (w : World) (D : DD w g gs lo hi n dv) (h : IsRqF (Gd g lo hi) w v ⟨1, a, c, p, s, bs, vs, m, o⟩) (hm : 0 ≤ dv.msgs ∧ dv.msgs ≤ 100000000000000001 ∧ 0 ≤ dv.flts ∧ dv.flts ≤ 100000000000000001) 
  (hc : countsB ⟨1, a, c, p, s, bs, vs, m, o⟩ = true) (X : Rp × Dv) (hX : actD n dv ⟨1, a, c, p, s, bs, vs, m, o⟩ = X) :
  Calls Tryz.prog 91 #[ptrG g, v] w fun e w' => ∃ v', e = .returned v' ∧ NRp w.heap.size w' v' (X).1 ∧ DD w' g gs lo hi n (X).2 ∧ Kp (Gd g lo hi) w w' := by
 obtain ⟨-, hn, hb, hv, h8⟩ := counts_parts hc;have hr : rightE ⟨1, a, c, p, s, bs, vs, m, o⟩ = 0 := by simp [countsB] at hc; exact hc.1
 obtain ⟨-, hf, -, hl⟩ := right_parts hr;simp only at hn hb hv h8;exact vrd_1 g gs lo hi n dv 1 a c p s bs vs m o v w D h hm hn X (act_1.symm.trans hX)
theorem vact_2 (g gs lo hi n : Nat) (dv : Dv) (a c p s : Int) (bs : List Bool) (vs : List UInt16) (m o : UInt16) (v : Value) (w : World) (D : DD w g gs lo hi n dv) (h : IsRqF (Gd g lo hi) w v ⟨2, a, c, p, s, bs, vs, m, o⟩) (hm : 0 ≤ dv.msgs ∧ dv.msgs ≤ 100000000000000001 ∧ 0 ≤ dv.flts ∧ dv.flts ≤ 100000000000000001) 
  (hc : countsB ⟨2, a, c, p, s, bs, vs, m, o⟩ = true) (X : Rp × Dv) (hX : actD n dv ⟨2, a, c, p, s, bs, vs, m, o⟩ = X) :
  Calls Tryz.prog 92 #[ptrG g, v] w fun e w' => ∃ v', e = .returned v' ∧ NRp w.heap.size w' v' (X).1 ∧ DD w' g gs lo hi n (X).2 ∧ Kp (Gd g lo hi) w w' := by
 obtain ⟨-, hn, hb, hv, h8⟩ := counts_parts hc;have hr : rightE ⟨2, a, c, p, s, bs, vs, m, o⟩ = 0 := by simp [countsB] at hc; exact hc.1
 obtain ⟨-, hf, -, hl⟩ := right_parts hr;simp only at hn hb hv h8;exact vrd_2 g gs lo hi n dv 2 a c p s bs vs m o v w D h hm hn X (act_2.symm.trans hX)
theorem vact_3 (g gs lo hi n : Nat) (dv : Dv) (a c p s : Int) (bs : List Bool) (vs : List UInt16) (m o : UInt16) (v : Value) (w : World) (D : DD w g gs lo hi n dv) (h : IsRqF (Gd g lo hi) w v ⟨3, a, c, p, s, bs, vs, m, o⟩) (hm : 0 ≤ dv.msgs ∧ dv.msgs ≤ 100000000000000001 ∧ 0 ≤ dv.flts ∧ dv.flts ≤ 100000000000000001) 
  (hc : countsB ⟨3, a, c, p, s, bs, vs, m, o⟩ = true) (X : Rp × Dv) (hX : actD n dv ⟨3, a, c, p, s, bs, vs, m, o⟩ = X) :
  Calls Tryz.prog 93 #[ptrG g, v] w fun e w' => ∃ v', e = .returned v' ∧ NRp w.heap.size w' v' (X).1 ∧ DD w' g gs lo hi n (X).2 ∧ Kp (Gd g lo hi) w w' := by
 obtain ⟨-, hn, hb, hv, h8⟩ := counts_parts hc;have hr : rightE ⟨3, a, c, p, s, bs, vs, m, o⟩ = 0 := by simp [countsB] at hc; exact hc.1
 obtain ⟨-, hf, -, hl⟩ := right_parts hr;simp only at hn hb hv h8;exact vrd_3 g gs lo hi n dv 3 a c p s bs vs m o v w D h hm hn X (act_3.symm.trans hX)
theorem vact_4 (g gs lo hi n : Nat) (dv : Dv) (a c p s : Int) (bs : List Bool) (vs : List UInt16) (m o : UInt16) (v : Value) (w : World) (D : DD w g gs lo hi n dv) (h : IsRqF (Gd g lo hi) w v ⟨4, a, c, p, s, bs, vs, m, o⟩) (hm : 0 ≤ dv.msgs ∧ dv.msgs ≤ 100000000000000001 ∧ 0 ≤ dv.flts ∧ dv.flts ≤ 100000000000000001) 
  (hc : countsB ⟨4, a, c, p, s, bs, vs, m, o⟩ = true) (X : Rp × Dv) (hX : actD n dv ⟨4, a, c, p, s, bs, vs, m, o⟩ = X) :
  Calls Tryz.prog 94 #[ptrG g, v] w fun e w' => ∃ v', e = .returned v' ∧ NRp w.heap.size w' v' (X).1 ∧ DD w' g gs lo hi n (X).2 ∧ Kp (Gd g lo hi) w w' := by
 obtain ⟨-, hn, hb, hv, h8⟩ := counts_parts hc;have hr : rightE ⟨4, a, c, p, s, bs, vs, m, o⟩ = 0 := by simp [countsB] at hc; exact hc.1
 obtain ⟨-, hf, -, hl⟩ := right_parts hr;simp only at hn hb hv h8;exact vrd_4 g gs lo hi n dv 4 a c p s bs vs m o v w D h hm hn X (act_4.symm.trans hX)
theorem vact_5 (g gs lo hi n : Nat) (dv : Dv) (a c p s : Int) (bs : List Bool) (vs : List UInt16) (m o : UInt16) (v : Value) (w : World) (D : DD w g gs lo hi n dv) (h : IsRqF (Gd g lo hi) w v ⟨5, a, c, p, s, bs, vs, m, o⟩) (hm : 0 ≤ dv.msgs ∧ dv.msgs ≤ 100000000000000001 ∧ 0 ≤ dv.flts ∧ dv.flts ≤ 100000000000000001) 
  (hc : countsB ⟨5, a, c, p, s, bs, vs, m, o⟩ = true) (X : Rp × Dv) (hX : actD n dv ⟨5, a, c, p, s, bs, vs, m, o⟩ = X) :
  Calls Tryz.prog 95 #[ptrG g, v] w fun e w' => ∃ v', e = .returned v' ∧ NRp w.heap.size w' v' (X).1 ∧ DD w' g gs lo hi n (X).2 ∧ Kp (Gd g lo hi) w w' := by
 obtain ⟨-, hn, hb, hv, h8⟩ := counts_parts hc;have hr : rightE ⟨5, a, c, p, s, bs, vs, m, o⟩ = 0 := by simp [countsB] at hc; exact hc.1
 obtain ⟨-, hf, -, hl⟩ := right_parts hr;simp only at hn hb hv h8;subst hX;have h1 : bs.length = 1 := by simpa [listB] using hl
 have h0 : c = 0 := by simpa [formP] using hf.2.1
 subst h0;cases hk : okB n 0 a bs.length
 ·
  have hk2 : fits n a 1 = false := by
   have e := hk;rw [okB, h1] at e
   simpa [isB] using e
  rw [show actD n dv ⟨5, a, 0, p, s, bs, vs, m, o⟩ = refD dv 5 2 by simp [actD, allThere, askR, fits0, hk2]];exact vset5_no g gs lo hi n dv a 0 p s bs vs m o v w D h hm hn hk
 ·
  have hk2 : fits n a 1 = true := by
   have e := hk;rw [okB, h1] at e
   simpa [isB] using e
  rw [show actD n dv ⟨5, a, 0, p, s, bs, vs, m, o⟩ = ((⟨5, 0, a, 0, 0, bs, [], 0, 0, []⟩ : Rp), ({ dv with s := setB n dv.s 0 a bs } : Dv)) by simp [actD, allThere, askR, fits0, hk2, goD]];exact vset5_ok g gs lo hi n dv a 0 p s bs vs m o v w D h hm hn h1 hk
theorem vact_6 (g gs lo hi n : Nat) (dv : Dv) (a c p s : Int) (bs : List Bool) (vs : List UInt16) (m o : UInt16) (v : Value) (w : World) (D : DD w g gs lo hi n dv) (h : IsRqF (Gd g lo hi) w v ⟨6, a, c, p, s, bs, vs, m, o⟩) (hm : 0 ≤ dv.msgs ∧ dv.msgs ≤ 100000000000000001 ∧ 0 ≤ dv.flts ∧ dv.flts ≤ 100000000000000001) 
  (hc : countsB ⟨6, a, c, p, s, bs, vs, m, o⟩ = true) (X : Rp × Dv) (hX : actD n dv ⟨6, a, c, p, s, bs, vs, m, o⟩ = X) :
  Calls Tryz.prog 96 #[ptrG g, v] w fun e w' => ∃ v', e = .returned v' ∧ NRp w.heap.size w' v' (X).1 ∧ DD w' g gs lo hi n (X).2 ∧ Kp (Gd g lo hi) w w' := by
 obtain ⟨-, hn, hb, hv, h8⟩ := counts_parts hc;have hr : rightE ⟨6, a, c, p, s, bs, vs, m, o⟩ = 0 := by simp [countsB] at hc; exact hc.1
 obtain ⟨-, hf, -, hl⟩ := right_parts hr;simp only at hn hb hv h8;subst hX;have h1 : vs.length = 1 := by simpa [listB] using hl
 have h0 : c = 0 := by simpa [formP] using hf.2.1
 subst h0;cases hk : okV n 3 a vs.length
 ·
  have hk2 : fits n a 1 = false := by
   have e := hk;rw [okV, h1] at e
   simpa [isV] using e
  rw [show actD n dv ⟨6, a, 0, p, s, bs, vs, m, o⟩ = refD dv 6 2 by simp [actD, allThere, askR, fits0, hk2]];exact vset6_no g gs lo hi n dv a 0 p s bs vs m o v w D h hm hn hk
 ·
  have hk2 : fits n a 1 = true := by
   have e := hk;rw [okV, h1] at e
   simpa [isV] using e
  rw [show actD n dv ⟨6, a, 0, p, s, bs, vs, m, o⟩ = ((⟨6, 0, a, 0, 0, [], vs, 0, 0, []⟩ : Rp), ({ dv with s := setV n dv.s 3 a vs } : Dv)) by simp [actD, allThere, askR, fits0, hk2, goD]];exact vset6_ok g gs lo hi n dv a 0 p s bs vs m o v w D h hm hn h1 hk
theorem vact_8 (g gs lo hi n : Nat) (dv : Dv) (a c p s : Int) (bs : List Bool) (vs : List UInt16) (m o : UInt16) (v : Value) (w : World) (D : DD w g gs lo hi n dv) (h : IsRqF (Gd g lo hi) w v ⟨8, a, c, p, s, bs, vs, m, o⟩) (hm : 0 ≤ dv.msgs ∧ dv.msgs ≤ 100000000000000001 ∧ 0 ≤ dv.flts ∧ dv.flts ≤ 100000000000000001) 
  (hc : countsB ⟨8, a, c, p, s, bs, vs, m, o⟩ = true) (X : Rp × Dv) (hX : actD n dv ⟨8, a, c, p, s, bs, vs, m, o⟩ = X) :
  Calls Tryz.prog 97 #[ptrG g, v] w fun e w' => ∃ v', e = .returned v' ∧ NRp w.heap.size w' v' (X).1 ∧ DD w' g gs lo hi n (X).2 ∧ Kp (Gd g lo hi) w w' := by
 obtain ⟨-, hn, hb, hv, h8⟩ := counts_parts hc;have hr : rightE ⟨8, a, c, p, s, bs, vs, m, o⟩ = 0 := by simp [countsB] at hc; exact hc.1
 obtain ⟨-, hf, -, hl⟩ := right_parts hr;simp only at hn hb hv h8;obtain ⟨x, rfl⟩ : ∃ x, vs = [x] := List.length_eq_one_iff.1 (by simpa using h8);rw [show actD n dv ⟨8, a, c, p, s, bs, [x], m, o⟩ = diagD dv ⟨8, a, c, p, s, bs, [x], m, o⟩ by simp [actD, allThere, askR, fits0, goD]] at hX;subst hX;by_cases h0 : s = 0
 ·
  rw [show diagD dv ⟨8, a, c, p, s, bs, [x], m, o⟩ = (⟨8, 0, 0, 0, s, [], [x], 0, 0, []⟩, dv) by simp [diagD, h0]];exact vdiag_0 g gs lo hi n dv a c p s bs x m o v w D h hm h0
 by_cases h10 : s = 10
 ·
  rw [show diagD dv ⟨8, a, c, p, s, bs, [x], m, o⟩ = (⟨8, 0, 0, 0, s, [], [x], 0, 0, []⟩, { dv with msgs := 0, flts := 0 }) by simp [diagD, h10]];exact vdiag_10 g gs lo hi n dv a c p s bs x m o v w D h hm h10
 by_cases hx : x = 0
 ·
  by_cases h11 : s = 11
  ·
   rw [show diagD dv ⟨8, a, c, p, s, bs, [x], m, o⟩ = (⟨8, 0, 0, 0, s, [], [wOf dv.msgs], 0, 0, []⟩, dv) by simp [diagD, h11, hx]];exact vdiag_11 g gs lo hi n dv a c p s bs x m o v w D h hm h11 hx
  by_cases h14 : s = 14
  ·
   rw [show diagD dv ⟨8, a, c, p, s, bs, [x], m, o⟩ = (⟨8, 0, 0, 0, s, [], [wOf dv.msgs], 0, 0, []⟩, dv) by simp [diagD, h14, hx]];exact vdiag_14 g gs lo hi n dv a c p s bs x m o v w D h hm h14 hx
  by_cases h13 : s = 13
  ·
   rw [show diagD dv ⟨8, a, c, p, s, bs, [x], m, o⟩ = (⟨8, 0, 0, 0, s, [], [wOf dv.flts], 0, 0, []⟩, dv) by simp [diagD, h13, hx]];exact vdiag_13 g gs lo hi n dv a c p s bs x m o v w D h hm h13 hx
  rw [show diagD dv ⟨8, a, c, p, s, bs, [x], m, o⟩ = refD dv 8 3 by simp [diagD, h0, h10, h11, h14, h13]];exact vdiag_o g gs lo hi n dv a c p s bs x m o v w D h hm h0 h10 h11 h14 h13 hx
 ·
  rw [show diagD dv ⟨8, a, c, p, s, bs, [x], m, o⟩ = refD dv 8 3 by simp [diagD, h0, h10, hx]];exact vdiag_x g gs lo hi n dv a c p s bs x m o v w D h hm h0 h10 hx
theorem vact_15 (g gs lo hi n : Nat) (dv : Dv) (a c p s : Int) (bs : List Bool) (vs : List UInt16) (m o : UInt16) (v : Value) (w : World) (D : DD w g gs lo hi n dv) (h : IsRqF (Gd g lo hi) w v ⟨15, a, c, p, s, bs, vs, m, o⟩) (hm : 0 ≤ dv.msgs ∧ dv.msgs ≤ 100000000000000001 ∧ 0 ≤ dv.flts ∧ dv.flts ≤ 100000000000000001) 
  (hc : countsB ⟨15, a, c, p, s, bs, vs, m, o⟩ = true) (X : Rp × Dv) (hX : actD n dv ⟨15, a, c, p, s, bs, vs, m, o⟩ = X) :
  Calls Tryz.prog 98 #[ptrG g, v] w fun e w' => ∃ v', e = .returned v' ∧ NRp w.heap.size w' v' (X).1 ∧ DD w' g gs lo hi n (X).2 ∧ Kp (Gd g lo hi) w w' := by
 obtain ⟨-, hn, hb, hv, h8⟩ := counts_parts hc;have hr : rightE ⟨15, a, c, p, s, bs, vs, m, o⟩ = 0 := by simp [countsB] at hc; exact hc.1
 obtain ⟨-, hf, -, hl⟩ := right_parts hr;simp only at hn hb hv h8;subst hX;have h1 : (bs.length : Int) = c := by simp [listB] at hl; exact hl.1
 cases hk : okB n 0 a bs.length
 ·
  have hk2 : fits n a c = false := by
   have e := hk;rw [okB, h1] at e
   simpa [isB] using e
  rw [show actD n dv ⟨15, a, c, p, s, bs, vs, m, o⟩ = refD dv 15 2 by simp [actD, allThere, askR, fits0, hk2]];exact vset15_no g gs lo hi n dv a c p s bs vs m o v w D h hm hn hk
 ·
  have hk2 : fits n a c = true := by
   have e := hk;rw [okB, h1] at e
   simpa [isB] using e
  rw [show actD n dv ⟨15, a, c, p, s, bs, vs, m, o⟩ = ((⟨15, 0, a, c, 0, [], [], 0, 0, []⟩ : Rp), ({ dv with s := setB n dv.s 0 a bs } : Dv)) by simp [actD, allThere, askR, fits0, hk2, goD]];exact vset15_ok g gs lo hi n dv a c p s bs vs m o v w D h hm hn hk
theorem vact_16 (g gs lo hi n : Nat) (dv : Dv) (a c p s : Int) (bs : List Bool) (vs : List UInt16) (m o : UInt16) (v : Value) (w : World) (D : DD w g gs lo hi n dv) (h : IsRqF (Gd g lo hi) w v ⟨16, a, c, p, s, bs, vs, m, o⟩) (hm : 0 ≤ dv.msgs ∧ dv.msgs ≤ 100000000000000001 ∧ 0 ≤ dv.flts ∧ dv.flts ≤ 100000000000000001) 
  (hc : countsB ⟨16, a, c, p, s, bs, vs, m, o⟩ = true) (X : Rp × Dv) (hX : actD n dv ⟨16, a, c, p, s, bs, vs, m, o⟩ = X) :
  Calls Tryz.prog 99 #[ptrG g, v] w fun e w' => ∃ v', e = .returned v' ∧ NRp w.heap.size w' v' (X).1 ∧ DD w' g gs lo hi n (X).2 ∧ Kp (Gd g lo hi) w w' := by
 obtain ⟨-, hn, hb, hv, h8⟩ := counts_parts hc;have hr : rightE ⟨16, a, c, p, s, bs, vs, m, o⟩ = 0 := by simp [countsB] at hc; exact hc.1
 obtain ⟨-, hf, -, hl⟩ := right_parts hr;simp only at hn hb hv h8;subst hX;have h1 : (vs.length : Int) = c := by simp [listB] at hl; exact hl.1
 cases hk : okV n 3 a vs.length
 ·
  have hk2 : fits n a c = false := by
   have e := hk;rw [okV, h1] at e
   simpa [isV] using e
  rw [show actD n dv ⟨16, a, c, p, s, bs, vs, m, o⟩ = refD dv 16 2 by simp [actD, allThere, askR, fits0, hk2]];exact vset16_no g gs lo hi n dv a c p s bs vs m o v w D h hm hn hk
 ·
  have hk2 : fits n a c = true := by
   have e := hk;rw [okV, h1] at e
   simpa [isV] using e
  rw [show actD n dv ⟨16, a, c, p, s, bs, vs, m, o⟩ = ((⟨16, 0, a, c, 0, [], [], 0, 0, []⟩ : Rp), ({ dv with s := setV n dv.s 3 a vs } : Dv)) by simp [actD, allThere, askR, fits0, hk2, goD]];exact vset16_ok g gs lo hi n dv a c p s bs vs m o v w D h hm hn hk
theorem vact_17 (g gs lo hi n : Nat) (dv : Dv) (a c p s : Int) (bs : List Bool) (vs : List UInt16) (m o : UInt16) (v : Value) (w : World) (D : DD w g gs lo hi n dv) (h : IsRqF (Gd g lo hi) w v ⟨17, a, c, p, s, bs, vs, m, o⟩) (hm : 0 ≤ dv.msgs ∧ dv.msgs ≤ 100000000000000001 ∧ 0 ≤ dv.flts ∧ dv.flts ≤ 100000000000000001) (hu : 0 ≤ dv.unit ∧ dv.unit ≤ 255) 
  (hc : countsB ⟨17, a, c, p, s, bs, vs, m, o⟩ = true) (X : Rp × Dv) (hX : actD n dv ⟨17, a, c, p, s, bs, vs, m, o⟩ = X) :
  Calls Tryz.prog 100 #[ptrG g, v] w fun e w' => ∃ v', e = .returned v' ∧ NRp w.heap.size w' v' (X).1 ∧ DD w' g gs lo hi n (X).2 ∧ Kp (Gd g lo hi) w w' := by
 obtain ⟨-, hn, hb, hv, h8⟩ := counts_parts hc;have hr : rightE ⟨17, a, c, p, s, bs, vs, m, o⟩ = 0 := by simp [countsB] at hc; exact hc.1
 obtain ⟨-, hf, -, hl⟩ := right_parts hr;simp only at hn hb hv h8;subst hX;rw [show actD n dv ⟨17, a, c, p, s, bs, vs, m, o⟩ = (⟨17, 0, 0, 0, 0, [], [], 0, 0, [b8 dv.unit, 255]⟩, dv) by simp [actD, allThere, askR, fits0, goD]];exact vid_17 g gs lo hi n dv a c p s bs vs m o v w D h hm hu
theorem vact_22 (g gs lo hi n : Nat) (dv : Dv) (a c p s : Int) (bs : List Bool) (vs : List UInt16) (m o : UInt16) (v : Value) (w : World) (D : DD w g gs lo hi n dv) (h : IsRqF (Gd g lo hi) w v ⟨22, a, c, p, s, bs, vs, m, o⟩) (hm : 0 ≤ dv.msgs ∧ dv.msgs ≤ 100000000000000001 ∧ 0 ≤ dv.flts ∧ dv.flts ≤ 100000000000000001) 
  (hc : countsB ⟨22, a, c, p, s, bs, vs, m, o⟩ = true) (X : Rp × Dv) (hX : actD n dv ⟨22, a, c, p, s, bs, vs, m, o⟩ = X) :
  Calls Tryz.prog 101 #[ptrG g, v] w fun e w' => ∃ v', e = .returned v' ∧ NRp w.heap.size w' v' (X).1 ∧ DD w' g gs lo hi n (X).2 ∧ Kp (Gd g lo hi) w w' := by
 obtain ⟨-, hn, hb, hv, h8⟩ := counts_parts hc;have hr : rightE ⟨22, a, c, p, s, bs, vs, m, o⟩ = 0 := by simp [countsB] at hc; exact hc.1
 obtain ⟨-, hf, -, hl⟩ := right_parts hr;simp only at hn hb hv h8;subst hX;cases hk : okV n 3 a 1
 ·
  have hk2 : fits n a 1 = false := by simpa [okV, isV] using hk
  rw [show actD n dv ⟨22, a, c, p, s, bs, vs, m, o⟩ = refD dv 22 2 by simp [actD, allThere, askR, hk2]];exact vmask_no g gs lo hi n dv a c p s bs vs m o v w D h hm hn hk
 ·
  have hk2 : fits n a 1 = true := by simpa [okV, isV] using hk
  rw [show actD n dv ⟨22, a, c, p, s, bs, vs, m, o⟩ = (⟨22, 0, a, 0, 0, [], [], m, o, []⟩, { dv with s := setV n dv.s 3 a [maskW ((getV n dv.s 3 a 1).getD 0 0) m o] }) by simp [actD, allThere, askR, hk2, goD]];exact vmask_ok g gs lo hi n dv a c p s bs vs m o v w D h hm hn hk
theorem vact_23 (g gs lo hi n : Nat) (dv : Dv) (a c p s : Int) (bs : List Bool) (vs : List UInt16) (m o : UInt16) (v : Value) (w : World) (D : DD w g gs lo hi n dv) (h : IsRqF (Gd g lo hi) w v ⟨23, a, c, p, s, bs, vs, m, o⟩) (hm : 0 ≤ dv.msgs ∧ dv.msgs ≤ 100000000000000001 ∧ 0 ≤ dv.flts ∧ dv.flts ≤ 100000000000000001) 
  (hc : countsB ⟨23, a, c, p, s, bs, vs, m, o⟩ = true) (X : Rp × Dv) (hX : actD n dv ⟨23, a, c, p, s, bs, vs, m, o⟩ = X) :
  Calls Tryz.prog 102 #[ptrG g, v] w fun e w' => ∃ v', e = .returned v' ∧ NRp w.heap.size w' v' (X).1 ∧ DD w' g gs lo hi n (X).2 ∧ Kp (Gd g lo hi) w w' := by
 obtain ⟨-, hn, hb, hv, h8⟩ := counts_parts hc;have hr : rightE ⟨23, a, c, p, s, bs, vs, m, o⟩ = 0 := by simp [countsB] at hc; exact hc.1
 obtain ⟨-, hf, -, hl⟩ := right_parts hr;simp only at hn hb hv h8;cases hk : okV n 3 a c
 ·
  have hk2 : fits n a c = false := by simpa [okV, isV] using hk
  rw [show actD n dv ⟨23, a, c, p, s, bs, vs, m, o⟩ = refD dv 23 2 by simp [actD, allThere, askR, hk2]] at hX;subst hX;exact vrw_0 g gs lo hi n dv a c p s bs vs m o v w D h hm hn hk
 ·
  have hk2 : fits n a c = true := by simpa [okV, isV] using hk
  cases hj : okV n 3 p vs.length
  ·
   have hj2 : fits n p vs.length = false := by simpa [okV, isV] using hj
   rw [show actD n dv ⟨23, a, c, p, s, bs, vs, m, o⟩ = refD dv 23 2 by simp [actD, allThere, askR, hk2, hj2]] at hX;subst hX;exact vrw_1 g gs lo hi n dv a c p s bs vs m o v w D h hm hn hk hj
  ·
   have hj2 : fits n p vs.length = true := by simpa [okV, isV] using hj
   rw [show actD n dv ⟨23, a, c, p, s, bs, vs, m, o⟩ = rdV n { dv with s := setV n dv.s 3 p vs } 23 3 a c by simp [actD, allThere, askR, hk2, hj2, goD, rdV, hk]] at hX;exact vrw_2 g gs lo hi n dv a c p s bs vs m o v w D h hm hn hk hj X hX
theorem set_new (w : World) (c : Array Value) (t : TypeId) (i : Nat) (v : Value) : (w.alloc (.cells c t)).setCell ⟨w.heap.size, i, none⟩ v = w.alloc (.cells (c.setIfInBounds i v) t) := by
 simp only [World.setCell, World.alloc]
 congr 1
 apply Array.ext_getElem?
 intro k;rw [Array.getElem?_modify];by_cases h : w.heap.size = k
 ·
  subst h;simp
 ·
  have h' : ¬ k = w.heap.size := fun e => h e.symm;simp [h, h', Array.getElem?_push]
theorem st_new (P : Program) (w : World) (c : Array Value) (t : TypeId) (i : Nat) (v : Value) (hi : i < c.size) (hv : v.oneCell' = true) : (store ⟨w.heap.size, i, none⟩ v).run P (w.alloc (.cells c t)) = .ok () (w.alloc (.cells (c.setIfInBounds i v) t)) := by
 have h1 : (w.alloc (.cells c t)).cell? ⟨w.heap.size, i, none⟩ = some c[i] := by
  have hb : (w.alloc (.cells c t)).heap[w.heap.size]? = some (.cells c t (0, 0)) := heap_alloc_new w _;rw [cell_of_row _ _ i c t (0, 0) hb, Array.getElem?_eq_getElem hi]
 have h2 : (w.alloc (.cells c t)).frozen? ⟨w.heap.size, i, none⟩ = false := (Blk.new w t c.toList).frozen i;rw [run_store P _ _ _ _ hv];simp only [h1, h2];rw [set_new]
 rfl
theorem st_nil (P : Program) (w : World) (c : Array Value) (t : TypeId) (i : Nat) (hi : i < c.size) : (store ⟨w.heap.size, i, none⟩ .nilFunc).run P (w.alloc (.cells c t)) = .ok () (w.alloc (.cells (c.setIfInBounds i .nilFunc) t)) := st_new P w c t i _ hi rfl
theorem st_fun (P : Program) (w : World) (c : Array Value) (t : TypeId) (i : Nat) (fn : Fn) (x y : Array Value) (hi : i < c.size) : (store ⟨w.heap.size, i, none⟩ (.func fn x y)).run P (w.alloc (.cells c t)) = .ok () (w.alloc (.cells (c.setIfInBounds i (.func fn x y)) t)) := st_new P w c t i _ hi rfl
set_option maxRecDepth 100000 in
set_option maxHeartbeats 1000000 in
theorem deed_1 (w : World) : Calls Tryz.prog 47 #[.int .i64 1] w fun e w' => e = .returned (.func (.func 91) #[] #[]) ∧ Below w.heap.size w w' := by
 have W0 := hidden (fun o => (Below.refl w.heap.size w).alloc (Nat.le_refl _) o);go_enter Tryz.func47, Tryz.ntmps47;go_wp2;simp (config := { decide := true }) only [st_nil, st_fun, List.size_toArray, List.length_cons, List.length_nil, Result.andThen, List.setIfInBounds_toArray, List.set_cons_zero, List.set_cons_succ];go_wp2;go_ret;exact ⟨rfl, W0.out _⟩
set_option maxRecDepth 100000 in
set_option maxHeartbeats 1000000 in
theorem deed_2 (w : World) : Calls Tryz.prog 47 #[.int .i64 2] w fun e w' => e = .returned (.func (.func 92) #[] #[]) ∧ Below w.heap.size w w' := by
 have W0 := hidden (fun o => (Below.refl w.heap.size w).alloc (Nat.le_refl _) o);go_enter Tryz.func47, Tryz.ntmps47;go_wp2;simp (config := { decide := true }) only [st_nil, st_fun, List.size_toArray, List.length_cons, List.length_nil, Result.andThen, List.setIfInBounds_toArray, List.set_cons_zero, List.set_cons_succ];go_wp2;go_ret;exact ⟨rfl, W0.out _⟩
set_option maxRecDepth 100000 in
set_option maxHeartbeats 1000000 in
theorem deed_3 (w : World) : Calls Tryz.prog 47 #[.int .i64 3] w fun e w' => e = .returned (.func (.func 93) #[] #[]) ∧ Below w.heap.size w w' := by
 have W0 := hidden (fun o => (Below.refl w.heap.size w).alloc (Nat.le_refl _) o);go_enter Tryz.func47, Tryz.ntmps47;go_wp2;simp (config := { decide := true }) only [st_nil, st_fun, List.size_toArray, List.length_cons, List.length_nil, Result.andThen, List.setIfInBounds_toArray, List.set_cons_zero, List.set_cons_succ];go_wp2;go_ret;exact ⟨rfl, W0.out _⟩
set_option maxRecDepth 100000 in
set_option maxHeartbeats 1000000 in
theorem deed_4 (w : World) : Calls Tryz.prog 47 #[.int .i64 4] w fun e w' => e = .returned (.func (.func 94) #[] #[]) ∧ Below w.heap.size w w' := by
 have W0 := hidden (fun o => (Below.refl w.heap.size w).alloc (Nat.le_refl _) o);go_enter Tryz.func47, Tryz.ntmps47;go_wp2;simp (config := { decide := true }) only [st_nil, st_fun, List.size_toArray, List.length_cons, List.length_nil, Result.andThen, List.setIfInBounds_toArray, List.set_cons_zero, List.set_cons_succ];go_wp2;go_ret;exact ⟨rfl, W0.out _⟩
set_option maxRecDepth 100000 in
set_option maxHeartbeats 1000000 in
theorem deed_5 (w : World) : Calls Tryz.prog 47 #[.int .i64 5] w fun e w' => e = .returned (.func (.func 95) #[] #[]) ∧ Below w.heap.size w w' := by
 have W0 := hidden (fun o => (Below.refl w.heap.size w).alloc (Nat.le_refl _) o);go_enter Tryz.func47, Tryz.ntmps47;go_wp2;simp (config := { decide := true }) only [st_nil, st_fun, List.size_toArray, List.length_cons, List.length_nil, Result.andThen, List.setIfInBounds_toArray, List.set_cons_zero, List.set_cons_succ];go_wp2;go_ret;exact ⟨rfl, W0.out _⟩
set_option maxRecDepth 100000 in
set_option maxHeartbeats 1000000 in
theorem deed_6 (w : World) : Calls Tryz.prog 47 #[.int .i64 6] w fun e w' => e = .returned (.func (.func 96) #[] #[]) ∧ Below w.heap.size w w' := by
 have W0 := hidden (fun o => (Below.refl w.heap.size w).alloc (Nat.le_refl _) o);go_enter Tryz.func47, Tryz.ntmps47;go_wp2;simp (config := { decide := true }) only [st_nil, st_fun, List.size_toArray, List.length_cons, List.length_nil, Result.andThen, List.setIfInBounds_toArray, List.set_cons_zero, List.set_cons_succ];go_wp2;go_ret;exact ⟨rfl, W0.out _⟩
set_option maxRecDepth 100000 in
set_option maxHeartbeats 1000000 in
theorem deed_8 (w : World) : Calls Tryz.prog 47 #[.int .i64 8] w fun e w' => e = .returned (.func (.func 97) #[] #[]) ∧ Below w.heap.size w w' := by
 have W0 := hidden (fun o => (Below.refl w.heap.size w).alloc (Nat.le_refl _) o);go_enter Tryz.func47, Tryz.ntmps47;go_wp2;simp (config := { decide := true }) only [st_nil, st_fun, List.size_toArray, List.length_cons, List.length_nil, Result.andThen, List.setIfInBounds_toArray, List.set_cons_zero, List.set_cons_succ];go_wp2;go_ret;exact ⟨rfl, W0.out _⟩
set_option maxRecDepth 100000 in
set_option maxHeartbeats 1000000 in
theorem deed_15 (w : World) : Calls Tryz.prog 47 #[.int .i64 15] w fun e w' => e = .returned (.func (.func 98) #[] #[]) ∧ Below w.heap.size w w' := by
 have W0 := hidden (fun o => (Below.refl w.heap.size w).alloc (Nat.le_refl _) o);go_enter Tryz.func47, Tryz.ntmps47;go_wp2;simp (config := { decide := true }) only [st_nil, st_fun, List.size_toArray, List.length_cons, List.length_nil, Result.andThen, List.setIfInBounds_toArray, List.set_cons_zero, List.set_cons_succ];go_wp2;go_ret;exact ⟨rfl, W0.out _⟩
set_option maxRecDepth 100000 in
set_option maxHeartbeats 1000000 in
theorem deed_16 (w : World) : Calls Tryz.prog 47 #[.int .i64 16] w fun e w' => e = .returned (.func (.func 99) #[] #[]) ∧ Below w.heap.size w w' := by
 have W0 := hidden (fun o => (Below.refl w.heap.size w).alloc (Nat.le_refl _) o);go_enter Tryz.func47, Tryz.ntmps47;go_wp2;simp (config := { decide := true }) only [st_nil, st_fun, List.size_toArray, List.length_cons, List.length_nil, Result.andThen, List.setIfInBounds_toArray, List.set_cons_zero, List.set_cons_succ];go_wp2;go_ret;exact ⟨rfl, W0.out _⟩
set_option maxRecDepth 100000 in
set_option maxHeartbeats 1000000 in
theorem deed_17 (w : World) : Calls Tryz.prog 47 #[.int .i64 17] w fun e w' => e = .returned (.func (.func 100) #[] #[]) ∧ Below w.heap.size w w' := by
 have W0 := hidden (fun o => (Below.refl w.heap.size w).alloc (Nat.le_refl _) o);go_enter Tryz.func47, Tryz.ntmps47;go_wp2;simp (config := { decide := true }) only [st_nil, st_fun, List.size_toArray, List.length_cons, List.length_nil, Result.andThen, List.setIfInBounds_toArray, List.set_cons_zero, List.set_cons_succ];go_wp2;go_ret;exact ⟨rfl, W0.out _⟩
set_option maxRecDepth 100000 in
set_option maxHeartbeats 1000000 in
theorem deed_22 (w : World) : Calls Tryz.prog 47 #[.int .i64 22] w fun e w' => e = .returned (.func (.func 101) #[] #[]) ∧ Below w.heap.size w w' := by
 have W0 := hidden (fun o => (Below.refl w.heap.size w).alloc (Nat.le_refl _) o);go_enter Tryz.func47, Tryz.ntmps47;go_wp2;simp (config := { decide := true }) only [st_nil, st_fun, List.size_toArray, List.length_cons, List.length_nil, Result.andThen, List.setIfInBounds_toArray, List.set_cons_zero, List.set_cons_succ];go_wp2;go_ret;exact ⟨rfl, W0.out _⟩
set_option maxRecDepth 100000 in
set_option maxHeartbeats 1000000 in
theorem deed_23 (w : World) : Calls Tryz.prog 47 #[.int .i64 23] w fun e w' => e = .returned (.func (.func 102) #[] #[]) ∧ Below w.heap.size w w' := by
 have W0 := hidden (fun o => (Below.refl w.heap.size w).alloc (Nat.le_refl _) o);go_enter Tryz.func47, Tryz.ntmps47;go_wp2;simp (config := { decide := true }) only [st_nil, st_fun, List.size_toArray, List.length_cons, List.length_nil, Result.andThen, List.setIfInBounds_toArray, List.set_cons_zero, List.set_cons_succ];go_wp2;go_ret;exact ⟨rfl, W0.out _⟩
end Go.Proofs.YtdihcdphgiaepaaGreat
