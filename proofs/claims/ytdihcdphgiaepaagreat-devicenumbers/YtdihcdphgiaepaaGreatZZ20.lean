/- Joined texts. -/
import Derived.Deep.Cut
import Derived.Test.YtdihcdphgiaepaaGreatZZ16
import Derived.Test.YtdihcdphgiaepaaGreatZZ17
import Derived.Test.YtdihcdphgiaepaaGreatZZ18
import Derived.Test.YtdihcdphgiaepaaGreatZZ19
set_option maxHeartbeats 4000000
set_option maxRecDepth 100000
namespace Go.Proofs.YtdihcdphgiaepaaGreat
open Go.RowKit
theorem vact_1 (g gs lo hi n : Nat) (dv : Dv) (a c p s : Int) (bs : List Bool) (vs : List UInt16) (m o : UInt16) (v : Value) (w : World) (D : DD w g gs lo hi n dv) (h : IsRqF (Gd g lo hi) w v ⟨1, a, c, p, s, bs, vs, m, o⟩) (hm : 0 ≤ dv.msgs ∧ dv.msgs ≤ 100000000000000001 ∧ 0 ≤ dv.flts ∧ dv.flts ≤ 100000000000000001) 
  (hc : countsB ⟨1, a, c, p, s, bs, vs, m, o⟩ = true) (X : Rp × Dv) (hX : actD n dv ⟨1, a, c, p, s, bs, vs, m, o⟩ = X) :
  Calls Tryz.prog 91 #[ptrG g, v] w fun e w' => ∃ v', e = .returned v' ∧ NRp w.heap.size w' v' (X).1 ∧ DD w' g gs lo hi n (X).2 ∧ Kp (Gd g lo hi) w w' := by
 obtain ⟨-, hn, hb, hv, h8⟩ := counts_parts hc;have hr : rightE ⟨1, a, c, p, s, bs, vs, m, o⟩ = 0 := by simp [countsB] at hc; exact hc.1
 obtain ⟨-, hf, -, hl⟩ := right_parts hr;simp only at hn hb hv h8;exact vrd_1 g gs lo hi n dv 1 a c p s bs vs m o v w D h hm hn X (act_1.symm.trans hX)
theorem vact_2 (g gs lo hi n : Nat) (dv : Dv) (a c p s : Int) (bs : List Bool) (vs : List UInt16) (m o : UInt16) (v : Value) (w : World) (D : DD w g gs lo hi n dv) (h : IsRqF (Gd g lo hi) w v ⟨2, a, c, p, s, bs, vs, m, o⟩) (hm : 0 ≤ dv.msgs ∧ dv.msgs ≤ 100000000000000001 ∧ 0 ≤ dv.flts ∧ dv.flts ≤ 100000000000000001) 
  (hc : countsB ⟨2, a, c, p, s, bs, vs, m, o⟩ = true) (X : Rp × Dv) (hX : actD n dv ⟨2, a, c, p, s, bs, vs, m, o⟩ = X) :
  Calls Tryz.prog 92 #[ptrG g, v] w fun e w' => ∃ v', e = .returned v' ∧ NRp w.heap.size w' v' (X).1 ∧ DD w' g gs lo hi n (X).2 ∧ Kp (Gd g lo hi) w w' := by
 obtain ⟨-, hn, hb, hv, h8⟩ := counts_parts hc;have hr : rightE ⟨2, a, c, p, s, bs, vs, m, o⟩ = 0 := by simp [countsB] at hc; exact hc.1
 obtain ⟨-, hf, -, hl⟩ := right_parts hr;simp only at hn hb hv h8;exact vrd_2 g gs lo hi n dv 2 a c p s bs vs m o v w D h hm hn X (act_2.symm.trans hX)
theorem vact_3 (g gs lo hi n : Nat) (dv : Dv) (a c p s : Int) (bs : List Bool) (vs : List UInt16) (m o : UInt16) (v : Value) (w : World) (D : DD w g gs lo hi n dv) (h : IsRqF (Gd g lo hi) w v ⟨3, a, c, p, s, bs, vs, m, o⟩) (hm : 0 ≤ dv.msgs ∧ dv.msgs ≤ 100000000000000001 ∧ 0 ≤ dv.flts ∧ dv.flts ≤ 100000000000000001) 
  (hc : countsB ⟨3, a, c, p, s, bs, vs, m, o⟩ = true) (X : Rp × Dv) (hX : actD n dv ⟨3, a, c, p, s, bs, vs, m, o⟩ = X) :
  Calls Tryz.prog 93 #[ptrG g, v] w fun e w' => ∃ v', e = .returned v' ∧ NRp w.heap.size w' v' (X).1 ∧ DD w' g gs lo hi n (X).2 ∧ Kp (Gd g lo hi) w w' := by
 obtain ⟨-, hn, hb, hv, h8⟩ := counts_parts hc;have hr : rightE ⟨3, a, c, p, s, bs, vs, m, o⟩ = 0 := by simp [countsB] at hc; exact hc.1
 obtain ⟨-, hf, -, hl⟩ := right_parts hr;simp only at hn hb hv h8;exact vrd_3 g gs lo hi n dv 3 a c p s bs vs m o v w D h hm hn X (act_3.symm.trans hX)
theorem vact_4 (g gs lo hi n : Nat) (dv : Dv) (a c p s : Int) (bs : List Bool) (vs : List UInt16) (m o : UInt16) (v : Value) (w : World) (D : DD w g gs lo hi n dv) (h : IsRqF (Gd g lo hi) w v ⟨4, a, c, p, s, bs, vs, m, o⟩) (hm : 0 ≤ dv.msgs ∧ dv.msgs ≤ 100000000000000001 ∧ 0 ≤ dv.flts ∧ dv.flts ≤ 100000000000000001) 
  (hc : countsB ⟨4, a, c, p, s, bs, vs, m, o⟩ = true) (X : Rp × Dv) (hX : actD n dv ⟨4, a, c, p, s, bs, vs, m, o⟩ = X) :
  Calls Tryz.prog 94 #[ptrG g, v] w fun e w' => ∃ v', e = .returned v' ∧ NRp w.heap.size w' v' (X).1 ∧ DD w' g gs lo hi n (X).2 ∧ Kp (Gd g lo hi) w w' := by
 obtain ⟨-, hn, hb, hv, h8⟩ := counts_parts hc;have hr : rightE ⟨4, a, c, p, s, bs, vs, m, o⟩ = 0 := by simp [countsB] at hc; exact hc.1
 obtain ⟨-, hf, -, hl⟩ := right_parts hr;simp only at hn hb hv h8;exact vrd_4 g gs lo hi n dv 4 a c p s bs vs m o v w D h hm hn X (act_4.symm.trans hX)
theorem vact_5 (g gs lo hi n : Nat) (dv : Dv) (a c p s : Int) (bs : List Bool) (vs : List UInt16) (m o : UInt16) (v : Value) (w : World) (D : DD w g gs lo hi n dv) (h : IsRqF (Gd g lo hi) w v ⟨5, a, c, p, s, bs, vs, m, o⟩) (hm : 0 ≤ dv.msgs ∧ dv.msgs ≤ 100000000000000001 ∧ 0 ≤ dv.flts ∧ dv.flts ≤ 100000000000000001) 
  (hc : countsB ⟨5, a, c, p, s, bs, vs, m, o⟩ = true) (X : Rp × Dv) (hX : actD n dv ⟨5, a, c, p, s, bs, vs, m, o⟩ = X) :
  Calls Tryz.prog 95 #[ptrG g, v] w fun e w' => ∃ v', e = .returned v' ∧ NRp w.heap.size w' v' (X).1 ∧ DD w' g gs lo hi n (X).2 ∧ Kp (Gd g lo hi) w w' := by
 obtain ⟨-, hn, hb, hv, h8⟩ := counts_parts hc;have hr : rightE ⟨5, a, c, p, s, bs, vs, m, o⟩ = 0 := by simp [countsB] at hc; exact hc.1
 obtain ⟨-, hf, -, hl⟩ := right_parts hr;simp only at hn hb hv h8;subst hX;have h1 : bs.length = 1 := by simpa [listB] using hl
 have h0 : c = 0 := by simpa [formP] using hf.2.1
 subst h0;cases hk : okB n 0 a bs.length
 ·
  have hk2 : fits n a 1 = false := by
   have e := hk;rw [okB, h1] at e
   simpa [isB] using e
  rw [show actD n dv ⟨5, a, 0, p, s, bs, vs, m, o⟩ = refD dv 5 2 by simp [actD, allThere, askR, fits0, hk2]];exact vset5_no g gs lo hi n dv a 0 p s bs vs m o v w D h hm hn hk
 ·
  have hk2 : fits n a 1 = true := by
   have e := hk;rw [okB, h1] at e
   simpa [isB] using e
  rw [show actD n dv ⟨5, a, 0, p, s, bs, vs, m, o⟩ = ((⟨5, 0, a, 0, 0, bs, [], 0, 0, []⟩ : Rp), ({ dv with s := setB n dv.s 0 a bs } : Dv)) by simp [actD, allThere, askR, fits0, hk2, goD]];exact vset5_ok g gs lo hi n dv a 0 p s bs vs m o v w D h hm hn h1 hk
theorem vact_6 (g gs lo hi n : Nat) (dv : Dv) (a c p s : Int) (bs : List Bool) (vs : List UInt16) (m o : UInt16) (v : Value) (w : World) (D : DD w g gs lo hi n dv) (h : IsRqF (Gd g lo hi) w v ⟨6, a, c, p, s, bs, vs, m, o⟩) (hm : 0 ≤ dv.msgs ∧ dv.msgs ≤ 100000000000000001 ∧ 0 ≤ dv.flts ∧ dv.flts ≤ 100000000000000001) 
  (hc : countsB ⟨6, a, c, p, s, bs, vs, m, o⟩ = true) (X : Rp × Dv) (hX : actD n dv ⟨6, a, c, p, s, bs, vs, m, o⟩ = X) :
  Calls Tryz.prog 96 #[ptrG g, v] w fun e w' => ∃ v', e = .returned v' ∧ NRp w.heap.size w' v' (X).1 ∧ DD w' g gs lo hi n (X).2 ∧ Kp (Gd g lo hi) w w' := by
 obtain ⟨-, hn, hb, hv, h8⟩ := counts_parts hc;have hr : rightE ⟨6, a, c, p, s, bs, vs, m, o⟩ = 0 := by simp [countsB] at hc; exact hc.1
 obtain ⟨-, hf, -, hl⟩ := right_parts hr;simp only at hn hb hv h8;subst hX;have h1 : vs.length = 1 := by simpa [listB] using hl
 have h0 : c = 0 := by simpa [formP] using hf.2.1
 subst h0;cases hk : okV n 3 a vs.length
 ·
  have hk2 : fits n a 1 = false := by
   have e := hk;rw [okV, h1] at e
   simpa [isV] using e
  rw [show actD n dv ⟨6, a, 0, p, s, bs, vs, m, o⟩ = refD dv 6 2 by simp [actD, allThere, askR, fits0, hk2]];exact vset6_no g gs lo hi n dv a 0 p s bs vs m o v w D h hm hn hk
 ·
  have hk2 : fits n a 1 = true := by
   have e := hk;rw [okV, h1] at e
   simpa [isV] using e
  rw [show actD n dv ⟨6, a, 0, p, s, bs, vs, m, o⟩ = ((⟨6, 0, a, 0, 0, [], vs, 0, 0, []⟩ : Rp), ({ dv with s := setV n dv.s 3 a vs } : Dv)) by simp [actD, allThere, askR, fits0, hk2, goD]];exact vset6_ok g gs lo hi n dv a 0 p s bs vs m o v w D h hm hn h1 hk
theorem vact_8 (g gs lo hi n : Nat) (dv : Dv) (a c p s : Int) (bs : List Bool) (vs : List UInt16) (m o : UInt16) (v : Value) (w : World) (D : DD w g gs lo hi n dv) (h : IsRqF (Gd g lo hi) w v ⟨8, a, c, p, s, bs, vs, m, o⟩) (hm : 0 ≤ dv.msgs ∧ dv.msgs ≤ 100000000000000001 ∧ 0 ≤ dv.flts ∧ dv.flts ≤ 100000000000000001) 
  (hc : countsB ⟨8, a, c, p, s, bs, vs, m, o⟩ = true) (X : Rp × Dv) (hX : actD n dv ⟨8, a, c, p, s, bs, vs, m, o⟩ = X) :
  Calls Tryz.prog 97 #[ptrG g, v] w fun e w' => ∃ v', e = .returned v' ∧ NRp w.heap.size w' v' (X).1 ∧ DD w' g gs lo hi n (X).2 ∧ Kp (Gd g lo hi) w w' := by
 obtain ⟨-, hn, hb, hv, h8⟩ := counts_parts hc;have hr : rightE ⟨8, a, c, p, s, bs, vs, m, o⟩ = 0 := by simp [countsB] at hc; exact hc.1
 obtain ⟨-, hf, -, hl⟩ := right_parts hr;simp only at hn hb hv h8;obtain ⟨x, rfl⟩ : ∃ x, vs = [x] := List.length_eq_one_iff.1 (by simpa using h8);rw [show actD n dv ⟨8, a, c, p, s, bs, [x], m, o⟩ = diagD dv ⟨8, a, c, p, s, bs, [x], m, o⟩ by simp [actD, allThere, askR, fits0, goD]] at hX;subst hX;by_cases h0 : s = 0
 ·
  rw [show diagD dv ⟨8, a, c, p, s, bs, [x], m, o⟩ = (⟨8, 0, 0, 0, s, [], [x], 0, 0, []⟩, dv) by simp [diagD, h0]];exact vdiag_0 g gs lo hi n dv a c p s bs x m o v w D h hm h0
 by_cases h10 : s = 10
 ·
  rw [show diagD dv ⟨8, a, c, p, s, bs, [x], m, o⟩ = (⟨8, 0, 0, 0, s, [], [x], 0, 0, []⟩, { dv with msgs := 0, flts := 0 }) by simp [diagD, h10]];exact vdiag_10 g gs lo hi n dv a c p s bs x m o v w D h hm h10
 by_cases hx : x = 0
 ·
  by_cases h11 : s = 11
  ·
   rw [show diagD dv ⟨8, a, c, p, s, bs, [x], m, o⟩ = (⟨8, 0, 0, 0, s, [], [wOf dv.msgs], 0, 0, []⟩, dv) by simp [diagD, h11, hx]];exact vdiag_11 g gs lo hi n dv a c p s bs x m o v w D h hm h11 hx
  by_cases h14 : s = 14
  ·
   rw [show diagD dv ⟨8, a, c, p, s, bs, [x], m, o⟩ = (⟨8, 0, 0, 0, s, [], [wOf dv.msgs], 0, 0, []⟩, dv) by simp [diagD, h14, hx]];exact vdiag_14 g gs lo hi n dv a c p s bs x m o v w D h hm h14 hx
  by_cases h13 : s = 13
  ·
   rw [show diagD dv ⟨8, a, c, p, s, bs, [x], m, o⟩ = (⟨8, 0, 0, 0, s, [], [wOf dv.flts], 0, 0, []⟩, dv) by simp [diagD, h13, hx]];exact vdiag_13 g gs lo hi n dv a c p s bs x m o v w D h hm h13 hx
  rw [show diagD dv ⟨8, a, c, p, s, bs, [x], m, o⟩ = refD dv 8 3 by simp [diagD, h0, h10, h11, h14, h13]];exact vdiag_o g gs lo hi n dv a c p s bs x m o v w D h hm h0 h10 h11 h14 h13 hx
 ·
  rw [show diagD dv ⟨8, a, c, p, s, bs, [x], m, o⟩ = refD dv 8 3 by simp [diagD, h0, h10, hx]];exact vdiag_x g gs lo hi n dv a c p s bs x m o v w D h hm h0 h10 hx
theorem vact_15 (g gs lo hi n : Nat) (dv : Dv) (a c p s : Int) (bs : List Bool) (vs : List UInt16) (m o : UInt16) (v : Value) (w : World) (D : DD w g gs lo hi n dv) (h : IsRqF (Gd g lo hi) w v ⟨15, a, c, p, s, bs, vs, m, o⟩) (hm : 0 ≤ dv.msgs ∧ dv.msgs ≤ 100000000000000001 ∧ 0 ≤ dv.flts ∧ dv.flts ≤ 100000000000000001) 
  (hc : countsB ⟨15, a, c, p, s, bs, vs, m, o⟩ = true) (X : Rp × Dv) (hX : actD n dv ⟨15, a, c, p, s, bs, vs, m, o⟩ = X) :
  Calls Tryz.prog 98 #[ptrG g, v] w fun e w' => ∃ v', e = .returned v' ∧ NRp w.heap.size w' v' (X).1 ∧ DD w' g gs lo hi n (X).2 ∧ Kp (Gd g lo hi) w w' := by
 obtain ⟨-, hn, hb, hv, h8⟩ := counts_parts hc;have hr : rightE ⟨15, a, c, p, s, bs, vs, m, o⟩ = 0 := by simp [countsB] at hc; exact hc.1
 obtain ⟨-, hf, -, hl⟩ := right_parts hr;simp only at hn hb hv h8;subst hX;have h1 : (bs.length : Int) = c := by simp [listB] at hl; exact hl.1
 cases hk : okB n 0 a bs.length
 ·
  have hk2 : fits n a c = false := by
   have e := hk;rw [okB, h1] at e
   simpa [isB] using e
  rw [show actD n dv ⟨15, a, c, p, s, bs, vs, m, o⟩ = refD dv 15 2 by simp [actD, allThere, askR, fits0, hk2]];exact vset15_no g gs lo hi n dv a c p s bs vs m o v w D h hm hn hk
 ·
  have hk2 : fits n a c = true := by
   have e := hk;rw [okB, h1] at e
   simpa [isB] using e
  rw [show actD n dv ⟨15, a, c, p, s, bs, vs, m, o⟩ = ((⟨15, 0, a, c, 0, [], [], 0, 0, []⟩ : Rp), ({ dv with s := setB n dv.s 0 a bs } : Dv)) by simp [actD, allThere, askR, fits0, hk2, goD]];exact vset15_ok g gs lo hi n dv a c p s bs vs m o v w D h hm hn hk
theorem vact_16 (g gs lo hi n : Nat) (dv : Dv) (a c p s : Int) (bs : List Bool) (vs : List UInt16) (m o : UInt16) (v : Value) (w : World) (D : DD w g gs lo hi n dv) (h : IsRqF (Gd g lo hi) w v ⟨16, a, c, p, s, bs, vs, m, o⟩) (hm : 0 ≤ dv.msgs ∧ dv.msgs ≤ 100000000000000001 ∧ 0 ≤ dv.flts ∧ dv.flts ≤ 100000000000000001) 
  (hc : countsB ⟨16, a, c, p, s, bs, vs, m, o⟩ = true) (X : Rp × Dv) (hX : actD n dv ⟨16, a, c, p, s, bs, vs, m, o⟩ = X) :
  Calls Tryz.prog 99 #[ptrG g, v] w fun e w' => ∃ v', e = .returned v' ∧ NRp w.heap.size w' v' (X).1 ∧ DD w' g gs lo hi n (X).2 ∧ Kp (Gd g lo hi) w w' := by
 obtain ⟨-, hn, hb, hv, h8⟩ := counts_parts hc;have hr : rightE ⟨16, a, c, p, s, bs, vs, m, o⟩ = 0 := by simp [countsB] at hc; exact hc.1
 obtain ⟨-, hf, -, hl⟩ := right_parts hr;simp only at hn hb hv h8;subst hX;have h1 : (vs.length : Int) = c := by simp [listB] at hl; exact hl.1
 cases hk : okV n 3 a vs.length
 ·
  have hk2 : fits n a c = false := by
   have e := hk;rw [okV, h1] at e
   simpa [isV] using e
  rw [show actD n dv ⟨16, a, c, p, s, bs, vs, m, o⟩ = refD dv 16 2 by simp [actD, allThere, askR, fits0, hk2]];exact vset16_no g gs lo hi n dv a c p s bs vs m o v w D h hm hn hk
 ·
  have hk2 : fits n a c = true := by
   have e := hk;rw [okV, h1] at e
   simpa [isV] using e
  rw [show actD n dv ⟨16, a, c, p, s, bs, vs, m, o⟩ = ((⟨16, 0, a, c, 0, [], [], 0, 0, []⟩ : Rp), ({ dv with s := setV n dv.s 3 a vs } : Dv)) by simp [actD, allThere, askR, fits0, hk2, goD]];exact vset16_ok g gs lo hi n dv a c p s bs vs m o v w D h hm hn hk
theorem vact_17 (g gs lo hi n : Nat) (dv : Dv) (a c p s : Int) (bs : List Bool) (vs : List UInt16) (m o : UInt16) (v : Value) (w : World) (D : DD w g gs lo hi n dv) (h : IsRqF (Gd g lo hi) w v ⟨17, a, c, p, s, bs, vs, m, o⟩) (hm : 0 ≤ dv.msgs ∧ dv.msgs ≤ 100000000000000001 ∧ 0 ≤ dv.flts ∧ dv.flts ≤ 100000000000000001) (hu : 0 ≤ dv.unit ∧ dv.unit ≤ 255) 
  (hc : countsB ⟨17, a, c, p, s, bs, vs, m, o⟩ = true) (X : Rp × Dv) (hX : actD n dv ⟨17, a, c, p, s, bs, vs, m, o⟩ = X) :
  Calls Tryz.prog 100 #[ptrG g, v] w fun e w' => ∃ v', e = .returned v' ∧ NRp w.heap.size w' v' (X).1 ∧ DD w' g gs lo hi n (X).2 ∧ Kp (Gd g lo hi) w w' := by
 obtain ⟨-, hn, hb, hv, h8⟩ := counts_parts hc;have hr : rightE ⟨17, a, c, p, s, bs, vs, m, o⟩ = 0 := by simp [countsB] at hc; exact hc.1
 obtain ⟨-, hf, -, hl⟩ := right_parts hr;simp only at hn hb hv h8;subst hX;rw [show actD n dv ⟨17, a, c, p, s, bs, vs, m, o⟩ = (⟨17, 0, 0, 0, 0, [], [], 0, 0, [b8 dv.unit, 255]⟩, dv) by simp [actD, allThere, askR, fits0, goD]];exact vid_17 g gs lo hi n dv a c p s bs vs m o v w D h hm hu
theorem vact_22 (g gs lo hi n : Nat) (dv : Dv) (a c p s : Int) (bs : List Bool) (vs : List UInt16) (m o : UInt16) (v : Value) (w : World) (D : DD w g gs lo hi n dv) (h : IsRqF (Gd g lo hi) w v ⟨22, a, c, p, s, bs, vs, m, o⟩) (hm : 0 ≤ dv.msgs ∧ dv.msgs ≤ 100000000000000001 ∧ 0 ≤ dv.flts ∧ dv.flts ≤ 100000000000000001) 
  (hc : countsB ⟨22, a, c, p, s, bs, vs, m, o⟩ = true) (X : Rp × Dv) (hX : actD n dv ⟨22, a, c, p, s, bs, vs, m, o⟩ = X) :
  Calls Tryz.prog 101 #[ptrG g, v] w fun e w' => ∃ v', e = .returned v' ∧ NRp w.heap.size w' v' (X).1 ∧ DD w' g gs lo hi n (X).2 ∧ Kp (Gd g lo hi) w w' := by
 obtain ⟨-, hn, hb, hv, h8⟩ := counts_parts hc;have hr : rightE ⟨22, a, c, p, s, bs, vs, m, o⟩ = 0 := by simp [countsB] at hc; exact hc.1
 obtain ⟨-, hf, -, hl⟩ := right_parts hr;simp only at hn hb hv h8;subst hX;cases hk : okV n 3 a 1
 ·
  have hk2 : fits n a 1 = false := by simpa [okV, isV] using hk
  rw [show actD n dv ⟨22, a, c, p, s, bs, vs, m, o⟩ = refD dv 22 2 by simp [actD, allThere, askR, hk2]];exact vmask_no g gs lo hi n dv a c p s bs vs m o v w D h hm hn hk
 ·
  have hk2 : fits n a 1 = true := by simpa [okV, isV] using hk
  rw [show actD n dv ⟨22, a, c, p, s, bs, vs, m, o⟩ = (⟨22, 0, a, 0, 0, [], [], m, o, []⟩, { dv with s := setV n dv.s 3 a [maskW ((getV n dv.s 3 a 1).getD 0 0) m o] }) by simp [actD, allThere, askR, hk2, goD]];exact vmask_ok g gs lo hi n dv a c p s bs vs m o v w D h hm hn hk
theorem vact_23 (g gs lo hi n : Nat) (dv : Dv) (a c p s : Int) (bs : List Bool) (vs : List UInt16) (m o : UInt16) (v : Value) (w : World) (D : DD w g gs lo hi n dv) (h : IsRqF (Gd g lo hi) w v ⟨23, a, c, p, s, bs, vs, m, o⟩) (hm : 0 ≤ dv.msgs ∧ dv.msgs ≤ 100000000000000001 ∧ 0 ≤ dv.flts ∧ dv.flts ≤ 100000000000000001) 
  (hc : countsB ⟨23, a, c, p, s, bs, vs, m, o⟩ = true) (X : Rp × Dv) (hX : actD n dv ⟨23, a, c, p, s, bs, vs, m, o⟩ = X) :
  Calls Tryz.prog 102 #[ptrG g, v] w fun e w' => ∃ v', e = .returned v' ∧ NRp w.heap.size w' v' (X).1 ∧ DD w' g gs lo hi n (X).2 ∧ Kp (Gd g lo hi) w w' := by
 obtain ⟨-, hn, hb, hv, h8⟩ := counts_parts hc;have hr : rightE ⟨23, a, c, p, s, bs, vs, m, o⟩ = 0 := by simp [countsB] at hc; exact hc.1
 obtain ⟨-, hf, -, hl⟩ := right_parts hr;simp only at hn hb hv h8;cases hk : okV n 3 a c
 ·
  have hk2 : fits n a c = false := by simpa [okV, isV] using hk
  rw [show actD n dv ⟨23, a, c, p, s, bs, vs, m, o⟩ = refD dv 23 2 by simp [actD, allThere, askR, hk2]] at hX;subst hX;exact vrw_0 g gs lo hi n dv a c p s bs vs m o v w D h hm hn hk
 ·
  have hk2 : fits n a c = true := by simpa [okV, isV] using hk
  cases hj : okV n 3 p vs.length
  ·
   have hj2 : fits n p vs.length = false := by simpa [okV, isV] using hj
   rw [show actD n dv ⟨23, a, c, p, s, bs, vs, m, o⟩ = refD dv 23 2 by simp [actD, allThere, askR, hk2, hj2]] at hX;subst hX;exact vrw_1 g gs lo hi n dv a c p s bs vs m o v w D h hm hn hk hj
  ·
   have hj2 : fits n p vs.length = true := by simpa [okV, isV] using hj
   rw [show actD n dv ⟨23, a, c, p, s, bs, vs, m, o⟩ = rdV n { dv with s := setV n dv.s 3 p vs } 23 3 a c by simp [actD, allThere, askR, hk2, hj2, goD, rdV, hk]] at hX;exact vrw_2 g gs lo hi n dv a c p s bs vs m o v w D h hm hn hk hj X hX
theorem set_new (w : World) (c : Array Value) (t : TypeId) (i : Nat) (v : Value) : (w.alloc (.cells c t)).setCell ⟨w.heap.size, i, none⟩ v = w.alloc (.cells (c.setIfInBounds i v) t) := by
 simp only [World.setCell, World.alloc]
 congr 1
 apply Array.ext_getElem?
 intro k;rw [Array.getElem?_modify];by_cases h : w.heap.size = k
 ·
  subst h;simp
 ·
  have h' : ¬ k = w.heap.size := fun e => h e.symm;simp [h, h', Array.getElem?_push]
theorem st_new (P : Program) (w : World) (c : Array Value) (t : TypeId) (i : Nat) (v : Value) (hi : i < c.size) (hv : v.oneCell' = true) : (store ⟨w.heap.size, i, none⟩ v).run P (w.alloc (.cells c t)) = .ok () (w.alloc (.cells (c.setIfInBounds i v) t)) := by
 have h1 : (w.alloc (.cells c t)).cell? ⟨w.heap.size, i, none⟩ = some c[i] := by
  have hb : (w.alloc (.cells c t)).heap[w.heap.size]? = some (.cells c t (0, 0)) := heap_alloc_new w _;rw [cell_of_row _ _ i c t (0, 0) hb, Array.getElem?_eq_getElem hi]
 have h2 : (w.alloc (.cells c t)).frozen? ⟨w.heap.size, i, none⟩ = false := (Blk.new w t c.toList).frozen i;rw [run_store P _ _ _ _ hv];simp only [h1, h2];rw [set_new]
 rfl
theorem st_nil (P : Program) (w : World) (c : Array Value) (t : TypeId) (i : Nat) (hi : i < c.size) : (store ⟨w.heap.size, i, none⟩ .nilFunc).run P (w.alloc (.cells c t)) = .ok () (w.alloc (.cells (c.setIfInBounds i .nilFunc) t)) := st_new P w c t i _ hi rfl
theorem st_fun (P : Program) (w : World) (c : Array Value) (t : TypeId) (i : Nat) (fn : Fn) (x y : Array Value) (hi : i < c.size) : (store ⟨w.heap.size, i, none⟩ (.func fn x y)).run P (w.alloc (.cells c t)) = .ok () (w.alloc (.cells (c.setIfInBounds i (.func fn x y)) t)) := st_new P w c t i _ hi rfl
theorem deed_1 (w : World) : Calls Tryz.prog 47 #[J 1] w fun e w' => e = .returned (.func (.func 91) #[] #[]) ∧ Bo w w' := by
 have W0 := Hh (aL w);go_enter Tryz.func47, Tryz.ntmps47;go_wp2;simp (config := { decide := true }) only [st_nil, st_fun, List.size_toArray, List.length_cons, List.length_nil, Result.andThen, List.setIfInBounds_toArray, List.set_cons_zero, List.set_cons_succ];go_wp2;go_ret;exact ⟨rfl, W0.out _⟩
theorem deed_2 (w : World) : Calls Tryz.prog 47 #[J 2] w fun e w' => e = .returned (.func (.func 92) #[] #[]) ∧ Bo w w' := by
 have W0 := Hh (aL w);go_enter Tryz.func47, Tryz.ntmps47;go_wp2;simp (config := { decide := true }) only [st_nil, st_fun, List.size_toArray, List.length_cons, List.length_nil, Result.andThen, List.setIfInBounds_toArray, List.set_cons_zero, List.set_cons_succ];go_wp2;go_ret;exact ⟨rfl, W0.out _⟩
theorem deed_3 (w : World) : Calls Tryz.prog 47 #[J 3] w fun e w' => e = .returned (.func (.func 93) #[] #[]) ∧ Bo w w' := by
 have W0 := Hh (aL w);go_enter Tryz.func47, Tryz.ntmps47;go_wp2;simp (config := { decide := true }) only [st_nil, st_fun, List.size_toArray, List.length_cons, List.length_nil, Result.andThen, List.setIfInBounds_toArray, List.set_cons_zero, List.set_cons_succ];go_wp2;go_ret;exact ⟨rfl, W0.out _⟩
theorem deed_4 (w : World) : Calls Tryz.prog 47 #[J 4] w fun e w' => e = .returned (.func (.func 94) #[] #[]) ∧ Bo w w' := by
 have W0 := Hh (aL w);go_enter Tryz.func47, Tryz.ntmps47;go_wp2;simp (config := { decide := true }) only [st_nil, st_fun, List.size_toArray, List.length_cons, List.length_nil, Result.andThen, List.setIfInBounds_toArray, List.set_cons_zero, List.set_cons_succ];go_wp2;go_ret;exact ⟨rfl, W0.out _⟩
theorem deed_5 (w : World) : Calls Tryz.prog 47 #[J 5] w fun e w' => e = .returned (.func (.func 95) #[] #[]) ∧ Bo w w' := by
 have W0 := Hh (aL w);go_enter Tryz.func47, Tryz.ntmps47;go_wp2;simp (config := { decide := true }) only [st_nil, st_fun, List.size_toArray, List.length_cons, List.length_nil, Result.andThen, List.setIfInBounds_toArray, List.set_cons_zero, List.set_cons_succ];go_wp2;go_ret;exact ⟨rfl, W0.out _⟩
theorem deed_6 (w : World) : Calls Tryz.prog 47 #[J 6] w fun e w' => e = .returned (.func (.func 96) #[] #[]) ∧ Bo w w' := by
 have W0 := Hh (aL w);go_enter Tryz.func47, Tryz.ntmps47;go_wp2;simp (config := { decide := true }) only [st_nil, st_fun, List.size_toArray, List.length_cons, List.length_nil, Result.andThen, List.setIfInBounds_toArray, List.set_cons_zero, List.set_cons_succ];go_wp2;go_ret;exact ⟨rfl, W0.out _⟩
theorem deed_8 (w : World) : Calls Tryz.prog 47 #[J 8] w fun e w' => e = .returned (.func (.func 97) #[] #[]) ∧ Bo w w' := by
 have W0 := Hh (aL w);go_enter Tryz.func47, Tryz.ntmps47;go_wp2;simp (config := { decide := true }) only [st_nil, st_fun, List.size_toArray, List.length_cons, List.length_nil, Result.andThen, List.setIfInBounds_toArray, List.set_cons_zero, List.set_cons_succ];go_wp2;go_ret;exact ⟨rfl, W0.out _⟩
theorem deed_15 (w : World) : Calls Tryz.prog 47 #[J 15] w fun e w' => e = .returned (.func (.func 98) #[] #[]) ∧ Bo w w' := by
 have W0 := Hh (aL w);go_enter Tryz.func47, Tryz.ntmps47;go_wp2;simp (config := { decide := true }) only [st_nil, st_fun, List.size_toArray, List.length_cons, List.length_nil, Result.andThen, List.setIfInBounds_toArray, List.set_cons_zero, List.set_cons_succ];go_wp2;go_ret;exact ⟨rfl, W0.out _⟩
theorem deed_16 (w : World) : Calls Tryz.prog 47 #[J 16] w fun e w' => e = .returned (.func (.func 99) #[] #[]) ∧ Bo w w' := by
 have W0 := Hh (aL w);go_enter Tryz.func47, Tryz.ntmps47;go_wp2;simp (config := { decide := true }) only [st_nil, st_fun, List.size_toArray, List.length_cons, List.length_nil, Result.andThen, List.setIfInBounds_toArray, List.set_cons_zero, List.set_cons_succ];go_wp2;go_ret;exact ⟨rfl, W0.out _⟩
theorem deed_17 (w : World) : Calls Tryz.prog 47 #[J 17] w fun e w' => e = .returned (.func (.func 100) #[] #[]) ∧ Bo w w' := by
 have W0 := Hh (aL w);go_enter Tryz.func47, Tryz.ntmps47;go_wp2;simp (config := { decide := true }) only [st_nil, st_fun, List.size_toArray, List.length_cons, List.length_nil, Result.andThen, List.setIfInBounds_toArray, List.set_cons_zero, List.set_cons_succ];go_wp2;go_ret;exact ⟨rfl, W0.out _⟩
theorem deed_22 (w : World) : Calls Tryz.prog 47 #[J 22] w fun e w' => e = .returned (.func (.func 101) #[] #[]) ∧ Bo w w' := by
 have W0 := Hh (aL w);go_enter Tryz.func47, Tryz.ntmps47;go_wp2;simp (config := { decide := true }) only [st_nil, st_fun, List.size_toArray, List.length_cons, List.length_nil, Result.andThen, List.setIfInBounds_toArray, List.set_cons_zero, List.set_cons_succ];go_wp2;go_ret;exact ⟨rfl, W0.out _⟩
theorem deed_23 (w : World) : Calls Tryz.prog 47 #[J 23] w fun e w' => e = .returned (.func (.func 102) #[] #[]) ∧ Bo w w' := by
 have W0 := Hh (aL w);go_enter Tryz.func47, Tryz.ntmps47;go_wp2;simp (config := { decide := true }) only [st_nil, st_fun, List.size_toArray, List.length_cons, List.length_nil, Result.andThen, List.setIfInBounds_toArray, List.set_cons_zero, List.set_cons_succ];go_wp2;go_ret;exact ⟨rfl, W0.out _⟩
theorem vdo_gen (g gs lo hi n : Nat) (dv : Dv) (f a c p s : Int) (bs : List Bool) (vs : List UInt16) (m o : UInt16) (v : Value) (w : World) (D : DD w g gs lo hi n dv) (h : IsRqF (Gd g lo hi) w v ⟨f, a, c, p, s, bs, vs, m, o⟩) (hm : 0 ≤ dv.msgs ∧ dv.msgs ≤ 100000000000000000 ∧ 0 ≤ dv.flts ∧ dv.flts ≤ 100000000000000000)
  (hc : countsB ⟨f, a, c, p, s, bs, vs, m, o⟩ = true) (X : Rp × Dv) (F : Nat) (hent : ∀ args w, (callFunc F args).run Tryz.prog w = .ok (.enter F args) w) (hdeed : ∀ w, Calls Tryz.prog 47 #[J f] w fun e w' => e = .returned (.func (.func F) #[] #[]) ∧ Bo w w') (hact : ∀ (v : Value) (w : World), DD w g gs lo hi n ⟨dv.s, dv.msgs + 1, dv.flts, dv.unit⟩ → IsRqF (Gd g lo hi) w v ⟨f, a, c, p, s, bs, vs, m, o⟩ → Calls Tryz.prog F #[ptrG g, v] w fun e w' => ∃ v', e = .returned v' ∧ NRp w.heap.size w' v' X.1 ∧ DD w' g gs lo hi n X.2 ∧ Kp (Gd g lo hi) w w') :
  Calls Tryz.prog 17 #[ptrG g, v] w fun e w' => ∃ v', e = .returned v' ∧ NRp w.heap.size w' v' (X).1 ∧ DD w' g gs lo hi n (X).2 ∧ Kp (Gd g lo hi) w w' := by
 obtain ⟨ab, cb, av, cv, rfl, hl1, hl2, rb, rv⟩ := h.slices;clear h;have R1 := Hh rb;have R2 := Hh rv;clear rb rv;simp only at hl1 hl2 R1 R2 ⊢;have HR : Hid (rightE ⟨f, a, c, p, s, bs, vs, m, o⟩ = 0) := by show _ = _; simp [countsB] at hc; exact hc.1
 have HC := Hh hc;have HDE := Hh hdeed;have HAC := Hh hact;have HEN := Hh hent;clear hc hdeed hact hent;have HM := Hh hm;obtain ⟨hb, hs, ho⟩ := D;obtain ⟨s0, ms, fl, un⟩ := dv;simp only at hb hs hm ⊢;obtain ⟨f1, f2, f3, f4⟩ := hm;have HO := Hh ho;have XQ := (Blk.new w tQ (Ql f a c p s ab bs cb av vs cv m o)).alloc (.cells zsP.toArray tP);have BZ := Blk.new (w.alloc (.cells (Qa f a c p s ab bs cb av vs cv m o) tQ)) tP zsP;rw [sza] at BZ;have E0 : Bo w ((w.alloc (.cells (Qa f a c p s ab bs cb av vs cv m o) tQ)).alloc (.cells zsP.toArray tP)) := (aL w _).alloc (by simp) _;have HL := hlA hb.lt hs.top;have BD := hb.below E0 hb.lt;have S := hs.ext E0;have KP := Kp.of_below (F := Gd g lo hi) E0;clear E0 hb hs ho;have XH := Hh XQ;have ZH := Hh BZ;have DH := Hh BD;have SH := Hh S;have KH := Hh KP;clear XQ BZ BD S KP;go_enter Tryz.func17, Tryz.ntmps17;go_upto_region 1 with fail
 have XQ := XH.out;have BZ := ZH.out;have BD := DH.out;have S := SH.out;have KP := KH.out;clear XH ZH DH SH KH;obtain ⟨b3, hb3⟩ := exb (w.heap.size);rw [← hb3] at XQ BZ HL ⊢;have HB := Hh hb3;clear hb3;obtain ⟨b4, hb4⟩ := exb (b3 + 1);rw [← hb4] at BZ ⊢;replace HL := hlB HL hb4 HB;clear hb4 HB;generalize (w.alloc (.cells (Qa f a c p s ab bs cb av vs cv m o) tQ)).alloc (.cells zsP.toArray tP) = w1 at *;have u1 : w1.cell? ⟨g, 1, none⟩ = some (J ms) := BD.cell 1;have uf := BD.frozen 1;go_upto_region 2 with fail
 clear u1 uf;have KS : Kp (· = g) w1 (w1.setCell ⟨g, 1, none⟩ (J (ms + 1))) := Kp.set (F := (· = g)) (Kp.refl _ w1) (p := ⟨g, 1, none⟩) (fun _ => rfl) (J (ms + 1));replace XQ := XQ.kp KS (by have := HL.out; omega);replace BZ := BZ.kp KS (by have := HL.out; omega);replace BD := BD.set 1 (J (ms + 1));replace S := S.kp KS (fun i h e => by subst e; exact HO.out h);replace KP := KP.set (p := ⟨g, 1, none⟩) (fun _ => .inl rfl) (J (ms + 1));clear KS;generalize w1.setCell ⟨g, 1, none⟩ (J (ms + 1)) = w2 at *;obtain ⟨x0, x1, x2, x3, x4, x5, x6, x7, x8⟩ := cells9 XQ;go_wp2_with fail
 clear x0 x1 x2 x3 x4 x5 x6 x7 x8;refine (right_pdu _ ⟨f, a, c, p, s, bs, vs, m, o⟩ w2 ⟨_, _, rfl, (R1.out.kp KP (fun _ _ h => h)).1, (R2.out.kp KP (fun _ _ h => h)).1⟩).mono ?_;rintro e w3 ⟨rfl, E⟩;replace XQ := XQ.below E XQ.lt;replace BZ := BZ.below E BZ.lt;replace BD := BD.below E BD.lt;replace S := S.ext E;replace KP := KP.ext E;clear E;rw [HR.out];obtain ⟨x0, x1, x2, x3, x4, x5, x6, x7, x8⟩ := cells9 XQ;go_wp2_with fail
 clear x0 x1 x2 x3 x4 x5 x6 x7 x8;refine (counts_pdu _ ⟨f, a, c, p, s, bs, vs, m, o⟩ w3 ⟨_, _, rfl, (R1.out.kp KP (fun _ _ h => h)).1, (R2.out.kp KP (fun _ _ h => h)).1⟩).mono ?_;rintro e w4 ⟨rfl, E⟩;rw [HC.out];replace XQ := XQ.below E XQ.lt;replace BZ := BZ.below E BZ.lt;replace BD := BD.below E BD.lt;replace S := S.ext E;replace KP := KP.ext E;clear E;go_wp2_with fail
 refine c_begin 7 rfl (by kernel_rfl) ?_;have EA := (Below.refl w4.heap.size w4).drew;replace XQ := XQ.below EA XQ.lt;replace BZ := BZ.below EA BZ.lt;replace BD := BD.below EA BD.lt;replace S := S.ext EA;replace KP := KP.ext EA;clear EA;generalize w4.drew = w5 at *;refine c_P trivial 0 rfl ?_;refine c_R (fun w' => Blk w' b3 tQ (Ql f a c p s ab bs cb av vs cv m o)) XQ trivial 1 rfl (fun w' hx => by have cc := hx.cell 0; go_simp; with_reducible rfl) ?_;refine c_P ⟨XQ, trivial⟩ 3 rfl ?_;refine c_R (fun w' => Blk w' b3 tQ (Ql f a c p s ab bs cb av vs cv m o)) XQ ⟨XQ, trivial⟩ 4 rfl (fun w' hx => by obtain ⟨x0, x1, x2, x3, x4, x5, x6, x7, x8⟩ := cells9 hx; go_simp; with_reducible rfl) ?_;refine c_M 2 (c_O 2 [(4, fun w' => Blk w' b3 tQ (Ql f a c p s ab bs cb av vs cv m o))] rfl (fun K hK => ?_));go_wp2_with fail
 refine (HDE.out w5).mono ?_;rintro e w6 ⟨rfl, E⟩;go_simp;replace XQ := XQ.below E XQ.lt;replace BZ := BZ.below E BZ.lt;replace BD := BD.below E BD.lt;replace S := S.ext E;replace KP := KP.ext E;clear E;refine hK.out _ _ ⟨XQ, trivial⟩ ?_;clear K hK;try simp only [Pu]
 refine c_M 5 (c_O 5 [] rfl (fun K hK => ?_));have HZ : Hid (b4 < w6.heap.size) := BZ.lt;go_wp2_with fail
 rw [HEN.out];go_wp2_with fail
 refine (HAC.out _ w6 ⟨BD, S, HO.out⟩ ⟨_, _, rfl, R1.out.kp KP (fun _ _ h => h), R2.out.kp KP (fun _ _ h => h)⟩).mono ?_;rintro e wd ⟨v', rfl, ⟨vb, vv, vd, rfl, ⟨NB, NV, ND⟩, nb, nv, nd⟩, D2, KK⟩;have BZ := BZ.kp KK (gd_no (by have := HL.out; omega) (by have := HL.out; omega));replace KP := KP.then KK (fun _ _ h => h);obtain ⟨⟨rf, rc, ra, rn, rs, rb, rv, rm, ro, rd⟩, dv2⟩ := X;simp only at NB NV ND D2 ⊢;have nb' : Hid (∀ k, vb.ownBlock = some k → b4 < k) := fun k hk => by have := nb k hk; have := HL.out; have := HZ.out; omega
 replace nb : Hid (NwV w.heap.size vb) := nb.mono (by have := HL.out; have := HZ.out; omega);have nv' : Hid (∀ k, vv.ownBlock = some k → b4 < k) := fun k hk => by have := nv k hk; have := HL.out; have := HZ.out; omega
 replace nv : Hid (NwV w.heap.size vv) := nv.mono (by have := HL.out; have := HZ.out; omega);have nd' : Hid (∀ k, vd.ownBlock = some k → b4 < k) := fun k hk => by have := nd k hk; have := HL.out; have := HZ.out; omega
 replace nd : Hid (NwV w.heap.size vd) := nd.mono (by have := HL.out; have := HZ.out; omega);clear KK XQ;obtain ⟨avb, cvb, rfl, -⟩ := id NB;obtain ⟨avv, cvv, rfl, -⟩ := id NV;obtain ⟨avd, cvd, rfl, -⟩ := id ND;simp only [List.length_map] at NB NV ND nb nv nd nb' nv' nd' ⊢;have HNB := Hh NB;have HNV := Hh NV;have HND := Hh ND;have HD2 := Hh D2;clear NB NV ND D2;go_simp;refine hK.out _ _ trivial ?_;clear K hK;try simp only [Pu]
 refine c_M 6 (c_O 6 [] rfl (fun K hK => ?_));obtain ⟨z0, z1, z2, z3, z4, z5, z6, z7, z8, z9⟩ := cells10 BZ;have yz := fun i => BZ.frozen i;go_simp;clear z0 z1 z2 z3 z4 z5 z6 z7 z8 z9 yz;obtain ⟨wl, hwl, BF, PN, PK⟩ := put10 BZ rfl (J rf) (J rc) (J ra) (J rn) (J rs) (.slice avb rb.length cvb) (.slice avv rv.length cvv) (wV rm) (wV ro) (.slice avd rd.length cvd);rw [hwl];clear hwl;have KS := PK _ _ (Kp.refl (· = b4) wd) (fun _ => rfl);replace KP := PK _ _ KP (fun h => by have := HL.out; omega);have D2 := HD2.out.kp KS (fun i x e => by subst e; exact gd_no (by have := HL.out; omega) (by have := HL.out; omega) x);have NB := HNB.out.kp KS (fun k hk e => by have := nb'.out k hk; omega);have NV := HNV.out.kp KS (fun k hk e => by have := nv'.out k hk; omega);have ND := HND.out.kp KS (fun k hk e => by have := nd'.out k hk; omega);clear PN PK KS BZ HNB HNV HND HD2;refine hK.out _ _ trivial ?_;clear K hK;try simp only [Pu]
 refine c_done (by kernel_rfl) ?_;go_wp2;obtain ⟨c0, c1, c2, c3, c4, c5, c6, c7, c8, c9⟩ := cells10 BF;clear BF;refine bodyPost_ret (v := _) (by simp [results, Tryz.results17, go_sem, c0, c1, c2, c3, c4, c5, c6, c7, c8, c9]; with_reducible rfl) rfl ?_;exact ⟨_, rfl, ⟨_, _, _, rfl, ⟨NB, NV, ND⟩, nb.out, nv.out, nd.out⟩, D2, KP⟩
end Go.Proofs.YtdihcdphgiaepaaGreat
