/- Contract of burgageref3.Right by function: 1 to 4 in one. -/
import Derived.Orders
import Derived.Tactics
import Derived.Test.YtdihcdphgiaepaaGreatZZ1
import Derived.Deep.Cut
import Derived.Test.YtdihcdphgiaepaaGreatZZ33
namespace Go.Proofs.YtdihcdphgiaepaaGreat
open Go.RowKit
section
variable {P : Program} {ops : Array Oper} {Q : Exit → Act → World → Prop} {i n : Nat} {a : Act} {w : World}
  {dst : Option Tmp} {op : Op} {ty : TypeId} {pos : String} {after : Array Edge} {guard : Option (Nat × Bool)} {v : Value}
def wpFrom (P : Program) (ops : Array Oper) (Q : Exit → Act → World → Prop) (i n : Nat) (a : Act) (w : World) : Prop := wpOps P ops Q (List.range' i n) a w
theorem l_begin {id : Nat} {l : List Oper} (h : ∀ O, Hid (O = l.toArray) → wpList P O Q l a w) : (Code.region id l.toArray false).wp P Q a w := wp_region_lit (h _ rfl)
theorem l_val {rest : List Oper} (hw : Region.wanted ⟨dst, op, ty, pos, after, guard⟩ (yielded ops a.tmps) = true)
  (hv : (execOp a.eval ⟨dst, op, ty, pos, after, guard⟩).run P w = .ok (.value v) w) (h : wpList P ops Q rest (a.put dst v) w) : wpList P ops Q (⟨dst, op, ty, pos, after, guard⟩ :: rest) a w := by
 unfold wpList;rw [if_pos hw];refine .inl ?_;unfold Oper.wp;rw [hv];exact h
theorem l_skip {rest : List Oper} (hw : Region.wanted ⟨dst, op, ty, pos, after, guard⟩ (yielded ops a.tmps) = false)
  (h : wpList P ops Q rest (a.put dst undef) w) : wpList P ops Q (⟨dst, op, ty, pos, after, guard⟩ :: rest) a w := by
 unfold wpList;rw [if_neg (by rw [hw]; simp)];exact h
theorem l_move {rest : List Oper} (hw : Region.wanted ⟨dst, op, ty, pos, after, guard⟩ (yielded ops a.tmps) = true)
  (h : ∀ K : Act → World → Prop, Hid (∀ a' w', wpList P ops Q rest a' w' → K a' w') → Oper.wp P ⟨dst, op, ty, pos, after, guard⟩ a w K Q) : wpList P ops Q (⟨dst, op, ty, pos, after, guard⟩ :: rest) a w := by
 unfold wpList;rw [if_pos hw];exact .inl (h _ (fun a' w' h => h))
theorem l_done (h : Q .normal a w) : wpList P ops Q [] a w := h
theorem l_V {rest l0 : List Oper} (HO : Hid (ops = l0.toArray)) {a' : Act} (h : wpList P ops Q rest a' w) (hw : Region.wanted ⟨dst, op, ty, pos, after, guard⟩ (yielded l0.toArray a.tmps) = true := by kernel_rfl)
  (hv : (execOp a.eval ⟨dst, op, ty, pos, after, guard⟩).run P w = .ok (.value v) w := by go_simp; with_reducible rfl) (ha : a.put dst v = a' := by (try simp only [Act.put, PuA, PuB, PuC]); exact rfl) : wpList P ops Q (⟨dst, op, ty, pos, after, guard⟩ :: rest) a w := l_val (by rw [HO.out]; exact hw) hv (ha ▸ h)
theorem l_S {rest l0 : List Oper} (HO : Hid (ops = l0.toArray)) {a' : Act} (h : wpList P ops Q rest a' w) (hw : Region.wanted ⟨dst, op, ty, pos, after, guard⟩ (yielded l0.toArray a.tmps) = false := by kernel_rfl)
  (ha : a.put dst undef = a' := by (try simp only [Act.put, PuA, PuB, PuC]); exact rfl) : wpList P ops Q (⟨dst, op, ty, pos, after, guard⟩ :: rest) a w := l_skip (by rw [HO.out]; exact hw) (ha ▸ h)
end
def inI (l : List UInt8) (x : Int) : Bool := l.any fun y => (y.toNat : Int) == x
theorem in_at (l : List UInt8) (x : Int) (w : World) (hx : 0 ≤ x ∧ x < 256) (hl : l.length ≤ 100) : Calls Tryz.prog 32 #[.string ⟨l.toArray⟩, .int .u8 x] w fun e w' => e = .returned (.bool (inI l x)) ∧ w = w' := by
 have e : ((UInt8.ofNat x.toNat).toNat : Int) = x := by rw [UInt8.toNat_ofNat']; omega
 have h := in_ref l (UInt8.ofNat x.toNat) w hl;rw [e] at h;refine h.mono ?_;rintro e' w' ⟨rfl, rfl⟩;refine ⟨ret_bool ?_, rfl⟩;rw [Bool.eq_iff_iff];simp only [inI, List.contains_iff_mem, List.any_eq_true, beq_iff_eq];constructor
 ·
  intro h; exact ⟨_, h, e⟩
 ·
  rintro ⟨y, hy, h2⟩;have : y = UInt8.ofNat x.toNat := UInt8.toNat_inj.1 (by omega);rw [← this]; exact hy
set_option maxRecDepth 100000 in
set_option maxHeartbeats 6000000 in
theorem right_ref_1c (v : Value) (q : Rq) (w : World) (h : IsRq w v q) (hf : q.fn = 1 ∨ q.fn = 2 ∨ q.fn = 3 ∨ q.fn = 4) :
  Calls Tryz.prog 29 #[v] w fun e w' => e = .returned (.int .i64 (rightE q)) ∧ Below w.heap.size w w' := by
 obtain ⟨ab, capb, av, capv, rfl, -, -⟩ := h.slices;have W0 := hidden (fun o => (Below.refl w.heap.size w).alloc (Nat.le_refl _) o);have HH := hidden (fun w' (hb : Below w.heap.size w w') => h.below hb);have HE := hidden (@rightE_12 q);have H0 := hidden (@rightE_0 q);have KK : Hid (knownB q.fn = true) := by show _ = _; rcases hf with e | e | e | e <;> rw [e] <;> rfl
 obtain ⟨f, a, c, p, s, bs, vs, m, o⟩ := q;simp only at HE H0 HH KK hf ⊢;have HF := hidden hf;have n5 : ¬ f = 5 := by omega
 have n6 : ¬ f = 6 := by omega
 have n8 : ¬ f = 8 := by omega
 have n15 : ¬ f = 15 := by omega
 have n16 : ¬ f = 16 := by omega
 have n17 : ¬ f = 17 := by omega
 have n22 : ¬ f = 22 := by omega
 have n23 : ¬ f = 23 := by omega
 have hm := m.toNat_lt;have ho := o.toNat_lt;clear h;have Ia : Hid (inI [97, 99] 97 = true) := by rfl
 have Ic : Hid (inI [97, 99] 99 = true) := by rfl
 have Iw : Hid (inI [97, 99] 119 = false) := by rfl
 have Is : Hid (inI [97, 99] 115 = false) := by rfl
 have Ib : Hid (inI [97, 99] 98 = false) := by rfl
 have Iv : Hid (inI [97, 99] 118 = false) := by rfl
 have Im : Hid (inI [97, 99] 109 = false) := by rfl
 have HL : Hid (usesL f = [97, 99]) := by rcases hf with rfl | rfl | rfl | rfl <;> rfl
 go_enter Tryz.func29, Tryz.ntmps29;go_upto_region 4 with (first | (go_at_call 48; refine (has_ref _ _).mono ?_; rintro e w4 ⟨rfl, rfl⟩; rw [KK.out]) | (go_at_call 66; refine (uses_ref _ _ KK.out).mono ?_; rintro e w4 ⟨rfl, rfl⟩; rw [HL.out]))
 have XB := Box.new w f a c p s (.slice ab bs.length capb) (.slice av vs.length capv) m o 33;have BW := W0.out (.cells #[.int .i64 f, .int .i64 a, .int .i64 c, .int .i64 p, .int .i64 s, .slice ab bs.length capb, .slice av vs.length capv, wV m, wV o] 33);generalize w.alloc (.cells #[.int .i64 f, .int .i64 a, .int .i64 c, .int .i64 p, .int .i64 s, .slice ab bs.length capb, .slice av vs.length capv, wV m, wV o] 33) = w0 at *;obtain ⟨gl, c0, c1, c2, c3, c4, c5, c6, c7, c8⟩ := XB;refine l_begin (fun O HO => ?_);try simp only [List.cons_append, List.nil_append]
 iterate 1 (refine l_V HO ?_)
 refine l_move (by rw [HO.out]; kernel_rfl) (fun K hK => ?_);go_wp2_with fail
 refine (in_at [97, 99] _ _ (by decide) (by decide)).mono ?_;rintro e w4 ⟨rfl, rfl⟩;rw [Ia.out];go_simp;refine hK.out _ _ ?_;clear K hK;try simp only [Act.put, PuA, PuB, PuC]
 iterate 2 (refine l_V HO ?_)
 iterate 3 (refine l_S HO ?_)
 iterate 2 (refine l_V HO ?_)
 iterate 1 (refine l_V HO ?_)
 refine l_move (by rw [HO.out]; kernel_rfl) (fun K hK => ?_);go_wp2_with fail
 refine (in_at [97, 99] _ _ (by decide) (by decide)).mono ?_;rintro e w4 ⟨rfl, rfl⟩;rw [Ic.out];go_simp;refine hK.out _ _ ?_;clear K hK;try simp only [Act.put, PuA, PuB, PuC]
 iterate 2 (refine l_V HO ?_)
 iterate 3 (refine l_S HO ?_)
 iterate 3 (refine l_V HO ?_)
 iterate 1 (refine l_V HO ?_)
 refine l_move (by rw [HO.out]; kernel_rfl) (fun K hK => ?_);go_wp2_with fail
 refine (in_at [97, 99] _ _ (by decide) (by decide)).mono ?_;rintro e w4 ⟨rfl, rfl⟩;rw [Iw.out];go_simp;refine hK.out _ _ ?_;clear K hK;try simp only [Act.put, PuA, PuB, PuC]
 iterate 2 (refine l_V HO ?_)
 by_cases hw : p = 0
 ·
  subst hw;iterate 6 (refine l_V HO ?_)
  iterate 1 (refine l_V HO ?_)
  refine l_move (by rw [HO.out]; kernel_rfl) (fun K hK => ?_);go_wp2_with fail
  refine (in_at [97, 99] _ _ (by decide) (by decide)).mono ?_;rintro e w4 ⟨rfl, rfl⟩;rw [Is.out];go_simp;refine hK.out _ _ ?_;clear K hK;try simp only [Act.put, PuA, PuB, PuC]
  iterate 2 (refine l_V HO ?_)
  by_cases hs : s = 0
  ·
   subst hs;iterate 6 (refine l_V HO ?_)
   iterate 1 (refine l_V HO ?_)
   refine l_move (by rw [HO.out]; kernel_rfl) (fun K hK => ?_);go_wp2_with fail
   refine (in_at [97, 99] _ _ (by decide) (by decide)).mono ?_;rintro e w4 ⟨rfl, rfl⟩;rw [Ib.out];go_simp;refine hK.out _ _ ?_;clear K hK;try simp only [Act.put, PuA, PuB, PuC]
   iterate 2 (refine l_V HO ?_)
   by_cases hb : bs = []
   ·
    subst hb;simp only [List.length_nil] at *;iterate 7 (refine l_V HO ?_)
    iterate 1 (refine l_V HO ?_)
    refine l_move (by rw [HO.out]; kernel_rfl) (fun K hK => ?_);go_wp2_with fail
    refine (in_at [97, 99] _ _ (by decide) (by decide)).mono ?_;rintro e w4 ⟨rfl, rfl⟩;rw [Iv.out];go_simp;refine hK.out _ _ ?_;clear K hK;try simp only [Act.put, PuA, PuB, PuC]
    iterate 2 (refine l_V HO ?_)
    by_cases hv : vs = []
    ·
     subst hv;simp only [List.length_nil] at *;iterate 7 (refine l_V HO ?_)
     iterate 1 (refine l_V HO ?_)
     refine l_move (by rw [HO.out]; kernel_rfl) (fun K hK => ?_);go_wp2_with fail
     refine (in_at [97, 99] _ _ (by decide) (by decide)).mono ?_;rintro e w4 ⟨rfl, rfl⟩;rw [Im.out];go_simp;refine hK.out _ _ ?_;clear K hK;try simp only [Act.put, PuA, PuB, PuC]
     iterate 2 (refine l_V HO ?_)
     by_cases hm0 : m = 0
     ·
      subst hm0;iterate 4 (refine l_V HO ?_)
      by_cases ho0 : o = 0
      ·
       subst ho0;iterate 6 (refine l_V HO ?_)
       refine l_done ?_;go_wp2_with fail
       refine (word_ref _ _).mono ?_;rintro e w4 ⟨rfl, rfl⟩;cases ha : numB a
       ·
        have L := hidden (HE.out KK.out (.inr (.inl (by rw [ha]; simp))));have Na := hidden ha;clear ha;go_wp2;go_ret;exact ⟨ret_int L.out.symm, BW⟩
       ·
        have Na := hidden ha;clear ha;go_wp2_with fail
        refine (word_ref _ _).mono ?_;rintro e w4 ⟨rfl, rfl⟩;cases hc : numB c
        ·
         have L := hidden (HE.out KK.out (.inr (.inl (by rw [hc]; simp))));have Nc := hidden hc;clear hc;go_wp2;go_ret;exact ⟨ret_int L.out.symm, BW⟩
        ·
         have Nc := hidden hc;clear hc;go_wp2_with fail
         refine (word_ref _ _).mono ?_;rintro e w4 ⟨rfl, rfl⟩;have Np : Hid (numB 0 = true) := by rfl
         rw [Np.out];go_wp2_with fail
         refine (word_ref _ _).mono ?_;rintro e w4 ⟨rfl, rfl⟩;have Ns : Hid (numB 0 = true) := by rfl
         rw [Ns.out];go_wp2_with fail
         have E2 := hidden (show (numB a && numB 0 && numB 0 && numB c) = true by simp [Na.out, Np.out, Nc.out]);have G1 := hidden (show formP ⟨f, a, c, 0, 0, [], [], 0, 0⟩ by simp [formP, HF.out, n5, n6, n8, n15, n16, n22, n23]);refine (lists_ref _ ⟨f, a, c, 0, 0, [], [], 0, 0⟩ _ (HH.out _ BW) KK.out).mono ?_;rintro e w5 ⟨rfl, B5⟩;replace B5 := below_then BW B5;cases hl : listB ⟨f, a, c, 0, 0, [], [], 0, 0⟩
         ·
          have L := hidden (HE.out KK.out (.inr (.inr hl)));clear hl;go_wp2;go_ret;exact ⟨ret_int L.out.symm, B5⟩
         ·
          have L := hidden (H0.out KK.out G1.out E2.out hl);clear hl;go_wp2;go_ret;exact ⟨ret_int L.out.symm, B5⟩
      ·
       have To : ((o.toNat : Int) != 0) = true := by simp; intro h; exact ho0 (UInt16.toNat_inj.1 h)
       have L := hidden (HE.out KK.out (.inl (fun h => ho0 (by have := h.2.2.2.2.2.2; simp [n22] at this; exact this))));clear ho0;iterate 6 (refine l_V HO ?_)
       refine l_done ?_;go_wp2;go_ret;exact ⟨ret_int L.out.symm, BW⟩
     ·
      have Tm : ((m.toNat : Int) != 0) = true := by simp; intro h; exact hm0 (UInt16.toNat_inj.1 h)
      have L := hidden (HE.out KK.out (.inl (fun h => hm0 (by have := h.2.2.2.2.2.2; simp [n22] at this; exact this.1))));clear hm0;iterate 4 (refine l_V HO ?_)
      iterate 3 (refine l_S HO ?_)
      iterate 3 (refine l_V HO ?_)
      refine l_done ?_;go_wp2;go_ret;exact ⟨ret_int L.out.symm, BW⟩
    ·
     have Tv : (0 : Int) < (vs.length : Int) := by have := List.length_pos_iff.2 hv; omega
     have Uv : 0 < vs.length := List.length_pos_iff.2 hv;have L := hidden (HE.out KK.out (.inl (fun h => hv (by simpa [formP, HF.out, n5, n6, n8, n15, n16, n17, n22, n23] using h.2.2.2.2.2.1))));clear hv;iterate 7 (refine l_V HO ?_)
     iterate 13 (refine l_S HO ?_)
     iterate 1 (refine l_V HO ?_)
     refine l_done ?_;go_wp2;go_ret;exact ⟨ret_int L.out.symm, BW⟩
   ·
    have Tb : (0 : Int) < (bs.length : Int) := by have := List.length_pos_iff.2 hb; omega
    have Ub : 0 < bs.length := List.length_pos_iff.2 hb;have L := hidden (HE.out KK.out (.inl (fun h => hb (by simpa [formP, HF.out, n5, n6, n8, n15, n16, n17, n22, n23] using h.2.2.2.2.1))));clear hb;iterate 7 (refine l_V HO ?_)
    iterate 9 (refine l_S HO ?_)
    iterate 2 (refine l_V HO ?_)
    iterate 13 (refine l_S HO ?_)
    iterate 1 (refine l_V HO ?_)
    refine l_done ?_;go_wp2;go_ret;exact ⟨ret_int L.out.symm, BW⟩
  ·
   have Ts : (s != 0) = true := by simpa using hs
   have L := hidden (HE.out KK.out (.inl (fun h => hs (by simpa [formP, HF.out, n5, n6, n8, n15, n16, n17, n22, n23] using h.2.2.2.1))));clear hs;iterate 6 (refine l_V HO ?_)
   iterate 9 (refine l_S HO ?_)
   iterate 2 (refine l_V HO ?_)
   iterate 9 (refine l_S HO ?_)
   iterate 2 (refine l_V HO ?_)
   iterate 13 (refine l_S HO ?_)
   iterate 1 (refine l_V HO ?_)
   refine l_done ?_;go_wp2;go_ret;exact ⟨ret_int L.out.symm, BW⟩
 ·
  have Tw : (p != 0) = true := by simpa using hw
  have L := hidden (HE.out KK.out (.inl (fun h => hw (by simpa [formP, HF.out, n5, n6, n8, n15, n16, n17, n22, n23] using h.2.2.1))));clear hw;iterate 6 (refine l_V HO ?_)
  iterate 8 (refine l_S HO ?_)
  iterate 2 (refine l_V HO ?_)
  iterate 9 (refine l_S HO ?_)
  iterate 2 (refine l_V HO ?_)
  iterate 9 (refine l_S HO ?_)
  iterate 2 (refine l_V HO ?_)
  iterate 13 (refine l_S HO ?_)
  iterate 1 (refine l_V HO ?_)
  refine l_done ?_;go_wp2;go_ret;exact ⟨ret_int L.out.symm, BW⟩
end Go.Proofs.YtdihcdphgiaepaaGreat
