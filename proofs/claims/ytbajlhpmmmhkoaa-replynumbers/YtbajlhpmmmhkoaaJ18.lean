/- Contract of burgageref3.Good: one function. -/
import Derived.Orders
import Derived.Tactics
import Derived.Test.YtbajlhpmmmhkoaaJ2
import Derived.Deep.Cut
import Derived.Test.YtbajlhpmmmhkoaaJ17
import Derived.Test.YtbajlhpmmmhkoaaJ14
import Derived.Test.YtbajlhpmmmhkoaaJ15
namespace Go.Proofs.Ytbajlhpmmmhkoaa
open Go.RowKit
section
variable {P : Program} {ops : Array Oper} {Q : Exit → Act → World → Prop} {i n : Nat} {a : Act} {w : World}
  {dst : Option Tmp} {op : Op} {ty : TypeId} {pos : String} {after : Array Edge} {guard : Option (Nat × Bool)} {v : Value}
def wpFrom (P : Program) (ops : Array Oper) (Q : Exit → Act → World → Prop) (i n : Nat) (a : Act) (w : World) : Prop := wpOps P ops Q (List.range' i n) a w
theorem l_begin {id : Nat} {l : List Oper} (h : ∀ O, Hid (O = l.toArray) → wpList P O Q l a w) : (Code.region id l.toArray false).wp P Q a w := wp_region_lit (h _ rfl)
theorem l_val {rest : List Oper} (hw : Region.wanted ⟨dst, op, ty, pos, after, guard⟩ (yielded ops a.tmps) = true)
  (hv : (execOp a.eval ⟨dst, op, ty, pos, after, guard⟩).run P w = .ok (.value v) w) (h : wpList P ops Q rest (a.put dst v) w) : wpList P ops Q (⟨dst, op, ty, pos, after, guard⟩ :: rest) a w := by
 unfold wpList
 rw [if_pos hw]
 refine .inl ?_
 unfold Oper.wp
 rw [hv]
 exact h
theorem l_skip {rest : List Oper} (hw : Region.wanted ⟨dst, op, ty, pos, after, guard⟩ (yielded ops a.tmps) = false)
  (h : wpList P ops Q rest (a.put dst undef) w) : wpList P ops Q (⟨dst, op, ty, pos, after, guard⟩ :: rest) a w := by
 unfold wpList
 rw [if_neg (by rw [hw]; simp)]
 exact h
theorem l_move {rest : List Oper} (hw : Region.wanted ⟨dst, op, ty, pos, after, guard⟩ (yielded ops a.tmps) = true)
  (h : ∀ K : Act → World → Prop, Hid (∀ a' w', wpList P ops Q rest a' w' → K a' w') → Oper.wp P ⟨dst, op, ty, pos, after, guard⟩ a w K Q) : wpList P ops Q (⟨dst, op, ty, pos, after, guard⟩ :: rest) a w := by
 unfold wpList
 rw [if_pos hw]
 exact .inl (h _ (fun a' w' h => h))
theorem l_done (h : Q .normal a w) : wpList P ops Q [] a w := h
theorem l_V {rest l0 : List Oper} (HO : Hid (ops = l0.toArray)) {a' : Act} (h : wpList P ops Q rest a' w) (hw : Region.wanted ⟨dst, op, ty, pos, after, guard⟩ (yielded l0.toArray a.tmps) = true := by kernel_rfl)
  (hv : (execOp a.eval ⟨dst, op, ty, pos, after, guard⟩).run P w = .ok (.value v) w := by go_simp; with_reducible rfl) (ha : a.put dst v = a' := by (try simp only [Act.put, PuA, PuB, PuC]); exact rfl) : wpList P ops Q (⟨dst, op, ty, pos, after, guard⟩ :: rest) a w := l_val (by rw [HO.out]; exact hw) hv (ha ▸ h)
theorem l_S {rest l0 : List Oper} (HO : Hid (ops = l0.toArray)) {a' : Act} (h : wpList P ops Q rest a' w) (hw : Region.wanted ⟨dst, op, ty, pos, after, guard⟩ (yielded l0.toArray a.tmps) = false := by kernel_rfl)
  (ha : a.put dst undef = a' := by (try simp only [Act.put, PuA, PuB, PuC]); exact rfl) : wpList P ops Q (⟨dst, op, ty, pos, after, guard⟩ :: rest) a w := l_skip (by rw [HO.out]; exact hw) (ha ▸ h)
end
end Go.Proofs.Ytbajlhpmmmhkoaa
namespace Go.Proofs.Ytbajlhpmmmhkoaa
open Go.RowKit
def inI (l : List UInt8) (x : Int) : Bool := l.any fun y => (y.toNat : Int) == x
theorem in_at (l : List UInt8) (x : Int) (w : World) (hx : 0 ≤ x ∧ x < 256) (hl : l.length ≤ 100) : Calls Try.prog 31 #[.string ⟨l.toArray⟩, .int .u8 x] w fun e w' => e = .returned (.bool (inI l x)) ∧ w = w' := by
 have e : ((UInt8.ofNat x.toNat).toNat : Int) = x := by rw [UInt8.toNat_ofNat']; omega
 have h := in_ref l (UInt8.ofNat x.toNat) w hl
 rw [e] at h
 refine h.mono ?_
 rintro e' w' ⟨rfl, rfl⟩
 refine ⟨ret_bool ?_, rfl⟩
 rw [Bool.eq_iff_iff]
 simp only [inI, List.contains_iff_mem, List.any_eq_true, beq_iff_eq]
 constructor
 ·
  intro h; exact ⟨_, h, e⟩
 ·
  rintro ⟨y, hy, h2⟩
  have : y = UInt8.ofNat x.toNat := UInt8.toNat_inj.1 (by omega)
  rw [← this]; exact hy
end Go.Proofs.Ytbajlhpmmmhkoaa
namespace Go.Proofs.Ytbajlhpmmmhkoaa
open Go.RowKit
def hasL (f : Int) : List UInt8 :=
 if f = 1 ∨ f = 2 then [98]
 else if f = 3 ∨ f = 4 ∨ f = 23 then [118]
 else if f = 5 then [97, 98]
 else if f = 6 then [97, 118]
 else if f = 8 then [115, 118]
 else if f = 15 ∨ f = 16 then [97, 99]
 else if f = 17 then [100]
 else [97, 109]
set_option maxHeartbeats 400000 in
theorem has_str (f : Int) (w : World) : Calls Try.prog 30 #[.int .i64 f] w fun e w' => e = .returned (.string ⟨(hasL f).toArray⟩) ∧ w = w' := by
 cases hk : knownB f
 ·
  obtain ⟨h1, h2, h3, h4, h5, h6, h8, h15, h16, h17, h22, h23⟩ := known_no hk
  have e : hasL f = [97, 109] := by
   simp only [beq_eq_false_iff_ne] at *
   unfold hasL
   rw [if_neg (by omega), if_neg (by omega), if_neg (by omega), if_neg (by omega), if_neg (by omega), if_neg (by omega), if_neg (by omega)]
  rw [e]
  clear hk e
  go_enter Try.func30, Try.ntmps30
  go_wp2
  go_ret
  exact ⟨rfl, rfl⟩
 ·
  rcases known_cases hk with rfl | rfl | rfl | rfl | rfl | rfl | rfl | rfl | rfl | rfl | rfl | rfl
  all_goals
   clear hk
   go_enter Try.func30, Try.ntmps30
   go_wp2
   go_ret
   exact ⟨rfl, rfl⟩
end Go.Proofs.Ytbajlhpmmmhkoaa
namespace Go.Proofs.Ytbajlhpmmmhkoaa
open Go.RowKit
set_option maxRecDepth 100000 in
set_option maxHeartbeats 6000000 in
theorem good_ref_1 (v : Value) (r : Rp) (w : World) (h : IsRp w v r) (hc : r.code = 0) (hf : r.fn = 1) :
  Calls Try.prog 20 #[v] w fun e w' => e = .returned (.int .i64 (goodE r)) ∧ Below w.heap.size w w' := by
 obtain ⟨ab, capb, av, capv, ad, capd, rfl, z1, z2, z3⟩ := h.slices
 have W0 := hidden (fun o => (Below.refl w.heap.size w).alloc (Nat.le_refl _) o)
 have HE := hidden (@goodE_12 r)
 have H0 := hidden (@goodE_0 r)
 have KK : Hid (knownB r.fn = true) := by show _ = _; rw [hf]; rfl
 obtain ⟨f, k, a, c, s, bs, vs, m, o, ds⟩ := r
 simp only at HE H0 KK hf hc z1 z2 z3 ⊢
 subst hf
 subst hc
 have hm := m.toNat_lt
 have ho := o.toNat_lt
 have N0 : Hid (numB 0 = true) := by rfl
 clear h
 have Ia : Hid (inI [98] 97 = false) := by rfl
 have Ic : Hid (inI [98] 99 = false) := by rfl
 have Is : Hid (inI [98] 115 = false) := by rfl
 have Ib : Hid (inI [98] 98 = true) := by rfl
 have Iv : Hid (inI [98] 118 = false) := by rfl
 have Im : Hid (inI [98] 109 = false) := by rfl
 have Id : Hid (inI [98] 100 = false) := by rfl
 go_enter Try.func20, Try.ntmps20
 go_upto_region 8 with (first | (go_at_call 29; refine (has_ref _ _).mono ?_; rintro e w4 ⟨rfl, rfl⟩; rw [KK.out]) | (go_at_call 30; refine (has_str _ _).mono ?_; rintro e w4 ⟨rfl, rfl⟩; rw [show hasL 1 = [98] from rfl]))
 have XB := BoxP.new w 1 0 a c s (.slice ab bs.length capb) (.slice av vs.length capv) m o (.slice ad ds.length capd) 35
 have BW := W0.out (.cells #[.int .i64 1, .int .i64 0, .int .i64 a, .int .i64 c, .int .i64 s, .slice ab bs.length capb, .slice av vs.length capv, wV m, wV o, .slice ad ds.length capd] 35)
 generalize w.alloc (.cells #[.int .i64 1, .int .i64 0, .int .i64 a, .int .i64 c, .int .i64 s, .slice ab bs.length capb, .slice av vs.length capv, wV m, wV o, .slice ad ds.length capd] 35) = w0 at *
 obtain ⟨gl, c0, c1, c2, c3, c4, c5, c6, c7, c8, c9⟩ := XB
 refine l_begin (fun O HO => ?_)
 try simp only [List.cons_append, List.nil_append]
 iterate 1 (refine l_V HO ?_)
 refine l_move (by rw [HO.out]; kernel_rfl) (fun K hK => ?_)
 go_wp2_with fail
 refine (in_at [98] _ _ (by decide) (by decide)).mono ?_
 rintro e w4 ⟨rfl, rfl⟩
 rw [Ia.out]
 go_simp
 refine hK.out _ _ ?_
 clear K hK
 try simp only [Act.put, PuA, PuB, PuC]
 iterate 4 (refine l_V HO ?_)
 by_cases ha : a ≠ 0
 ·
  have Ta : (a != 0) = true := by simpa using ha
  have L := hidden (HE.out trivial KK.out (.inl (fun h => ha (by simpa [formA] using h.1))))
  clear ha
  refine l_V HO ?_
  iterate 2 (refine l_V HO ?_)
  iterate 8 (refine l_S HO ?_)
  iterate 2 (refine l_V HO ?_)
  iterate 8 (refine l_S HO ?_)
  iterate 2 (refine l_V HO ?_)
  iterate 9 (refine l_S HO ?_)
  iterate 2 (refine l_V HO ?_)
  iterate 9 (refine l_S HO ?_)
  iterate 2 (refine l_V HO ?_)
  iterate 13 (refine l_S HO ?_)
  iterate 2 (refine l_V HO ?_)
  iterate 9 (refine l_S HO ?_)
  iterate 1 (refine l_V HO ?_)
  refine l_done ?_
  go_wp2
  go_ret
  exact ⟨ret_int L.out.symm, BW⟩
 ·
  have ha' : a = 0 := by simpa using ha
  clear ha
  subst ha'
  refine l_V HO ?_
  iterate 3 (refine l_V HO ?_)
  refine l_move (by rw [HO.out]; kernel_rfl) (fun K hK => ?_)
  go_wp2_with fail
  refine (in_at [98] _ _ (by decide) (by decide)).mono ?_
  rintro e w4 ⟨rfl, rfl⟩
  rw [Ic.out]
  go_simp
  refine hK.out _ _ ?_
  clear K hK
  try simp only [Act.put, PuA, PuB, PuC]
  iterate 4 (refine l_V HO ?_)
  by_cases hc : c ≠ 0
  ·
   have Tc : (c != 0) = true := by simpa using hc
   have L := hidden (HE.out trivial KK.out (.inl (fun h => hc (by simpa [formA] using h.2.1))))
   clear hc
   refine l_V HO ?_
   iterate 3 (refine l_V HO ?_)
   iterate 8 (refine l_S HO ?_)
   iterate 2 (refine l_V HO ?_)
   iterate 9 (refine l_S HO ?_)
   iterate 2 (refine l_V HO ?_)
   iterate 9 (refine l_S HO ?_)
   iterate 2 (refine l_V HO ?_)
   iterate 13 (refine l_S HO ?_)
   iterate 2 (refine l_V HO ?_)
   iterate 9 (refine l_S HO ?_)
   iterate 1 (refine l_V HO ?_)
   refine l_done ?_
   go_wp2
   go_ret
   exact ⟨ret_int L.out.symm, BW⟩
  ·
   have hc' : c = 0 := by simpa using hc
   clear hc
   subst hc'
   refine l_V HO ?_
   iterate 4 (refine l_V HO ?_)
   refine l_move (by rw [HO.out]; kernel_rfl) (fun K hK => ?_)
   go_wp2_with fail
   refine (in_at [98] _ _ (by decide) (by decide)).mono ?_
   rintro e w4 ⟨rfl, rfl⟩
   rw [Is.out]
   go_simp
   refine hK.out _ _ ?_
   clear K hK
   try simp only [Act.put, PuA, PuB, PuC]
   iterate 4 (refine l_V HO ?_)
   by_cases hs : s ≠ 0
   ·
    have Ts : (s != 0) = true := by simpa using hs
    have L := hidden (HE.out trivial KK.out (.inl (fun h => hs (by simpa [formA] using h.2.2.1))))
    clear hs
    refine l_V HO ?_
    iterate 3 (refine l_V HO ?_)
    iterate 9 (refine l_S HO ?_)
    iterate 2 (refine l_V HO ?_)
    iterate 9 (refine l_S HO ?_)
    iterate 2 (refine l_V HO ?_)
    iterate 13 (refine l_S HO ?_)
    iterate 2 (refine l_V HO ?_)
    iterate 9 (refine l_S HO ?_)
    iterate 1 (refine l_V HO ?_)
    refine l_done ?_
    go_wp2
    go_ret
    exact ⟨ret_int L.out.symm, BW⟩
   ·
    have hs' : s = 0 := by simpa using hs
    clear hs
    subst hs'
    refine l_V HO ?_
    iterate 4 (refine l_V HO ?_)
    refine l_move (by rw [HO.out]; kernel_rfl) (fun K hK => ?_)
    go_wp2_with fail
    refine (in_at [98] _ _ (by decide) (by decide)).mono ?_
    rintro e w4 ⟨rfl, rfl⟩
    rw [Ib.out]
    go_simp
    refine hK.out _ _ ?_
    clear K hK
    try simp only [Act.put, PuA, PuB, PuC]
    iterate 2 (refine l_V HO ?_)
    iterate 4 (refine l_S HO ?_)
    iterate 4 (refine l_V HO ?_)
    refine l_move (by rw [HO.out]; kernel_rfl) (fun K hK => ?_)
    go_wp2_with fail
    refine (in_at [98] _ _ (by decide) (by decide)).mono ?_
    rintro e w4 ⟨rfl, rfl⟩
    rw [Iv.out]
    go_simp
    refine hK.out _ _ ?_
    clear K hK
    try simp only [Act.put, PuA, PuB, PuC]
    iterate 5 (refine l_V HO ?_)
    by_cases hv : vs ≠ []
    ·
     have Tv : (0 : Int) < (vs.length : Int) := by have := List.length_pos_iff.2 hv; omega
     have Uv : 0 < vs.length := List.length_pos_iff.2 hv
     have L := hidden (HE.out trivial KK.out (.inl (fun h => hv (by simpa [formA] using h.2.2.2.2.1))))
     clear hv
     refine l_V HO ?_
     iterate 3 (refine l_V HO ?_)
     iterate 13 (refine l_S HO ?_)
     iterate 2 (refine l_V HO ?_)
     iterate 9 (refine l_S HO ?_)
     iterate 1 (refine l_V HO ?_)
     refine l_done ?_
     go_wp2
     go_ret
     exact ⟨ret_int L.out.symm, BW⟩
    ·
     have hv' : vs = [] := by simpa using hv
     clear hv
     subst hv'
     simp only [List.length_nil] at *
     refine l_V HO ?_
     iterate 4 (refine l_V HO ?_)
     refine l_move (by rw [HO.out]; kernel_rfl) (fun K hK => ?_)
     go_wp2_with fail
     refine (in_at [98] _ _ (by decide) (by decide)).mono ?_
     rintro e w4 ⟨rfl, rfl⟩
     rw [Im.out]
     go_simp
     refine hK.out _ _ ?_
     clear K hK
     try simp only [Act.put, PuA, PuB, PuC]
     iterate 4 (refine l_V HO ?_)
     by_cases hm0 : m ≠ 0
     ·
      have Tm : ((m.toNat : Int) != 0) = true := by simp; intro h; exact hm0 (UInt16.toNat_inj.1 h)
      have L := hidden (HE.out trivial KK.out (.inl (fun h => hm0 (by have := h.2.2.2.2.2.1; simp at this; exact this.1))))
      clear hm0
      refine l_V HO ?_
      iterate 1 (refine l_V HO ?_)
      iterate 3 (refine l_S HO ?_)
      iterate 4 (refine l_V HO ?_)
      iterate 9 (refine l_S HO ?_)
      iterate 1 (refine l_V HO ?_)
      refine l_done ?_
      go_wp2
      go_ret
      exact ⟨ret_int L.out.symm, BW⟩
     ·
      have hm0' : m = 0 := by simpa using hm0
      clear hm0
      subst hm0'
      refine l_V HO ?_
      iterate 3 (refine l_V HO ?_)
      by_cases ho0 : o ≠ 0
      ·
       have To : ((o.toNat : Int) != 0) = true := by simp; intro h; exact ho0 (UInt16.toNat_inj.1 h)
       have L := hidden (HE.out trivial KK.out (.inl (fun h => ho0 (by have := h.2.2.2.2.2.1; simp at this; exact this))))
       clear ho0
       refine l_V HO ?_
       iterate 4 (refine l_V HO ?_)
       iterate 9 (refine l_S HO ?_)
       iterate 1 (refine l_V HO ?_)
       refine l_done ?_
       go_wp2
       go_ret
       exact ⟨ret_int L.out.symm, BW⟩
      ·
       have ho0' : o = 0 := by simpa using ho0
       clear ho0
       subst ho0'
       refine l_V HO ?_
       iterate 5 (refine l_V HO ?_)
       refine l_move (by rw [HO.out]; kernel_rfl) (fun K hK => ?_)
       go_wp2_with fail
       refine (in_at [98] _ _ (by decide) (by decide)).mono ?_
       rintro e w4 ⟨rfl, rfl⟩
       rw [Id.out]
       go_simp
       refine hK.out _ _ ?_
       clear K hK
       try simp only [Act.put, PuA, PuB, PuC]
       iterate 5 (refine l_V HO ?_)
       by_cases hd : ds ≠ []
       ·
        have Td : (0 : Int) < (ds.length : Int) := by have := List.length_pos_iff.2 hd; omega
        have Ud : 0 < ds.length := List.length_pos_iff.2 hd
        have L := hidden (HE.out trivial KK.out (.inl (fun h => hd (by simpa [formA] using h.2.2.2.2.2.2))))
        clear hd
        refine l_V HO ?_
        iterate 2 (refine l_V HO ?_)
        refine l_done ?_
        go_wp2
        go_ret
        exact ⟨ret_int L.out.symm, BW⟩
       ·
        have hd' : ds = [] := by simpa using hd
        clear hd
        subst hd'
        simp only [List.length_nil] at *
        refine l_V HO ?_
        iterate 2 (refine l_V HO ?_)
        refine l_done ?_
        have G1 := hidden (show formA ⟨1, 0, 0, 0, 0, bs, [], 0, 0, []⟩ by simp [formA])
        go_upto_region 10 with fail
        by_cases hl : (bs.length : Int) ≤ 2040
        ·
         have t1 : ¬ (2040 : Int) < (bs.length : Int) := by omega
         have u1 : ¬ 2040 < bs.length := by omega
         have u3 : decide (2040 < bs.length) = false := by rw [decide_eq_false_iff_not]; omega
         have u4 : decide ((2040 : Int) < (bs.length : Int)) = false := by rw [decide_eq_false_iff_not]; omega
         have E2 := hidden (show (numB 0 && numB 0 && numB 0) = true by simp [N0.out])
         have L := hidden (H0.out trivial KK.out G1.out E2.out (by simp [listA]; try omega))
         refine l_begin (fun O HO => ?_)
         try simp only [List.cons_append, List.nil_append]
         iterate 2 (refine l_V HO ?_)
         refine l_move (by rw [HO.out]; kernel_rfl) (fun K hK => ?_)
         go_wp2_with fail
         refine (word_ref _ _).mono ?_
         rintro e w4 ⟨rfl, rfl⟩
         rw [N0.out]
         go_simp
         refine hK.out _ _ ?_
         clear K hK
         try simp only [Act.put, PuA, PuB, PuC]
         iterate 4 (refine l_V HO ?_)
         refine l_move (by rw [HO.out]; kernel_rfl) (fun K hK => ?_)
         go_wp2_with fail
         refine (word_ref _ _).mono ?_
         rintro e w4 ⟨rfl, rfl⟩
         rw [N0.out]
         go_simp
         refine hK.out _ _ ?_
         clear K hK
         try simp only [Act.put, PuA, PuB, PuC]
         iterate 5 (refine l_V HO ?_)
         refine l_move (by rw [HO.out]; kernel_rfl) (fun K hK => ?_)
         go_wp2_with fail
         refine (word_ref _ _).mono ?_
         rintro e w4 ⟨rfl, rfl⟩
         rw [N0.out]
         go_simp
         refine hK.out _ _ ?_
         clear K hK
         try simp only [Act.put, PuA, PuB, PuC]
         iterate 7 (refine l_V HO ?_)
         iterate 4 (refine l_S HO ?_)
         iterate 12 (refine l_V HO ?_)
         iterate 4 (refine l_S HO ?_)
         iterate 20 (refine l_V HO ?_)
         refine l_done ?_
         go_wp2
         go_ret
         exact ⟨ret_int L.out.symm, BW⟩
        ·
         have t1 : (2040 : Int) < (bs.length : Int) := by omega
         have u1 : 2040 < bs.length := by omega
         have u3 : decide (2040 < bs.length) = true := by rw [decide_eq_true_iff]; omega
         have u4 : decide ((2040 : Int) < (bs.length : Int)) = true := by rw [decide_eq_true_iff]; omega
         have L := hidden (HE.out trivial KK.out (.inr (.inr (by simp [listA]; omega))))
         refine l_begin (fun O HO => ?_)
         try simp only [List.cons_append, List.nil_append]
         iterate 2 (refine l_V HO ?_)
         refine l_move (by rw [HO.out]; kernel_rfl) (fun K hK => ?_)
         go_wp2_with fail
         refine (word_ref _ _).mono ?_
         rintro e w4 ⟨rfl, rfl⟩
         rw [N0.out]
         go_simp
         refine hK.out _ _ ?_
         clear K hK
         try simp only [Act.put, PuA, PuB, PuC]
         iterate 4 (refine l_V HO ?_)
         refine l_move (by rw [HO.out]; kernel_rfl) (fun K hK => ?_)
         go_wp2_with fail
         refine (word_ref _ _).mono ?_
         rintro e w4 ⟨rfl, rfl⟩
         rw [N0.out]
         go_simp
         refine hK.out _ _ ?_
         clear K hK
         try simp only [Act.put, PuA, PuB, PuC]
         iterate 5 (refine l_V HO ?_)
         refine l_move (by rw [HO.out]; kernel_rfl) (fun K hK => ?_)
         go_wp2_with fail
         refine (word_ref _ _).mono ?_
         rintro e w4 ⟨rfl, rfl⟩
         rw [N0.out]
         go_simp
         refine hK.out _ _ ?_
         clear K hK
         try simp only [Act.put, PuA, PuB, PuC]
         iterate 7 (refine l_V HO ?_)
         iterate 4 (refine l_S HO ?_)
         iterate 12 (refine l_V HO ?_)
         iterate 4 (refine l_S HO ?_)
         iterate 9 (refine l_V HO ?_)
         iterate 4 (refine l_S HO ?_)
         iterate 2 (refine l_V HO ?_)
         iterate 4 (refine l_S HO ?_)
         iterate 1 (refine l_V HO ?_)
         refine l_done ?_
         go_wp2
         go_ret
         exact ⟨ret_int L.out.symm, BW⟩
end Go.Proofs.Ytbajlhpmmmhkoaa
