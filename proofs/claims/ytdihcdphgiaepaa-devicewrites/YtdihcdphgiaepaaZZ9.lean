/- Contracts of pdu.Same and burgageref3.Same. -/
import Derived.Test.YtdihcdphgiaepaaZZ8
namespace Go.Proofs.Ytdihcdphgiaepaa
open Go.RowKit
theorem u16_beq (x y : UInt16) : ((x.toNat : Int) == (y.toNat : Int)) = decide (x = y) := by
 rw [Bool.eq_iff_iff]; simp; constructor
 ·
  intro h; exact UInt16.toNat_inj.1 (by omega)
 ·
  intro h; rw [h]
set_option maxHeartbeats 1600000 in
theorem same_pdu (va vb : Value) (q r : Rq) (w : World) (hq : IsRq w va q) (hr : IsRq w vb r) :
  Calls Try.prog 24 #[va, vb] w fun e w' => e = .returned (.bool (decide (q = r))) ∧ Below w.heap.size w w' := by
 obtain ⟨f, a, c, p, s, bs, vs, m, o⟩ := q
 obtain ⟨f2, a2, c2, p2, s2, bs2, vs2, m2, o2⟩ := r
 obtain ⟨vb, vv, rfl, hb, hv⟩ := hq
 obtain ⟨vb2, vv2, rfl, hb2, hv2⟩ := hr
 obtain ⟨ab, capb, rfl, -⟩ := id hb
 obtain ⟨av, capv, rfl, -⟩ := id hv
 obtain ⟨ab2, capb2, rfl, -⟩ := id hb2
 obtain ⟨av2, capv2, rfl, -⟩ := id hv2
 simp only [List.length_map] at hb hv hb2 hv2 ⊢
 rw [show (decide ((⟨f, a, c, p, s, bs, vs, m, o⟩ : Rq) = ⟨f2, a2, c2, p2, s2, bs2, vs2, m2, o2⟩)) = decide (f = f2 ∧ a = a2 ∧ c = c2 ∧ p = p2 ∧ s = s2 ∧ bs = bs2 ∧ vs = vs2 ∧ m = m2 ∧ o = o2) by simp]
 by_cases hfn : f = f2
 ·
  have tfn : (f == f2) = true := by simpa using hfn
  by_cases hloc : a = a2
  ·
   have tloc : (a == a2) = true := by simpa using hloc
   by_cases hcnt : c = c2
   ·
    have tcnt : (c == c2) = true := by simpa using hcnt
    by_cases hwat : p = p2
    ·
     have twat : (p == p2) = true := by simpa using hwat
     by_cases hsub : s = s2
     ·
      have tsub : (s == s2) = true := by simpa using hsub
      by_cases hbits : bs = bs2
      ·
       have tbits : (bs == bs2) = true := by simpa using hbits
       by_cases hvals : vs = vs2
       ·
        have tvals : (vs == vs2) = true := by simpa using hvals
        by_cases hland : m = m2
        ·
         have tland : ((m.toNat : Int) == (m2.toNat : Int)) = true := by rw [u16_beq]; simpa using hland
         by_cases hlor : o = o2
         ·
          have tlor : ((o.toNat : Int) == (o2.toNat : Int)) = true := by rw [u16_beq]; simpa using hlor
          have e : decide (f = f2 ∧ a = a2 ∧ c = c2 ∧ p = p2 ∧ s = s2 ∧ bs = bs2 ∧ vs = vs2 ∧ m = m2 ∧ o = o2) = true := by simp [hfn, hloc, hcnt, hwat, hsub, hbits, hvals, hland, hlor]
          rw [e]
          clear e hfn hloc hcnt hwat hsub hbits hvals hland hlor
          go_enter Try.func24, Try.ntmps24
          go_wp2_with fail
          have G0 := ((Below.refl w.heap.size w).alloc (Nat.le_refl _) (.cells #[.int .i64 f, .int .i64 a, .int .i64 c, .int .i64 p, .int .i64 s, .slice ab bs.length capb, .slice av vs.length capv, wV m, wV o] 33)).alloc (by simp) (.cells #[.int .i64 f2, .int .i64 a2, .int .i64 c2, .int .i64 p2, .int .i64 s2, .slice ab2 bs2.length capb2, .slice av2 vs2.length capv2, wV m2, wV o2] 33)
          have X1 := (Blk.new w 33 [.int .i64 f, .int .i64 a, .int .i64 c, .int .i64 p, .int .i64 s, .slice ab bs.length capb, .slice av vs.length capv, wV m, wV o]).alloc (.cells #[.int .i64 f2, .int .i64 a2, .int .i64 c2, .int .i64 p2, .int .i64 s2, .slice ab2 bs2.length capb2, .slice av2 vs2.length capv2, wV m2, wV o2] 33)
          have X2 := Blk.new (w.alloc (.cells #[.int .i64 f, .int .i64 a, .int .i64 c, .int .i64 p, .int .i64 s, .slice ab bs.length capb, .slice av vs.length capv, wV m, wV o] 33)) 33 [.int .i64 f2, .int .i64 a2, .int .i64 c2, .int .i64 p2, .int .i64 s2, .slice ab2 bs2.length capb2, .slice av2 vs2.length capv2, wV m2, wV o2]
          refine (eq_bool _ _ _ _ _ (hb.below G0) (hb2.below G0)).mono ?_
          rintro e w1 ⟨rfl, B0⟩
          rw [tbits]
          replace X1 := X1.below B0 X1.lt
          replace X2 := X2.below B0 X2.lt
          try simp only [World.size_alloc] at X2
          have c06 := X1.cell 6
          have d06 := X2.cell 6
          simp at c06 d06
          have c07 := X1.cell 7
          have d07 := X2.cell 7
          simp at c07 d07
          have c08 := X1.cell 8
          have d08 := X2.cell 8
          simp at c08 d08
          go_wp2_with fail
          have G1 := below_then G0 B0
          refine (eq_u16 _ _ _ _ _ (hv.below G1) (hv2.below G1)).mono ?_
          rintro e w2 ⟨rfl, B1⟩
          rw [tvals]
          replace X1 := X1.below B1 X1.lt
          replace X2 := X2.below B1 X2.lt
          try simp only [World.size_alloc] at X2
          have c17 := X1.cell 7
          have d17 := X2.cell 7
          simp at c17 d17
          have c18 := X1.cell 8
          have d18 := X2.cell 8
          simp at c18 d18
          go_wp2
          go_ret
          exact ⟨rfl, below_then G1 B1⟩
         ·
          have tlor : ((o.toNat : Int) == (o2.toNat : Int)) = false := by rw [u16_beq]; simpa using hlor
          have e : decide (f = f2 ∧ a = a2 ∧ c = c2 ∧ p = p2 ∧ s = s2 ∧ bs = bs2 ∧ vs = vs2 ∧ m = m2 ∧ o = o2) = false := by simp [hlor]
          rw [e]
          clear e hfn hloc hcnt hwat hsub hbits hvals hland hlor
          go_enter Try.func24, Try.ntmps24
          go_wp2_with fail
          have G0 := ((Below.refl w.heap.size w).alloc (Nat.le_refl _) (.cells #[.int .i64 f, .int .i64 a, .int .i64 c, .int .i64 p, .int .i64 s, .slice ab bs.length capb, .slice av vs.length capv, wV m, wV o] 33)).alloc (by simp) (.cells #[.int .i64 f2, .int .i64 a2, .int .i64 c2, .int .i64 p2, .int .i64 s2, .slice ab2 bs2.length capb2, .slice av2 vs2.length capv2, wV m2, wV o2] 33)
          have X1 := (Blk.new w 33 [.int .i64 f, .int .i64 a, .int .i64 c, .int .i64 p, .int .i64 s, .slice ab bs.length capb, .slice av vs.length capv, wV m, wV o]).alloc (.cells #[.int .i64 f2, .int .i64 a2, .int .i64 c2, .int .i64 p2, .int .i64 s2, .slice ab2 bs2.length capb2, .slice av2 vs2.length capv2, wV m2, wV o2] 33)
          have X2 := Blk.new (w.alloc (.cells #[.int .i64 f, .int .i64 a, .int .i64 c, .int .i64 p, .int .i64 s, .slice ab bs.length capb, .slice av vs.length capv, wV m, wV o] 33)) 33 [.int .i64 f2, .int .i64 a2, .int .i64 c2, .int .i64 p2, .int .i64 s2, .slice ab2 bs2.length capb2, .slice av2 vs2.length capv2, wV m2, wV o2]
          refine (eq_bool _ _ _ _ _ (hb.below G0) (hb2.below G0)).mono ?_
          rintro e w1 ⟨rfl, B0⟩
          rw [tbits]
          replace X1 := X1.below B0 X1.lt
          replace X2 := X2.below B0 X2.lt
          try simp only [World.size_alloc] at X2
          have c06 := X1.cell 6
          have d06 := X2.cell 6
          simp at c06 d06
          have c07 := X1.cell 7
          have d07 := X2.cell 7
          simp at c07 d07
          have c08 := X1.cell 8
          have d08 := X2.cell 8
          simp at c08 d08
          go_wp2_with fail
          have G1 := below_then G0 B0
          refine (eq_u16 _ _ _ _ _ (hv.below G1) (hv2.below G1)).mono ?_
          rintro e w2 ⟨rfl, B1⟩
          rw [tvals]
          replace X1 := X1.below B1 X1.lt
          replace X2 := X2.below B1 X2.lt
          try simp only [World.size_alloc] at X2
          have c17 := X1.cell 7
          have d17 := X2.cell 7
          simp at c17 d17
          have c18 := X1.cell 8
          have d18 := X2.cell 8
          simp at c18 d18
          go_wp2
          go_ret
          exact ⟨rfl, below_then G1 B1⟩
        ·
         have tland : ((m.toNat : Int) == (m2.toNat : Int)) = false := by rw [u16_beq]; simpa using hland
         have e : decide (f = f2 ∧ a = a2 ∧ c = c2 ∧ p = p2 ∧ s = s2 ∧ bs = bs2 ∧ vs = vs2 ∧ m = m2 ∧ o = o2) = false := by simp [hland]
         rw [e]
         clear e hfn hloc hcnt hwat hsub hbits hvals hland
         go_enter Try.func24, Try.ntmps24
         go_wp2_with fail
         have G0 := ((Below.refl w.heap.size w).alloc (Nat.le_refl _) (.cells #[.int .i64 f, .int .i64 a, .int .i64 c, .int .i64 p, .int .i64 s, .slice ab bs.length capb, .slice av vs.length capv, wV m, wV o] 33)).alloc (by simp) (.cells #[.int .i64 f2, .int .i64 a2, .int .i64 c2, .int .i64 p2, .int .i64 s2, .slice ab2 bs2.length capb2, .slice av2 vs2.length capv2, wV m2, wV o2] 33)
         have X1 := (Blk.new w 33 [.int .i64 f, .int .i64 a, .int .i64 c, .int .i64 p, .int .i64 s, .slice ab bs.length capb, .slice av vs.length capv, wV m, wV o]).alloc (.cells #[.int .i64 f2, .int .i64 a2, .int .i64 c2, .int .i64 p2, .int .i64 s2, .slice ab2 bs2.length capb2, .slice av2 vs2.length capv2, wV m2, wV o2] 33)
         have X2 := Blk.new (w.alloc (.cells #[.int .i64 f, .int .i64 a, .int .i64 c, .int .i64 p, .int .i64 s, .slice ab bs.length capb, .slice av vs.length capv, wV m, wV o] 33)) 33 [.int .i64 f2, .int .i64 a2, .int .i64 c2, .int .i64 p2, .int .i64 s2, .slice ab2 bs2.length capb2, .slice av2 vs2.length capv2, wV m2, wV o2]
         refine (eq_bool _ _ _ _ _ (hb.below G0) (hb2.below G0)).mono ?_
         rintro e w1 ⟨rfl, B0⟩
         rw [tbits]
         replace X1 := X1.below B0 X1.lt
         replace X2 := X2.below B0 X2.lt
         try simp only [World.size_alloc] at X2
         have c06 := X1.cell 6
         have d06 := X2.cell 6
         simp at c06 d06
         have c07 := X1.cell 7
         have d07 := X2.cell 7
         simp at c07 d07
         have c08 := X1.cell 8
         have d08 := X2.cell 8
         simp at c08 d08
         go_wp2_with fail
         have G1 := below_then G0 B0
         refine (eq_u16 _ _ _ _ _ (hv.below G1) (hv2.below G1)).mono ?_
         rintro e w2 ⟨rfl, B1⟩
         rw [tvals]
         replace X1 := X1.below B1 X1.lt
         replace X2 := X2.below B1 X2.lt
         try simp only [World.size_alloc] at X2
         have c17 := X1.cell 7
         have d17 := X2.cell 7
         simp at c17 d17
         have c18 := X1.cell 8
         have d18 := X2.cell 8
         simp at c18 d18
         go_wp2
         go_ret
         exact ⟨rfl, below_then G1 B1⟩
       ·
        have tvals : (vs == vs2) = false := by simpa using hvals
        have e : decide (f = f2 ∧ a = a2 ∧ c = c2 ∧ p = p2 ∧ s = s2 ∧ bs = bs2 ∧ vs = vs2 ∧ m = m2 ∧ o = o2) = false := by simp [hvals]
        rw [e]
        clear e hfn hloc hcnt hwat hsub hbits hvals
        go_enter Try.func24, Try.ntmps24
        go_wp2_with fail
        have G0 := ((Below.refl w.heap.size w).alloc (Nat.le_refl _) (.cells #[.int .i64 f, .int .i64 a, .int .i64 c, .int .i64 p, .int .i64 s, .slice ab bs.length capb, .slice av vs.length capv, wV m, wV o] 33)).alloc (by simp) (.cells #[.int .i64 f2, .int .i64 a2, .int .i64 c2, .int .i64 p2, .int .i64 s2, .slice ab2 bs2.length capb2, .slice av2 vs2.length capv2, wV m2, wV o2] 33)
        have X1 := (Blk.new w 33 [.int .i64 f, .int .i64 a, .int .i64 c, .int .i64 p, .int .i64 s, .slice ab bs.length capb, .slice av vs.length capv, wV m, wV o]).alloc (.cells #[.int .i64 f2, .int .i64 a2, .int .i64 c2, .int .i64 p2, .int .i64 s2, .slice ab2 bs2.length capb2, .slice av2 vs2.length capv2, wV m2, wV o2] 33)
        have X2 := Blk.new (w.alloc (.cells #[.int .i64 f, .int .i64 a, .int .i64 c, .int .i64 p, .int .i64 s, .slice ab bs.length capb, .slice av vs.length capv, wV m, wV o] 33)) 33 [.int .i64 f2, .int .i64 a2, .int .i64 c2, .int .i64 p2, .int .i64 s2, .slice ab2 bs2.length capb2, .slice av2 vs2.length capv2, wV m2, wV o2]
        refine (eq_bool _ _ _ _ _ (hb.below G0) (hb2.below G0)).mono ?_
        rintro e w1 ⟨rfl, B0⟩
        rw [tbits]
        replace X1 := X1.below B0 X1.lt
        replace X2 := X2.below B0 X2.lt
        try simp only [World.size_alloc] at X2
        have c06 := X1.cell 6
        have d06 := X2.cell 6
        simp at c06 d06
        have c07 := X1.cell 7
        have d07 := X2.cell 7
        simp at c07 d07
        have c08 := X1.cell 8
        have d08 := X2.cell 8
        simp at c08 d08
        go_wp2_with fail
        have G1 := below_then G0 B0
        refine (eq_u16 _ _ _ _ _ (hv.below G1) (hv2.below G1)).mono ?_
        rintro e w2 ⟨rfl, B1⟩
        rw [tvals]
        replace X1 := X1.below B1 X1.lt
        replace X2 := X2.below B1 X2.lt
        try simp only [World.size_alloc] at X2
        have c17 := X1.cell 7
        have d17 := X2.cell 7
        simp at c17 d17
        have c18 := X1.cell 8
        have d18 := X2.cell 8
        simp at c18 d18
        go_wp2
        go_ret
        exact ⟨rfl, below_then G1 B1⟩
      ·
       have tbits : (bs == bs2) = false := by simpa using hbits
       have e : decide (f = f2 ∧ a = a2 ∧ c = c2 ∧ p = p2 ∧ s = s2 ∧ bs = bs2 ∧ vs = vs2 ∧ m = m2 ∧ o = o2) = false := by simp [hbits]
       rw [e]
       clear e hfn hloc hcnt hwat hsub hbits
       go_enter Try.func24, Try.ntmps24
       go_wp2_with fail
       have G0 := ((Below.refl w.heap.size w).alloc (Nat.le_refl _) (.cells #[.int .i64 f, .int .i64 a, .int .i64 c, .int .i64 p, .int .i64 s, .slice ab bs.length capb, .slice av vs.length capv, wV m, wV o] 33)).alloc (by simp) (.cells #[.int .i64 f2, .int .i64 a2, .int .i64 c2, .int .i64 p2, .int .i64 s2, .slice ab2 bs2.length capb2, .slice av2 vs2.length capv2, wV m2, wV o2] 33)
       have X1 := (Blk.new w 33 [.int .i64 f, .int .i64 a, .int .i64 c, .int .i64 p, .int .i64 s, .slice ab bs.length capb, .slice av vs.length capv, wV m, wV o]).alloc (.cells #[.int .i64 f2, .int .i64 a2, .int .i64 c2, .int .i64 p2, .int .i64 s2, .slice ab2 bs2.length capb2, .slice av2 vs2.length capv2, wV m2, wV o2] 33)
       have X2 := Blk.new (w.alloc (.cells #[.int .i64 f, .int .i64 a, .int .i64 c, .int .i64 p, .int .i64 s, .slice ab bs.length capb, .slice av vs.length capv, wV m, wV o] 33)) 33 [.int .i64 f2, .int .i64 a2, .int .i64 c2, .int .i64 p2, .int .i64 s2, .slice ab2 bs2.length capb2, .slice av2 vs2.length capv2, wV m2, wV o2]
       refine (eq_bool _ _ _ _ _ (hb.below G0) (hb2.below G0)).mono ?_
       rintro e w1 ⟨rfl, B0⟩
       rw [tbits]
       replace X1 := X1.below B0 X1.lt
       replace X2 := X2.below B0 X2.lt
       try simp only [World.size_alloc] at X2
       have c06 := X1.cell 6
       have d06 := X2.cell 6
       simp at c06 d06
       have c07 := X1.cell 7
       have d07 := X2.cell 7
       simp at c07 d07
       have c08 := X1.cell 8
       have d08 := X2.cell 8
       simp at c08 d08
       go_wp2
       go_ret
       exact ⟨rfl, below_then G0 B0⟩
     ·
      have tsub : (s == s2) = false := by simpa using hsub
      have e : decide (f = f2 ∧ a = a2 ∧ c = c2 ∧ p = p2 ∧ s = s2 ∧ bs = bs2 ∧ vs = vs2 ∧ m = m2 ∧ o = o2) = false := by simp [hsub]
      rw [e]
      clear e hfn hloc hcnt hwat hsub
      go_enter Try.func24, Try.ntmps24
      go_wp2_with fail
      go_ret
      exact ⟨rfl, ((Below.refl w.heap.size w).alloc (Nat.le_refl _) _).alloc (by simp) _⟩
    ·
     have twat : (p == p2) = false := by simpa using hwat
     have e : decide (f = f2 ∧ a = a2 ∧ c = c2 ∧ p = p2 ∧ s = s2 ∧ bs = bs2 ∧ vs = vs2 ∧ m = m2 ∧ o = o2) = false := by simp [hwat]
     rw [e]
     clear e hfn hloc hcnt hwat
     go_enter Try.func24, Try.ntmps24
     go_wp2_with fail
     go_ret
     exact ⟨rfl, ((Below.refl w.heap.size w).alloc (Nat.le_refl _) _).alloc (by simp) _⟩
   ·
    have tcnt : (c == c2) = false := by simpa using hcnt
    have e : decide (f = f2 ∧ a = a2 ∧ c = c2 ∧ p = p2 ∧ s = s2 ∧ bs = bs2 ∧ vs = vs2 ∧ m = m2 ∧ o = o2) = false := by simp [hcnt]
    rw [e]
    clear e hfn hloc hcnt
    go_enter Try.func24, Try.ntmps24
    go_wp2_with fail
    go_ret
    exact ⟨rfl, ((Below.refl w.heap.size w).alloc (Nat.le_refl _) _).alloc (by simp) _⟩
  ·
   have tloc : (a == a2) = false := by simpa using hloc
   have e : decide (f = f2 ∧ a = a2 ∧ c = c2 ∧ p = p2 ∧ s = s2 ∧ bs = bs2 ∧ vs = vs2 ∧ m = m2 ∧ o = o2) = false := by simp [hloc]
   rw [e]
   clear e hfn hloc
   go_enter Try.func24, Try.ntmps24
   go_wp2_with fail
   go_ret
   exact ⟨rfl, ((Below.refl w.heap.size w).alloc (Nat.le_refl _) _).alloc (by simp) _⟩
 ·
  have tfn : (f == f2) = false := by simpa using hfn
  have e : decide (f = f2 ∧ a = a2 ∧ c = c2 ∧ p = p2 ∧ s = s2 ∧ bs = bs2 ∧ vs = vs2 ∧ m = m2 ∧ o = o2) = false := by simp [hfn]
  rw [e]
  clear e hfn
  go_enter Try.func24, Try.ntmps24
  go_wp2_with fail
  go_ret
  exact ⟨rfl, ((Below.refl w.heap.size w).alloc (Nat.le_refl _) _).alloc (by simp) _⟩
end Go.Proofs.Ytdihcdphgiaepaa
