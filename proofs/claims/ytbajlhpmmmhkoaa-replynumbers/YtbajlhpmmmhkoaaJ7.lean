/- Contracts of pdu.Right and Counts. -/
import Derived.Test.YtbajlhpmmmhkoaaJ6
namespace Go.Proofs.Ytbajlhpmmmhkoaa
open Go.RowKit
theorem u16_beq (x y : UInt16) : ((x.toNat : Int) == (y.toNat : Int)) = decide (x = y) := by
 rw [Bool.eq_iff_iff]; simp; constructor
 ·
  intro h; exact UInt16.toNat_inj.1 (by omega)
 ·
  intro h; rw [h]
set_option maxHeartbeats 1600000 in
theorem same_pdu (va vb : Value) (q r : Rq) (w : World) (hq : IsRq w va q) (hr : IsRq w vb r) :
  Calls Try.prog 79 #[va, vb] w fun e w' => e = .returned (.bool (decide (q = r))) ∧ Below w.heap.size w w' := by
 obtain ⟨f, a, c, p, s, bs, vs, m, o⟩ := q
 obtain ⟨f2, a2, c2, p2, s2, bs2, vs2, m2, o2⟩ := r
 obtain ⟨vb, vv, rfl, hb, hv⟩ := hq
 obtain ⟨vb2, vv2, rfl, hb2, hv2⟩ := hr
 obtain ⟨ab, capb, rfl, -⟩ := id hb
 obtain ⟨av, capv, rfl, -⟩ := id hv
 obtain ⟨ab2, capb2, rfl, -⟩ := id hb2
 obtain ⟨av2, capv2, rfl, -⟩ := id hv2
 simp only [List.length_map] at hb hv hb2 hv2 ⊢
 rw [show (decide ((⟨f, a, c, p, s, bs, vs, m, o⟩ : Rq) = ⟨f2, a2, c2, p2, s2, bs2, vs2, m2, o2⟩)) = decide (f = f2 ∧ a = a2 ∧ c = c2 ∧ p = p2 ∧ s = s2 ∧ bs = bs2 ∧ vs = vs2 ∧ m = m2 ∧ o = o2) by simp]
 by_cases hfn : f = f2
 ·
  have tfn : (f == f2) = true := by simpa using hfn
  by_cases hloc : a = a2
  ·
   have tloc : (a == a2) = true := by simpa using hloc
   by_cases hcnt : c = c2
   ·
    have tcnt : (c == c2) = true := by simpa using hcnt
    by_cases hwat : p = p2
    ·
     have twat : (p == p2) = true := by simpa using hwat
     by_cases hsub : s = s2
     ·
      have tsub : (s == s2) = true := by simpa using hsub
      by_cases hbits : bs = bs2
      ·
       have tbits : (bs == bs2) = true := by simpa using hbits
       by_cases hvals : vs = vs2
       ·
        have tvals : (vs == vs2) = true := by simpa using hvals
        by_cases hland : m = m2
        ·
         have tland : ((m.toNat : Int) == (m2.toNat : Int)) = true := by rw [u16_beq]; simpa using hland
         by_cases hlor : o = o2
         ·
          have tlor : ((o.toNat : Int) == (o2.toNat : Int)) = true := by rw [u16_beq]; simpa using hlor
          have e : decide (f = f2 ∧ a = a2 ∧ c = c2 ∧ p = p2 ∧ s = s2 ∧ bs = bs2 ∧ vs = vs2 ∧ m = m2 ∧ o = o2) = true := by simp [hfn, hloc, hcnt, hwat, hsub, hbits, hvals, hland, hlor]
          rw [e]
          clear e hfn hloc hcnt hwat hsub hbits hvals hland hlor
          go_enter Try.func79, Try.ntmps79
          go_wp2_with fail
          have G0 := ((Below.refl w.heap.size w).alloc (Nat.le_refl _) (.cells #[.int .i64 f, .int .i64 a, .int .i64 c, .int .i64 p, .int .i64 s, .slice ab bs.length capb, .slice av vs.length capv, wV m, wV o] 26)).alloc (by simp) (.cells #[.int .i64 f2, .int .i64 a2, .int .i64 c2, .int .i64 p2, .int .i64 s2, .slice ab2 bs2.length capb2, .slice av2 vs2.length capv2, wV m2, wV o2] 26)
          have X1 := (Blk.new w 26 [.int .i64 f, .int .i64 a, .int .i64 c, .int .i64 p, .int .i64 s, .slice ab bs.length capb, .slice av vs.length capv, wV m, wV o]).alloc (.cells #[.int .i64 f2, .int .i64 a2, .int .i64 c2, .int .i64 p2, .int .i64 s2, .slice ab2 bs2.length capb2, .slice av2 vs2.length capv2, wV m2, wV o2] 26)
          have X2 := Blk.new (w.alloc (.cells #[.int .i64 f, .int .i64 a, .int .i64 c, .int .i64 p, .int .i64 s, .slice ab bs.length capb, .slice av vs.length capv, wV m, wV o] 26)) 26 [.int .i64 f2, .int .i64 a2, .int .i64 c2, .int .i64 p2, .int .i64 s2, .slice ab2 bs2.length capb2, .slice av2 vs2.length capv2, wV m2, wV o2]
          refine (eq_bool _ _ _ _ _ (hb.below G0) (hb2.below G0)).mono ?_
          rintro e w1 ⟨rfl, B0⟩
          rw [tbits]
          replace X1 := X1.below B0 X1.lt
          replace X2 := X2.below B0 X2.lt
          try simp only [World.size_alloc] at X2
          have c06 := X1.cell 6
          have d06 := X2.cell 6
          simp at c06 d06
          have c07 := X1.cell 7
          have d07 := X2.cell 7
          simp at c07 d07
          have c08 := X1.cell 8
          have d08 := X2.cell 8
          simp at c08 d08
          go_wp2_with fail
          have G1 := below_then G0 B0
          refine (eq_u16 _ _ _ _ _ (hv.below G1) (hv2.below G1)).mono ?_
          rintro e w2 ⟨rfl, B1⟩
          rw [tvals]
          replace X1 := X1.below B1 X1.lt
          replace X2 := X2.below B1 X2.lt
          try simp only [World.size_alloc] at X2
          have c17 := X1.cell 7
          have d17 := X2.cell 7
          simp at c17 d17
          have c18 := X1.cell 8
          have d18 := X2.cell 8
          simp at c18 d18
          go_wp2
          go_ret
          exact ⟨rfl, below_then G1 B1⟩
         ·
          have tlor : ((o.toNat : Int) == (o2.toNat : Int)) = false := by rw [u16_beq]; simpa using hlor
          have e : decide (f = f2 ∧ a = a2 ∧ c = c2 ∧ p = p2 ∧ s = s2 ∧ bs = bs2 ∧ vs = vs2 ∧ m = m2 ∧ o = o2) = false := by simp [hlor]
          rw [e]
          clear e hfn hloc hcnt hwat hsub hbits hvals hland hlor
          go_enter Try.func79, Try.ntmps79
          go_wp2_with fail
          have G0 := ((Below.refl w.heap.size w).alloc (Nat.le_refl _) (.cells #[.int .i64 f, .int .i64 a, .int .i64 c, .int .i64 p, .int .i64 s, .slice ab bs.length capb, .slice av vs.length capv, wV m, wV o] 26)).alloc (by simp) (.cells #[.int .i64 f2, .int .i64 a2, .int .i64 c2, .int .i64 p2, .int .i64 s2, .slice ab2 bs2.length capb2, .slice av2 vs2.length capv2, wV m2, wV o2] 26)
          have X1 := (Blk.new w 26 [.int .i64 f, .int .i64 a, .int .i64 c, .int .i64 p, .int .i64 s, .slice ab bs.length capb, .slice av vs.length capv, wV m, wV o]).alloc (.cells #[.int .i64 f2, .int .i64 a2, .int .i64 c2, .int .i64 p2, .int .i64 s2, .slice ab2 bs2.length capb2, .slice av2 vs2.length capv2, wV m2, wV o2] 26)
          have X2 := Blk.new (w.alloc (.cells #[.int .i64 f, .int .i64 a, .int .i64 c, .int .i64 p, .int .i64 s, .slice ab bs.length capb, .slice av vs.length capv, wV m, wV o] 26)) 26 [.int .i64 f2, .int .i64 a2, .int .i64 c2, .int .i64 p2, .int .i64 s2, .slice ab2 bs2.length capb2, .slice av2 vs2.length capv2, wV m2, wV o2]
          refine (eq_bool _ _ _ _ _ (hb.below G0) (hb2.below G0)).mono ?_
          rintro e w1 ⟨rfl, B0⟩
          rw [tbits]
          replace X1 := X1.below B0 X1.lt
          replace X2 := X2.below B0 X2.lt
          try simp only [World.size_alloc] at X2
          have c06 := X1.cell 6
          have d06 := X2.cell 6
          simp at c06 d06
          have c07 := X1.cell 7
          have d07 := X2.cell 7
          simp at c07 d07
          have c08 := X1.cell 8
          have d08 := X2.cell 8
          simp at c08 d08
          go_wp2_with fail
          have G1 := below_then G0 B0
          refine (eq_u16 _ _ _ _ _ (hv.below G1) (hv2.below G1)).mono ?_
          rintro e w2 ⟨rfl, B1⟩
          rw [tvals]
          replace X1 := X1.below B1 X1.lt
          replace X2 := X2.below B1 X2.lt
          try simp only [World.size_alloc] at X2
          have c17 := X1.cell 7
          have d17 := X2.cell 7
          simp at c17 d17
          have c18 := X1.cell 8
          have d18 := X2.cell 8
          simp at c18 d18
          go_wp2
          go_ret
          exact ⟨rfl, below_then G1 B1⟩
        ·
         have tland : ((m.toNat : Int) == (m2.toNat : Int)) = false := by rw [u16_beq]; simpa using hland
         have e : decide (f = f2 ∧ a = a2 ∧ c = c2 ∧ p = p2 ∧ s = s2 ∧ bs = bs2 ∧ vs = vs2 ∧ m = m2 ∧ o = o2) = false := by simp [hland]
         rw [e]
         clear e hfn hloc hcnt hwat hsub hbits hvals hland
         go_enter Try.func79, Try.ntmps79
         go_wp2_with fail
         have G0 := ((Below.refl w.heap.size w).alloc (Nat.le_refl _) (.cells #[.int .i64 f, .int .i64 a, .int .i64 c, .int .i64 p, .int .i64 s, .slice ab bs.length capb, .slice av vs.length capv, wV m, wV o] 26)).alloc (by simp) (.cells #[.int .i64 f2, .int .i64 a2, .int .i64 c2, .int .i64 p2, .int .i64 s2, .slice ab2 bs2.length capb2, .slice av2 vs2.length capv2, wV m2, wV o2] 26)
         have X1 := (Blk.new w 26 [.int .i64 f, .int .i64 a, .int .i64 c, .int .i64 p, .int .i64 s, .slice ab bs.length capb, .slice av vs.length capv, wV m, wV o]).alloc (.cells #[.int .i64 f2, .int .i64 a2, .int .i64 c2, .int .i64 p2, .int .i64 s2, .slice ab2 bs2.length capb2, .slice av2 vs2.length capv2, wV m2, wV o2] 26)
         have X2 := Blk.new (w.alloc (.cells #[.int .i64 f, .int .i64 a, .int .i64 c, .int .i64 p, .int .i64 s, .slice ab bs.length capb, .slice av vs.length capv, wV m, wV o] 26)) 26 [.int .i64 f2, .int .i64 a2, .int .i64 c2, .int .i64 p2, .int .i64 s2, .slice ab2 bs2.length capb2, .slice av2 vs2.length capv2, wV m2, wV o2]
         refine (eq_bool _ _ _ _ _ (hb.below G0) (hb2.below G0)).mono ?_
         rintro e w1 ⟨rfl, B0⟩
         rw [tbits]
         replace X1 := X1.below B0 X1.lt
         replace X2 := X2.below B0 X2.lt
         try simp only [World.size_alloc] at X2
         have c06 := X1.cell 6
         have d06 := X2.cell 6
         simp at c06 d06
         have c07 := X1.cell 7
         have d07 := X2.cell 7
         simp at c07 d07
         have c08 := X1.cell 8
         have d08 := X2.cell 8
         simp at c08 d08
         go_wp2_with fail
         have G1 := below_then G0 B0
         refine (eq_u16 _ _ _ _ _ (hv.below G1) (hv2.below G1)).mono ?_
         rintro e w2 ⟨rfl, B1⟩
         rw [tvals]
         replace X1 := X1.below B1 X1.lt
         replace X2 := X2.below B1 X2.lt
         try simp only [World.size_alloc] at X2
         have c17 := X1.cell 7
         have d17 := X2.cell 7
         simp at c17 d17
         have c18 := X1.cell 8
         have d18 := X2.cell 8
         simp at c18 d18
         go_wp2
         go_ret
         exact ⟨rfl, below_then G1 B1⟩
       ·
        have tvals : (vs == vs2) = false := by simpa using hvals
        have e : decide (f = f2 ∧ a = a2 ∧ c = c2 ∧ p = p2 ∧ s = s2 ∧ bs = bs2 ∧ vs = vs2 ∧ m = m2 ∧ o = o2) = false := by simp [hvals]
        rw [e]
        clear e hfn hloc hcnt hwat hsub hbits hvals
        go_enter Try.func79, Try.ntmps79
        go_wp2_with fail
        have G0 := ((Below.refl w.heap.size w).alloc (Nat.le_refl _) (.cells #[.int .i64 f, .int .i64 a, .int .i64 c, .int .i64 p, .int .i64 s, .slice ab bs.length capb, .slice av vs.length capv, wV m, wV o] 26)).alloc (by simp) (.cells #[.int .i64 f2, .int .i64 a2, .int .i64 c2, .int .i64 p2, .int .i64 s2, .slice ab2 bs2.length capb2, .slice av2 vs2.length capv2, wV m2, wV o2] 26)
        have X1 := (Blk.new w 26 [.int .i64 f, .int .i64 a, .int .i64 c, .int .i64 p, .int .i64 s, .slice ab bs.length capb, .slice av vs.length capv, wV m, wV o]).alloc (.cells #[.int .i64 f2, .int .i64 a2, .int .i64 c2, .int .i64 p2, .int .i64 s2, .slice ab2 bs2.length capb2, .slice av2 vs2.length capv2, wV m2, wV o2] 26)
        have X2 := Blk.new (w.alloc (.cells #[.int .i64 f, .int .i64 a, .int .i64 c, .int .i64 p, .int .i64 s, .slice ab bs.length capb, .slice av vs.length capv, wV m, wV o] 26)) 26 [.int .i64 f2, .int .i64 a2, .int .i64 c2, .int .i64 p2, .int .i64 s2, .slice ab2 bs2.length capb2, .slice av2 vs2.length capv2, wV m2, wV o2]
        refine (eq_bool _ _ _ _ _ (hb.below G0) (hb2.below G0)).mono ?_
        rintro e w1 ⟨rfl, B0⟩
        rw [tbits]
        replace X1 := X1.below B0 X1.lt
        replace X2 := X2.below B0 X2.lt
        try simp only [World.size_alloc] at X2
        have c06 := X1.cell 6
        have d06 := X2.cell 6
        simp at c06 d06
        have c07 := X1.cell 7
        have d07 := X2.cell 7
        simp at c07 d07
        have c08 := X1.cell 8
        have d08 := X2.cell 8
        simp at c08 d08
        go_wp2_with fail
        have G1 := below_then G0 B0
        refine (eq_u16 _ _ _ _ _ (hv.below G1) (hv2.below G1)).mono ?_
        rintro e w2 ⟨rfl, B1⟩
        rw [tvals]
        replace X1 := X1.below B1 X1.lt
        replace X2 := X2.below B1 X2.lt
        try simp only [World.size_alloc] at X2
        have c17 := X1.cell 7
        have d17 := X2.cell 7
        simp at c17 d17
        have c18 := X1.cell 8
        have d18 := X2.cell 8
        simp at c18 d18
        go_wp2
        go_ret
        exact ⟨rfl, below_then G1 B1⟩
      ·
       have tbits : (bs == bs2) = false := by simpa using hbits
       have e : decide (f = f2 ∧ a = a2 ∧ c = c2 ∧ p = p2 ∧ s = s2 ∧ bs = bs2 ∧ vs = vs2 ∧ m = m2 ∧ o = o2) = false := by simp [hbits]
       rw [e]
       clear e hfn hloc hcnt hwat hsub hbits
       go_enter Try.func79, Try.ntmps79
       go_wp2_with fail
       have G0 := ((Below.refl w.heap.size w).alloc (Nat.le_refl _) (.cells #[.int .i64 f, .int .i64 a, .int .i64 c, .int .i64 p, .int .i64 s, .slice ab bs.length capb, .slice av vs.length capv, wV m, wV o] 26)).alloc (by simp) (.cells #[.int .i64 f2, .int .i64 a2, .int .i64 c2, .int .i64 p2, .int .i64 s2, .slice ab2 bs2.length capb2, .slice av2 vs2.length capv2, wV m2, wV o2] 26)
       have X1 := (Blk.new w 26 [.int .i64 f, .int .i64 a, .int .i64 c, .int .i64 p, .int .i64 s, .slice ab bs.length capb, .slice av vs.length capv, wV m, wV o]).alloc (.cells #[.int .i64 f2, .int .i64 a2, .int .i64 c2, .int .i64 p2, .int .i64 s2, .slice ab2 bs2.length capb2, .slice av2 vs2.length capv2, wV m2, wV o2] 26)
       have X2 := Blk.new (w.alloc (.cells #[.int .i64 f, .int .i64 a, .int .i64 c, .int .i64 p, .int .i64 s, .slice ab bs.length capb, .slice av vs.length capv, wV m, wV o] 26)) 26 [.int .i64 f2, .int .i64 a2, .int .i64 c2, .int .i64 p2, .int .i64 s2, .slice ab2 bs2.length capb2, .slice av2 vs2.length capv2, wV m2, wV o2]
       refine (eq_bool _ _ _ _ _ (hb.below G0) (hb2.below G0)).mono ?_
       rintro e w1 ⟨rfl, B0⟩
       rw [tbits]
       replace X1 := X1.below B0 X1.lt
       replace X2 := X2.below B0 X2.lt
       try simp only [World.size_alloc] at X2
       have c06 := X1.cell 6
       have d06 := X2.cell 6
       simp at c06 d06
       have c07 := X1.cell 7
       have d07 := X2.cell 7
       simp at c07 d07
       have c08 := X1.cell 8
       have d08 := X2.cell 8
       simp at c08 d08
       go_wp2
       go_ret
       exact ⟨rfl, below_then G0 B0⟩
     ·
      have tsub : (s == s2) = false := by simpa using hsub
      have e : decide (f = f2 ∧ a = a2 ∧ c = c2 ∧ p = p2 ∧ s = s2 ∧ bs = bs2 ∧ vs = vs2 ∧ m = m2 ∧ o = o2) = false := by simp [hsub]
      rw [e]
      clear e hfn hloc hcnt hwat hsub
      go_enter Try.func79, Try.ntmps79
      go_wp2_with fail
      go_ret
      exact ⟨rfl, ((Below.refl w.heap.size w).alloc (Nat.le_refl _) _).alloc (by simp) _⟩
    ·
     have twat : (p == p2) = false := by simpa using hwat
     have e : decide (f = f2 ∧ a = a2 ∧ c = c2 ∧ p = p2 ∧ s = s2 ∧ bs = bs2 ∧ vs = vs2 ∧ m = m2 ∧ o = o2) = false := by simp [hwat]
     rw [e]
     clear e hfn hloc hcnt hwat
     go_enter Try.func79, Try.ntmps79
     go_wp2_with fail
     go_ret
     exact ⟨rfl, ((Below.refl w.heap.size w).alloc (Nat.le_refl _) _).alloc (by simp) _⟩
   ·
    have tcnt : (c == c2) = false := by simpa using hcnt
    have e : decide (f = f2 ∧ a = a2 ∧ c = c2 ∧ p = p2 ∧ s = s2 ∧ bs = bs2 ∧ vs = vs2 ∧ m = m2 ∧ o = o2) = false := by simp [hcnt]
    rw [e]
    clear e hfn hloc hcnt
    go_enter Try.func79, Try.ntmps79
    go_wp2_with fail
    go_ret
    exact ⟨rfl, ((Below.refl w.heap.size w).alloc (Nat.le_refl _) _).alloc (by simp) _⟩
  ·
   have tloc : (a == a2) = false := by simpa using hloc
   have e : decide (f = f2 ∧ a = a2 ∧ c = c2 ∧ p = p2 ∧ s = s2 ∧ bs = bs2 ∧ vs = vs2 ∧ m = m2 ∧ o = o2) = false := by simp [hloc]
   rw [e]
   clear e hfn hloc
   go_enter Try.func79, Try.ntmps79
   go_wp2_with fail
   go_ret
   exact ⟨rfl, ((Below.refl w.heap.size w).alloc (Nat.le_refl _) _).alloc (by simp) _⟩
 ·
  have tfn : (f == f2) = false := by simpa using hfn
  have e : decide (f = f2 ∧ a = a2 ∧ c = c2 ∧ p = p2 ∧ s = s2 ∧ bs = bs2 ∧ vs = vs2 ∧ m = m2 ∧ o = o2) = false := by simp [hfn]
  rw [e]
  clear e hfn
  go_enter Try.func79, Try.ntmps79
  go_wp2_with fail
  go_ret
  exact ⟨rfl, ((Below.refl w.heap.size w).alloc (Nat.le_refl _) _).alloc (by simp) _⟩
end Go.Proofs.Ytbajlhpmmmhkoaa
namespace Go.Proofs.Ytbajlhpmmmhkoaa
open Go.RowKit
theorem zero_is (w : World) : IsRq w (rqV 0 0 0 0 0 (.slice none 0 0) (.slice none 0 0) 0 0) zeroQ := ⟨_, _, rfl, Row.nil w, Row.nil w⟩
theorem IsRq.slices {w : World} {v : Value} {q : Rq} (h : IsRq w v q) : ∃ ab capb av capv, v = rqV q.fn q.loc q.cnt q.wat q.sub (.slice ab q.bits.length capb) (.slice av q.vals.length capv) q.land q.lor ∧ q.bits.length ≤ 9223372036854775807 ∧ q.vals.length ≤ 9223372036854775807 := by
 obtain ⟨vb, vv, rfl, hb, hv⟩ := h
 obtain ⟨ab, capb, rfl, h1, h2, -⟩ := hb
 obtain ⟨av, capv, rfl, h3, h4, -⟩ := hv
 simp only [List.length_map] at h1 h3 ⊢
 unfold maxLen at h2 h4
 exact ⟨ab, capb, av, capv, rfl, by omega, by omega⟩
theorem rightE_12 {q : Rq} (hk : knownB q.fn = true) (h : ¬ formP q ∨ (numB q.loc && numB q.wat && numB q.sub && numB q.cnt) = false ∨ listB q = false) : rightE q = 12 := by
 unfold rightE
 rw [if_neg (by rw [hk]; simp)]
 by_cases h1 : formP q
 ·
  rw [if_neg (by simp [h1])]
  by_cases h2 : (numB q.loc && numB q.wat && numB q.sub && numB q.cnt) = false
  ·
   rw [if_pos h2]
  ·
   rw [if_neg h2]
   rcases h with h | h | h
   ·
    exact absurd h1 h
   ·
    exact absurd h h2
   ·
    rw [if_pos h]
 ·
  rw [if_pos h1]
theorem rightE_0 {q : Rq} (hk : knownB q.fn = true) (h1 : formP q) (h2 : (numB q.loc && numB q.wat && numB q.sub && numB q.cnt) = true) (h3 : listB q = true) : rightE q = 0 := by
 unfold rightE
 rw [if_neg (by rw [hk]; simp), if_neg (by simp [h1]), if_neg (by rw [h2]; simp), if_neg (by rw [h3]; simp)]
set_option maxHeartbeats 1600000 in
theorem right_pdu (v : Value) (q : Rq) (w : World) (h : IsRq w v q) :
  Calls Try.prog 62 #[v] w fun e w' => e = .returned (.int .i64 (rightE q)) ∧ Below w.heap.size w w' := by
 obtain ⟨ab, capb, av, capv, rfl, -, -⟩ := h.slices
 have W0 := fun o => (Below.refl w.heap.size w).alloc (Nat.le_refl _) o
 have HQ := fun o => h.below (W0 o)
 have HW := hidden W0
 have HI3 : ∀ {w3 : World}, Below w.heap.size w w3 → IsRq w3 _ q := fun hb => h.below hb
 have HH := hidden HQ
 have HF := hidden (others_form q)
 have HE := hidden (@rightE_12 q)
 have H0 := hidden (@rightE_0 q)
 have Hq : Hid (∃ q' : Rq, q' = q) := ⟨q, rfl⟩
 clear h W0 HQ
 obtain ⟨f, a, c, p, s, bs, vs, m, o⟩ := q
 simp only at HE H0 HF HH ⊢
 cases hk : knownB f
 ·
  have e : rightE ⟨f, a, c, p, s, bs, vs, m, o⟩ = 15 := by simp [rightE, hk]
  rw [e]
  have KK := hidden hk
  clear hk e
  go_enter Try.func62, Try.ntmps62
  go_wp2_with (go_at_call 78; refine (known_pdu f _).mono ?_; rintro e w1 ⟨rfl, rfl⟩; rw [KK.out])
  go_ret
  exact ⟨rfl, HW.out _⟩
 ·
  have KK := hidden hk
  clear hk
  go_enter Try.func62, Try.ntmps62
  go_wp2_with (go_at_call 78; refine (known_pdu f _).mono ?_; rintro e w1 ⟨rfl, rfl⟩; rw [KK.out])
  refine (others_pdu _ _ _ (HH.out _) KK.out).mono ?_
  rintro e w2 ⟨v2, rfl, hv2, B2⟩
  have X := (Blk.new w 26 [.int .i64 f, .int .i64 a, .int .i64 c, .int .i64 p, .int .i64 s, .slice ab bs.length capb, .slice av vs.length capv, wV m, wV o]).below B2 (by simp)
  replace B2 := below_then (HW.out _) B2
  go_wp2_with fail
  refine (same_pdu _ _ _ _ _ hv2 (zero_is _)).mono ?_
  rintro e w3 ⟨rfl, B3⟩
  replace X := X.below B3 X.lt
  replace B3 := below_then B2 B3
  clear B2 hv2
  have c0 := X.cell 0
  have c1 := X.cell 1
  have c2 := X.cell 2
  have c3 := X.cell 3
  have c4 := X.cell 4
  have c5 := X.cell 5
  have c6 := X.cell 6
  have c7 := X.cell 7
  have c8 := X.cell 8
  simp at c0 c1 c2 c3 c4 c5 c6 c7 c8
  by_cases hf : othersQ ⟨f, a, c, p, s, bs, vs, m, o⟩ = zeroQ
  ·
   have F1 := hidden (show decide (othersQ ⟨f, a, c, p, s, bs, vs, m, o⟩ = zeroQ) = true by simpa using hf)
   have G1 := hidden ((HF.out KK.out).1 hf)
   clear hf
   rw [F1.out]
   cases ha : numB a
   ·
    have L := hidden (HE.out KK.out (.inr (.inl (by rw [ha]; simp))))
    have Na := hidden ha
    clear ha
    go_wp2_with (go_at_call 81; refine (number_pdu _ _).mono ?_; rintro e w4 ⟨rfl, rfl⟩; first | rw [Na.out])
    go_ret
    exact ⟨ret_int L.out.symm, B3⟩
   ·
    have Na := hidden ha
    clear ha
    cases hp : numB p
    ·
     have L := hidden (HE.out KK.out (.inr (.inl (by rw [hp]; simp))))
     have Np := hidden hp
     clear hp
     go_wp2_with (go_at_call 81; refine (number_pdu _ _).mono ?_; rintro e w4 ⟨rfl, rfl⟩; first | rw [Na.out] | rw [Np.out])
     go_ret
     exact ⟨ret_int L.out.symm, B3⟩
    ·
     have Np := hidden hp
     clear hp
     cases hs : numB s
     ·
      have L := hidden (HE.out KK.out (.inr (.inl (by rw [hs]; simp))))
      have Ns := hidden hs
      clear hs
      go_wp2_with (go_at_call 81; refine (number_pdu _ _).mono ?_; rintro e w4 ⟨rfl, rfl⟩; first | rw [Na.out] | rw [Np.out] | rw [Ns.out])
      go_ret
      exact ⟨ret_int L.out.symm, B3⟩
     ·
      have Ns := hidden hs
      clear hs
      cases hc : numB c
      ·
       have L := hidden (HE.out KK.out (.inr (.inl (by rw [hc]; simp))))
       have Nc := hidden hc
       clear hc
       go_wp2_with (go_at_call 81; refine (number_pdu _ _).mono ?_; rintro e w4 ⟨rfl, rfl⟩; first | rw [Na.out] | rw [Np.out] | rw [Ns.out] | rw [Nc.out])
       go_ret
       exact ⟨ret_int L.out.symm, B3⟩
      ·
       have Nc := hidden hc
       clear hc
       have E2 := hidden (show (numB a && numB p && numB s && numB c) = true by rw [Na.out, Np.out, Ns.out, Nc.out]; rfl)
       go_wp2_with (go_at_call 81; refine (number_pdu _ _).mono ?_; rintro e w4 ⟨rfl, rfl⟩; first | rw [Na.out] | rw [Np.out] | rw [Ns.out] | rw [Nc.out])
       refine (listed_pdu _ ⟨f, a, c, p, s, bs, vs, m, o⟩ _ (HI3 B3) KK.out).mono ?_
       rintro e w5 ⟨rfl, B5⟩
       cases hl : listB ⟨f, a, c, p, s, bs, vs, m, o⟩
       ·
        have L := hidden (HE.out KK.out (.inr (.inr hl)))
        clear hl
        go_wp2
        go_ret
        exact ⟨ret_int L.out.symm, below_then B3 B5⟩
       ·
        have L := hidden (H0.out KK.out G1.out E2.out hl)
        clear hl
        go_wp2
        go_ret
        exact ⟨ret_int L.out.symm, below_then B3 B5⟩
  ·
   have F1 := hidden (show decide (othersQ ⟨f, a, c, p, s, bs, vs, m, o⟩ = zeroQ) = false by simpa using hf)
   have L := hidden (HE.out KK.out (.inl (fun h => hf ((HF.out KK.out).2 h))))
   clear hf
   rw [F1.out]
   go_wp2
   go_ret
   exact ⟨ret_int L.out.symm, B3⟩
end Go.Proofs.Ytbajlhpmmmhkoaa
