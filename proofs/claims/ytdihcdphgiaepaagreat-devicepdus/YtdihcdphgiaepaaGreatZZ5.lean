/- Contracts of slices.Grow (of nothing) and slices.Concat, of bytes. -/
import Derived.Test.YtdihcdphgiaepaaGreatZZ4
import Derived.Lib.AppendZeros
import Derived.Test.YtdihcdphgiaepaaGreatZZ2
namespace Go.Proofs.YtdihcdphgiaepaaGreat
open Go.RowKit
set_option maxHeartbeats 1000000 in
theorem listed_pdu (v : Value) (q : Rq) (w : World) (h : IsRq w v q) (hk : knownB q.fn = true) :
  Calls Tryz.prog 89 #[v] w fun e w' => e = .returned (.bool (listB q)) ∧ Below w.heap.size w w' := by
 obtain ⟨f, a, c, p, s, bs, vs, m, o⟩ := q;obtain ⟨vb, vv, rfl, hb, hv⟩ := h;obtain ⟨ab, capb, rfl, hc1, hc2, -⟩ := id hb;obtain ⟨av, capv, rfl, hd1, hd2, -⟩ := id hv;simp only [List.length_map] at hb hv hk hc1 hd1 ⊢;clear hb hv;unfold maxLen at hc2 hd2;have B : Hid (∀ o, Below w.heap.size w (w.alloc o)) := fun o => (Below.refl _ _).alloc (Nat.le_refl _) o;have R : Hid (listB ⟨f, a, c, p, s, bs, vs, m, o⟩ = listB ⟨f, a, c, p, s, bs, vs, m, o⟩) := rfl;rcases known_cases hk with rfl | rfl | rfl | rfl | rfl | rfl | rfl | rfl | rfl | rfl | rfl | rfl
 case inr.inr.inr.inr.inr.inr.inr.inl =>
  by_cases h1 : (bs.length : Int) = c
  ·
   by_cases h2 : (bs.length : Int) ≤ 2040
   ·
    have e : listB ⟨15, a, c, p, s, bs, vs, m, o⟩ = true := by simp [listB]; omega
    rw [e];have t1 : ((bs.length : Int) == c) = true := by simpa using h1
    clear hk R e h1;go_enter Tryz.func89, Tryz.ntmps89;go_wp2;go_ret;exact ⟨rfl, B.out _⟩
   ·
    have e : listB ⟨15, a, c, p, s, bs, vs, m, o⟩ = false := by simp [listB]; omega
    rw [e];have t1 : ((bs.length : Int) == c) = true := by simpa using h1
    clear hk R e h1;go_enter Tryz.func89, Tryz.ntmps89;go_wp2;go_ret;exact ⟨rfl, B.out _⟩
  ·
   have e : listB ⟨15, a, c, p, s, bs, vs, m, o⟩ = false := by simp [listB]; omega
   rw [e];have t1 : ((bs.length : Int) == c) = false := by simpa using h1
   clear hk R e h1;go_enter Tryz.func89, Tryz.ntmps89;go_wp2;go_ret;exact ⟨rfl, B.out _⟩
 case inr.inr.inr.inr.inr.inr.inr.inr.inl =>
  by_cases h1 : (vs.length : Int) = c
  ·
   by_cases h2 : (vs.length : Int) ≤ 127
   ·
    have e : listB ⟨16, a, c, p, s, bs, vs, m, o⟩ = true := by simp [listB]; omega
    rw [e];have t1 : ((vs.length : Int) == c) = true := by simpa using h1
    clear hk R e h1;go_enter Tryz.func89, Tryz.ntmps89;go_wp2;go_ret;exact ⟨rfl, B.out _⟩
   ·
    have e : listB ⟨16, a, c, p, s, bs, vs, m, o⟩ = false := by simp [listB]; omega
    rw [e];have t1 : ((vs.length : Int) == c) = true := by simpa using h1
    clear hk R e h1;go_enter Tryz.func89, Tryz.ntmps89;go_wp2;go_ret;exact ⟨rfl, B.out _⟩
  ·
   have e : listB ⟨16, a, c, p, s, bs, vs, m, o⟩ = false := by simp [listB]; omega
   rw [e];have t1 : ((vs.length : Int) == c) = false := by simpa using h1
   clear hk R e h1;go_enter Tryz.func89, Tryz.ntmps89;go_wp2;go_ret;exact ⟨rfl, B.out _⟩
 all_goals
  clear hk;go_enter Tryz.func89, Tryz.ntmps89;go_wp2;go_ret;refine ⟨ret_bool ?_, B.out _⟩;rw [Bool.eq_iff_iff];simp [listB];try omega
def othersQ (q : Rq) : Rq :=
 if q.fn = 1 ∨ q.fn = 2 ∨ q.fn = 3 ∨ q.fn = 4 then ⟨0, 0, 0, q.wat, q.sub, q.bits, q.vals, q.land, q.lor⟩
 else if q.fn = 5 then ⟨0, 0, q.cnt, q.wat, q.sub, [], q.vals, q.land, q.lor⟩
 else if q.fn = 6 then ⟨0, 0, q.cnt, q.wat, q.sub, q.bits, [], q.land, q.lor⟩
 else if q.fn = 8 then ⟨0, q.loc, q.cnt, q.wat, 0, q.bits, [], q.land, q.lor⟩
 else if q.fn = 15 then ⟨0, 0, 0, q.wat, q.sub, [], q.vals, q.land, q.lor⟩
 else if q.fn = 16 then ⟨0, 0, 0, q.wat, q.sub, q.bits, [], q.land, q.lor⟩
 else if q.fn = 22 then ⟨0, 0, q.cnt, q.wat, q.sub, q.bits, q.vals, 0, 0⟩
 else if q.fn = 23 then ⟨0, 0, 0, 0, q.sub, q.bits, [], q.land, q.lor⟩
 else ⟨0, q.loc, q.cnt, q.wat, q.sub, q.bits, q.vals, q.land, q.lor⟩
theorem others_form (q : Rq) (hk : knownB q.fn = true) : othersQ q = zeroQ ↔ formP q := by
 obtain ⟨f, a, c, p, s, bs, vs, m, o⟩ := q;simp only at hk;rcases known_cases hk with rfl | rfl | rfl | rfl | rfl | rfl | rfl | rfl | rfl | rfl | rfl | rfl <;> simp [othersQ, zeroQ, formP]
set_option maxHeartbeats 1000000 in
theorem others_pdu (v : Value) (q : Rq) (w : World) (h : IsRq w v q) (hk : knownB q.fn = true) :
  Calls Tryz.prog 87 #[v] w fun e w' => ∃ v', e = .returned v' ∧ IsRq w' v' (othersQ q) ∧ Below w.heap.size w w' := by
 obtain ⟨f, a, c, p, s, bs, vs, m, o⟩ := q;obtain ⟨vb, vv, rfl, hb, hv⟩ := h;obtain ⟨ab, capb, rfl, -⟩ := id hb;obtain ⟨av, capv, rfl, -⟩ := id hv;simp only at hb hv hk ⊢;rcases known_cases hk with rfl | rfl | rfl | rfl | rfl | rfl | rfl | rfl | rfl | rfl | rfl | rfl
 all_goals
  clear hk;go_enter Tryz.func87, Tryz.ntmps87;go_wp2
 all_goals
  refine bodyPost_ret (v := _) (by simp [results, Tryz.results87, go_sem]; exact rfl) rfl ?_;have hB := fun o1 o2 => ((Below.refl w.heap.size w).alloc (Nat.le_refl _) o1).alloc (by simp) o2;refine ⟨_, rfl, ?_, hB _ _⟩;simp only [List.length_map] at hb hv;simp [othersQ];refine ⟨_, _, rfl, ?_, ?_⟩
  ·
   first | exact Row.nil _ | exact hb.below (hB _ _)
  ·
   first | exact Row.nil _ | exact hv.below (hB _ _)
theorem u16_beq (x y : UInt16) : ((x.toNat : Int) == (y.toNat : Int)) = decide (x = y) := by
 rw [Bool.eq_iff_iff]; simp; constructor
 ·
  intro h; exact UInt16.toNat_inj.1 (by omega)
 ·
  intro h; rw [h]
set_option maxHeartbeats 1600000 in
theorem same_pdu (va vb : Value) (q r : Rq) (w : World) (hq : IsRq w va q) (hr : IsRq w vb r) :
  Calls Tryz.prog 86 #[va, vb] w fun e w' => e = .returned (.bool (decide (q = r))) ∧ Below w.heap.size w w' := by
 obtain ⟨f, a, c, p, s, bs, vs, m, o⟩ := q;obtain ⟨f2, a2, c2, p2, s2, bs2, vs2, m2, o2⟩ := r;obtain ⟨vb, vv, rfl, hb, hv⟩ := hq;obtain ⟨vb2, vv2, rfl, hb2, hv2⟩ := hr;obtain ⟨ab, capb, rfl, -⟩ := id hb;obtain ⟨av, capv, rfl, -⟩ := id hv;obtain ⟨ab2, capb2, rfl, -⟩ := id hb2;obtain ⟨av2, capv2, rfl, -⟩ := id hv2;simp only [List.length_map] at hb hv hb2 hv2 ⊢;rw [show (decide ((⟨f, a, c, p, s, bs, vs, m, o⟩ : Rq) = ⟨f2, a2, c2, p2, s2, bs2, vs2, m2, o2⟩)) = decide (f = f2 ∧ a = a2 ∧ c = c2 ∧ p = p2 ∧ s = s2 ∧ bs = bs2 ∧ vs = vs2 ∧ m = m2 ∧ o = o2) by simp];by_cases hfn : f = f2
 ·
  have tfn : (f == f2) = true := by simpa using hfn
  by_cases hloc : a = a2
  ·
   have tloc : (a == a2) = true := by simpa using hloc
   by_cases hcnt : c = c2
   ·
    have tcnt : (c == c2) = true := by simpa using hcnt
    by_cases hwat : p = p2
    ·
     have twat : (p == p2) = true := by simpa using hwat
     by_cases hsub : s = s2
     ·
      have tsub : (s == s2) = true := by simpa using hsub
      by_cases hbits : bs = bs2
      ·
       have tbits : (bs == bs2) = true := by simpa using hbits
       by_cases hvals : vs = vs2
       ·
        have tvals : (vs == vs2) = true := by simpa using hvals
        by_cases hland : m = m2
        ·
         have tland : ((m.toNat : Int) == (m2.toNat : Int)) = true := by rw [u16_beq]; simpa using hland
         by_cases hlor : o = o2
         ·
          have tlor : ((o.toNat : Int) == (o2.toNat : Int)) = true := by rw [u16_beq]; simpa using hlor
          have e : decide (f = f2 ∧ a = a2 ∧ c = c2 ∧ p = p2 ∧ s = s2 ∧ bs = bs2 ∧ vs = vs2 ∧ m = m2 ∧ o = o2) = true := by simp [hfn, hloc, hcnt, hwat, hsub, hbits, hvals, hland, hlor]
          rw [e];clear e hfn hloc hcnt hwat hsub hbits hvals hland hlor;go_enter Tryz.func86, Tryz.ntmps86;go_wp2_with fail
          have G0 := ((Below.refl w.heap.size w).alloc (Nat.le_refl _) (.cells #[.int .i64 f, .int .i64 a, .int .i64 c, .int .i64 p, .int .i64 s, .slice ab bs.length capb, .slice av vs.length capv, wV m, wV o] 33)).alloc (by simp) (.cells #[.int .i64 f2, .int .i64 a2, .int .i64 c2, .int .i64 p2, .int .i64 s2, .slice ab2 bs2.length capb2, .slice av2 vs2.length capv2, wV m2, wV o2] 33);have X1 := (Blk.new w 33 [.int .i64 f, .int .i64 a, .int .i64 c, .int .i64 p, .int .i64 s, .slice ab bs.length capb, .slice av vs.length capv, wV m, wV o]).alloc (.cells #[.int .i64 f2, .int .i64 a2, .int .i64 c2, .int .i64 p2, .int .i64 s2, .slice ab2 bs2.length capb2, .slice av2 vs2.length capv2, wV m2, wV o2] 33);have X2 := Blk.new (w.alloc (.cells #[.int .i64 f, .int .i64 a, .int .i64 c, .int .i64 p, .int .i64 s, .slice ab bs.length capb, .slice av vs.length capv, wV m, wV o] 33)) 33 [.int .i64 f2, .int .i64 a2, .int .i64 c2, .int .i64 p2, .int .i64 s2, .slice ab2 bs2.length capb2, .slice av2 vs2.length capv2, wV m2, wV o2];refine (eq_bool _ _ _ _ _ (hb.below G0) (hb2.below G0)).mono ?_;rintro e w1 ⟨rfl, B0⟩;rw [tbits];replace X1 := X1.below B0 X1.lt;replace X2 := X2.below B0 X2.lt;try simp only [World.size_alloc] at X2
          have c06 := X1.cell 6;have d06 := X2.cell 6;simp at c06 d06;have c07 := X1.cell 7;have d07 := X2.cell 7;simp at c07 d07;have c08 := X1.cell 8;have d08 := X2.cell 8;simp at c08 d08;go_wp2_with fail
          have G1 := below_then G0 B0;refine (eq_u16 _ _ _ _ _ (hv.below G1) (hv2.below G1)).mono ?_;rintro e w2 ⟨rfl, B1⟩;rw [tvals];replace X1 := X1.below B1 X1.lt;replace X2 := X2.below B1 X2.lt;try simp only [World.size_alloc] at X2
          have c17 := X1.cell 7;have d17 := X2.cell 7;simp at c17 d17;have c18 := X1.cell 8;have d18 := X2.cell 8;simp at c18 d18;go_wp2;go_ret;exact ⟨rfl, below_then G1 B1⟩
         ·
          have tlor : ((o.toNat : Int) == (o2.toNat : Int)) = false := by rw [u16_beq]; simpa using hlor
          have e : decide (f = f2 ∧ a = a2 ∧ c = c2 ∧ p = p2 ∧ s = s2 ∧ bs = bs2 ∧ vs = vs2 ∧ m = m2 ∧ o = o2) = false := by simp [hlor]
          rw [e];clear e hfn hloc hcnt hwat hsub hbits hvals hland hlor;go_enter Tryz.func86, Tryz.ntmps86;go_wp2_with fail
          have G0 := ((Below.refl w.heap.size w).alloc (Nat.le_refl _) (.cells #[.int .i64 f, .int .i64 a, .int .i64 c, .int .i64 p, .int .i64 s, .slice ab bs.length capb, .slice av vs.length capv, wV m, wV o] 33)).alloc (by simp) (.cells #[.int .i64 f2, .int .i64 a2, .int .i64 c2, .int .i64 p2, .int .i64 s2, .slice ab2 bs2.length capb2, .slice av2 vs2.length capv2, wV m2, wV o2] 33);have X1 := (Blk.new w 33 [.int .i64 f, .int .i64 a, .int .i64 c, .int .i64 p, .int .i64 s, .slice ab bs.length capb, .slice av vs.length capv, wV m, wV o]).alloc (.cells #[.int .i64 f2, .int .i64 a2, .int .i64 c2, .int .i64 p2, .int .i64 s2, .slice ab2 bs2.length capb2, .slice av2 vs2.length capv2, wV m2, wV o2] 33);have X2 := Blk.new (w.alloc (.cells #[.int .i64 f, .int .i64 a, .int .i64 c, .int .i64 p, .int .i64 s, .slice ab bs.length capb, .slice av vs.length capv, wV m, wV o] 33)) 33 [.int .i64 f2, .int .i64 a2, .int .i64 c2, .int .i64 p2, .int .i64 s2, .slice ab2 bs2.length capb2, .slice av2 vs2.length capv2, wV m2, wV o2];refine (eq_bool _ _ _ _ _ (hb.below G0) (hb2.below G0)).mono ?_;rintro e w1 ⟨rfl, B0⟩;rw [tbits];replace X1 := X1.below B0 X1.lt;replace X2 := X2.below B0 X2.lt;try simp only [World.size_alloc] at X2
          have c06 := X1.cell 6;have d06 := X2.cell 6;simp at c06 d06;have c07 := X1.cell 7;have d07 := X2.cell 7;simp at c07 d07;have c08 := X1.cell 8;have d08 := X2.cell 8;simp at c08 d08;go_wp2_with fail
          have G1 := below_then G0 B0;refine (eq_u16 _ _ _ _ _ (hv.below G1) (hv2.below G1)).mono ?_;rintro e w2 ⟨rfl, B1⟩;rw [tvals];replace X1 := X1.below B1 X1.lt;replace X2 := X2.below B1 X2.lt;try simp only [World.size_alloc] at X2
          have c17 := X1.cell 7;have d17 := X2.cell 7;simp at c17 d17;have c18 := X1.cell 8;have d18 := X2.cell 8;simp at c18 d18;go_wp2;go_ret;exact ⟨rfl, below_then G1 B1⟩
        ·
         have tland : ((m.toNat : Int) == (m2.toNat : Int)) = false := by rw [u16_beq]; simpa using hland
         have e : decide (f = f2 ∧ a = a2 ∧ c = c2 ∧ p = p2 ∧ s = s2 ∧ bs = bs2 ∧ vs = vs2 ∧ m = m2 ∧ o = o2) = false := by simp [hland]
         rw [e];clear e hfn hloc hcnt hwat hsub hbits hvals hland;go_enter Tryz.func86, Tryz.ntmps86;go_wp2_with fail
         have G0 := ((Below.refl w.heap.size w).alloc (Nat.le_refl _) (.cells #[.int .i64 f, .int .i64 a, .int .i64 c, .int .i64 p, .int .i64 s, .slice ab bs.length capb, .slice av vs.length capv, wV m, wV o] 33)).alloc (by simp) (.cells #[.int .i64 f2, .int .i64 a2, .int .i64 c2, .int .i64 p2, .int .i64 s2, .slice ab2 bs2.length capb2, .slice av2 vs2.length capv2, wV m2, wV o2] 33);have X1 := (Blk.new w 33 [.int .i64 f, .int .i64 a, .int .i64 c, .int .i64 p, .int .i64 s, .slice ab bs.length capb, .slice av vs.length capv, wV m, wV o]).alloc (.cells #[.int .i64 f2, .int .i64 a2, .int .i64 c2, .int .i64 p2, .int .i64 s2, .slice ab2 bs2.length capb2, .slice av2 vs2.length capv2, wV m2, wV o2] 33);have X2 := Blk.new (w.alloc (.cells #[.int .i64 f, .int .i64 a, .int .i64 c, .int .i64 p, .int .i64 s, .slice ab bs.length capb, .slice av vs.length capv, wV m, wV o] 33)) 33 [.int .i64 f2, .int .i64 a2, .int .i64 c2, .int .i64 p2, .int .i64 s2, .slice ab2 bs2.length capb2, .slice av2 vs2.length capv2, wV m2, wV o2];refine (eq_bool _ _ _ _ _ (hb.below G0) (hb2.below G0)).mono ?_;rintro e w1 ⟨rfl, B0⟩;rw [tbits];replace X1 := X1.below B0 X1.lt;replace X2 := X2.below B0 X2.lt;try simp only [World.size_alloc] at X2
         have c06 := X1.cell 6;have d06 := X2.cell 6;simp at c06 d06;have c07 := X1.cell 7;have d07 := X2.cell 7;simp at c07 d07;have c08 := X1.cell 8;have d08 := X2.cell 8;simp at c08 d08;go_wp2_with fail
         have G1 := below_then G0 B0;refine (eq_u16 _ _ _ _ _ (hv.below G1) (hv2.below G1)).mono ?_;rintro e w2 ⟨rfl, B1⟩;rw [tvals];replace X1 := X1.below B1 X1.lt;replace X2 := X2.below B1 X2.lt;try simp only [World.size_alloc] at X2
         have c17 := X1.cell 7;have d17 := X2.cell 7;simp at c17 d17;have c18 := X1.cell 8;have d18 := X2.cell 8;simp at c18 d18;go_wp2;go_ret;exact ⟨rfl, below_then G1 B1⟩
       ·
        have tvals : (vs == vs2) = false := by simpa using hvals
        have e : decide (f = f2 ∧ a = a2 ∧ c = c2 ∧ p = p2 ∧ s = s2 ∧ bs = bs2 ∧ vs = vs2 ∧ m = m2 ∧ o = o2) = false := by simp [hvals]
        rw [e];clear e hfn hloc hcnt hwat hsub hbits hvals;go_enter Tryz.func86, Tryz.ntmps86;go_wp2_with fail
        have G0 := ((Below.refl w.heap.size w).alloc (Nat.le_refl _) (.cells #[.int .i64 f, .int .i64 a, .int .i64 c, .int .i64 p, .int .i64 s, .slice ab bs.length capb, .slice av vs.length capv, wV m, wV o] 33)).alloc (by simp) (.cells #[.int .i64 f2, .int .i64 a2, .int .i64 c2, .int .i64 p2, .int .i64 s2, .slice ab2 bs2.length capb2, .slice av2 vs2.length capv2, wV m2, wV o2] 33);have X1 := (Blk.new w 33 [.int .i64 f, .int .i64 a, .int .i64 c, .int .i64 p, .int .i64 s, .slice ab bs.length capb, .slice av vs.length capv, wV m, wV o]).alloc (.cells #[.int .i64 f2, .int .i64 a2, .int .i64 c2, .int .i64 p2, .int .i64 s2, .slice ab2 bs2.length capb2, .slice av2 vs2.length capv2, wV m2, wV o2] 33);have X2 := Blk.new (w.alloc (.cells #[.int .i64 f, .int .i64 a, .int .i64 c, .int .i64 p, .int .i64 s, .slice ab bs.length capb, .slice av vs.length capv, wV m, wV o] 33)) 33 [.int .i64 f2, .int .i64 a2, .int .i64 c2, .int .i64 p2, .int .i64 s2, .slice ab2 bs2.length capb2, .slice av2 vs2.length capv2, wV m2, wV o2];refine (eq_bool _ _ _ _ _ (hb.below G0) (hb2.below G0)).mono ?_;rintro e w1 ⟨rfl, B0⟩;rw [tbits];replace X1 := X1.below B0 X1.lt;replace X2 := X2.below B0 X2.lt;try simp only [World.size_alloc] at X2
        have c06 := X1.cell 6;have d06 := X2.cell 6;simp at c06 d06;have c07 := X1.cell 7;have d07 := X2.cell 7;simp at c07 d07;have c08 := X1.cell 8;have d08 := X2.cell 8;simp at c08 d08;go_wp2_with fail
        have G1 := below_then G0 B0;refine (eq_u16 _ _ _ _ _ (hv.below G1) (hv2.below G1)).mono ?_;rintro e w2 ⟨rfl, B1⟩;rw [tvals];replace X1 := X1.below B1 X1.lt;replace X2 := X2.below B1 X2.lt;try simp only [World.size_alloc] at X2
        have c17 := X1.cell 7;have d17 := X2.cell 7;simp at c17 d17;have c18 := X1.cell 8;have d18 := X2.cell 8;simp at c18 d18;go_wp2;go_ret;exact ⟨rfl, below_then G1 B1⟩
      ·
       have tbits : (bs == bs2) = false := by simpa using hbits
       have e : decide (f = f2 ∧ a = a2 ∧ c = c2 ∧ p = p2 ∧ s = s2 ∧ bs = bs2 ∧ vs = vs2 ∧ m = m2 ∧ o = o2) = false := by simp [hbits]
       rw [e];clear e hfn hloc hcnt hwat hsub hbits;go_enter Tryz.func86, Tryz.ntmps86;go_wp2_with fail
       have G0 := ((Below.refl w.heap.size w).alloc (Nat.le_refl _) (.cells #[.int .i64 f, .int .i64 a, .int .i64 c, .int .i64 p, .int .i64 s, .slice ab bs.length capb, .slice av vs.length capv, wV m, wV o] 33)).alloc (by simp) (.cells #[.int .i64 f2, .int .i64 a2, .int .i64 c2, .int .i64 p2, .int .i64 s2, .slice ab2 bs2.length capb2, .slice av2 vs2.length capv2, wV m2, wV o2] 33);have X1 := (Blk.new w 33 [.int .i64 f, .int .i64 a, .int .i64 c, .int .i64 p, .int .i64 s, .slice ab bs.length capb, .slice av vs.length capv, wV m, wV o]).alloc (.cells #[.int .i64 f2, .int .i64 a2, .int .i64 c2, .int .i64 p2, .int .i64 s2, .slice ab2 bs2.length capb2, .slice av2 vs2.length capv2, wV m2, wV o2] 33);have X2 := Blk.new (w.alloc (.cells #[.int .i64 f, .int .i64 a, .int .i64 c, .int .i64 p, .int .i64 s, .slice ab bs.length capb, .slice av vs.length capv, wV m, wV o] 33)) 33 [.int .i64 f2, .int .i64 a2, .int .i64 c2, .int .i64 p2, .int .i64 s2, .slice ab2 bs2.length capb2, .slice av2 vs2.length capv2, wV m2, wV o2];refine (eq_bool _ _ _ _ _ (hb.below G0) (hb2.below G0)).mono ?_;rintro e w1 ⟨rfl, B0⟩;rw [tbits];replace X1 := X1.below B0 X1.lt;replace X2 := X2.below B0 X2.lt;try simp only [World.size_alloc] at X2
       have c06 := X1.cell 6;have d06 := X2.cell 6;simp at c06 d06;have c07 := X1.cell 7;have d07 := X2.cell 7;simp at c07 d07;have c08 := X1.cell 8;have d08 := X2.cell 8;simp at c08 d08;go_wp2;go_ret;exact ⟨rfl, below_then G0 B0⟩
     ·
      have tsub : (s == s2) = false := by simpa using hsub
      have e : decide (f = f2 ∧ a = a2 ∧ c = c2 ∧ p = p2 ∧ s = s2 ∧ bs = bs2 ∧ vs = vs2 ∧ m = m2 ∧ o = o2) = false := by simp [hsub]
      rw [e];clear e hfn hloc hcnt hwat hsub;go_enter Tryz.func86, Tryz.ntmps86;go_wp2_with fail
      go_ret;exact ⟨rfl, ((Below.refl w.heap.size w).alloc (Nat.le_refl _) _).alloc (by simp) _⟩
    ·
     have twat : (p == p2) = false := by simpa using hwat
     have e : decide (f = f2 ∧ a = a2 ∧ c = c2 ∧ p = p2 ∧ s = s2 ∧ bs = bs2 ∧ vs = vs2 ∧ m = m2 ∧ o = o2) = false := by simp [hwat]
     rw [e];clear e hfn hloc hcnt hwat;go_enter Tryz.func86, Tryz.ntmps86;go_wp2_with fail
     go_ret;exact ⟨rfl, ((Below.refl w.heap.size w).alloc (Nat.le_refl _) _).alloc (by simp) _⟩
   ·
    have tcnt : (c == c2) = false := by simpa using hcnt
    have e : decide (f = f2 ∧ a = a2 ∧ c = c2 ∧ p = p2 ∧ s = s2 ∧ bs = bs2 ∧ vs = vs2 ∧ m = m2 ∧ o = o2) = false := by simp [hcnt]
    rw [e];clear e hfn hloc hcnt;go_enter Tryz.func86, Tryz.ntmps86;go_wp2_with fail
    go_ret;exact ⟨rfl, ((Below.refl w.heap.size w).alloc (Nat.le_refl _) _).alloc (by simp) _⟩
  ·
   have tloc : (a == a2) = false := by simpa using hloc
   have e : decide (f = f2 ∧ a = a2 ∧ c = c2 ∧ p = p2 ∧ s = s2 ∧ bs = bs2 ∧ vs = vs2 ∧ m = m2 ∧ o = o2) = false := by simp [hloc]
   rw [e];clear e hfn hloc;go_enter Tryz.func86, Tryz.ntmps86;go_wp2_with fail
   go_ret;exact ⟨rfl, ((Below.refl w.heap.size w).alloc (Nat.le_refl _) _).alloc (by simp) _⟩
 ·
  have tfn : (f == f2) = false := by simpa using hfn
  have e : decide (f = f2 ∧ a = a2 ∧ c = c2 ∧ p = p2 ∧ s = s2 ∧ bs = bs2 ∧ vs = vs2 ∧ m = m2 ∧ o = o2) = false := by simp [hfn]
  rw [e];clear e hfn;go_enter Tryz.func86, Tryz.ntmps86;go_wp2_with fail
  go_ret;exact ⟨rfl, ((Below.refl w.heap.size w).alloc (Nat.le_refl _) _).alloc (by simp) _⟩
theorem zero_is (w : World) : IsRq w (rqV 0 0 0 0 0 (.slice none 0 0) (.slice none 0 0) 0 0) zeroQ := ⟨_, _, rfl, Row.nil w, Row.nil w⟩
theorem IsRq.slices {w : World} {v : Value} {q : Rq} (h : IsRq w v q) : ∃ ab capb av capv, v = rqV q.fn q.loc q.cnt q.wat q.sub (.slice ab q.bits.length capb) (.slice av q.vals.length capv) q.land q.lor ∧ q.bits.length ≤ 9223372036854775807 ∧ q.vals.length ≤ 9223372036854775807 := by
 obtain ⟨vb, vv, rfl, hb, hv⟩ := h;obtain ⟨ab, capb, rfl, h1, h2, -⟩ := hb;obtain ⟨av, capv, rfl, h3, h4, -⟩ := hv;simp only [List.length_map] at h1 h3 ⊢;unfold maxLen at h2 h4;exact ⟨ab, capb, av, capv, rfl, by omega, by omega⟩
theorem rightE_12 {q : Rq} (hk : knownB q.fn = true) (h : ¬ formP q ∨ (numB q.loc && numB q.wat && numB q.sub && numB q.cnt) = false ∨ listB q = false) : rightE q = 12 := by
 unfold rightE;rw [if_neg (by rw [hk]; simp)];by_cases h1 : formP q
 ·
  rw [if_neg (by simp [h1])];by_cases h2 : (numB q.loc && numB q.wat && numB q.sub && numB q.cnt) = false
  ·
   rw [if_pos h2]
  ·
   rw [if_neg h2];rcases h with h | h | h
   ·
    exact absurd h1 h
   ·
    exact absurd h h2
   ·
    rw [if_pos h]
 ·
  rw [if_pos h1]
theorem rightE_0 {q : Rq} (hk : knownB q.fn = true) (h1 : formP q) (h2 : (numB q.loc && numB q.wat && numB q.sub && numB q.cnt) = true) (h3 : listB q = true) : rightE q = 0 := by
 unfold rightE;rw [if_neg (by rw [hk]; simp), if_neg (by simp [h1]), if_neg (by rw [h2]; simp), if_neg (by rw [h3]; simp)]
set_option maxHeartbeats 1600000 in
theorem right_pdu (v : Value) (q : Rq) (w : World) (h : IsRq w v q) :
  Calls Tryz.prog 45 #[v] w fun e w' => e = .returned (.int .i64 (rightE q)) ∧ Below w.heap.size w w' := by
 obtain ⟨ab, capb, av, capv, rfl, -, -⟩ := h.slices;have W0 := fun o => (Below.refl w.heap.size w).alloc (Nat.le_refl _) o;have HQ := fun o => h.below (W0 o);have HW := hidden W0;have HI3 : ∀ {w3 : World}, Below w.heap.size w w3 → IsRq w3 _ q := fun hb => h.below hb;have HH := hidden HQ;have HF := hidden (others_form q);have HE := hidden (@rightE_12 q);have H0 := hidden (@rightE_0 q);have Hq : Hid (∃ q' : Rq, q' = q) := ⟨q, rfl⟩;clear h W0 HQ;obtain ⟨f, a, c, p, s, bs, vs, m, o⟩ := q;simp only at HE H0 HF HH ⊢;cases hk : knownB f
 ·
  have e : rightE ⟨f, a, c, p, s, bs, vs, m, o⟩ = 15 := by simp [rightE, hk]
  rw [e];have KK := hidden hk;clear hk e;go_enter Tryz.func45, Tryz.ntmps45;go_wp2_with (go_at_call 75; refine (known_pdu f _).mono ?_; rintro e w1 ⟨rfl, rfl⟩; rw [KK.out])
  go_ret;exact ⟨rfl, HW.out _⟩
 ·
  have KK := hidden hk;clear hk;go_enter Tryz.func45, Tryz.ntmps45;go_wp2_with (go_at_call 75; refine (known_pdu f _).mono ?_; rintro e w1 ⟨rfl, rfl⟩; rw [KK.out])
  refine (others_pdu _ _ _ (HH.out _) KK.out).mono ?_;rintro e w2 ⟨v2, rfl, hv2, B2⟩;have X := (Blk.new w 33 [.int .i64 f, .int .i64 a, .int .i64 c, .int .i64 p, .int .i64 s, .slice ab bs.length capb, .slice av vs.length capv, wV m, wV o]).below B2 (by simp);replace B2 := below_then (HW.out _) B2;go_wp2_with fail
  refine (same_pdu _ _ _ _ _ hv2 (zero_is _)).mono ?_;rintro e w3 ⟨rfl, B3⟩;replace X := X.below B3 X.lt;replace B3 := below_then B2 B3;clear B2 hv2;have c0 := X.cell 0;have c1 := X.cell 1;have c2 := X.cell 2;have c3 := X.cell 3;have c4 := X.cell 4;have c5 := X.cell 5;have c6 := X.cell 6;have c7 := X.cell 7;have c8 := X.cell 8;simp at c0 c1 c2 c3 c4 c5 c6 c7 c8;by_cases hf : othersQ ⟨f, a, c, p, s, bs, vs, m, o⟩ = zeroQ
  ·
   have F1 := hidden (show decide (othersQ ⟨f, a, c, p, s, bs, vs, m, o⟩ = zeroQ) = true by simpa using hf);have G1 := hidden ((HF.out KK.out).1 hf);clear hf;rw [F1.out];cases ha : numB a
   ·
    have L := hidden (HE.out KK.out (.inr (.inl (by rw [ha]; simp))));have Na := hidden ha;clear ha;go_wp2_with (go_at_call 88; refine (number_pdu _ _).mono ?_; rintro e w4 ⟨rfl, rfl⟩; first | rw [Na.out])
    go_ret;exact ⟨ret_int L.out.symm, B3⟩
   ·
    have Na := hidden ha;clear ha;cases hp : numB p
    ·
     have L := hidden (HE.out KK.out (.inr (.inl (by rw [hp]; simp))));have Np := hidden hp;clear hp;go_wp2_with (go_at_call 88; refine (number_pdu _ _).mono ?_; rintro e w4 ⟨rfl, rfl⟩; first | rw [Na.out] | rw [Np.out])
     go_ret;exact ⟨ret_int L.out.symm, B3⟩
    ·
     have Np := hidden hp;clear hp;cases hs : numB s
     ·
      have L := hidden (HE.out KK.out (.inr (.inl (by rw [hs]; simp))));have Ns := hidden hs;clear hs;go_wp2_with (go_at_call 88; refine (number_pdu _ _).mono ?_; rintro e w4 ⟨rfl, rfl⟩; first | rw [Na.out] | rw [Np.out] | rw [Ns.out])
      go_ret;exact ⟨ret_int L.out.symm, B3⟩
     ·
      have Ns := hidden hs;clear hs;cases hc : numB c
      ·
       have L := hidden (HE.out KK.out (.inr (.inl (by rw [hc]; simp))));have Nc := hidden hc;clear hc;go_wp2_with (go_at_call 88; refine (number_pdu _ _).mono ?_; rintro e w4 ⟨rfl, rfl⟩; first | rw [Na.out] | rw [Np.out] | rw [Ns.out] | rw [Nc.out])
       go_ret;exact ⟨ret_int L.out.symm, B3⟩
      ·
       have Nc := hidden hc;clear hc;have E2 := hidden (show (numB a && numB p && numB s && numB c) = true by rw [Na.out, Np.out, Ns.out, Nc.out]; rfl);go_wp2_with (go_at_call 88; refine (number_pdu _ _).mono ?_; rintro e w4 ⟨rfl, rfl⟩; first | rw [Na.out] | rw [Np.out] | rw [Ns.out] | rw [Nc.out])
       refine (listed_pdu _ ⟨f, a, c, p, s, bs, vs, m, o⟩ _ (HI3 B3) KK.out).mono ?_;rintro e w5 ⟨rfl, B5⟩;cases hl : listB ⟨f, a, c, p, s, bs, vs, m, o⟩
       ·
        have L := hidden (HE.out KK.out (.inr (.inr hl)));clear hl;go_wp2;go_ret;exact ⟨ret_int L.out.symm, below_then B3 B5⟩
       ·
        have L := hidden (H0.out KK.out G1.out E2.out hl);clear hl;go_wp2;go_ret;exact ⟨ret_int L.out.symm, below_then B3 B5⟩
  ·
   have F1 := hidden (show decide (othersQ ⟨f, a, c, p, s, bs, vs, m, o⟩ = zeroQ) = false by simpa using hf);have L := hidden (HE.out KK.out (.inl (fun h => hf ((HF.out KK.out).2 h))));clear hf;rw [F1.out];go_wp2;go_ret;exact ⟨ret_int L.out.symm, B3⟩
set_option maxHeartbeats 1000000 in
theorem grow_nil (n : Int) (k : Nat) (w : World) (hn : n = (k : Int)) (h0 : 0 < k) (h1 : k ≤ 140737488355328) :
  Calls Tryz.prog 134 #[.slice none 0 0, .int .i64 n] w fun e w' => ∃ v', e = .returned v' ∧ w'.ownsRow w.heap.size 5 1 v' 0 [] ∧ Below w.heap.size w w' := by
 subst hn;obtain ⟨i, hi, hz, hsz, hby⟩ := info_parts info_u8;have hrz : ∀ ty, (Builtin.append_ #[27, 3] ty #[.slice none 0 0, .int .i64 (k : Int)]).run Tryz.prog w = _ := fun ty => Lib.run_append_nil_zeros w 27 3 ty 5 i _ .i64 .i64 Tryz.underlying27 Tryz.underlying3 hi hz k h0 (by omega) (by omega) (by rw [hby]; omega);have hGn : k ≤ grownCap w k 0 5 := grownCap_ge w _ _ _;have hG63 := grownCap_le_maxLen w k 0 5 (by unfold maxLen; omega);unfold maxLen at hG63;have hB : Hid (∀ o, Below w.heap.size w (w.drew.alloc o)) := fun o => (Below.refl w.heap.size w).drew.alloc (Nat.le_refl _) o;have hO : Hid (∀ C : Array Value, C.size = grownCap w k 0 5 → (w.drew.alloc (.cells C 5)).ownsRow w.heap.size 5 1 (.slice (some ⟨w.heap.size, 0, none⟩) 0 (grownCap w k 0 5)) 0 []) := fun C hC =>
  ⟨rfl, .inr ⟨w.heap.size, _, C, rfl, Nat.le_refl _, heap_alloc_new w.drew _, Nat.zero_le _, by unfold maxLen; omega, by omega, by simp⟩⟩
 have hS : Hid (∀ G, k ≤ G → (Builtin.zeroCells (Value.int .u8 0).cells k ++ Builtin.zeroCells (Value.int .u8 0).cells (G - k)).size = G) := fun G hG => by
  simp [Builtin.zeroCells, Value.cells]; omega
 generalize grownCap w k 0 5 = G at *;have t1 : ¬ ((k : Int) < 0) := by omega
 have t2 : (0 : Int) < (k : Int) := by omega
 have HG := hidden hGn;go_enter Tryz.func134, Tryz.ntmps134;go_wp2_with (at_builtin; refine Lib.wpList_append_run _ rfl _ _ _ _ rfl _ _ rfl rfl _ _ (hrz _) ?_)
 go_ret;exact ⟨_, rfl, hO.out _ (hS.out _ HG.out), hB.out _⟩
def flatTo (xss : List (List UInt8)) (k : Nat) : List UInt8 := (xss.take k).flatten
theorem flat_all (xss : List (List UInt8)) : flatTo xss xss.length = xss.flatten := by simp [flatTo]
theorem flat_take (xss : List (List UInt8)) (k : Nat) (h : k < xss.length) : flatTo xss (k + 1) = flatTo xss k ++ xss.getD k [] := by
 unfold flatTo;rw [List.take_succ_eq_append_getElem h, List.flatten_append]; simp [List.getD_eq_getElem?_getD, h]
theorem flat_le (xss : List (List UInt8)) (k : Nat) : (flatTo xss k).length ≤ (flatTo xss xss.length).length := by
 rw [flat_all];have := congrArg (fun l => l.flatten.length) (List.take_append_drop k xss);simp only [List.flatten_append, List.length_append] at this;unfold flatTo;omega
set_option maxHeartbeats 1000000 in
theorem concat_any (g : Nat) (vs : List Value) (xss : List (List UInt8)) (w : World) (hg : Blk w g 27 vs) (hl : vs.length = xss.length) (hr : ∀ i, i < vs.length → ∃ v, vs[i]? = some v ∧ Row w v ((xss.getD i []).map bV)) (h0 : 0 < (flatTo xss xss.length).length) (h1 : (flatTo xss xss.length).length ≤ 1000000) (h2 : vs.length ≤ 1000) :
  Calls Tryz.prog 120 #[.slice (some ⟨g, 0, none⟩) vs.length vs.length] w fun e w' => ∃ v', e = .returned v' ∧ Row w' v' ((flatTo xss xss.length).map bV) ∧ Below w.heap.size w w' := by
 have hlt := hg.lt;have HR := hidden hr;have HL := hidden hl;have FL := hidden (flat_le xss);have FT := hidden (flat_take xss);clear hr hl;generalize hn : vs.length = n at *;have HN := hidden hn;clear hn;go_enter Tryz.func120, Tryz.ntmps120;go_wp2;go_loopw [3, 11] (fun z i wr => ∃ k : Nat, k ≤ n ∧ i = .int .i64 k ∧ z = .int .i64 ((flatTo xss k).length : Nat) ∧ w = wr) (fun _ i _ => n - (intOf i).toNat)
 case atStart => exact ⟨0, Nat.zero_le _, rfl, by simp [flatTo], rfl⟩
 case round =>
  obtain ⟨k, hk, rfl, rfl, rfl⟩ := hrel;by_cases hkn : k < n
  ·
   obtain ⟨v, e1, e2⟩ := HR.out k hkn;obtain ⟨a, cap, rfl, -⟩ := e2;have c0 : w.cell? ⟨g, k, none⟩ = _ := (hg.cell k).trans e1;have S := FT.out k (by have := HL.out; omega);have Le := FL.out k;have Le2 := FL.out (k + 1);rw [S, List.length_append] at Le2;have S2 := hidden S;clear e1 S;simp only [List.length_map] at c0;generalize xss.getD k [] = y at *;generalize flatTo xss k = ys at *;have u1 : ¬ ((ys.length : Int) + (y.length : Int) < 0) := by omega
   have hkn' : (k : Int) < (n : Int) := by omega
   go_wp2;go_roundw
   case rel =>
    refine ⟨k + 1, by omega, by go_num, ?_, trivial⟩;rw [S2.out, List.length_append]; simp
   case measure => simp [intOf]; omega
  ·
   obtain rfl : k = n := by omega
   have HL' := HL.out;rw [← HL'] at h0 h1;have T := hidden HL';clear HL';have S3 : ((flatTo xss k).length : Int) < 1000001 := by omega
   have hkn' : ¬ (k : Int) < (k : Int) := by omega
   clear hkn;go_wp2_with fail
   refine (grow_nil _ (flatTo xss k).length _ rfl h0 (by omega)).mono ?_;rintro e w1 ⟨v1, rfl, ho1, b1⟩;go_wp2;go_loopw [6, 27] (fun z i wr => ∃ j : Nat, j ≤ k ∧ i = .int .i64 j ∧ wr.ownsRow w.heap.size 5 1 z (flatTo xss j).length ((flatTo xss j).map bV) ∧ Below w.heap.size w wr) (fun _ i _ => k - (intOf i).toNat)
   case atStart => exact ⟨0, Nat.zero_le _, rfl, by simpa [flatTo] using ho1, b1⟩
   case round =>
    obtain ⟨j, hj, rfl, ho, hb⟩ := hrel;clear ho1 b1;by_cases hjn : j < k
    ·
     obtain ⟨v, e1, e2⟩ := HR.out j hjn;have R2 := e2.below hb;obtain ⟨a, cap, rfl, -⟩ := e2;have c0 : wr.cell? ⟨g, j, none⟩ = _ := ((hg.below hb hlt).cell j).trans e1;have S := FT.out j (by have := HL.out; omega);have Le := FL.out j;have Le2 := FL.out (j + 1);rw [← T.out] at Le Le2;rw [S, List.length_append] at Le2;have S2 := hidden S;clear e1 S;simp only [List.length_map] at c0 R2;generalize xss.getD j [] = y at *;generalize flatTo xss j = ys at *;have hjn' : (j : Int) < (k : Int) := by omega
     have hsz := hb.size;go_wp2_with (at_builtin; refine wpList_app rfl (.tmp 31) (.tmp 32) 27 rfl w.heap.size 5 (.int .u8 0) 1 Tryz.underlying27 info_u8 rfl rfl ho rfl R2 ?k0 ?k1 ?k2 ?k3 ?_)
     case k0 => exact one_bytes y
     case k1 => simp [maxLen]; omega
     case k2 => simp; omega
     case k3 => exact hsz
     intro v2 w2 ho2 hg2;have q := hb.grown hg2 hsz (fun k hk => (ho.lt k hk).1);go_wp2;go_roundw
     case rel =>
      refine ⟨j + 1, by omega, by go_num, ?_, q⟩;rw [S2.out, List.length_append]
      simpa using ho2
     case measure => simp [intOf]; omega
    ·
     obtain rfl : j = k := by omega
     have hjn' : ¬ (j : Int) < (j : Int) := by omega
     clear hjn;go_wp2;go_ret;rw [← T.out];exact ⟨_, rfl, Row.of_owns ho, hb⟩
end Go.Proofs.YtdihcdphgiaepaaGreat
