/- ReplyCounts: the walk. -/
import Derived.Test.YthiheimpmnihcaaA9r
import Derived.Test.YthiheimpmnihcaaV4
namespace Go.Proofs.Ythiheimpmnihcaa
open Go.RowKit

theorem and31 (n : Int) : bits BinOp.and IntKind.i64 n 31 = n % 32 := by simpa using i64_and_mask n 5 (by decide)

/-- what is read with another count -/
theorem counts_no {q : Rq} {r : Rp} {c : Int} (hf : r.fn = q.fn) (hg : goodE r = 0) (_ha : askB r q.cnt = true) (hk : knownB q.fn = true) (hc : r.code ≠ 0 ∨ ¬ (q.fn ≤ 4 ∨ q.fn = 23)) : takeE (layA r) q.fn c = 0 := by
  have ha' : askB r c = true := by
    rcases hc with hc | hc
    · unfold askB; rw [if_pos hc]
    · unfold askB
      split
      · rfl
      · rw [if_neg (by rw [hf]; omega), if_neg (by rw [hf]; omega)]
  exact (made_take (q := { q with cnt := c }) hf hg ha' hk).1
theorem counts_vals {q : Rq} {r : Rp} {c : Int} (hf : r.fn = q.fn) (hg : goodE r = 0) (ha : askB r q.cnt = true) (hc : r.code = 0) (h3 : q.fn = 3 ∨ q.fn = 4 ∨ q.fn = 23) (hne : c ≠ q.cnt) : takeE (layA r) q.fn c = 12 := by
  have hb : layA r ≠ [] := by unfold layA; split <;> simp
  refine takeE_no hb ?_
  rintro ⟨s, hs⟩
  have h1 := isA_fn hs ⟨hg, rfl, ha⟩
  obtain ⟨hsg, hsl, hsa⟩ := hs
  have hsc : s.code = 0 := h1.2.2 hc
  have hsf : s.fn = r.fn := h1.1
  rw [show layA s = b8 s.fn :: bodyA s by simp [layA, hsc], show layA r = b8 r.fn :: bodyA r by simp [layA, hc]] at hsl
  have e3 : bodyA s = bodyA r := (List.cons.inj hsl).2
  unfold bodyA at e3
  rw [if_neg (by omega), if_pos (by omega), if_neg (by omega), if_pos (by omega)] at e3
  have hl := congrArg List.length e3
  simp only [cntL, List.length_cons, bytesL_len] at hl
  unfold askB at ha hsa
  rw [if_neg (by simp [hc]), if_neg (by omega), if_pos (by omega)] at ha
  rw [if_neg (by simp [hsc]), if_neg (by omega), if_pos (by omega)] at hsa
  simp only [decide_eq_true_eq] at ha hsa
  omega
theorem counts_bits {q : Rq} {r : Rp} {c : Int} (hf : r.fn = q.fn) (hg : goodE r = 0) (ha : askB r q.cnt = true) (hc : r.code = 0) (h3 : q.fn = 1 ∨ q.fn = 2) : takeE (layA r) q.fn c = 12 ∨ (takeE (layA r) q.fn c ≠ 12 ∧ c ≤ 8 * ((q.cnt + 7) / 8)) := by
  have hb : layA r ≠ [] := by unfold layA; split <;> simp
  by_cases hx : ∃ s, isA (layA r) c s
  · by_cases h12 : takeE (layA r) q.fn c = 12
    · exact .inl h12
    · refine .inr ⟨h12, ?_⟩
      obtain ⟨s, hs⟩ := hx
      have h1 := isA_fn hs ⟨hg, rfl, ha⟩
      obtain ⟨hsg, hsl, hsa⟩ := hs
      have hsc : s.code = 0 := h1.2.2 hc
      have hsf : s.fn = r.fn := h1.1
      rw [show layA s = b8 s.fn :: bodyA s by simp [layA, hsc], show layA r = b8 r.fn :: bodyA r by simp [layA, hc]] at hsl
      have e3 : bodyA s = bodyA r := (List.cons.inj hsl).2
      unfold bodyA at e3
      rw [if_pos (by omega), if_pos (by omega)] at e3
      have hl := congrArg List.length e3
      simp only [cntL, List.length_cons, packL_len] at hl
      unfold askB at ha hsa
      rw [if_neg (by simp [hc]), if_pos (by omega)] at ha
      rw [if_neg (by simp [hsc]), if_pos (by omega)] at hsa
      simp only [decide_eq_true_eq] at ha hsa
      omega
  · exact .inl (takeE_no hb hx)

set_option maxRecDepth 100000 in
set_option maxHeartbeats 8000000 in
theorem rcounts_walk (t u : Value) (x y : List Int) (n : Int) (w : World) (ht : Row w t (x.map iV)) (hu : Row w u (y.map iV)) (bx : ∀ n ∈ x, -9223372036854775808 ≤ n ∧ n ≤ 9223372036854775807) (by_ : ∀ n ∈ y, -9223372036854775808 ≤ n ∧ n ≤ 9223372036854775807) :
    Calls Try.prog 9 #[t, u, .int .i64 n] w fun e w' => e = .returned (.bool true) ∧ Below w.heap.size w w' := by
  obtain ⟨ta, tc, rfl, -⟩ := id ht
  obtain ⟨ua, uc, rfl, -⟩ := id hu
  simp only [List.length_map] at ht hu ⊢
  have T1 := hidden (tap_new w ta x.length tc x ht bx)
  have BY := hidden by_
  have a31 := and31 n
  have n0 : 0 ≤ n % 32 := by omega
  have n1 : n % 32 ≤ 31 := by omega
  generalize n % 32 = d at *
  clear ht bx by_
  go_enter Try.func9, Try.ntmps9
  go_wp2_with fail
  refine (req_ok _ _ x _ T1.out (by simp)).mono ?_
  rintro e w1 ⟨v1, rfl, q, q1, rq, -, ⟨-, hcn⟩, -, D1⟩
  have BB : Below w.heap.size w w1 := (((Below.refl w.heap.size w).alloc (Nat.le_refl _) (.cells #[.slice ta x.length tc, .int .i64 0] 31))).trans (D1.below (by omega) (Nat.le_refl _))
  have RQ := hidden rq
  have KN := hidden (right_parts rq).1
  have hcb := (right_parts rq).2.2.1.2.2.2
  simp [numB] at hcb
  obtain ⟨cb0, -⟩ := hcb
  clear D1 T1 rq
  obtain ⟨qb, qcb, qv, qcv, rfl, -, -⟩ := q1.slices
  have YQ := hidden (Box.new w1 q.fn q.loc q.cnt q.wat q.sub (.slice qb q.bits.length qcb) (.slice qv q.vals.length qcv) q.land q.lor 26)
  have EA := (Below.refl w1.heap.size w1).alloc (Nat.le_refl _) (.cells #[.int .i64 q.fn, .int .i64 q.loc, .int .i64 q.cnt, .int .i64 q.wat, .int .i64 q.sub, .slice qb q.bits.length qcb, .slice qv q.vals.length qcv, .int .u16 q.land.toNat, .int .u16 q.lor.toNat] 26)
  replace BB := below_then BB EA
  replace q1 := q1.below EA
  clear EA
  go_wp2_with fail
  refine (made_any _ _ y q _ (hu.below BB) BY.out q1 RQ.out hcn).mono ?_
  rintro e w2 ⟨v2, rfl, r, i2, fr, gr, ar, E, -⟩
  replace BB := below_then BB E
  replace q1 := q1.below E
  replace YQ := hidden (YQ.out.ext E)
  clear E
  have FR := hidden fr
  have GR := hidden gr
  have AR := hidden ar
  clear fr gr ar BY hu RQ
  obtain ⟨r5, rc5, r6, rc6, r9, rc9, rfl, -, -, -⟩ := i2.slices
  have YR := hidden (BoxP.new w2 r.fn r.code r.loc r.cnt r.sub (.slice r5 r.bits.length rc5) (.slice r6 r.vals.length rc6) r.land r.lor (.slice r9 r.data.length rc9) 46)
  have EA := (Below.refl w2.heap.size w2).alloc (Nat.le_refl _) (.cells #[.int .i64 r.fn, .int .i64 r.code, .int .i64 r.loc, .int .i64 r.cnt, .int .i64 r.sub, .slice r5 r.bits.length rc5, .slice r6 r.vals.length rc6, .int .u16 r.land.toNat, .int .u16 r.lor.toNat, .slice r9 r.data.length rc9] 46)
  replace BB := below_then BB EA
  replace q1 := q1.below EA
  replace YQ := hidden (YQ.out.ext EA)
  replace i2 := i2.below EA
  clear EA
  go_wp2_with fail
  refine (bytes_rep _ r _ i2).mono ?_
  rintro e w3 ⟨va, rfl, ra, E⟩
  rw [GR.out]
  rw [layR_0 GR.out] at ra
  replace BB := below_then BB E
  replace q1 := q1.below E
  replace YQ := hidden (YQ.out.ext E)
  replace i2 := i2.below E
  replace YR := hidden (YR.out.ext E)
  clear E
  obtain ⟨lc, c0, c1, c2, c3, c4, c5, c6, c7, c8⟩ := YQ.out
  go_wp2_with fail
  clear lc c0 c1 c2 c3 c4 c5 c6 c7 c8
  have YP := hidden (Box.new w3 q.fn q.loc (q.cnt + 1 + d) q.wat q.sub (.slice qb q.bits.length qcb) (.slice qv q.vals.length qcv) q.land q.lor 26)
  have EA := (Below.refl w3.heap.size w3).alloc (Nat.le_refl _) (.cells #[.int .i64 q.fn, .int .i64 q.loc, .int .i64 (q.cnt + 1 + d), .int .i64 q.wat, .int .i64 q.sub, .slice qb q.bits.length qcb, .slice qv q.vals.length qcv, .int .u16 q.land.toNat, .int .u16 q.lor.toNat] 26)
  replace BB := below_then BB EA
  replace q1 := q1.below EA
  replace YQ := hidden (YQ.out.ext EA)
  replace i2 := i2.below EA
  replace YR := hidden (YR.out.ext EA)
  replace ra := ra.below EA
  clear EA
  have p1 : IsRq _ (rqV q.fn q.loc (q.cnt + 1 + d) q.wat q.sub (.slice qb q.bits.length qcb) (.slice qv q.vals.length qcv) q.land q.lor) { q with cnt := q.cnt + 1 + d } := q1.cnt _
  refine (read_rep _ _ (layA r) { q with cnt := q.cnt + 1 + d } _ ra p1 ⟨by simp only; omega, by simp only; omega⟩).mono ?_
  rintro e w4 ⟨v4, rfl, i4, E, -⟩
  replace BB := below_then BB E
  replace q1 := q1.below E
  replace YQ := hidden (YQ.out.ext E)
  replace i2 := i2.below E
  replace YR := hidden (YR.out.ext E)
  replace ra := ra.below E
  replace YP := hidden (YP.out.ext E)
  clear E
  simp only at i4 ⊢
  obtain ⟨x5, xc5, x6, xc6, x9, xc9, rfl, -, -, -⟩ := i4.slices
  generalize hz : takeR (layA r) q.fn (q.cnt + 1 + d) = z at *
  clear hz i4
  have EA := (Below.refl w4.heap.size w4).alloc (Nat.le_refl _) (.cells #[.int .i64 z.fn, .int .i64 z.code, .int .i64 z.loc, .int .i64 z.cnt, .int .i64 z.sub, .slice x5 z.bits.length xc5, .slice x6 z.vals.length xc6, .int .u16 z.land.toNat, .int .u16 z.lor.toNat, .slice x9 z.data.length xc9] 46)
  replace BB := below_then BB EA
  replace q1 := q1.below EA
  replace YQ := hidden (YQ.out.ext EA)
  replace i2 := i2.below EA
  replace YR := hidden (YR.out.ext EA)
  replace ra := ra.below EA
  replace YP := hidden (YP.out.ext EA)
  clear EA
  obtain ⟨F, hF⟩ : ∃ F, takeE (layA r) q.fn (q.cnt + 1 + d) = F := ⟨_, rfl⟩
  rw [hF]
  have HF := hidden hF
  clear hF
  have rc := YR.out.c1
  have q0 := YQ.out.c0
  have q2 := YQ.out.c2
  have pp2 := YP.out.c2
  have lr := YR.out.lt
  have lq := YQ.out.lt
  have lp := YP.out.lt
  have KC := hidden (known_cases KN.out)
  by_cases hc : r.code = 0
  · have tc0 : (r.code == 0) = true := by simpa using hc
    by_cases h12 : q.fn = 1 ∨ q.fn = 2
    · have t1 : q.fn ≤ 4 := by omega
      have t2 : q.fn ≤ 2 := by omega
      rcases counts_bits (c := q.cnt + 1 + d) FR.out GR.out AR.out hc h12 with h | ⟨h, hle⟩
      · have tF : (F == 12) = true := by rw [← HF.out, h]; rfl
        clear h hc h12 HF
        go_wp2_with fail
        refine (known_law4 _).mono ?_
        rintro e w5 ⟨rfl, E⟩
        replace BB := below_then BB E
        go_wp2
        go_ret
        exact ⟨rfl, BB⟩
      · have tF : (F == 12) = false := by rw [← HF.out, beq_eq_false_iff_ne]; exact h
        clear h hc h12 HF
        go_wp2_with fail
        refine (known_law4 _).mono ?_
        rintro e w5 ⟨rfl, E⟩
        replace BB := below_then BB E
        go_wp2
        go_ret
        exact ⟨rfl, BB⟩
    · by_cases h34 : q.fn = 3 ∨ q.fn = 4 ∨ q.fn = 23
      · have tF : (F == 12) = true := by rw [← HF.out, counts_vals FR.out GR.out AR.out hc h34 (by omega)]; rfl
        have t2 : ¬ q.fn ≤ 2 := by omega
        by_cases h4 : q.fn ≤ 4
        · clear hc h12 h34 HF
          go_wp2_with fail
          refine (known_law4 _).mono ?_
          rintro e w5 ⟨rfl, E⟩
          replace BB := below_then BB E
          go_wp2
          go_ret
          exact ⟨rfl, BB⟩
        · have t23 : (q.fn == 23) = true := by rw [beq_iff_eq]; omega
          clear hc h12 h34 HF
          go_wp2_with fail
          refine (known_law4 _).mono ?_
          rintro e w5 ⟨rfl, E⟩
          replace BB := below_then BB E
          go_wp2
          go_ret
          exact ⟨rfl, BB⟩
      · have hn : ¬ (q.fn ≤ 4 ∨ q.fn = 23) := by have := KC.out; omega
        have tF : (F == 12) = false := by rw [← HF.out, counts_no FR.out GR.out AR.out KN.out (.inr hn)]; rfl
        have t4 : ¬ q.fn ≤ 4 := by omega
        have t23 : (q.fn == 23) = false := by rw [beq_eq_false_iff_ne]; omega
        clear hc h12 h34 HF hn
        go_wp2_with fail
        refine (known_law4 _).mono ?_
        rintro e w5 ⟨rfl, E⟩
        replace BB := below_then BB E
        go_wp2
        go_ret
        exact ⟨rfl, BB⟩
  · have tc0 : (r.code == 0) = false := by simpa using hc
    have tF : (F == 12) = false := by rw [← HF.out, counts_no FR.out GR.out AR.out KN.out (.inl hc)]; rfl
    clear hc HF
    go_wp2_with fail
    refine (known_law4 _).mono ?_
    rintro e w5 ⟨rfl, E⟩
    replace BB := below_then BB E
    go_wp2
    go_ret
    exact ⟨rfl, BB⟩

end Go.Proofs.Ythiheimpmnihcaa
