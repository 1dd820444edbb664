/- PduFields: the walk. -/
import Derived.Test.YtbkkinmnokfofaaV0
import Derived.Deep.CutRange
namespace Go.Proofs.Ytbkkinmnokfofaa
open Go.RowKit

theorem Blk.grownX {w w' : World} {k : Nat} {e : TypeId} {xs : List Value} {row : Option Nat} (h : Blk w k e xs) (hg : w.grownBy w' row) (hr : ∀ r, row = Option.some r → k < r) : Blk w' k e xs :=
  (hg.block k h.lt (fun e => by have := hr k e.symm; omega)).trans h
theorem right_wat (q : Rq) (k : Int) (hr : rightE q = 0) (h1 : 1 ≤ k) (h2 : k ≤ 256) : ((rightE ⟨q.fn, q.loc, q.cnt, k, q.sub, q.bits, q.vals, q.land, q.lor⟩ == 0) == (q.fn == 23)) = true := by
  obtain ⟨hk, hf, ⟨n1, n2, n3, n4⟩, hl⟩ := right_parts hr
  by_cases h : q.fn = 23
  · have : rightE ⟨q.fn, q.loc, q.cnt, k, q.sub, q.bits, q.vals, q.land, q.lor⟩ = 0 := by
      refine rightE_0 hk ?_ ?_ ?_
      · simp only [formP] at hf ⊢; exact ⟨hf.1, hf.2.1, .inl h, hf.2.2.2⟩
      · simp only [n1, n3, n4]; simp [numB]; omega
      · simpa [listB] using hl
    rw [this, h]; rfl
  · have : rightE ⟨q.fn, q.loc, q.cnt, k, q.sub, q.bits, q.vals, q.land, q.lor⟩ = 12 := by
      refine rightE_12 hk (.inl fun hf2 => ?_)
      rcases hf2.2.2.1 with h' | h'
      · exact h h'
      · simp only at h'; omega
    rw [this, show (q.fn == 23) = false by simpa using h]; rfl
theorem right_sub (q : Rq) (k : Int) (hr : rightE q = 0) (h1 : 1 ≤ k) (h2 : k ≤ 256) : ((rightE ⟨q.fn, q.loc, q.cnt, q.wat, k, q.bits, q.vals, q.land, q.lor⟩ == 0) == (q.fn == 8)) = true := by
  obtain ⟨hk, hf, ⟨n1, n2, n3, n4⟩, hl⟩ := right_parts hr
  by_cases h : q.fn = 8
  · have : rightE ⟨q.fn, q.loc, q.cnt, q.wat, k, q.bits, q.vals, q.land, q.lor⟩ = 0 := by
      refine rightE_0 hk ?_ ?_ ?_
      · simp only [formP] at hf ⊢; exact ⟨hf.1, hf.2.1, hf.2.2.1, .inl h, hf.2.2.2.2⟩
      · simp only [n1, n2, n4]; simp [numB]; omega
      · simpa [listB] using hl
    rw [this, h]; rfl
  · have : rightE ⟨q.fn, q.loc, q.cnt, q.wat, k, q.bits, q.vals, q.land, q.lor⟩ = 12 := by
      refine rightE_12 hk (.inl fun hf2 => ?_)
      rcases hf2.2.2.2.1 with h' | h'
      · exact h h'
      · simp only at h'; omega
    rw [this, show (q.fn == 8) = false by simpa using h]; rfl
theorem right_and (q : Rq) (k : Int) (hr : rightE q = 0) (h1 : 1 ≤ k) (h2 : k ≤ 256) : ((rightE ⟨q.fn, q.loc, q.cnt, q.wat, q.sub, q.bits, q.vals, wOf k, q.lor⟩ == 0) == (q.fn == 22)) = true := by
  obtain ⟨hk, hf, ⟨n1, n2, n3, n4⟩, hl⟩ := right_parts hr
  by_cases h : q.fn = 22
  · have : rightE ⟨q.fn, q.loc, q.cnt, q.wat, q.sub, q.bits, q.vals, wOf k, q.lor⟩ = 0 := by
      refine rightE_0 hk ?_ ?_ ?_
      · simp only [formP] at hf ⊢; exact ⟨hf.1, hf.2.1, hf.2.2.1, hf.2.2.2.1, hf.2.2.2.2.1, hf.2.2.2.2.2.1, .inl h⟩
      · simp only [n1, n2, n3, n4]; rfl
      · simpa [listB] using hl
    rw [this, h]; rfl
  · have : rightE ⟨q.fn, q.loc, q.cnt, q.wat, q.sub, q.bits, q.vals, wOf k, q.lor⟩ = 12 := by
      refine rightE_12 hk (.inl fun hf2 => ?_)
      rcases hf2.2.2.2.2.2.2 with h' | h'
      · exact h h'
      · simp only at h'
        have e := wOf_nat k
        rw [h'.1] at e
        simp at e
        omega
    rw [this, show (q.fn == 22) = false by simpa using h]; rfl
theorem list_bit (q : Rq) (h : q.fn = 5 ∨ q.fn = 15) (hl : listB q = true) : listB ⟨q.fn, q.loc, q.cnt, q.wat, q.sub, q.bits ++ [true], q.vals, q.land, q.lor⟩ = false := by
  rcases h with h | h
  · simp only [listB] at hl ⊢
    rw [if_pos h] at hl ⊢
    have := of_decide_eq_true hl
    apply decide_eq_false
    simp only [List.length_append, List.length_cons, List.length_nil]
    omega
  · simp only [listB] at hl ⊢
    rw [if_neg (by omega), if_neg (by omega), if_neg (by omega), if_pos h] at hl ⊢
    have := of_decide_eq_true hl
    apply decide_eq_false
    simp only [List.length_append, List.length_cons, List.length_nil]
    omega
theorem right_bit (q : Rq) (hr : rightE q = 0) : rightE ⟨q.fn, q.loc, q.cnt, q.wat, q.sub, q.bits ++ [true], q.vals, q.land, q.lor⟩ = 12 := by
  obtain ⟨hk, hf, -, hl⟩ := right_parts hr
  by_cases h5 : q.fn = 5 ∨ q.fn = 15
  · exact rightE_12 hk (.inr (.inr (list_bit q h5 hl)))
  · refine rightE_12 hk (.inl fun hf2 => ?_)
    rcases hf2.2.2.2.2.1 with h' | h'
    · exact h5 h'
    · simp at h'

set_option maxRecDepth 100000 in
set_option maxHeartbeats 8000000 in
theorem fields_walk (HR : ReqOk) (t : Value) (x : List Int) (n : Int) (w : World) (ht : Row w t (x.map iV)) (bx : ∀ n ∈ x, -9223372036854775808 ≤ n ∧ n ≤ 9223372036854775807) :
    Calls Try.prog 7 #[t, .int .i64 n] w fun e w' => e = .returned (.bool true) ∧ Below w.heap.size w w' := by
  obtain ⟨ta, tc, rfl, -⟩ := id ht
  simp only [List.length_map] at ht ⊢
  have T1 := hidden (tap_new w ta x.length tc x ht bx)
  have HRR := hidden HR
  have hk : bits .and .i64 n 255 = n % 256 := i64_and_mask n 8 (by decide)
  have hn1 : 0 ≤ n % 256 := by omega
  have hn2 : n % 256 < 256 := by omega
  clear ht bx HR
  go_enter Try.func7, Try.ntmps7
  go_wp2_with fail
  refine (HRR.out _ _ x _ T1.out (by simp)).mono ?_
  rintro e w1 ⟨v1, rfl, q, q1, rp, HB30, -, -, D1⟩
  have B1 : Below w.heap.size w w1 := (((Below.refl w.heap.size w).alloc (Nat.le_refl _) (.cells #[.slice ta x.length tc, .int .i64 0] 31))).trans (D1.below (by omega) (Nat.le_refl _))
  have RP := hidden rp
  clear D1 T1 rp HRR
  obtain ⟨qb, qcb, qv, qcv, rfl, -, -⟩ := q1.slices

  have E1 := (Below.refl w1.heap.size w1).alloc (Nat.le_refl _) (.cells #[.int .i64 q.fn, .int .i64 q.loc, .int .i64 q.cnt, .int .i64 q.wat, .int .i64 q.sub, .slice qb q.bits.length qcb, .slice qv q.vals.length qcv, .int .u16 q.land.toNat, .int .u16 q.lor.toNat] 26)
  have X1 := Box.new w1 q.fn q.loc q.cnt q.wat q.sub (.slice qb q.bits.length qcb) (.slice qv q.vals.length qcv) q.land q.lor 26
  replace q1 := q1.below E1
  replace B1 := below_then B1 E1
  have HX1 := hidden X1
  clear E1 X1
  go_wp2_with fail
  refine (right_pdu _ q _ q1).mono ?_
  rintro e w2 ⟨rfl, E2⟩
  rw [RP.out]
  replace HX1 := hidden (HX1.out.ext E2)
  replace q1 := q1.below E2
  replace B1 := below_then B1 E2
  clear E2
  generalize hkk : n % 256 = m at *
  obtain ⟨-, x0, x1, x2, x3, x4, x5, x6, x7, x8⟩ := HX1.out
  go_upto_region 5 with fail
  clear x0 x1 x2 x3 x4 x5 x6 x7 x8
  go_cut [7, 8, 9] from 21 to 23 (fun s7 s8 s9 wx => ∃ (b7 b8 b9 : Nat), s7 = .pointer (some ⟨b7, 0, none⟩) ∧ s8 = .pointer (some ⟨b8, 0, none⟩) ∧ s9 = .pointer (some ⟨b9, 0, none⟩) ∧ b7 ≠ b8 ∧ b7 ≠ b9 ∧ b8 ≠ b9 ∧ w2.heap.size ≤ b7 ∧ w2.heap.size ≤ b8 ∧ w2.heap.size ≤ b9 ∧ Blk wx b7 26 [.int .i64 q.fn, .int .i64 q.loc, .int .i64 q.cnt, .int .i64 q.wat, .int .i64 q.sub, .slice qb q.bits.length qcb, .slice qv q.vals.length qcv, .int .u16 q.land.toNat, .int .u16 q.lor.toNat] ∧ Blk wx b8 26 [.int .i64 q.fn, .int .i64 q.loc, .int .i64 q.cnt, .int .i64 q.wat, .int .i64 q.sub, .slice qb q.bits.length qcb, .slice qv q.vals.length qcv, .int .u16 q.land.toNat, .int .u16 q.lor.toNat] ∧ Blk wx b9 26 [.int .i64 q.fn, .int .i64 q.loc, .int .i64 q.cnt, .int .i64 q.wat, .int .i64 q.sub, .slice qb q.bits.length qcb, .slice qv q.vals.length qcv, .int .u16 q.land.toNat, .int .u16 q.lor.toNat] ∧ Below w2.heap.size w2 wx)
  case first =>
    refine h_begin 9 rfl (by kernel_rfl) ?_
    replace HX1 := hidden (HX1.out.ext (Below.refl _ _).drew)
    have sy : w2.heap.size = w2.drew.heap.size := rfl
    have Ey : Below w2.heap.size w2 w2.drew := (Below.refl _ _).drew
    have S0 : Below w2.drew.heap.size w2.drew w2.drew := Below.refl _ _
    generalize w2.drew = y0 at *
    obtain ⟨N0, hN0⟩ : ∃ N, N = y0.heap.size := ⟨_, rfl⟩
    rw [← hN0] at S0 sy
    have BX := hidden (fun w' (hx : Below N0 y0 w') => HX1.out.below hx (by rw [hN0]; exact HX1.out.lt))
    have Ky0 : N0 ≤ y0.heap.size := by omega
    have SY := hidden sy
    clear sy hN0
    refine h_read (fun w' => Below N0 y0 w') (fun _ _ => trivial) S0 (by kernel_rfl) (fun _ _ _ d _ h => by cases d <;> exact h) 0 rfl (by kernel_rfl) (by kernel_rfl) (fun w' hx => by obtain ⟨-, x0, x1, x2, x3, x4, x5, x6, x7, x8⟩ := BX.out w' hx; go_simp; with_reducible rfl) ?_; try simp only [Act.put, List.setIfInBounds_toArray, List.set_cons_zero, List.set_cons_succ]
    refine h_read (fun w' => Below N0 y0 w') (fun _ h => h) S0 (by kernel_rfl) (fun _ _ _ d _ h => by cases d <;> exact h) 1 rfl (by kernel_rfl) (by kernel_rfl) (fun w' hx => by obtain ⟨-, x0, x1, x2, x3, x4, x5, x6, x7, x8⟩ := BX.out w' hx; go_simp; with_reducible rfl) ?_; try simp only [Act.put, List.setIfInBounds_toArray, List.set_cons_zero, List.set_cons_succ]
    refine h_read (fun w' => Below N0 y0 w') (fun _ h => h) S0 (by kernel_rfl) (fun _ _ _ d _ h => by cases d <;> exact h) 2 rfl (by kernel_rfl) (by kernel_rfl) (fun w' hx => by obtain ⟨-, x0, x1, x2, x3, x4, x5, x6, x7, x8⟩ := BX.out w' hx; go_simp; with_reducible rfl) ?_; try simp only [Act.put, List.setIfInBounds_toArray, List.set_cons_zero, List.set_cons_succ]
    refine h_move3 3 4 5 (by kernel_rfl) (h_op 3 rfl (by kernel_rfl) (fun K hK => ?_)) (h_op 4 rfl (by kernel_rfl) (fun K hK => ?_)) (h_op 5 rfl (by kernel_rfl) (fun K hK => ?_))
    · go_simp
      have Bl := (Below.refl y0.heap.size y0).alloc (Nat.le_refl _) (.cells #[.int .i64 0, .int .i64 0, .int .i64 0, .int .i64 0, .int .i64 0, .slice none 0 0, .slice none 0 0, .int .u16 0, .int .u16 0] 26)
      have P7 := Blk.new y0 26 [.int .i64 0, .int .i64 0, .int .i64 0, .int .i64 0, .int .i64 0, .slice none 0 0, .slice none 0 0, .int .u16 0, .int .u16 0]
      replace S0 := S0.trans (Bl.mono Ky0)
      refine hK.out _ _ S0 ?_
      clear K hK
      try simp only [Act.put, List.setIfInBounds_toArray, List.set_cons_zero, List.set_cons_succ]
      have k7 := Ky0
      have Ky1 : N0 ≤ (y0.alloc (.cells #[.int .i64 0, .int .i64 0, .int .i64 0, .int .i64 0, .int .i64 0, .slice none 0 0, .slice none 0 0, .int .u16 0, .int .u16 0] 26)).heap.size := by simp; omega
      have l7 : y0.heap.size < (y0.alloc (.cells #[.int .i64 0, .int .i64 0, .int .i64 0, .int .i64 0, .int .i64 0, .slice none 0 0, .slice none 0 0, .int .u16 0, .int .u16 0] 26)).heap.size := by simp
      clear Bl
      generalize y0.alloc (.cells #[.int .i64 0, .int .i64 0, .int .i64 0, .int .i64 0, .int .i64 0, .slice none 0 0, .slice none 0 0, .int .u16 0, .int .u16 0] 26) = y1 at *
      generalize y0.heap.size = b7 at *
      refine h_move2 4 5 (by kernel_rfl) (h_op 4 rfl (by kernel_rfl) (fun K hK => ?_)) (h_op 5 rfl (by kernel_rfl) (fun K hK => ?_))
      · go_simp
        have Bl := (Below.refl y1.heap.size y1).alloc (Nat.le_refl _) (.cells #[.int .i64 0, .int .i64 0, .int .i64 0, .int .i64 0, .int .i64 0, .slice none 0 0, .slice none 0 0, .int .u16 0, .int .u16 0] 26)
        replace P7 := P7.below Bl P7.lt
        have P8 := Blk.new y1 26 [.int .i64 0, .int .i64 0, .int .i64 0, .int .i64 0, .int .i64 0, .slice none 0 0, .slice none 0 0, .int .u16 0, .int .u16 0]
        replace S0 := S0.trans (Bl.mono Ky1)
        refine hK.out _ _ S0 ?_
        clear K hK
        try simp only [Act.put, List.setIfInBounds_toArray, List.set_cons_zero, List.set_cons_succ]
        have k8 := Ky1
        have n87 : y1.heap.size ≠ b7 := by omega
        have Ky2 : N0 ≤ (y1.alloc (.cells #[.int .i64 0, .int .i64 0, .int .i64 0, .int .i64 0, .int .i64 0, .slice none 0 0, .slice none 0 0, .int .u16 0, .int .u16 0] 26)).heap.size := by simp; omega
        have l7 : b7 < (y1.alloc (.cells #[.int .i64 0, .int .i64 0, .int .i64 0, .int .i64 0, .int .i64 0, .slice none 0 0, .slice none 0 0, .int .u16 0, .int .u16 0] 26)).heap.size := by simp; omega
        have l8 : y1.heap.size < (y1.alloc (.cells #[.int .i64 0, .int .i64 0, .int .i64 0, .int .i64 0, .int .i64 0, .slice none 0 0, .slice none 0 0, .int .u16 0, .int .u16 0] 26)).heap.size := by simp
        clear Bl
        generalize y1.alloc (.cells #[.int .i64 0, .int .i64 0, .int .i64 0, .int .i64 0, .int .i64 0, .slice none 0 0, .slice none 0 0, .int .u16 0, .int .u16 0] 26) = y2 at *
        generalize y1.heap.size = b8 at *
        refine h_move 5 (by kernel_rfl) (h_op 5 rfl (by kernel_rfl) (fun K hK => ?_))
        go_simp
        have Bl := (Below.refl y2.heap.size y2).alloc (Nat.le_refl _) (.cells #[.int .i64 0, .int .i64 0, .int .i64 0, .int .i64 0, .int .i64 0, .slice none 0 0, .slice none 0 0, .int .u16 0, .int .u16 0] 26)
        replace P7 := P7.below Bl P7.lt
        replace P8 := P8.below Bl P8.lt
        have P9 := Blk.new y2 26 [.int .i64 0, .int .i64 0, .int .i64 0, .int .i64 0, .int .i64 0, .slice none 0 0, .slice none 0 0, .int .u16 0, .int .u16 0]
        replace S0 := S0.trans (Bl.mono Ky2)
        refine hK.out _ _ S0 ?_
        clear K hK
        try simp only [Act.put, List.setIfInBounds_toArray, List.set_cons_zero, List.set_cons_succ]
        have k9 := Ky2
        have n97 : y2.heap.size ≠ b7 := by omega
        have n98 : y2.heap.size ≠ b8 := by omega
        have Ky3 : N0 ≤ (y2.alloc (.cells #[.int .i64 0, .int .i64 0, .int .i64 0, .int .i64 0, .int .i64 0, .slice none 0 0, .slice none 0 0, .int .u16 0, .int .u16 0] 26)).heap.size := by simp; omega
        have l7 : b7 < (y2.alloc (.cells #[.int .i64 0, .int .i64 0, .int .i64 0, .int .i64 0, .int .i64 0, .slice none 0 0, .slice none 0 0, .int .u16 0, .int .u16 0] 26)).heap.size := by simp; omega
        have l8 : b8 < (y2.alloc (.cells #[.int .i64 0, .int .i64 0, .int .i64 0, .int .i64 0, .int .i64 0, .slice none 0 0, .slice none 0 0, .int .u16 0, .int .u16 0] 26)).heap.size := by simp; omega
        have l9 : y2.heap.size < (y2.alloc (.cells #[.int .i64 0, .int .i64 0, .int .i64 0, .int .i64 0, .int .i64 0, .slice none 0 0, .slice none 0 0, .int .u16 0, .int .u16 0] 26)).heap.size := by simp
        clear Bl
        generalize y2.alloc (.cells #[.int .i64 0, .int .i64 0, .int .i64 0, .int .i64 0, .int .i64 0, .slice none 0 0, .slice none 0 0, .int .u16 0, .int .u16 0] 26) = y3 at *
        generalize y2.heap.size = b9 at *
        have c0 := P7.cell 0
        have c1 := P7.cell 1
        have c2 := P7.cell 2
        have c3 := P7.cell 3
        have c4 := P7.cell 4
        have c5 := P7.cell 5
        have c6 := P7.cell 6
        have c7 := P7.cell 7
        have c8 := P7.cell 8
        simp at c0 c1 c2 c3 c4 c5 c6 c7 c8
        have fz := P7.frozen
        refine h_move 6 (by kernel_rfl) (h_op 6 rfl (by kernel_rfl) (fun K hK => ?_))
        go_simp
        clear c0 c1 c2 c3 c4 c5 c6 c7 c8 fz
        replace P7 := (((((((((P7.set 0 (.int .i64 q.fn)).set 1 (.int .i64 q.loc)).set 2 (.int .i64 q.cnt)).set 3 (.int .i64 q.wat)).set 4 (.int .i64 q.sub)).set 5 (.slice qb q.bits.length qcb)).set 6 (.slice qv q.vals.length qcv)).set 7 (.int .u16 q.land.toNat)).set 8 (.int .u16 q.lor.toNat))
        simp at P7
        replace P8 := (((((((((P8.set_ne (g := b7) (by omega) 0 (.int .i64 q.fn)).set_ne (g := b7) (by omega) 1 (.int .i64 q.loc)).set_ne (g := b7) (by omega) 2 (.int .i64 q.cnt)).set_ne (g := b7) (by omega) 3 (.int .i64 q.wat)).set_ne (g := b7) (by omega) 4 (.int .i64 q.sub)).set_ne (g := b7) (by omega) 5 (.slice qb q.bits.length qcb)).set_ne (g := b7) (by omega) 6 (.slice qv q.vals.length qcv)).set_ne (g := b7) (by omega) 7 (.int .u16 q.land.toNat)).set_ne (g := b7) (by omega) 8 (.int .u16 q.lor.toNat))
        replace P9 := (((((((((P9.set_ne (g := b7) (by omega) 0 (.int .i64 q.fn)).set_ne (g := b7) (by omega) 1 (.int .i64 q.loc)).set_ne (g := b7) (by omega) 2 (.int .i64 q.cnt)).set_ne (g := b7) (by omega) 3 (.int .i64 q.wat)).set_ne (g := b7) (by omega) 4 (.int .i64 q.sub)).set_ne (g := b7) (by omega) 5 (.slice qb q.bits.length qcb)).set_ne (g := b7) (by omega) 6 (.slice qv q.vals.length qcv)).set_ne (g := b7) (by omega) 7 (.int .u16 q.land.toNat)).set_ne (g := b7) (by omega) 8 (.int .u16 q.lor.toNat))
        replace S0 := (((((((((S0.setCell (p := ⟨b7, 0, none⟩) (by simp; omega) (.int .i64 q.fn)).setCell (p := ⟨b7, 1, none⟩) (by simp; omega) (.int .i64 q.loc)).setCell (p := ⟨b7, 2, none⟩) (by simp; omega) (.int .i64 q.cnt)).setCell (p := ⟨b7, 3, none⟩) (by simp; omega) (.int .i64 q.wat)).setCell (p := ⟨b7, 4, none⟩) (by simp; omega) (.int .i64 q.sub)).setCell (p := ⟨b7, 5, none⟩) (by simp; omega) (.slice qb q.bits.length qcb)).setCell (p := ⟨b7, 6, none⟩) (by simp; omega) (.slice qv q.vals.length qcv)).setCell (p := ⟨b7, 7, none⟩) (by simp; omega) (.int .u16 q.land.toNat)).setCell (p := ⟨b7, 8, none⟩) (by simp; omega) (.int .u16 q.lor.toNat))
        refine hK.out _ _ S0 ?_
        clear K hK
        try simp only [Act.put, List.setIfInBounds_toArray, List.set_cons_zero, List.set_cons_succ]
        generalize (((((((((y3.setCell ⟨b7, 0, none⟩ (.int .i64 q.fn)).setCell ⟨b7, 1, none⟩ (.int .i64 q.loc)).setCell ⟨b7, 2, none⟩ (.int .i64 q.cnt)).setCell ⟨b7, 3, none⟩ (.int .i64 q.wat)).setCell ⟨b7, 4, none⟩ (.int .i64 q.sub)).setCell ⟨b7, 5, none⟩ (.slice qb q.bits.length qcb)).setCell ⟨b7, 6, none⟩ (.slice qv q.vals.length qcv)).setCell ⟨b7, 7, none⟩ (.int .u16 q.land.toNat)).setCell ⟨b7, 8, none⟩ (.int .u16 q.lor.toNat)) = y4 at *
        have c0 := P8.cell 0
        have c1 := P8.cell 1
        have c2 := P8.cell 2
        have c3 := P8.cell 3
        have c4 := P8.cell 4
        have c5 := P8.cell 5
        have c6 := P8.cell 6
        have c7 := P8.cell 7
        have c8 := P8.cell 8
        simp at c0 c1 c2 c3 c4 c5 c6 c7 c8
        have fz := P8.frozen
        refine h_move 7 (by kernel_rfl) (h_op 7 rfl (by kernel_rfl) (fun K hK => ?_))
        go_simp
        clear c0 c1 c2 c3 c4 c5 c6 c7 c8 fz
        replace P8 := (((((((((P8.set 0 (.int .i64 q.fn)).set 1 (.int .i64 q.loc)).set 2 (.int .i64 q.cnt)).set 3 (.int .i64 q.wat)).set 4 (.int .i64 q.sub)).set 5 (.slice qb q.bits.length qcb)).set 6 (.slice qv q.vals.length qcv)).set 7 (.int .u16 q.land.toNat)).set 8 (.int .u16 q.lor.toNat))
        simp at P8
        replace P7 := (((((((((P7.set_ne (g := b8) (by omega) 0 (.int .i64 q.fn)).set_ne (g := b8) (by omega) 1 (.int .i64 q.loc)).set_ne (g := b8) (by omega) 2 (.int .i64 q.cnt)).set_ne (g := b8) (by omega) 3 (.int .i64 q.wat)).set_ne (g := b8) (by omega) 4 (.int .i64 q.sub)).set_ne (g := b8) (by omega) 5 (.slice qb q.bits.length qcb)).set_ne (g := b8) (by omega) 6 (.slice qv q.vals.length qcv)).set_ne (g := b8) (by omega) 7 (.int .u16 q.land.toNat)).set_ne (g := b8) (by omega) 8 (.int .u16 q.lor.toNat))
        replace P9 := (((((((((P9.set_ne (g := b8) (by omega) 0 (.int .i64 q.fn)).set_ne (g := b8) (by omega) 1 (.int .i64 q.loc)).set_ne (g := b8) (by omega) 2 (.int .i64 q.cnt)).set_ne (g := b8) (by omega) 3 (.int .i64 q.wat)).set_ne (g := b8) (by omega) 4 (.int .i64 q.sub)).set_ne (g := b8) (by omega) 5 (.slice qb q.bits.length qcb)).set_ne (g := b8) (by omega) 6 (.slice qv q.vals.length qcv)).set_ne (g := b8) (by omega) 7 (.int .u16 q.land.toNat)).set_ne (g := b8) (by omega) 8 (.int .u16 q.lor.toNat))
        replace S0 := (((((((((S0.setCell (p := ⟨b8, 0, none⟩) (by simp; omega) (.int .i64 q.fn)).setCell (p := ⟨b8, 1, none⟩) (by simp; omega) (.int .i64 q.loc)).setCell (p := ⟨b8, 2, none⟩) (by simp; omega) (.int .i64 q.cnt)).setCell (p := ⟨b8, 3, none⟩) (by simp; omega) (.int .i64 q.wat)).setCell (p := ⟨b8, 4, none⟩) (by simp; omega) (.int .i64 q.sub)).setCell (p := ⟨b8, 5, none⟩) (by simp; omega) (.slice qb q.bits.length qcb)).setCell (p := ⟨b8, 6, none⟩) (by simp; omega) (.slice qv q.vals.length qcv)).setCell (p := ⟨b8, 7, none⟩) (by simp; omega) (.int .u16 q.land.toNat)).setCell (p := ⟨b8, 8, none⟩) (by simp; omega) (.int .u16 q.lor.toNat))
        refine hK.out _ _ S0 ?_
        clear K hK
        try simp only [Act.put, List.setIfInBounds_toArray, List.set_cons_zero, List.set_cons_succ]
        generalize (((((((((y4.setCell ⟨b8, 0, none⟩ (.int .i64 q.fn)).setCell ⟨b8, 1, none⟩ (.int .i64 q.loc)).setCell ⟨b8, 2, none⟩ (.int .i64 q.cnt)).setCell ⟨b8, 3, none⟩ (.int .i64 q.wat)).setCell ⟨b8, 4, none⟩ (.int .i64 q.sub)).setCell ⟨b8, 5, none⟩ (.slice qb q.bits.length qcb)).setCell ⟨b8, 6, none⟩ (.slice qv q.vals.length qcv)).setCell ⟨b8, 7, none⟩ (.int .u16 q.land.toNat)).setCell ⟨b8, 8, none⟩ (.int .u16 q.lor.toNat)) = y5 at *
        have c0 := P9.cell 0
        have c1 := P9.cell 1
        have c2 := P9.cell 2
        have c3 := P9.cell 3
        have c4 := P9.cell 4
        have c5 := P9.cell 5
        have c6 := P9.cell 6
        have c7 := P9.cell 7
        have c8 := P9.cell 8
        simp at c0 c1 c2 c3 c4 c5 c6 c7 c8
        have fz := P9.frozen
        refine h_move 8 (by kernel_rfl) (h_op 8 rfl (by kernel_rfl) (fun K hK => ?_))
        go_simp
        clear c0 c1 c2 c3 c4 c5 c6 c7 c8 fz
        replace P9 := (((((((((P9.set 0 (.int .i64 q.fn)).set 1 (.int .i64 q.loc)).set 2 (.int .i64 q.cnt)).set 3 (.int .i64 q.wat)).set 4 (.int .i64 q.sub)).set 5 (.slice qb q.bits.length qcb)).set 6 (.slice qv q.vals.length qcv)).set 7 (.int .u16 q.land.toNat)).set 8 (.int .u16 q.lor.toNat))
        simp at P9
        replace P7 := (((((((((P7.set_ne (g := b9) (by omega) 0 (.int .i64 q.fn)).set_ne (g := b9) (by omega) 1 (.int .i64 q.loc)).set_ne (g := b9) (by omega) 2 (.int .i64 q.cnt)).set_ne (g := b9) (by omega) 3 (.int .i64 q.wat)).set_ne (g := b9) (by omega) 4 (.int .i64 q.sub)).set_ne (g := b9) (by omega) 5 (.slice qb q.bits.length qcb)).set_ne (g := b9) (by omega) 6 (.slice qv q.vals.length qcv)).set_ne (g := b9) (by omega) 7 (.int .u16 q.land.toNat)).set_ne (g := b9) (by omega) 8 (.int .u16 q.lor.toNat))
        replace P8 := (((((((((P8.set_ne (g := b9) (by omega) 0 (.int .i64 q.fn)).set_ne (g := b9) (by omega) 1 (.int .i64 q.loc)).set_ne (g := b9) (by omega) 2 (.int .i64 q.cnt)).set_ne (g := b9) (by omega) 3 (.int .i64 q.wat)).set_ne (g := b9) (by omega) 4 (.int .i64 q.sub)).set_ne (g := b9) (by omega) 5 (.slice qb q.bits.length qcb)).set_ne (g := b9) (by omega) 6 (.slice qv q.vals.length qcv)).set_ne (g := b9) (by omega) 7 (.int .u16 q.land.toNat)).set_ne (g := b9) (by omega) 8 (.int .u16 q.lor.toNat))
        replace S0 := (((((((((S0.setCell (p := ⟨b9, 0, none⟩) (by simp; omega) (.int .i64 q.fn)).setCell (p := ⟨b9, 1, none⟩) (by simp; omega) (.int .i64 q.loc)).setCell (p := ⟨b9, 2, none⟩) (by simp; omega) (.int .i64 q.cnt)).setCell (p := ⟨b9, 3, none⟩) (by simp; omega) (.int .i64 q.wat)).setCell (p := ⟨b9, 4, none⟩) (by simp; omega) (.int .i64 q.sub)).setCell (p := ⟨b9, 5, none⟩) (by simp; omega) (.slice qb q.bits.length qcb)).setCell (p := ⟨b9, 6, none⟩) (by simp; omega) (.slice qv q.vals.length qcv)).setCell (p := ⟨b9, 7, none⟩) (by simp; omega) (.int .u16 q.land.toNat)).setCell (p := ⟨b9, 8, none⟩) (by simp; omega) (.int .u16 q.lor.toNat))
        refine hK.out _ _ S0 ?_
        clear K hK
        try simp only [Act.put, List.setIfInBounds_toArray, List.set_cons_zero, List.set_cons_succ]
        generalize (((((((((y5.setCell ⟨b9, 0, none⟩ (.int .i64 q.fn)).setCell ⟨b9, 1, none⟩ (.int .i64 q.loc)).setCell ⟨b9, 2, none⟩ (.int .i64 q.cnt)).setCell ⟨b9, 3, none⟩ (.int .i64 q.wat)).setCell ⟨b9, 4, none⟩ (.int .i64 q.sub)).setCell ⟨b9, 5, none⟩ (.slice qb q.bits.length qcb)).setCell ⟨b9, 6, none⟩ (.slice qv q.vals.length qcv)).setCell ⟨b9, 7, none⟩ (.int .u16 q.land.toNat)).setCell ⟨b9, 8, none⟩ (.int .u16 q.lor.toNat)) = y6 at *
        refine h_done (by kernel_rfl) ?_
        go_wp2_with fail
        go_meet
        have sy := SY.out
        exact ⟨b7, b8, b9, rfl, rfl, rfl, by omega, by omega, by omega, by omega, by omega, by omega, P7, P8, P9, Ey.trans (S0.mono (by omega))⟩
      · go_simp
        have Bl := (Below.refl y1.heap.size y1).alloc (Nat.le_refl _) (.cells #[.int .i64 0, .int .i64 0, .int .i64 0, .int .i64 0, .int .i64 0, .slice none 0 0, .slice none 0 0, .int .u16 0, .int .u16 0] 26)
        replace P7 := P7.below Bl P7.lt
        have P9 := Blk.new y1 26 [.int .i64 0, .int .i64 0, .int .i64 0, .int .i64 0, .int .i64 0, .slice none 0 0, .slice none 0 0, .int .u16 0, .int .u16 0]
        replace S0 := S0.trans (Bl.mono Ky1)
        refine hK.out _ _ S0 ?_
        clear K hK
        try simp only [Act.put, List.setIfInBounds_toArray, List.set_cons_zero, List.set_cons_succ]
        have k9 := Ky1
        have n97 : y1.heap.size ≠ b7 := by omega
        have Ky2 : N0 ≤ (y1.alloc (.cells #[.int .i64 0, .int .i64 0, .int .i64 0, .int .i64 0, .int .i64 0, .slice none 0 0, .slice none 0 0, .int .u16 0, .int .u16 0] 26)).heap.size := by simp; omega
        have l7 : b7 < (y1.alloc (.cells #[.int .i64 0, .int .i64 0, .int .i64 0, .int .i64 0, .int .i64 0, .slice none 0 0, .slice none 0 0, .int .u16 0, .int .u16 0] 26)).heap.size := by simp; omega
        have l9 : y1.heap.size < (y1.alloc (.cells #[.int .i64 0, .int .i64 0, .int .i64 0, .int .i64 0, .int .i64 0, .slice none 0 0, .slice none 0 0, .int .u16 0, .int .u16 0] 26)).heap.size := by simp
        clear Bl
        generalize y1.alloc (.cells #[.int .i64 0, .int .i64 0, .int .i64 0, .int .i64 0, .int .i64 0, .slice none 0 0, .slice none 0 0, .int .u16 0, .int .u16 0] 26) = y2 at *
        generalize y1.heap.size = b9 at *
        refine h_move 4 (by kernel_rfl) (h_op 4 rfl (by kernel_rfl) (fun K hK => ?_))
        go_simp
        have Bl := (Below.refl y2.heap.size y2).alloc (Nat.le_refl _) (.cells #[.int .i64 0, .int .i64 0, .int .i64 0, .int .i64 0, .int .i64 0, .slice none 0 0, .slice none 0 0, .int .u16 0, .int .u16 0] 26)
        replace P7 := P7.below Bl P7.lt
        replace P9 := P9.below Bl P9.lt
        have P8 := Blk.new y2 26 [.int .i64 0, .int .i64 0, .int .i64 0, .int .i64 0, .int .i64 0, .slice none 0 0, .slice none 0 0, .int .u16 0, .int .u16 0]
        replace S0 := S0.trans (Bl.mono Ky2)
        refine hK.out _ _ S0 ?_
        clear K hK
        try simp only [Act.put, List.setIfInBounds_toArray, List.set_cons_zero, List.set_cons_succ]
        have k8 := Ky2
        have n87 : y2.heap.size ≠ b7 := by omega
        have n89 : y2.heap.size ≠ b9 := by omega
        have Ky3 : N0 ≤ (y2.alloc (.cells #[.int .i64 0, .int .i64 0, .int .i64 0, .int .i64 0, .int .i64 0, .slice none 0 0, .slice none 0 0, .int .u16 0, .int .u16 0] 26)).heap.size := by simp; omega
        have l7 : b7 < (y2.alloc (.cells #[.int .i64 0, .int .i64 0, .int .i64 0, .int .i64 0, .int .i64 0, .slice none 0 0, .slice none 0 0, .int .u16 0, .int .u16 0] 26)).heap.size := by simp; omega
        have l9 : b9 < (y2.alloc (.cells #[.int .i64 0, .int .i64 0, .int .i64 0, .int .i64 0, .int .i64 0, .slice none 0 0, .slice none 0 0, .int .u16 0, .int .u16 0] 26)).heap.size := by simp; omega
        have l8 : y2.heap.size < (y2.alloc (.cells #[.int .i64 0, .int .i64 0, .int .i64 0, .int .i64 0, .int .i64 0, .slice none 0 0, .slice none 0 0, .int .u16 0, .int .u16 0] 26)).heap.size := by simp
        clear Bl
        generalize y2.alloc (.cells #[.int .i64 0, .int .i64 0, .int .i64 0, .int .i64 0, .int .i64 0, .slice none 0 0, .slice none 0 0, .int .u16 0, .int .u16 0] 26) = y3 at *
        generalize y2.heap.size = b8 at *
        have c0 := P7.cell 0
        have c1 := P7.cell 1
        have c2 := P7.cell 2
        have c3 := P7.cell 3
        have c4 := P7.cell 4
        have c5 := P7.cell 5
        have c6 := P7.cell 6
        have c7 := P7.cell 7
        have c8 := P7.cell 8
        simp at c0 c1 c2 c3 c4 c5 c6 c7 c8
        have fz := P7.frozen
        refine h_move 6 (by kernel_rfl) (h_op 6 rfl (by kernel_rfl) (fun K hK => ?_))
        go_simp
        clear c0 c1 c2 c3 c4 c5 c6 c7 c8 fz
        replace P7 := (((((((((P7.set 0 (.int .i64 q.fn)).set 1 (.int .i64 q.loc)).set 2 (.int .i64 q.cnt)).set 3 (.int .i64 q.wat)).set 4 (.int .i64 q.sub)).set 5 (.slice qb q.bits.length qcb)).set 6 (.slice qv q.vals.length qcv)).set 7 (.int .u16 q.land.toNat)).set 8 (.int .u16 q.lor.toNat))
        simp at P7
        replace P9 := (((((((((P9.set_ne (g := b7) (by omega) 0 (.int .i64 q.fn)).set_ne (g := b7) (by omega) 1 (.int .i64 q.loc)).set_ne (g := b7) (by omega) 2 (.int .i64 q.cnt)).set_ne (g := b7) (by omega) 3 (.int .i64 q.wat)).set_ne (g := b7) (by omega) 4 (.int .i64 q.sub)).set_ne (g := b7) (by omega) 5 (.slice qb q.bits.length qcb)).set_ne (g := b7) (by omega) 6 (.slice qv q.vals.length qcv)).set_ne (g := b7) (by omega) 7 (.int .u16 q.land.toNat)).set_ne (g := b7) (by omega) 8 (.int .u16 q.lor.toNat))
        replace P8 := (((((((((P8.set_ne (g := b7) (by omega) 0 (.int .i64 q.fn)).set_ne (g := b7) (by omega) 1 (.int .i64 q.loc)).set_ne (g := b7) (by omega) 2 (.int .i64 q.cnt)).set_ne (g := b7) (by omega) 3 (.int .i64 q.wat)).set_ne (g := b7) (by omega) 4 (.int .i64 q.sub)).set_ne (g := b7) (by omega) 5 (.slice qb q.bits.length qcb)).set_ne (g := b7) (by omega) 6 (.slice qv q.vals.length qcv)).set_ne (g := b7) (by omega) 7 (.int .u16 q.land.toNat)).set_ne (g := b7) (by omega) 8 (.int .u16 q.lor.toNat))
        replace S0 := (((((((((S0.setCell (p := ⟨b7, 0, none⟩) (by simp; omega) (.int .i64 q.fn)).setCell (p := ⟨b7, 1, none⟩) (by simp; omega) (.int .i64 q.loc)).setCell (p := ⟨b7, 2, none⟩) (by simp; omega) (.int .i64 q.cnt)).setCell (p := ⟨b7, 3, none⟩) (by simp; omega) (.int .i64 q.wat)).setCell (p := ⟨b7, 4, none⟩) (by simp; omega) (.int .i64 q.sub)).setCell (p := ⟨b7, 5, none⟩) (by simp; omega) (.slice qb q.bits.length qcb)).setCell (p := ⟨b7, 6, none⟩) (by simp; omega) (.slice qv q.vals.length qcv)).setCell (p := ⟨b7, 7, none⟩) (by simp; omega) (.int .u16 q.land.toNat)).setCell (p := ⟨b7, 8, none⟩) (by simp; omega) (.int .u16 q.lor.toNat))
        refine hK.out _ _ S0 ?_
        clear K hK
        try simp only [Act.put, List.setIfInBounds_toArray, List.set_cons_zero, List.set_cons_succ]
        generalize (((((((((y3.setCell ⟨b7, 0, none⟩ (.int .i64 q.fn)).setCell ⟨b7, 1, none⟩ (.int .i64 q.loc)).setCell ⟨b7, 2, none⟩ (.int .i64 q.cnt)).setCell ⟨b7, 3, none⟩ (.int .i64 q.wat)).setCell ⟨b7, 4, none⟩ (.int .i64 q.sub)).setCell ⟨b7, 5, none⟩ (.slice qb q.bits.length qcb)).setCell ⟨b7, 6, none⟩ (.slice qv q.vals.length qcv)).setCell ⟨b7, 7, none⟩ (.int .u16 q.land.toNat)).setCell ⟨b7, 8, none⟩ (.int .u16 q.lor.toNat)) = y4 at *
        have c0 := P8.cell 0
        have c1 := P8.cell 1
        have c2 := P8.cell 2
        have c3 := P8.cell 3
        have c4 := P8.cell 4
        have c5 := P8.cell 5
        have c6 := P8.cell 6
        have c7 := P8.cell 7
        have c8 := P8.cell 8
        simp at c0 c1 c2 c3 c4 c5 c6 c7 c8
        have fz := P8.frozen
        refine h_move 7 (by kernel_rfl) (h_op 7 rfl (by kernel_rfl) (fun K hK => ?_))
        go_simp
        clear c0 c1 c2 c3 c4 c5 c6 c7 c8 fz
        replace P8 := (((((((((P8.set 0 (.int .i64 q.fn)).set 1 (.int .i64 q.loc)).set 2 (.int .i64 q.cnt)).set 3 (.int .i64 q.wat)).set 4 (.int .i64 q.sub)).set 5 (.slice qb q.bits.length qcb)).set 6 (.slice qv q.vals.length qcv)).set 7 (.int .u16 q.land.toNat)).set 8 (.int .u16 q.lor.toNat))
        simp at P8
        replace P7 := (((((((((P7.set_ne (g := b8) (by omega) 0 (.int .i64 q.fn)).set_ne (g := b8) (by omega) 1 (.int .i64 q.loc)).set_ne (g := b8) (by omega) 2 (.int .i64 q.cnt)).set_ne (g := b8) (by omega) 3 (.int .i64 q.wat)).set_ne (g := b8) (by omega) 4 (.int .i64 q.sub)).set_ne (g := b8) (by omega) 5 (.slice qb q.bits.length qcb)).set_ne (g := b8) (by omega) 6 (.slice qv q.vals.length qcv)).set_ne (g := b8) (by omega) 7 (.int .u16 q.land.toNat)).set_ne (g := b8) (by omega) 8 (.int .u16 q.lor.toNat))
        replace P9 := (((((((((P9.set_ne (g := b8) (by omega) 0 (.int .i64 q.fn)).set_ne (g := b8) (by omega) 1 (.int .i64 q.loc)).set_ne (g := b8) (by omega) 2 (.int .i64 q.cnt)).set_ne (g := b8) (by omega) 3 (.int .i64 q.wat)).set_ne (g := b8) (by omega) 4 (.int .i64 q.sub)).set_ne (g := b8) (by omega) 5 (.slice qb q.bits.length qcb)).set_ne (g := b8) (by omega) 6 (.slice qv q.vals.length qcv)).set_ne (g := b8) (by omega) 7 (.int .u16 q.land.toNat)).set_ne (g := b8) (by omega) 8 (.int .u16 q.lor.toNat))
        replace S0 := (((((((((S0.setCell (p := ⟨b8, 0, none⟩) (by simp; omega) (.int .i64 q.fn)).setCell (p := ⟨b8, 1, none⟩) (by simp; omega) (.int .i64 q.loc)).setCell (p := ⟨b8, 2, none⟩) (by simp; omega) (.int .i64 q.cnt)).setCell (p := ⟨b8, 3, none⟩) (by simp; omega) (.int .i64 q.wat)).setCell (p := ⟨b8, 4, none⟩) (by simp; omega) (.int .i64 q.sub)).setCell (p := ⟨b8, 5, none⟩) (by simp; omega) (.slice qb q.bits.length qcb)).setCell (p := ⟨b8, 6, none⟩) (by simp; omega) (.slice qv q.vals.length qcv)).setCell (p := ⟨b8, 7, none⟩) (by simp; omega) (.int .u16 q.land.toNat)).setCell (p := ⟨b8, 8, none⟩) (by simp; omega) (.int .u16 q.lor.toNat))
        refine hK.out _ _ S0 ?_
        clear K hK
        try simp only [Act.put, List.setIfInBounds_toArray, List.set_cons_zero, List.set_cons_succ]
        generalize (((((((((y4.setCell ⟨b8, 0, none⟩ (.int .i64 q.fn)).setCell ⟨b8, 1, none⟩ (.int .i64 q.loc)).setCell ⟨b8, 2, none⟩ (.int .i64 q.cnt)).setCell ⟨b8, 3, none⟩ (.int .i64 q.wat)).setCell ⟨b8, 4, none⟩ (.int .i64 q.sub)).setCell ⟨b8, 5, none⟩ (.slice qb q.bits.length qcb)).setCell ⟨b8, 6, none⟩ (.slice qv q.vals.length qcv)).setCell ⟨b8, 7, none⟩ (.int .u16 q.land.toNat)).setCell ⟨b8, 8, none⟩ (.int .u16 q.lor.toNat)) = y5 at *
        have c0 := P9.cell 0
        have c1 := P9.cell 1
        have c2 := P9.cell 2
        have c3 := P9.cell 3
        have c4 := P9.cell 4
        have c5 := P9.cell 5
        have c6 := P9.cell 6
        have c7 := P9.cell 7
        have c8 := P9.cell 8
        simp at c0 c1 c2 c3 c4 c5 c6 c7 c8
        have fz := P9.frozen
        refine h_move 8 (by kernel_rfl) (h_op 8 rfl (by kernel_rfl) (fun K hK => ?_))
        go_simp
        clear c0 c1 c2 c3 c4 c5 c6 c7 c8 fz
        replace P9 := (((((((((P9.set 0 (.int .i64 q.fn)).set 1 (.int .i64 q.loc)).set 2 (.int .i64 q.cnt)).set 3 (.int .i64 q.wat)).set 4 (.int .i64 q.sub)).set 5 (.slice qb q.bits.length qcb)).set 6 (.slice qv q.vals.length qcv)).set 7 (.int .u16 q.land.toNat)).set 8 (.int .u16 q.lor.toNat))
        simp at P9
        replace P7 := (((((((((P7.set_ne (g := b9) (by omega) 0 (.int .i64 q.fn)).set_ne (g := b9) (by omega) 1 (.int .i64 q.loc)).set_ne (g := b9) (by omega) 2 (.int .i64 q.cnt)).set_ne (g := b9) (by omega) 3 (.int .i64 q.wat)).set_ne (g := b9) (by omega) 4 (.int .i64 q.sub)).set_ne (g := b9) (by omega) 5 (.slice qb q.bits.length qcb)).set_ne (g := b9) (by omega) 6 (.slice qv q.vals.length qcv)).set_ne (g := b9) (by omega) 7 (.int .u16 q.land.toNat)).set_ne (g := b9) (by omega) 8 (.int .u16 q.lor.toNat))
        replace P8 := (((((((((P8.set_ne (g := b9) (by omega) 0 (.int .i64 q.fn)).set_ne (g := b9) (by omega) 1 (.int .i64 q.loc)).set_ne (g := b9) (by omega) 2 (.int .i64 q.cnt)).set_ne (g := b9) (by omega) 3 (.int .i64 q.wat)).set_ne (g := b9) (by omega) 4 (.int .i64 q.sub)).set_ne (g := b9) (by omega) 5 (.slice qb q.bits.length qcb)).set_ne (g := b9) (by omega) 6 (.slice qv q.vals.length qcv)).set_ne (g := b9) (by omega) 7 (.int .u16 q.land.toNat)).set_ne (g := b9) (by omega) 8 (.int .u16 q.lor.toNat))
        replace S0 := (((((((((S0.setCell (p := ⟨b9, 0, none⟩) (by simp; omega) (.int .i64 q.fn)).setCell (p := ⟨b9, 1, none⟩) (by simp; omega) (.int .i64 q.loc)).setCell (p := ⟨b9, 2, none⟩) (by simp; omega) (.int .i64 q.cnt)).setCell (p := ⟨b9, 3, none⟩) (by simp; omega) (.int .i64 q.wat)).setCell (p := ⟨b9, 4, none⟩) (by simp; omega) (.int .i64 q.sub)).setCell (p := ⟨b9, 5, none⟩) (by simp; omega) (.slice qb q.bits.length qcb)).setCell (p := ⟨b9, 6, none⟩) (by simp; omega) (.slice qv q.vals.length qcv)).setCell (p := ⟨b9, 7, none⟩) (by simp; omega) (.int .u16 q.land.toNat)).setCell (p := ⟨b9, 8, none⟩) (by simp; omega) (.int .u16 q.lor.toNat))
        refine hK.out _ _ S0 ?_
        clear K hK
        try simp only [Act.put, List.setIfInBounds_toArray, List.set_cons_zero, List.set_cons_succ]
        generalize (((((((((y5.setCell ⟨b9, 0, none⟩ (.int .i64 q.fn)).setCell ⟨b9, 1, none⟩ (.int .i64 q.loc)).setCell ⟨b9, 2, none⟩ (.int .i64 q.cnt)).setCell ⟨b9, 3, none⟩ (.int .i64 q.wat)).setCell ⟨b9, 4, none⟩ (.int .i64 q.sub)).setCell ⟨b9, 5, none⟩ (.slice qb q.bits.length qcb)).setCell ⟨b9, 6, none⟩ (.slice qv q.vals.length qcv)).setCell ⟨b9, 7, none⟩ (.int .u16 q.land.toNat)).setCell ⟨b9, 8, none⟩ (.int .u16 q.lor.toNat)) = y6 at *
        refine h_done (by kernel_rfl) ?_
        go_wp2_with fail
        go_meet
        have sy := SY.out
        exact ⟨b7, b8, b9, rfl, rfl, rfl, by omega, by omega, by omega, by omega, by omega, by omega, P7, P8, P9, Ey.trans (S0.mono (by omega))⟩
    · go_simp
      have Bl := (Below.refl y0.heap.size y0).alloc (Nat.le_refl _) (.cells #[.int .i64 0, .int .i64 0, .int .i64 0, .int .i64 0, .int .i64 0, .slice none 0 0, .slice none 0 0, .int .u16 0, .int .u16 0] 26)
      have P8 := Blk.new y0 26 [.int .i64 0, .int .i64 0, .int .i64 0, .int .i64 0, .int .i64 0, .slice none 0 0, .slice none 0 0, .int .u16 0, .int .u16 0]
      replace S0 := S0.trans (Bl.mono Ky0)
      refine hK.out _ _ S0 ?_
      clear K hK
      try simp only [Act.put, List.setIfInBounds_toArray, List.set_cons_zero, List.set_cons_succ]
      have k8 := Ky0
      have Ky1 : N0 ≤ (y0.alloc (.cells #[.int .i64 0, .int .i64 0, .int .i64 0, .int .i64 0, .int .i64 0, .slice none 0 0, .slice none 0 0, .int .u16 0, .int .u16 0] 26)).heap.size := by simp; omega
      have l8 : y0.heap.size < (y0.alloc (.cells #[.int .i64 0, .int .i64 0, .int .i64 0, .int .i64 0, .int .i64 0, .slice none 0 0, .slice none 0 0, .int .u16 0, .int .u16 0] 26)).heap.size := by simp
      clear Bl
      generalize y0.alloc (.cells #[.int .i64 0, .int .i64 0, .int .i64 0, .int .i64 0, .int .i64 0, .slice none 0 0, .slice none 0 0, .int .u16 0, .int .u16 0] 26) = y1 at *
      generalize y0.heap.size = b8 at *
      refine h_move2 3 5 (by kernel_rfl) (h_op 3 rfl (by kernel_rfl) (fun K hK => ?_)) (h_op 5 rfl (by kernel_rfl) (fun K hK => ?_))
      · go_simp
        have Bl := (Below.refl y1.heap.size y1).alloc (Nat.le_refl _) (.cells #[.int .i64 0, .int .i64 0, .int .i64 0, .int .i64 0, .int .i64 0, .slice none 0 0, .slice none 0 0, .int .u16 0, .int .u16 0] 26)
        replace P8 := P8.below Bl P8.lt
        have P7 := Blk.new y1 26 [.int .i64 0, .int .i64 0, .int .i64 0, .int .i64 0, .int .i64 0, .slice none 0 0, .slice none 0 0, .int .u16 0, .int .u16 0]
        replace S0 := S0.trans (Bl.mono Ky1)
        refine hK.out _ _ S0 ?_
        clear K hK
        try simp only [Act.put, List.setIfInBounds_toArray, List.set_cons_zero, List.set_cons_succ]
        have k7 := Ky1
        have n78 : y1.heap.size ≠ b8 := by omega
        have Ky2 : N0 ≤ (y1.alloc (.cells #[.int .i64 0, .int .i64 0, .int .i64 0, .int .i64 0, .int .i64 0, .slice none 0 0, .slice none 0 0, .int .u16 0, .int .u16 0] 26)).heap.size := by simp; omega
        have l8 : b8 < (y1.alloc (.cells #[.int .i64 0, .int .i64 0, .int .i64 0, .int .i64 0, .int .i64 0, .slice none 0 0, .slice none 0 0, .int .u16 0, .int .u16 0] 26)).heap.size := by simp; omega
        have l7 : y1.heap.size < (y1.alloc (.cells #[.int .i64 0, .int .i64 0, .int .i64 0, .int .i64 0, .int .i64 0, .slice none 0 0, .slice none 0 0, .int .u16 0, .int .u16 0] 26)).heap.size := by simp
        clear Bl
        generalize y1.alloc (.cells #[.int .i64 0, .int .i64 0, .int .i64 0, .int .i64 0, .int .i64 0, .slice none 0 0, .slice none 0 0, .int .u16 0, .int .u16 0] 26) = y2 at *
        generalize y1.heap.size = b7 at *
        refine h_move 5 (by kernel_rfl) (h_op 5 rfl (by kernel_rfl) (fun K hK => ?_))
        go_simp
        have Bl := (Below.refl y2.heap.size y2).alloc (Nat.le_refl _) (.cells #[.int .i64 0, .int .i64 0, .int .i64 0, .int .i64 0, .int .i64 0, .slice none 0 0, .slice none 0 0, .int .u16 0, .int .u16 0] 26)
        replace P8 := P8.below Bl P8.lt
        replace P7 := P7.below Bl P7.lt
        have P9 := Blk.new y2 26 [.int .i64 0, .int .i64 0, .int .i64 0, .int .i64 0, .int .i64 0, .slice none 0 0, .slice none 0 0, .int .u16 0, .int .u16 0]
        replace S0 := S0.trans (Bl.mono Ky2)
        refine hK.out _ _ S0 ?_
        clear K hK
        try simp only [Act.put, List.setIfInBounds_toArray, List.set_cons_zero, List.set_cons_succ]
        have k9 := Ky2
        have n98 : y2.heap.size ≠ b8 := by omega
        have n97 : y2.heap.size ≠ b7 := by omega
        have Ky3 : N0 ≤ (y2.alloc (.cells #[.int .i64 0, .int .i64 0, .int .i64 0, .int .i64 0, .int .i64 0, .slice none 0 0, .slice none 0 0, .int .u16 0, .int .u16 0] 26)).heap.size := by simp; omega
        have l8 : b8 < (y2.alloc (.cells #[.int .i64 0, .int .i64 0, .int .i64 0, .int .i64 0, .int .i64 0, .slice none 0 0, .slice none 0 0, .int .u16 0, .int .u16 0] 26)).heap.size := by simp; omega
        have l7 : b7 < (y2.alloc (.cells #[.int .i64 0, .int .i64 0, .int .i64 0, .int .i64 0, .int .i64 0, .slice none 0 0, .slice none 0 0, .int .u16 0, .int .u16 0] 26)).heap.size := by simp; omega
        have l9 : y2.heap.size < (y2.alloc (.cells #[.int .i64 0, .int .i64 0, .int .i64 0, .int .i64 0, .int .i64 0, .slice none 0 0, .slice none 0 0, .int .u16 0, .int .u16 0] 26)).heap.size := by simp
        clear Bl
        generalize y2.alloc (.cells #[.int .i64 0, .int .i64 0, .int .i64 0, .int .i64 0, .int .i64 0, .slice none 0 0, .slice none 0 0, .int .u16 0, .int .u16 0] 26) = y3 at *
        generalize y2.heap.size = b9 at *
        have c0 := P7.cell 0
        have c1 := P7.cell 1
        have c2 := P7.cell 2
        have c3 := P7.cell 3
        have c4 := P7.cell 4
        have c5 := P7.cell 5
        have c6 := P7.cell 6
        have c7 := P7.cell 7
        have c8 := P7.cell 8
        simp at c0 c1 c2 c3 c4 c5 c6 c7 c8
        have fz := P7.frozen
        refine h_move 6 (by kernel_rfl) (h_op 6 rfl (by kernel_rfl) (fun K hK => ?_))
        go_simp
        clear c0 c1 c2 c3 c4 c5 c6 c7 c8 fz
        replace P7 := (((((((((P7.set 0 (.int .i64 q.fn)).set 1 (.int .i64 q.loc)).set 2 (.int .i64 q.cnt)).set 3 (.int .i64 q.wat)).set 4 (.int .i64 q.sub)).set 5 (.slice qb q.bits.length qcb)).set 6 (.slice qv q.vals.length qcv)).set 7 (.int .u16 q.land.toNat)).set 8 (.int .u16 q.lor.toNat))
        simp at P7
        replace P8 := (((((((((P8.set_ne (g := b7) (by omega) 0 (.int .i64 q.fn)).set_ne (g := b7) (by omega) 1 (.int .i64 q.loc)).set_ne (g := b7) (by omega) 2 (.int .i64 q.cnt)).set_ne (g := b7) (by omega) 3 (.int .i64 q.wat)).set_ne (g := b7) (by omega) 4 (.int .i64 q.sub)).set_ne (g := b7) (by omega) 5 (.slice qb q.bits.length qcb)).set_ne (g := b7) (by omega) 6 (.slice qv q.vals.length qcv)).set_ne (g := b7) (by omega) 7 (.int .u16 q.land.toNat)).set_ne (g := b7) (by omega) 8 (.int .u16 q.lor.toNat))
        replace P9 := (((((((((P9.set_ne (g := b7) (by omega) 0 (.int .i64 q.fn)).set_ne (g := b7) (by omega) 1 (.int .i64 q.loc)).set_ne (g := b7) (by omega) 2 (.int .i64 q.cnt)).set_ne (g := b7) (by omega) 3 (.int .i64 q.wat)).set_ne (g := b7) (by omega) 4 (.int .i64 q.sub)).set_ne (g := b7) (by omega) 5 (.slice qb q.bits.length qcb)).set_ne (g := b7) (by omega) 6 (.slice qv q.vals.length qcv)).set_ne (g := b7) (by omega) 7 (.int .u16 q.land.toNat)).set_ne (g := b7) (by omega) 8 (.int .u16 q.lor.toNat))
        replace S0 := (((((((((S0.setCell (p := ⟨b7, 0, none⟩) (by simp; omega) (.int .i64 q.fn)).setCell (p := ⟨b7, 1, none⟩) (by simp; omega) (.int .i64 q.loc)).setCell (p := ⟨b7, 2, none⟩) (by simp; omega) (.int .i64 q.cnt)).setCell (p := ⟨b7, 3, none⟩) (by simp; omega) (.int .i64 q.wat)).setCell (p := ⟨b7, 4, none⟩) (by simp; omega) (.int .i64 q.sub)).setCell (p := ⟨b7, 5, none⟩) (by simp; omega) (.slice qb q.bits.length qcb)).setCell (p := ⟨b7, 6, none⟩) (by simp; omega) (.slice qv q.vals.length qcv)).setCell (p := ⟨b7, 7, none⟩) (by simp; omega) (.int .u16 q.land.toNat)).setCell (p := ⟨b7, 8, none⟩) (by simp; omega) (.int .u16 q.lor.toNat))
        refine hK.out _ _ S0 ?_
        clear K hK
        try simp only [Act.put, List.setIfInBounds_toArray, List.set_cons_zero, List.set_cons_succ]
        generalize (((((((((y3.setCell ⟨b7, 0, none⟩ (.int .i64 q.fn)).setCell ⟨b7, 1, none⟩ (.int .i64 q.loc)).setCell ⟨b7, 2, none⟩ (.int .i64 q.cnt)).setCell ⟨b7, 3, none⟩ (.int .i64 q.wat)).setCell ⟨b7, 4, none⟩ (.int .i64 q.sub)).setCell ⟨b7, 5, none⟩ (.slice qb q.bits.length qcb)).setCell ⟨b7, 6, none⟩ (.slice qv q.vals.length qcv)).setCell ⟨b7, 7, none⟩ (.int .u16 q.land.toNat)).setCell ⟨b7, 8, none⟩ (.int .u16 q.lor.toNat)) = y4 at *
        have c0 := P8.cell 0
        have c1 := P8.cell 1
        have c2 := P8.cell 2
        have c3 := P8.cell 3
        have c4 := P8.cell 4
        have c5 := P8.cell 5
        have c6 := P8.cell 6
        have c7 := P8.cell 7
        have c8 := P8.cell 8
        simp at c0 c1 c2 c3 c4 c5 c6 c7 c8
        have fz := P8.frozen
        refine h_move 7 (by kernel_rfl) (h_op 7 rfl (by kernel_rfl) (fun K hK => ?_))
        go_simp
        clear c0 c1 c2 c3 c4 c5 c6 c7 c8 fz
        replace P8 := (((((((((P8.set 0 (.int .i64 q.fn)).set 1 (.int .i64 q.loc)).set 2 (.int .i64 q.cnt)).set 3 (.int .i64 q.wat)).set 4 (.int .i64 q.sub)).set 5 (.slice qb q.bits.length qcb)).set 6 (.slice qv q.vals.length qcv)).set 7 (.int .u16 q.land.toNat)).set 8 (.int .u16 q.lor.toNat))
        simp at P8
        replace P7 := (((((((((P7.set_ne (g := b8) (by omega) 0 (.int .i64 q.fn)).set_ne (g := b8) (by omega) 1 (.int .i64 q.loc)).set_ne (g := b8) (by omega) 2 (.int .i64 q.cnt)).set_ne (g := b8) (by omega) 3 (.int .i64 q.wat)).set_ne (g := b8) (by omega) 4 (.int .i64 q.sub)).set_ne (g := b8) (by omega) 5 (.slice qb q.bits.length qcb)).set_ne (g := b8) (by omega) 6 (.slice qv q.vals.length qcv)).set_ne (g := b8) (by omega) 7 (.int .u16 q.land.toNat)).set_ne (g := b8) (by omega) 8 (.int .u16 q.lor.toNat))
        replace P9 := (((((((((P9.set_ne (g := b8) (by omega) 0 (.int .i64 q.fn)).set_ne (g := b8) (by omega) 1 (.int .i64 q.loc)).set_ne (g := b8) (by omega) 2 (.int .i64 q.cnt)).set_ne (g := b8) (by omega) 3 (.int .i64 q.wat)).set_ne (g := b8) (by omega) 4 (.int .i64 q.sub)).set_ne (g := b8) (by omega) 5 (.slice qb q.bits.length qcb)).set_ne (g := b8) (by omega) 6 (.slice qv q.vals.length qcv)).set_ne (g := b8) (by omega) 7 (.int .u16 q.land.toNat)).set_ne (g := b8) (by omega) 8 (.int .u16 q.lor.toNat))
        replace S0 := (((((((((S0.setCell (p := ⟨b8, 0, none⟩) (by simp; omega) (.int .i64 q.fn)).setCell (p := ⟨b8, 1, none⟩) (by simp; omega) (.int .i64 q.loc)).setCell (p := ⟨b8, 2, none⟩) (by simp; omega) (.int .i64 q.cnt)).setCell (p := ⟨b8, 3, none⟩) (by simp; omega) (.int .i64 q.wat)).setCell (p := ⟨b8, 4, none⟩) (by simp; omega) (.int .i64 q.sub)).setCell (p := ⟨b8, 5, none⟩) (by simp; omega) (.slice qb q.bits.length qcb)).setCell (p := ⟨b8, 6, none⟩) (by simp; omega) (.slice qv q.vals.length qcv)).setCell (p := ⟨b8, 7, none⟩) (by simp; omega) (.int .u16 q.land.toNat)).setCell (p := ⟨b8, 8, none⟩) (by simp; omega) (.int .u16 q.lor.toNat))
        refine hK.out _ _ S0 ?_
        clear K hK
        try simp only [Act.put, List.setIfInBounds_toArray, List.set_cons_zero, List.set_cons_succ]
        generalize (((((((((y4.setCell ⟨b8, 0, none⟩ (.int .i64 q.fn)).setCell ⟨b8, 1, none⟩ (.int .i64 q.loc)).setCell ⟨b8, 2, none⟩ (.int .i64 q.cnt)).setCell ⟨b8, 3, none⟩ (.int .i64 q.wat)).setCell ⟨b8, 4, none⟩ (.int .i64 q.sub)).setCell ⟨b8, 5, none⟩ (.slice qb q.bits.length qcb)).setCell ⟨b8, 6, none⟩ (.slice qv q.vals.length qcv)).setCell ⟨b8, 7, none⟩ (.int .u16 q.land.toNat)).setCell ⟨b8, 8, none⟩ (.int .u16 q.lor.toNat)) = y5 at *
        have c0 := P9.cell 0
        have c1 := P9.cell 1
        have c2 := P9.cell 2
        have c3 := P9.cell 3
        have c4 := P9.cell 4
        have c5 := P9.cell 5
        have c6 := P9.cell 6
        have c7 := P9.cell 7
        have c8 := P9.cell 8
        simp at c0 c1 c2 c3 c4 c5 c6 c7 c8
        have fz := P9.frozen
        refine h_move 8 (by kernel_rfl) (h_op 8 rfl (by kernel_rfl) (fun K hK => ?_))
        go_simp
        clear c0 c1 c2 c3 c4 c5 c6 c7 c8 fz
        replace P9 := (((((((((P9.set 0 (.int .i64 q.fn)).set 1 (.int .i64 q.loc)).set 2 (.int .i64 q.cnt)).set 3 (.int .i64 q.wat)).set 4 (.int .i64 q.sub)).set 5 (.slice qb q.bits.length qcb)).set 6 (.slice qv q.vals.length qcv)).set 7 (.int .u16 q.land.toNat)).set 8 (.int .u16 q.lor.toNat))
        simp at P9
        replace P8 := (((((((((P8.set_ne (g := b9) (by omega) 0 (.int .i64 q.fn)).set_ne (g := b9) (by omega) 1 (.int .i64 q.loc)).set_ne (g := b9) (by omega) 2 (.int .i64 q.cnt)).set_ne (g := b9) (by omega) 3 (.int .i64 q.wat)).set_ne (g := b9) (by omega) 4 (.int .i64 q.sub)).set_ne (g := b9) (by omega) 5 (.slice qb q.bits.length qcb)).set_ne (g := b9) (by omega) 6 (.slice qv q.vals.length qcv)).set_ne (g := b9) (by omega) 7 (.int .u16 q.land.toNat)).set_ne (g := b9) (by omega) 8 (.int .u16 q.lor.toNat))
        replace P7 := (((((((((P7.set_ne (g := b9) (by omega) 0 (.int .i64 q.fn)).set_ne (g := b9) (by omega) 1 (.int .i64 q.loc)).set_ne (g := b9) (by omega) 2 (.int .i64 q.cnt)).set_ne (g := b9) (by omega) 3 (.int .i64 q.wat)).set_ne (g := b9) (by omega) 4 (.int .i64 q.sub)).set_ne (g := b9) (by omega) 5 (.slice qb q.bits.length qcb)).set_ne (g := b9) (by omega) 6 (.slice qv q.vals.length qcv)).set_ne (g := b9) (by omega) 7 (.int .u16 q.land.toNat)).set_ne (g := b9) (by omega) 8 (.int .u16 q.lor.toNat))
        replace S0 := (((((((((S0.setCell (p := ⟨b9, 0, none⟩) (by simp; omega) (.int .i64 q.fn)).setCell (p := ⟨b9, 1, none⟩) (by simp; omega) (.int .i64 q.loc)).setCell (p := ⟨b9, 2, none⟩) (by simp; omega) (.int .i64 q.cnt)).setCell (p := ⟨b9, 3, none⟩) (by simp; omega) (.int .i64 q.wat)).setCell (p := ⟨b9, 4, none⟩) (by simp; omega) (.int .i64 q.sub)).setCell (p := ⟨b9, 5, none⟩) (by simp; omega) (.slice qb q.bits.length qcb)).setCell (p := ⟨b9, 6, none⟩) (by simp; omega) (.slice qv q.vals.length qcv)).setCell (p := ⟨b9, 7, none⟩) (by simp; omega) (.int .u16 q.land.toNat)).setCell (p := ⟨b9, 8, none⟩) (by simp; omega) (.int .u16 q.lor.toNat))
        refine hK.out _ _ S0 ?_
        clear K hK
        try simp only [Act.put, List.setIfInBounds_toArray, List.set_cons_zero, List.set_cons_succ]
        generalize (((((((((y5.setCell ⟨b9, 0, none⟩ (.int .i64 q.fn)).setCell ⟨b9, 1, none⟩ (.int .i64 q.loc)).setCell ⟨b9, 2, none⟩ (.int .i64 q.cnt)).setCell ⟨b9, 3, none⟩ (.int .i64 q.wat)).setCell ⟨b9, 4, none⟩ (.int .i64 q.sub)).setCell ⟨b9, 5, none⟩ (.slice qb q.bits.length qcb)).setCell ⟨b9, 6, none⟩ (.slice qv q.vals.length qcv)).setCell ⟨b9, 7, none⟩ (.int .u16 q.land.toNat)).setCell ⟨b9, 8, none⟩ (.int .u16 q.lor.toNat)) = y6 at *
        refine h_done (by kernel_rfl) ?_
        go_wp2_with fail
        go_meet
        have sy := SY.out
        exact ⟨b7, b8, b9, rfl, rfl, rfl, by omega, by omega, by omega, by omega, by omega, by omega, P7, P8, P9, Ey.trans (S0.mono (by omega))⟩
      · go_simp
        have Bl := (Below.refl y1.heap.size y1).alloc (Nat.le_refl _) (.cells #[.int .i64 0, .int .i64 0, .int .i64 0, .int .i64 0, .int .i64 0, .slice none 0 0, .slice none 0 0, .int .u16 0, .int .u16 0] 26)
        replace P8 := P8.below Bl P8.lt
        have P9 := Blk.new y1 26 [.int .i64 0, .int .i64 0, .int .i64 0, .int .i64 0, .int .i64 0, .slice none 0 0, .slice none 0 0, .int .u16 0, .int .u16 0]
        replace S0 := S0.trans (Bl.mono Ky1)
        refine hK.out _ _ S0 ?_
        clear K hK
        try simp only [Act.put, List.setIfInBounds_toArray, List.set_cons_zero, List.set_cons_succ]
        have k9 := Ky1
        have n98 : y1.heap.size ≠ b8 := by omega
        have Ky2 : N0 ≤ (y1.alloc (.cells #[.int .i64 0, .int .i64 0, .int .i64 0, .int .i64 0, .int .i64 0, .slice none 0 0, .slice none 0 0, .int .u16 0, .int .u16 0] 26)).heap.size := by simp; omega
        have l8 : b8 < (y1.alloc (.cells #[.int .i64 0, .int .i64 0, .int .i64 0, .int .i64 0, .int .i64 0, .slice none 0 0, .slice none 0 0, .int .u16 0, .int .u16 0] 26)).heap.size := by simp; omega
        have l9 : y1.heap.size < (y1.alloc (.cells #[.int .i64 0, .int .i64 0, .int .i64 0, .int .i64 0, .int .i64 0, .slice none 0 0, .slice none 0 0, .int .u16 0, .int .u16 0] 26)).heap.size := by simp
        clear Bl
        generalize y1.alloc (.cells #[.int .i64 0, .int .i64 0, .int .i64 0, .int .i64 0, .int .i64 0, .slice none 0 0, .slice none 0 0, .int .u16 0, .int .u16 0] 26) = y2 at *
        generalize y1.heap.size = b9 at *
        refine h_move 3 (by kernel_rfl) (h_op 3 rfl (by kernel_rfl) (fun K hK => ?_))
        go_simp
        have Bl := (Below.refl y2.heap.size y2).alloc (Nat.le_refl _) (.cells #[.int .i64 0, .int .i64 0, .int .i64 0, .int .i64 0, .int .i64 0, .slice none 0 0, .slice none 0 0, .int .u16 0, .int .u16 0] 26)
        replace P8 := P8.below Bl P8.lt
        replace P9 := P9.below Bl P9.lt
        have P7 := Blk.new y2 26 [.int .i64 0, .int .i64 0, .int .i64 0, .int .i64 0, .int .i64 0, .slice none 0 0, .slice none 0 0, .int .u16 0, .int .u16 0]
        replace S0 := S0.trans (Bl.mono Ky2)
        refine hK.out _ _ S0 ?_
        clear K hK
        try simp only [Act.put, List.setIfInBounds_toArray, List.set_cons_zero, List.set_cons_succ]
        have k7 := Ky2
        have n78 : y2.heap.size ≠ b8 := by omega
        have n79 : y2.heap.size ≠ b9 := by omega
        have Ky3 : N0 ≤ (y2.alloc (.cells #[.int .i64 0, .int .i64 0, .int .i64 0, .int .i64 0, .int .i64 0, .slice none 0 0, .slice none 0 0, .int .u16 0, .int .u16 0] 26)).heap.size := by simp; omega
        have l8 : b8 < (y2.alloc (.cells #[.int .i64 0, .int .i64 0, .int .i64 0, .int .i64 0, .int .i64 0, .slice none 0 0, .slice none 0 0, .int .u16 0, .int .u16 0] 26)).heap.size := by simp; omega
        have l9 : b9 < (y2.alloc (.cells #[.int .i64 0, .int .i64 0, .int .i64 0, .int .i64 0, .int .i64 0, .slice none 0 0, .slice none 0 0, .int .u16 0, .int .u16 0] 26)).heap.size := by simp; omega
        have l7 : y2.heap.size < (y2.alloc (.cells #[.int .i64 0, .int .i64 0, .int .i64 0, .int .i64 0, .int .i64 0, .slice none 0 0, .slice none 0 0, .int .u16 0, .int .u16 0] 26)).heap.size := by simp
        clear Bl
        generalize y2.alloc (.cells #[.int .i64 0, .int .i64 0, .int .i64 0, .int .i64 0, .int .i64 0, .slice none 0 0, .slice none 0 0, .int .u16 0, .int .u16 0] 26) = y3 at *
        generalize y2.heap.size = b7 at *
        have c0 := P7.cell 0
        have c1 := P7.cell 1
        have c2 := P7.cell 2
        have c3 := P7.cell 3
        have c4 := P7.cell 4
        have c5 := P7.cell 5
        have c6 := P7.cell 6
        have c7 := P7.cell 7
        have c8 := P7.cell 8
        simp at c0 c1 c2 c3 c4 c5 c6 c7 c8
        have fz := P7.frozen
        refine h_move 6 (by kernel_rfl) (h_op 6 rfl (by kernel_rfl) (fun K hK => ?_))
        go_simp
        clear c0 c1 c2 c3 c4 c5 c6 c7 c8 fz
        replace P7 := (((((((((P7.set 0 (.int .i64 q.fn)).set 1 (.int .i64 q.loc)).set 2 (.int .i64 q.cnt)).set 3 (.int .i64 q.wat)).set 4 (.int .i64 q.sub)).set 5 (.slice qb q.bits.length qcb)).set 6 (.slice qv q.vals.length qcv)).set 7 (.int .u16 q.land.toNat)).set 8 (.int .u16 q.lor.toNat))
        simp at P7
        replace P8 := (((((((((P8.set_ne (g := b7) (by omega) 0 (.int .i64 q.fn)).set_ne (g := b7) (by omega) 1 (.int .i64 q.loc)).set_ne (g := b7) (by omega) 2 (.int .i64 q.cnt)).set_ne (g := b7) (by omega) 3 (.int .i64 q.wat)).set_ne (g := b7) (by omega) 4 (.int .i64 q.sub)).set_ne (g := b7) (by omega) 5 (.slice qb q.bits.length qcb)).set_ne (g := b7) (by omega) 6 (.slice qv q.vals.length qcv)).set_ne (g := b7) (by omega) 7 (.int .u16 q.land.toNat)).set_ne (g := b7) (by omega) 8 (.int .u16 q.lor.toNat))
        replace P9 := (((((((((P9.set_ne (g := b7) (by omega) 0 (.int .i64 q.fn)).set_ne (g := b7) (by omega) 1 (.int .i64 q.loc)).set_ne (g := b7) (by omega) 2 (.int .i64 q.cnt)).set_ne (g := b7) (by omega) 3 (.int .i64 q.wat)).set_ne (g := b7) (by omega) 4 (.int .i64 q.sub)).set_ne (g := b7) (by omega) 5 (.slice qb q.bits.length qcb)).set_ne (g := b7) (by omega) 6 (.slice qv q.vals.length qcv)).set_ne (g := b7) (by omega) 7 (.int .u16 q.land.toNat)).set_ne (g := b7) (by omega) 8 (.int .u16 q.lor.toNat))
        replace S0 := (((((((((S0.setCell (p := ⟨b7, 0, none⟩) (by simp; omega) (.int .i64 q.fn)).setCell (p := ⟨b7, 1, none⟩) (by simp; omega) (.int .i64 q.loc)).setCell (p := ⟨b7, 2, none⟩) (by simp; omega) (.int .i64 q.cnt)).setCell (p := ⟨b7, 3, none⟩) (by simp; omega) (.int .i64 q.wat)).setCell (p := ⟨b7, 4, none⟩) (by simp; omega) (.int .i64 q.sub)).setCell (p := ⟨b7, 5, none⟩) (by simp; omega) (.slice qb q.bits.length qcb)).setCell (p := ⟨b7, 6, none⟩) (by simp; omega) (.slice qv q.vals.length qcv)).setCell (p := ⟨b7, 7, none⟩) (by simp; omega) (.int .u16 q.land.toNat)).setCell (p := ⟨b7, 8, none⟩) (by simp; omega) (.int .u16 q.lor.toNat))
        refine hK.out _ _ S0 ?_
        clear K hK
        try simp only [Act.put, List.setIfInBounds_toArray, List.set_cons_zero, List.set_cons_succ]
        generalize (((((((((y3.setCell ⟨b7, 0, none⟩ (.int .i64 q.fn)).setCell ⟨b7, 1, none⟩ (.int .i64 q.loc)).setCell ⟨b7, 2, none⟩ (.int .i64 q.cnt)).setCell ⟨b7, 3, none⟩ (.int .i64 q.wat)).setCell ⟨b7, 4, none⟩ (.int .i64 q.sub)).setCell ⟨b7, 5, none⟩ (.slice qb q.bits.length qcb)).setCell ⟨b7, 6, none⟩ (.slice qv q.vals.length qcv)).setCell ⟨b7, 7, none⟩ (.int .u16 q.land.toNat)).setCell ⟨b7, 8, none⟩ (.int .u16 q.lor.toNat)) = y4 at *
        have c0 := P8.cell 0
        have c1 := P8.cell 1
        have c2 := P8.cell 2
        have c3 := P8.cell 3
        have c4 := P8.cell 4
        have c5 := P8.cell 5
        have c6 := P8.cell 6
        have c7 := P8.cell 7
        have c8 := P8.cell 8
        simp at c0 c1 c2 c3 c4 c5 c6 c7 c8
        have fz := P8.frozen
        refine h_move 7 (by kernel_rfl) (h_op 7 rfl (by kernel_rfl) (fun K hK => ?_))
        go_simp
        clear c0 c1 c2 c3 c4 c5 c6 c7 c8 fz
        replace P8 := (((((((((P8.set 0 (.int .i64 q.fn)).set 1 (.int .i64 q.loc)).set 2 (.int .i64 q.cnt)).set 3 (.int .i64 q.wat)).set 4 (.int .i64 q.sub)).set 5 (.slice qb q.bits.length qcb)).set 6 (.slice qv q.vals.length qcv)).set 7 (.int .u16 q.land.toNat)).set 8 (.int .u16 q.lor.toNat))
        simp at P8
        replace P9 := (((((((((P9.set_ne (g := b8) (by omega) 0 (.int .i64 q.fn)).set_ne (g := b8) (by omega) 1 (.int .i64 q.loc)).set_ne (g := b8) (by omega) 2 (.int .i64 q.cnt)).set_ne (g := b8) (by omega) 3 (.int .i64 q.wat)).set_ne (g := b8) (by omega) 4 (.int .i64 q.sub)).set_ne (g := b8) (by omega) 5 (.slice qb q.bits.length qcb)).set_ne (g := b8) (by omega) 6 (.slice qv q.vals.length qcv)).set_ne (g := b8) (by omega) 7 (.int .u16 q.land.toNat)).set_ne (g := b8) (by omega) 8 (.int .u16 q.lor.toNat))
        replace P7 := (((((((((P7.set_ne (g := b8) (by omega) 0 (.int .i64 q.fn)).set_ne (g := b8) (by omega) 1 (.int .i64 q.loc)).set_ne (g := b8) (by omega) 2 (.int .i64 q.cnt)).set_ne (g := b8) (by omega) 3 (.int .i64 q.wat)).set_ne (g := b8) (by omega) 4 (.int .i64 q.sub)).set_ne (g := b8) (by omega) 5 (.slice qb q.bits.length qcb)).set_ne (g := b8) (by omega) 6 (.slice qv q.vals.length qcv)).set_ne (g := b8) (by omega) 7 (.int .u16 q.land.toNat)).set_ne (g := b8) (by omega) 8 (.int .u16 q.lor.toNat))
        replace S0 := (((((((((S0.setCell (p := ⟨b8, 0, none⟩) (by simp; omega) (.int .i64 q.fn)).setCell (p := ⟨b8, 1, none⟩) (by simp; omega) (.int .i64 q.loc)).setCell (p := ⟨b8, 2, none⟩) (by simp; omega) (.int .i64 q.cnt)).setCell (p := ⟨b8, 3, none⟩) (by simp; omega) (.int .i64 q.wat)).setCell (p := ⟨b8, 4, none⟩) (by simp; omega) (.int .i64 q.sub)).setCell (p := ⟨b8, 5, none⟩) (by simp; omega) (.slice qb q.bits.length qcb)).setCell (p := ⟨b8, 6, none⟩) (by simp; omega) (.slice qv q.vals.length qcv)).setCell (p := ⟨b8, 7, none⟩) (by simp; omega) (.int .u16 q.land.toNat)).setCell (p := ⟨b8, 8, none⟩) (by simp; omega) (.int .u16 q.lor.toNat))
        refine hK.out _ _ S0 ?_
        clear K hK
        try simp only [Act.put, List.setIfInBounds_toArray, List.set_cons_zero, List.set_cons_succ]
        generalize (((((((((y4.setCell ⟨b8, 0, none⟩ (.int .i64 q.fn)).setCell ⟨b8, 1, none⟩ (.int .i64 q.loc)).setCell ⟨b8, 2, none⟩ (.int .i64 q.cnt)).setCell ⟨b8, 3, none⟩ (.int .i64 q.wat)).setCell ⟨b8, 4, none⟩ (.int .i64 q.sub)).setCell ⟨b8, 5, none⟩ (.slice qb q.bits.length qcb)).setCell ⟨b8, 6, none⟩ (.slice qv q.vals.length qcv)).setCell ⟨b8, 7, none⟩ (.int .u16 q.land.toNat)).setCell ⟨b8, 8, none⟩ (.int .u16 q.lor.toNat)) = y5 at *
        have c0 := P9.cell 0
        have c1 := P9.cell 1
        have c2 := P9.cell 2
        have c3 := P9.cell 3
        have c4 := P9.cell 4
        have c5 := P9.cell 5
        have c6 := P9.cell 6
        have c7 := P9.cell 7
        have c8 := P9.cell 8
        simp at c0 c1 c2 c3 c4 c5 c6 c7 c8
        have fz := P9.frozen
        refine h_move 8 (by kernel_rfl) (h_op 8 rfl (by kernel_rfl) (fun K hK => ?_))
        go_simp
        clear c0 c1 c2 c3 c4 c5 c6 c7 c8 fz
        replace P9 := (((((((((P9.set 0 (.int .i64 q.fn)).set 1 (.int .i64 q.loc)).set 2 (.int .i64 q.cnt)).set 3 (.int .i64 q.wat)).set 4 (.int .i64 q.sub)).set 5 (.slice qb q.bits.length qcb)).set 6 (.slice qv q.vals.length qcv)).set 7 (.int .u16 q.land.toNat)).set 8 (.int .u16 q.lor.toNat))
        simp at P9
        replace P8 := (((((((((P8.set_ne (g := b9) (by omega) 0 (.int .i64 q.fn)).set_ne (g := b9) (by omega) 1 (.int .i64 q.loc)).set_ne (g := b9) (by omega) 2 (.int .i64 q.cnt)).set_ne (g := b9) (by omega) 3 (.int .i64 q.wat)).set_ne (g := b9) (by omega) 4 (.int .i64 q.sub)).set_ne (g := b9) (by omega) 5 (.slice qb q.bits.length qcb)).set_ne (g := b9) (by omega) 6 (.slice qv q.vals.length qcv)).set_ne (g := b9) (by omega) 7 (.int .u16 q.land.toNat)).set_ne (g := b9) (by omega) 8 (.int .u16 q.lor.toNat))
        replace P7 := (((((((((P7.set_ne (g := b9) (by omega) 0 (.int .i64 q.fn)).set_ne (g := b9) (by omega) 1 (.int .i64 q.loc)).set_ne (g := b9) (by omega) 2 (.int .i64 q.cnt)).set_ne (g := b9) (by omega) 3 (.int .i64 q.wat)).set_ne (g := b9) (by omega) 4 (.int .i64 q.sub)).set_ne (g := b9) (by omega) 5 (.slice qb q.bits.length qcb)).set_ne (g := b9) (by omega) 6 (.slice qv q.vals.length qcv)).set_ne (g := b9) (by omega) 7 (.int .u16 q.land.toNat)).set_ne (g := b9) (by omega) 8 (.int .u16 q.lor.toNat))
        replace S0 := (((((((((S0.setCell (p := ⟨b9, 0, none⟩) (by simp; omega) (.int .i64 q.fn)).setCell (p := ⟨b9, 1, none⟩) (by simp; omega) (.int .i64 q.loc)).setCell (p := ⟨b9, 2, none⟩) (by simp; omega) (.int .i64 q.cnt)).setCell (p := ⟨b9, 3, none⟩) (by simp; omega) (.int .i64 q.wat)).setCell (p := ⟨b9, 4, none⟩) (by simp; omega) (.int .i64 q.sub)).setCell (p := ⟨b9, 5, none⟩) (by simp; omega) (.slice qb q.bits.length qcb)).setCell (p := ⟨b9, 6, none⟩) (by simp; omega) (.slice qv q.vals.length qcv)).setCell (p := ⟨b9, 7, none⟩) (by simp; omega) (.int .u16 q.land.toNat)).setCell (p := ⟨b9, 8, none⟩) (by simp; omega) (.int .u16 q.lor.toNat))
        refine hK.out _ _ S0 ?_
        clear K hK
        try simp only [Act.put, List.setIfInBounds_toArray, List.set_cons_zero, List.set_cons_succ]
        generalize (((((((((y5.setCell ⟨b9, 0, none⟩ (.int .i64 q.fn)).setCell ⟨b9, 1, none⟩ (.int .i64 q.loc)).setCell ⟨b9, 2, none⟩ (.int .i64 q.cnt)).setCell ⟨b9, 3, none⟩ (.int .i64 q.wat)).setCell ⟨b9, 4, none⟩ (.int .i64 q.sub)).setCell ⟨b9, 5, none⟩ (.slice qb q.bits.length qcb)).setCell ⟨b9, 6, none⟩ (.slice qv q.vals.length qcv)).setCell ⟨b9, 7, none⟩ (.int .u16 q.land.toNat)).setCell ⟨b9, 8, none⟩ (.int .u16 q.lor.toNat)) = y6 at *
        refine h_done (by kernel_rfl) ?_
        go_wp2_with fail
        go_meet
        have sy := SY.out
        exact ⟨b7, b8, b9, rfl, rfl, rfl, by omega, by omega, by omega, by omega, by omega, by omega, P7, P8, P9, Ey.trans (S0.mono (by omega))⟩
    · go_simp
      have Bl := (Below.refl y0.heap.size y0).alloc (Nat.le_refl _) (.cells #[.int .i64 0, .int .i64 0, .int .i64 0, .int .i64 0, .int .i64 0, .slice none 0 0, .slice none 0 0, .int .u16 0, .int .u16 0] 26)
      have P9 := Blk.new y0 26 [.int .i64 0, .int .i64 0, .int .i64 0, .int .i64 0, .int .i64 0, .slice none 0 0, .slice none 0 0, .int .u16 0, .int .u16 0]
      replace S0 := S0.trans (Bl.mono Ky0)
      refine hK.out _ _ S0 ?_
      clear K hK
      try simp only [Act.put, List.setIfInBounds_toArray, List.set_cons_zero, List.set_cons_succ]
      have k9 := Ky0
      have Ky1 : N0 ≤ (y0.alloc (.cells #[.int .i64 0, .int .i64 0, .int .i64 0, .int .i64 0, .int .i64 0, .slice none 0 0, .slice none 0 0, .int .u16 0, .int .u16 0] 26)).heap.size := by simp; omega
      have l9 : y0.heap.size < (y0.alloc (.cells #[.int .i64 0, .int .i64 0, .int .i64 0, .int .i64 0, .int .i64 0, .slice none 0 0, .slice none 0 0, .int .u16 0, .int .u16 0] 26)).heap.size := by simp
      clear Bl
      generalize y0.alloc (.cells #[.int .i64 0, .int .i64 0, .int .i64 0, .int .i64 0, .int .i64 0, .slice none 0 0, .slice none 0 0, .int .u16 0, .int .u16 0] 26) = y1 at *
      generalize y0.heap.size = b9 at *
      refine h_move2 3 4 (by kernel_rfl) (h_op 3 rfl (by kernel_rfl) (fun K hK => ?_)) (h_op 4 rfl (by kernel_rfl) (fun K hK => ?_))
      · go_simp
        have Bl := (Below.refl y1.heap.size y1).alloc (Nat.le_refl _) (.cells #[.int .i64 0, .int .i64 0, .int .i64 0, .int .i64 0, .int .i64 0, .slice none 0 0, .slice none 0 0, .int .u16 0, .int .u16 0] 26)
        replace P9 := P9.below Bl P9.lt
        have P7 := Blk.new y1 26 [.int .i64 0, .int .i64 0, .int .i64 0, .int .i64 0, .int .i64 0, .slice none 0 0, .slice none 0 0, .int .u16 0, .int .u16 0]
        replace S0 := S0.trans (Bl.mono Ky1)
        refine hK.out _ _ S0 ?_
        clear K hK
        try simp only [Act.put, List.setIfInBounds_toArray, List.set_cons_zero, List.set_cons_succ]
        have k7 := Ky1
        have n79 : y1.heap.size ≠ b9 := by omega
        have Ky2 : N0 ≤ (y1.alloc (.cells #[.int .i64 0, .int .i64 0, .int .i64 0, .int .i64 0, .int .i64 0, .slice none 0 0, .slice none 0 0, .int .u16 0, .int .u16 0] 26)).heap.size := by simp; omega
        have l9 : b9 < (y1.alloc (.cells #[.int .i64 0, .int .i64 0, .int .i64 0, .int .i64 0, .int .i64 0, .slice none 0 0, .slice none 0 0, .int .u16 0, .int .u16 0] 26)).heap.size := by simp; omega
        have l7 : y1.heap.size < (y1.alloc (.cells #[.int .i64 0, .int .i64 0, .int .i64 0, .int .i64 0, .int .i64 0, .slice none 0 0, .slice none 0 0, .int .u16 0, .int .u16 0] 26)).heap.size := by simp
        clear Bl
        generalize y1.alloc (.cells #[.int .i64 0, .int .i64 0, .int .i64 0, .int .i64 0, .int .i64 0, .slice none 0 0, .slice none 0 0, .int .u16 0, .int .u16 0] 26) = y2 at *
        generalize y1.heap.size = b7 at *
        refine h_move 4 (by kernel_rfl) (h_op 4 rfl (by kernel_rfl) (fun K hK => ?_))
        go_simp
        have Bl := (Below.refl y2.heap.size y2).alloc (Nat.le_refl _) (.cells #[.int .i64 0, .int .i64 0, .int .i64 0, .int .i64 0, .int .i64 0, .slice none 0 0, .slice none 0 0, .int .u16 0, .int .u16 0] 26)
        replace P9 := P9.below Bl P9.lt
        replace P7 := P7.below Bl P7.lt
        have P8 := Blk.new y2 26 [.int .i64 0, .int .i64 0, .int .i64 0, .int .i64 0, .int .i64 0, .slice none 0 0, .slice none 0 0, .int .u16 0, .int .u16 0]
        replace S0 := S0.trans (Bl.mono Ky2)
        refine hK.out _ _ S0 ?_
        clear K hK
        try simp only [Act.put, List.setIfInBounds_toArray, List.set_cons_zero, List.set_cons_succ]
        have k8 := Ky2
        have n89 : y2.heap.size ≠ b9 := by omega
        have n87 : y2.heap.size ≠ b7 := by omega
        have Ky3 : N0 ≤ (y2.alloc (.cells #[.int .i64 0, .int .i64 0, .int .i64 0, .int .i64 0, .int .i64 0, .slice none 0 0, .slice none 0 0, .int .u16 0, .int .u16 0] 26)).heap.size := by simp; omega
        have l9 : b9 < (y2.alloc (.cells #[.int .i64 0, .int .i64 0, .int .i64 0, .int .i64 0, .int .i64 0, .slice none 0 0, .slice none 0 0, .int .u16 0, .int .u16 0] 26)).heap.size := by simp; omega
        have l7 : b7 < (y2.alloc (.cells #[.int .i64 0, .int .i64 0, .int .i64 0, .int .i64 0, .int .i64 0, .slice none 0 0, .slice none 0 0, .int .u16 0, .int .u16 0] 26)).heap.size := by simp; omega
        have l8 : y2.heap.size < (y2.alloc (.cells #[.int .i64 0, .int .i64 0, .int .i64 0, .int .i64 0, .int .i64 0, .slice none 0 0, .slice none 0 0, .int .u16 0, .int .u16 0] 26)).heap.size := by simp
        clear Bl
        generalize y2.alloc (.cells #[.int .i64 0, .int .i64 0, .int .i64 0, .int .i64 0, .int .i64 0, .slice none 0 0, .slice none 0 0, .int .u16 0, .int .u16 0] 26) = y3 at *
        generalize y2.heap.size = b8 at *
        have c0 := P7.cell 0
        have c1 := P7.cell 1
        have c2 := P7.cell 2
        have c3 := P7.cell 3
        have c4 := P7.cell 4
        have c5 := P7.cell 5
        have c6 := P7.cell 6
        have c7 := P7.cell 7
        have c8 := P7.cell 8
        simp at c0 c1 c2 c3 c4 c5 c6 c7 c8
        have fz := P7.frozen
        refine h_move 6 (by kernel_rfl) (h_op 6 rfl (by kernel_rfl) (fun K hK => ?_))
        go_simp
        clear c0 c1 c2 c3 c4 c5 c6 c7 c8 fz
        replace P7 := (((((((((P7.set 0 (.int .i64 q.fn)).set 1 (.int .i64 q.loc)).set 2 (.int .i64 q.cnt)).set 3 (.int .i64 q.wat)).set 4 (.int .i64 q.sub)).set 5 (.slice qb q.bits.length qcb)).set 6 (.slice qv q.vals.length qcv)).set 7 (.int .u16 q.land.toNat)).set 8 (.int .u16 q.lor.toNat))
        simp at P7
        replace P9 := (((((((((P9.set_ne (g := b7) (by omega) 0 (.int .i64 q.fn)).set_ne (g := b7) (by omega) 1 (.int .i64 q.loc)).set_ne (g := b7) (by omega) 2 (.int .i64 q.cnt)).set_ne (g := b7) (by omega) 3 (.int .i64 q.wat)).set_ne (g := b7) (by omega) 4 (.int .i64 q.sub)).set_ne (g := b7) (by omega) 5 (.slice qb q.bits.length qcb)).set_ne (g := b7) (by omega) 6 (.slice qv q.vals.length qcv)).set_ne (g := b7) (by omega) 7 (.int .u16 q.land.toNat)).set_ne (g := b7) (by omega) 8 (.int .u16 q.lor.toNat))
        replace P8 := (((((((((P8.set_ne (g := b7) (by omega) 0 (.int .i64 q.fn)).set_ne (g := b7) (by omega) 1 (.int .i64 q.loc)).set_ne (g := b7) (by omega) 2 (.int .i64 q.cnt)).set_ne (g := b7) (by omega) 3 (.int .i64 q.wat)).set_ne (g := b7) (by omega) 4 (.int .i64 q.sub)).set_ne (g := b7) (by omega) 5 (.slice qb q.bits.length qcb)).set_ne (g := b7) (by omega) 6 (.slice qv q.vals.length qcv)).set_ne (g := b7) (by omega) 7 (.int .u16 q.land.toNat)).set_ne (g := b7) (by omega) 8 (.int .u16 q.lor.toNat))
        replace S0 := (((((((((S0.setCell (p := ⟨b7, 0, none⟩) (by simp; omega) (.int .i64 q.fn)).setCell (p := ⟨b7, 1, none⟩) (by simp; omega) (.int .i64 q.loc)).setCell (p := ⟨b7, 2, none⟩) (by simp; omega) (.int .i64 q.cnt)).setCell (p := ⟨b7, 3, none⟩) (by simp; omega) (.int .i64 q.wat)).setCell (p := ⟨b7, 4, none⟩) (by simp; omega) (.int .i64 q.sub)).setCell (p := ⟨b7, 5, none⟩) (by simp; omega) (.slice qb q.bits.length qcb)).setCell (p := ⟨b7, 6, none⟩) (by simp; omega) (.slice qv q.vals.length qcv)).setCell (p := ⟨b7, 7, none⟩) (by simp; omega) (.int .u16 q.land.toNat)).setCell (p := ⟨b7, 8, none⟩) (by simp; omega) (.int .u16 q.lor.toNat))
        refine hK.out _ _ S0 ?_
        clear K hK
        try simp only [Act.put, List.setIfInBounds_toArray, List.set_cons_zero, List.set_cons_succ]
        generalize (((((((((y3.setCell ⟨b7, 0, none⟩ (.int .i64 q.fn)).setCell ⟨b7, 1, none⟩ (.int .i64 q.loc)).setCell ⟨b7, 2, none⟩ (.int .i64 q.cnt)).setCell ⟨b7, 3, none⟩ (.int .i64 q.wat)).setCell ⟨b7, 4, none⟩ (.int .i64 q.sub)).setCell ⟨b7, 5, none⟩ (.slice qb q.bits.length qcb)).setCell ⟨b7, 6, none⟩ (.slice qv q.vals.length qcv)).setCell ⟨b7, 7, none⟩ (.int .u16 q.land.toNat)).setCell ⟨b7, 8, none⟩ (.int .u16 q.lor.toNat)) = y4 at *
        have c0 := P8.cell 0
        have c1 := P8.cell 1
        have c2 := P8.cell 2
        have c3 := P8.cell 3
        have c4 := P8.cell 4
        have c5 := P8.cell 5
        have c6 := P8.cell 6
        have c7 := P8.cell 7
        have c8 := P8.cell 8
        simp at c0 c1 c2 c3 c4 c5 c6 c7 c8
        have fz := P8.frozen
        refine h_move 7 (by kernel_rfl) (h_op 7 rfl (by kernel_rfl) (fun K hK => ?_))
        go_simp
        clear c0 c1 c2 c3 c4 c5 c6 c7 c8 fz
        replace P8 := (((((((((P8.set 0 (.int .i64 q.fn)).set 1 (.int .i64 q.loc)).set 2 (.int .i64 q.cnt)).set 3 (.int .i64 q.wat)).set 4 (.int .i64 q.sub)).set 5 (.slice qb q.bits.length qcb)).set 6 (.slice qv q.vals.length qcv)).set 7 (.int .u16 q.land.toNat)).set 8 (.int .u16 q.lor.toNat))
        simp at P8
        replace P9 := (((((((((P9.set_ne (g := b8) (by omega) 0 (.int .i64 q.fn)).set_ne (g := b8) (by omega) 1 (.int .i64 q.loc)).set_ne (g := b8) (by omega) 2 (.int .i64 q.cnt)).set_ne (g := b8) (by omega) 3 (.int .i64 q.wat)).set_ne (g := b8) (by omega) 4 (.int .i64 q.sub)).set_ne (g := b8) (by omega) 5 (.slice qb q.bits.length qcb)).set_ne (g := b8) (by omega) 6 (.slice qv q.vals.length qcv)).set_ne (g := b8) (by omega) 7 (.int .u16 q.land.toNat)).set_ne (g := b8) (by omega) 8 (.int .u16 q.lor.toNat))
        replace P7 := (((((((((P7.set_ne (g := b8) (by omega) 0 (.int .i64 q.fn)).set_ne (g := b8) (by omega) 1 (.int .i64 q.loc)).set_ne (g := b8) (by omega) 2 (.int .i64 q.cnt)).set_ne (g := b8) (by omega) 3 (.int .i64 q.wat)).set_ne (g := b8) (by omega) 4 (.int .i64 q.sub)).set_ne (g := b8) (by omega) 5 (.slice qb q.bits.length qcb)).set_ne (g := b8) (by omega) 6 (.slice qv q.vals.length qcv)).set_ne (g := b8) (by omega) 7 (.int .u16 q.land.toNat)).set_ne (g := b8) (by omega) 8 (.int .u16 q.lor.toNat))
        replace S0 := (((((((((S0.setCell (p := ⟨b8, 0, none⟩) (by simp; omega) (.int .i64 q.fn)).setCell (p := ⟨b8, 1, none⟩) (by simp; omega) (.int .i64 q.loc)).setCell (p := ⟨b8, 2, none⟩) (by simp; omega) (.int .i64 q.cnt)).setCell (p := ⟨b8, 3, none⟩) (by simp; omega) (.int .i64 q.wat)).setCell (p := ⟨b8, 4, none⟩) (by simp; omega) (.int .i64 q.sub)).setCell (p := ⟨b8, 5, none⟩) (by simp; omega) (.slice qb q.bits.length qcb)).setCell (p := ⟨b8, 6, none⟩) (by simp; omega) (.slice qv q.vals.length qcv)).setCell (p := ⟨b8, 7, none⟩) (by simp; omega) (.int .u16 q.land.toNat)).setCell (p := ⟨b8, 8, none⟩) (by simp; omega) (.int .u16 q.lor.toNat))
        refine hK.out _ _ S0 ?_
        clear K hK
        try simp only [Act.put, List.setIfInBounds_toArray, List.set_cons_zero, List.set_cons_succ]
        generalize (((((((((y4.setCell ⟨b8, 0, none⟩ (.int .i64 q.fn)).setCell ⟨b8, 1, none⟩ (.int .i64 q.loc)).setCell ⟨b8, 2, none⟩ (.int .i64 q.cnt)).setCell ⟨b8, 3, none⟩ (.int .i64 q.wat)).setCell ⟨b8, 4, none⟩ (.int .i64 q.sub)).setCell ⟨b8, 5, none⟩ (.slice qb q.bits.length qcb)).setCell ⟨b8, 6, none⟩ (.slice qv q.vals.length qcv)).setCell ⟨b8, 7, none⟩ (.int .u16 q.land.toNat)).setCell ⟨b8, 8, none⟩ (.int .u16 q.lor.toNat)) = y5 at *
        have c0 := P9.cell 0
        have c1 := P9.cell 1
        have c2 := P9.cell 2
        have c3 := P9.cell 3
        have c4 := P9.cell 4
        have c5 := P9.cell 5
        have c6 := P9.cell 6
        have c7 := P9.cell 7
        have c8 := P9.cell 8
        simp at c0 c1 c2 c3 c4 c5 c6 c7 c8
        have fz := P9.frozen
        refine h_move 8 (by kernel_rfl) (h_op 8 rfl (by kernel_rfl) (fun K hK => ?_))
        go_simp
        clear c0 c1 c2 c3 c4 c5 c6 c7 c8 fz
        replace P9 := (((((((((P9.set 0 (.int .i64 q.fn)).set 1 (.int .i64 q.loc)).set 2 (.int .i64 q.cnt)).set 3 (.int .i64 q.wat)).set 4 (.int .i64 q.sub)).set 5 (.slice qb q.bits.length qcb)).set 6 (.slice qv q.vals.length qcv)).set 7 (.int .u16 q.land.toNat)).set 8 (.int .u16 q.lor.toNat))
        simp at P9
        replace P7 := (((((((((P7.set_ne (g := b9) (by omega) 0 (.int .i64 q.fn)).set_ne (g := b9) (by omega) 1 (.int .i64 q.loc)).set_ne (g := b9) (by omega) 2 (.int .i64 q.cnt)).set_ne (g := b9) (by omega) 3 (.int .i64 q.wat)).set_ne (g := b9) (by omega) 4 (.int .i64 q.sub)).set_ne (g := b9) (by omega) 5 (.slice qb q.bits.length qcb)).set_ne (g := b9) (by omega) 6 (.slice qv q.vals.length qcv)).set_ne (g := b9) (by omega) 7 (.int .u16 q.land.toNat)).set_ne (g := b9) (by omega) 8 (.int .u16 q.lor.toNat))
        replace P8 := (((((((((P8.set_ne (g := b9) (by omega) 0 (.int .i64 q.fn)).set_ne (g := b9) (by omega) 1 (.int .i64 q.loc)).set_ne (g := b9) (by omega) 2 (.int .i64 q.cnt)).set_ne (g := b9) (by omega) 3 (.int .i64 q.wat)).set_ne (g := b9) (by omega) 4 (.int .i64 q.sub)).set_ne (g := b9) (by omega) 5 (.slice qb q.bits.length qcb)).set_ne (g := b9) (by omega) 6 (.slice qv q.vals.length qcv)).set_ne (g := b9) (by omega) 7 (.int .u16 q.land.toNat)).set_ne (g := b9) (by omega) 8 (.int .u16 q.lor.toNat))
        replace S0 := (((((((((S0.setCell (p := ⟨b9, 0, none⟩) (by simp; omega) (.int .i64 q.fn)).setCell (p := ⟨b9, 1, none⟩) (by simp; omega) (.int .i64 q.loc)).setCell (p := ⟨b9, 2, none⟩) (by simp; omega) (.int .i64 q.cnt)).setCell (p := ⟨b9, 3, none⟩) (by simp; omega) (.int .i64 q.wat)).setCell (p := ⟨b9, 4, none⟩) (by simp; omega) (.int .i64 q.sub)).setCell (p := ⟨b9, 5, none⟩) (by simp; omega) (.slice qb q.bits.length qcb)).setCell (p := ⟨b9, 6, none⟩) (by simp; omega) (.slice qv q.vals.length qcv)).setCell (p := ⟨b9, 7, none⟩) (by simp; omega) (.int .u16 q.land.toNat)).setCell (p := ⟨b9, 8, none⟩) (by simp; omega) (.int .u16 q.lor.toNat))
        refine hK.out _ _ S0 ?_
        clear K hK
        try simp only [Act.put, List.setIfInBounds_toArray, List.set_cons_zero, List.set_cons_succ]
        generalize (((((((((y5.setCell ⟨b9, 0, none⟩ (.int .i64 q.fn)).setCell ⟨b9, 1, none⟩ (.int .i64 q.loc)).setCell ⟨b9, 2, none⟩ (.int .i64 q.cnt)).setCell ⟨b9, 3, none⟩ (.int .i64 q.wat)).setCell ⟨b9, 4, none⟩ (.int .i64 q.sub)).setCell ⟨b9, 5, none⟩ (.slice qb q.bits.length qcb)).setCell ⟨b9, 6, none⟩ (.slice qv q.vals.length qcv)).setCell ⟨b9, 7, none⟩ (.int .u16 q.land.toNat)).setCell ⟨b9, 8, none⟩ (.int .u16 q.lor.toNat)) = y6 at *
        refine h_done (by kernel_rfl) ?_
        go_wp2_with fail
        go_meet
        have sy := SY.out
        exact ⟨b7, b8, b9, rfl, rfl, rfl, by omega, by omega, by omega, by omega, by omega, by omega, P7, P8, P9, Ey.trans (S0.mono (by omega))⟩
      · go_simp
        have Bl := (Below.refl y1.heap.size y1).alloc (Nat.le_refl _) (.cells #[.int .i64 0, .int .i64 0, .int .i64 0, .int .i64 0, .int .i64 0, .slice none 0 0, .slice none 0 0, .int .u16 0, .int .u16 0] 26)
        replace P9 := P9.below Bl P9.lt
        have P8 := Blk.new y1 26 [.int .i64 0, .int .i64 0, .int .i64 0, .int .i64 0, .int .i64 0, .slice none 0 0, .slice none 0 0, .int .u16 0, .int .u16 0]
        replace S0 := S0.trans (Bl.mono Ky1)
        refine hK.out _ _ S0 ?_
        clear K hK
        try simp only [Act.put, List.setIfInBounds_toArray, List.set_cons_zero, List.set_cons_succ]
        have k8 := Ky1
        have n89 : y1.heap.size ≠ b9 := by omega
        have Ky2 : N0 ≤ (y1.alloc (.cells #[.int .i64 0, .int .i64 0, .int .i64 0, .int .i64 0, .int .i64 0, .slice none 0 0, .slice none 0 0, .int .u16 0, .int .u16 0] 26)).heap.size := by simp; omega
        have l9 : b9 < (y1.alloc (.cells #[.int .i64 0, .int .i64 0, .int .i64 0, .int .i64 0, .int .i64 0, .slice none 0 0, .slice none 0 0, .int .u16 0, .int .u16 0] 26)).heap.size := by simp; omega
        have l8 : y1.heap.size < (y1.alloc (.cells #[.int .i64 0, .int .i64 0, .int .i64 0, .int .i64 0, .int .i64 0, .slice none 0 0, .slice none 0 0, .int .u16 0, .int .u16 0] 26)).heap.size := by simp
        clear Bl
        generalize y1.alloc (.cells #[.int .i64 0, .int .i64 0, .int .i64 0, .int .i64 0, .int .i64 0, .slice none 0 0, .slice none 0 0, .int .u16 0, .int .u16 0] 26) = y2 at *
        generalize y1.heap.size = b8 at *
        refine h_move 3 (by kernel_rfl) (h_op 3 rfl (by kernel_rfl) (fun K hK => ?_))
        go_simp
        have Bl := (Below.refl y2.heap.size y2).alloc (Nat.le_refl _) (.cells #[.int .i64 0, .int .i64 0, .int .i64 0, .int .i64 0, .int .i64 0, .slice none 0 0, .slice none 0 0, .int .u16 0, .int .u16 0] 26)
        replace P9 := P9.below Bl P9.lt
        replace P8 := P8.below Bl P8.lt
        have P7 := Blk.new y2 26 [.int .i64 0, .int .i64 0, .int .i64 0, .int .i64 0, .int .i64 0, .slice none 0 0, .slice none 0 0, .int .u16 0, .int .u16 0]
        replace S0 := S0.trans (Bl.mono Ky2)
        refine hK.out _ _ S0 ?_
        clear K hK
        try simp only [Act.put, List.setIfInBounds_toArray, List.set_cons_zero, List.set_cons_succ]
        have k7 := Ky2
        have n79 : y2.heap.size ≠ b9 := by omega
        have n78 : y2.heap.size ≠ b8 := by omega
        have Ky3 : N0 ≤ (y2.alloc (.cells #[.int .i64 0, .int .i64 0, .int .i64 0, .int .i64 0, .int .i64 0, .slice none 0 0, .slice none 0 0, .int .u16 0, .int .u16 0] 26)).heap.size := by simp; omega
        have l9 : b9 < (y2.alloc (.cells #[.int .i64 0, .int .i64 0, .int .i64 0, .int .i64 0, .int .i64 0, .slice none 0 0, .slice none 0 0, .int .u16 0, .int .u16 0] 26)).heap.size := by simp; omega
        have l8 : b8 < (y2.alloc (.cells #[.int .i64 0, .int .i64 0, .int .i64 0, .int .i64 0, .int .i64 0, .slice none 0 0, .slice none 0 0, .int .u16 0, .int .u16 0] 26)).heap.size := by simp; omega
        have l7 : y2.heap.size < (y2.alloc (.cells #[.int .i64 0, .int .i64 0, .int .i64 0, .int .i64 0, .int .i64 0, .slice none 0 0, .slice none 0 0, .int .u16 0, .int .u16 0] 26)).heap.size := by simp
        clear Bl
        generalize y2.alloc (.cells #[.int .i64 0, .int .i64 0, .int .i64 0, .int .i64 0, .int .i64 0, .slice none 0 0, .slice none 0 0, .int .u16 0, .int .u16 0] 26) = y3 at *
        generalize y2.heap.size = b7 at *
        have c0 := P7.cell 0
        have c1 := P7.cell 1
        have c2 := P7.cell 2
        have c3 := P7.cell 3
        have c4 := P7.cell 4
        have c5 := P7.cell 5
        have c6 := P7.cell 6
        have c7 := P7.cell 7
        have c8 := P7.cell 8
        simp at c0 c1 c2 c3 c4 c5 c6 c7 c8
        have fz := P7.frozen
        refine h_move 6 (by kernel_rfl) (h_op 6 rfl (by kernel_rfl) (fun K hK => ?_))
        go_simp
        clear c0 c1 c2 c3 c4 c5 c6 c7 c8 fz
        replace P7 := (((((((((P7.set 0 (.int .i64 q.fn)).set 1 (.int .i64 q.loc)).set 2 (.int .i64 q.cnt)).set 3 (.int .i64 q.wat)).set 4 (.int .i64 q.sub)).set 5 (.slice qb q.bits.length qcb)).set 6 (.slice qv q.vals.length qcv)).set 7 (.int .u16 q.land.toNat)).set 8 (.int .u16 q.lor.toNat))
        simp at P7
        replace P9 := (((((((((P9.set_ne (g := b7) (by omega) 0 (.int .i64 q.fn)).set_ne (g := b7) (by omega) 1 (.int .i64 q.loc)).set_ne (g := b7) (by omega) 2 (.int .i64 q.cnt)).set_ne (g := b7) (by omega) 3 (.int .i64 q.wat)).set_ne (g := b7) (by omega) 4 (.int .i64 q.sub)).set_ne (g := b7) (by omega) 5 (.slice qb q.bits.length qcb)).set_ne (g := b7) (by omega) 6 (.slice qv q.vals.length qcv)).set_ne (g := b7) (by omega) 7 (.int .u16 q.land.toNat)).set_ne (g := b7) (by omega) 8 (.int .u16 q.lor.toNat))
        replace P8 := (((((((((P8.set_ne (g := b7) (by omega) 0 (.int .i64 q.fn)).set_ne (g := b7) (by omega) 1 (.int .i64 q.loc)).set_ne (g := b7) (by omega) 2 (.int .i64 q.cnt)).set_ne (g := b7) (by omega) 3 (.int .i64 q.wat)).set_ne (g := b7) (by omega) 4 (.int .i64 q.sub)).set_ne (g := b7) (by omega) 5 (.slice qb q.bits.length qcb)).set_ne (g := b7) (by omega) 6 (.slice qv q.vals.length qcv)).set_ne (g := b7) (by omega) 7 (.int .u16 q.land.toNat)).set_ne (g := b7) (by omega) 8 (.int .u16 q.lor.toNat))
        replace S0 := (((((((((S0.setCell (p := ⟨b7, 0, none⟩) (by simp; omega) (.int .i64 q.fn)).setCell (p := ⟨b7, 1, none⟩) (by simp; omega) (.int .i64 q.loc)).setCell (p := ⟨b7, 2, none⟩) (by simp; omega) (.int .i64 q.cnt)).setCell (p := ⟨b7, 3, none⟩) (by simp; omega) (.int .i64 q.wat)).setCell (p := ⟨b7, 4, none⟩) (by simp; omega) (.int .i64 q.sub)).setCell (p := ⟨b7, 5, none⟩) (by simp; omega) (.slice qb q.bits.length qcb)).setCell (p := ⟨b7, 6, none⟩) (by simp; omega) (.slice qv q.vals.length qcv)).setCell (p := ⟨b7, 7, none⟩) (by simp; omega) (.int .u16 q.land.toNat)).setCell (p := ⟨b7, 8, none⟩) (by simp; omega) (.int .u16 q.lor.toNat))
        refine hK.out _ _ S0 ?_
        clear K hK
        try simp only [Act.put, List.setIfInBounds_toArray, List.set_cons_zero, List.set_cons_succ]
        generalize (((((((((y3.setCell ⟨b7, 0, none⟩ (.int .i64 q.fn)).setCell ⟨b7, 1, none⟩ (.int .i64 q.loc)).setCell ⟨b7, 2, none⟩ (.int .i64 q.cnt)).setCell ⟨b7, 3, none⟩ (.int .i64 q.wat)).setCell ⟨b7, 4, none⟩ (.int .i64 q.sub)).setCell ⟨b7, 5, none⟩ (.slice qb q.bits.length qcb)).setCell ⟨b7, 6, none⟩ (.slice qv q.vals.length qcv)).setCell ⟨b7, 7, none⟩ (.int .u16 q.land.toNat)).setCell ⟨b7, 8, none⟩ (.int .u16 q.lor.toNat)) = y4 at *
        have c0 := P8.cell 0
        have c1 := P8.cell 1
        have c2 := P8.cell 2
        have c3 := P8.cell 3
        have c4 := P8.cell 4
        have c5 := P8.cell 5
        have c6 := P8.cell 6
        have c7 := P8.cell 7
        have c8 := P8.cell 8
        simp at c0 c1 c2 c3 c4 c5 c6 c7 c8
        have fz := P8.frozen
        refine h_move 7 (by kernel_rfl) (h_op 7 rfl (by kernel_rfl) (fun K hK => ?_))
        go_simp
        clear c0 c1 c2 c3 c4 c5 c6 c7 c8 fz
        replace P8 := (((((((((P8.set 0 (.int .i64 q.fn)).set 1 (.int .i64 q.loc)).set 2 (.int .i64 q.cnt)).set 3 (.int .i64 q.wat)).set 4 (.int .i64 q.sub)).set 5 (.slice qb q.bits.length qcb)).set 6 (.slice qv q.vals.length qcv)).set 7 (.int .u16 q.land.toNat)).set 8 (.int .u16 q.lor.toNat))
        simp at P8
        replace P9 := (((((((((P9.set_ne (g := b8) (by omega) 0 (.int .i64 q.fn)).set_ne (g := b8) (by omega) 1 (.int .i64 q.loc)).set_ne (g := b8) (by omega) 2 (.int .i64 q.cnt)).set_ne (g := b8) (by omega) 3 (.int .i64 q.wat)).set_ne (g := b8) (by omega) 4 (.int .i64 q.sub)).set_ne (g := b8) (by omega) 5 (.slice qb q.bits.length qcb)).set_ne (g := b8) (by omega) 6 (.slice qv q.vals.length qcv)).set_ne (g := b8) (by omega) 7 (.int .u16 q.land.toNat)).set_ne (g := b8) (by omega) 8 (.int .u16 q.lor.toNat))
        replace P7 := (((((((((P7.set_ne (g := b8) (by omega) 0 (.int .i64 q.fn)).set_ne (g := b8) (by omega) 1 (.int .i64 q.loc)).set_ne (g := b8) (by omega) 2 (.int .i64 q.cnt)).set_ne (g := b8) (by omega) 3 (.int .i64 q.wat)).set_ne (g := b8) (by omega) 4 (.int .i64 q.sub)).set_ne (g := b8) (by omega) 5 (.slice qb q.bits.length qcb)).set_ne (g := b8) (by omega) 6 (.slice qv q.vals.length qcv)).set_ne (g := b8) (by omega) 7 (.int .u16 q.land.toNat)).set_ne (g := b8) (by omega) 8 (.int .u16 q.lor.toNat))
        replace S0 := (((((((((S0.setCell (p := ⟨b8, 0, none⟩) (by simp; omega) (.int .i64 q.fn)).setCell (p := ⟨b8, 1, none⟩) (by simp; omega) (.int .i64 q.loc)).setCell (p := ⟨b8, 2, none⟩) (by simp; omega) (.int .i64 q.cnt)).setCell (p := ⟨b8, 3, none⟩) (by simp; omega) (.int .i64 q.wat)).setCell (p := ⟨b8, 4, none⟩) (by simp; omega) (.int .i64 q.sub)).setCell (p := ⟨b8, 5, none⟩) (by simp; omega) (.slice qb q.bits.length qcb)).setCell (p := ⟨b8, 6, none⟩) (by simp; omega) (.slice qv q.vals.length qcv)).setCell (p := ⟨b8, 7, none⟩) (by simp; omega) (.int .u16 q.land.toNat)).setCell (p := ⟨b8, 8, none⟩) (by simp; omega) (.int .u16 q.lor.toNat))
        refine hK.out _ _ S0 ?_
        clear K hK
        try simp only [Act.put, List.setIfInBounds_toArray, List.set_cons_zero, List.set_cons_succ]
        generalize (((((((((y4.setCell ⟨b8, 0, none⟩ (.int .i64 q.fn)).setCell ⟨b8, 1, none⟩ (.int .i64 q.loc)).setCell ⟨b8, 2, none⟩ (.int .i64 q.cnt)).setCell ⟨b8, 3, none⟩ (.int .i64 q.wat)).setCell ⟨b8, 4, none⟩ (.int .i64 q.sub)).setCell ⟨b8, 5, none⟩ (.slice qb q.bits.length qcb)).setCell ⟨b8, 6, none⟩ (.slice qv q.vals.length qcv)).setCell ⟨b8, 7, none⟩ (.int .u16 q.land.toNat)).setCell ⟨b8, 8, none⟩ (.int .u16 q.lor.toNat)) = y5 at *
        have c0 := P9.cell 0
        have c1 := P9.cell 1
        have c2 := P9.cell 2
        have c3 := P9.cell 3
        have c4 := P9.cell 4
        have c5 := P9.cell 5
        have c6 := P9.cell 6
        have c7 := P9.cell 7
        have c8 := P9.cell 8
        simp at c0 c1 c2 c3 c4 c5 c6 c7 c8
        have fz := P9.frozen
        refine h_move 8 (by kernel_rfl) (h_op 8 rfl (by kernel_rfl) (fun K hK => ?_))
        go_simp
        clear c0 c1 c2 c3 c4 c5 c6 c7 c8 fz
        replace P9 := (((((((((P9.set 0 (.int .i64 q.fn)).set 1 (.int .i64 q.loc)).set 2 (.int .i64 q.cnt)).set 3 (.int .i64 q.wat)).set 4 (.int .i64 q.sub)).set 5 (.slice qb q.bits.length qcb)).set 6 (.slice qv q.vals.length qcv)).set 7 (.int .u16 q.land.toNat)).set 8 (.int .u16 q.lor.toNat))
        simp at P9
        replace P8 := (((((((((P8.set_ne (g := b9) (by omega) 0 (.int .i64 q.fn)).set_ne (g := b9) (by omega) 1 (.int .i64 q.loc)).set_ne (g := b9) (by omega) 2 (.int .i64 q.cnt)).set_ne (g := b9) (by omega) 3 (.int .i64 q.wat)).set_ne (g := b9) (by omega) 4 (.int .i64 q.sub)).set_ne (g := b9) (by omega) 5 (.slice qb q.bits.length qcb)).set_ne (g := b9) (by omega) 6 (.slice qv q.vals.length qcv)).set_ne (g := b9) (by omega) 7 (.int .u16 q.land.toNat)).set_ne (g := b9) (by omega) 8 (.int .u16 q.lor.toNat))
        replace P7 := (((((((((P7.set_ne (g := b9) (by omega) 0 (.int .i64 q.fn)).set_ne (g := b9) (by omega) 1 (.int .i64 q.loc)).set_ne (g := b9) (by omega) 2 (.int .i64 q.cnt)).set_ne (g := b9) (by omega) 3 (.int .i64 q.wat)).set_ne (g := b9) (by omega) 4 (.int .i64 q.sub)).set_ne (g := b9) (by omega) 5 (.slice qb q.bits.length qcb)).set_ne (g := b9) (by omega) 6 (.slice qv q.vals.length qcv)).set_ne (g := b9) (by omega) 7 (.int .u16 q.land.toNat)).set_ne (g := b9) (by omega) 8 (.int .u16 q.lor.toNat))
        replace S0 := (((((((((S0.setCell (p := ⟨b9, 0, none⟩) (by simp; omega) (.int .i64 q.fn)).setCell (p := ⟨b9, 1, none⟩) (by simp; omega) (.int .i64 q.loc)).setCell (p := ⟨b9, 2, none⟩) (by simp; omega) (.int .i64 q.cnt)).setCell (p := ⟨b9, 3, none⟩) (by simp; omega) (.int .i64 q.wat)).setCell (p := ⟨b9, 4, none⟩) (by simp; omega) (.int .i64 q.sub)).setCell (p := ⟨b9, 5, none⟩) (by simp; omega) (.slice qb q.bits.length qcb)).setCell (p := ⟨b9, 6, none⟩) (by simp; omega) (.slice qv q.vals.length qcv)).setCell (p := ⟨b9, 7, none⟩) (by simp; omega) (.int .u16 q.land.toNat)).setCell (p := ⟨b9, 8, none⟩) (by simp; omega) (.int .u16 q.lor.toNat))
        refine hK.out _ _ S0 ?_
        clear K hK
        try simp only [Act.put, List.setIfInBounds_toArray, List.set_cons_zero, List.set_cons_succ]
        generalize (((((((((y5.setCell ⟨b9, 0, none⟩ (.int .i64 q.fn)).setCell ⟨b9, 1, none⟩ (.int .i64 q.loc)).setCell ⟨b9, 2, none⟩ (.int .i64 q.cnt)).setCell ⟨b9, 3, none⟩ (.int .i64 q.wat)).setCell ⟨b9, 4, none⟩ (.int .i64 q.sub)).setCell ⟨b9, 5, none⟩ (.slice qb q.bits.length qcb)).setCell ⟨b9, 6, none⟩ (.slice qv q.vals.length qcv)).setCell ⟨b9, 7, none⟩ (.int .u16 q.land.toNat)).setCell ⟨b9, 8, none⟩ (.int .u16 q.lor.toNat)) = y6 at *
        refine h_done (by kernel_rfl) ?_
        go_wp2_with fail
        go_meet
        have sy := SY.out
        exact ⟨b7, b8, b9, rfl, rfl, rfl, by omega, by omega, by omega, by omega, by omega, by omega, P7, P8, P9, Ey.trans (S0.mono (by omega))⟩
  case rest =>
    obtain ⟨b7, b8, b9, rfl, rfl, rfl, n78, n79, n89, k7, k8, k9, P7, P8, P9, E⟩ := hcut
    have ltq := HX1.out.lt
    have u3 := P7.cell 3
    have u4 := P8.cell 4
    have u7 := P9.cell 7
    simp at u3 u4 u7
    have f7 := P7.frozen
    have f8 := P8.frozen
    have f9 := P9.frozen
    go_upto_region 7 with fail
    clear u3 u4 u7 f7 f8 f9
    have C1 := (((Below.refl w2.heap.size wc).setCell (p := ⟨b7, 3, none⟩) k7 (.int .i64 (1 + m))).setCell (p := ⟨b8, 4, none⟩) k8 (.int .i64 (1 + m))).setCell (p := ⟨b9, 7, none⟩) k9 (.int .u16 (1 + m))
    replace P7 := ((P7.set 3 (.int .i64 (1 + m))).set_ne (g := b8) (by omega) 4 (.int .i64 (1 + m))).set_ne (g := b9) (by omega) 7 (.int .u16 (1 + m))
    replace P8 := ((P8.set_ne (g := b7) (by omega) 3 (.int .i64 (1 + m))).set 4 (.int .i64 (1 + m))).set_ne (g := b9) (by omega) 7 (.int .u16 (1 + m))
    replace P9 := ((P9.set_ne (g := b7) (by omega) 3 (.int .i64 (1 + m))).set_ne (g := b8) (by omega) 4 (.int .i64 (1 + m))).set 7 (.int .u16 (1 + m))
    replace C1 := E.trans C1
    replace HX1 := hidden (HX1.out.ext C1)
    replace q1 := q1.below C1
    replace B1 := below_then B1 C1
    clear C1 E
    simp at P7 P8 P9
    generalize ((wc.setCell ⟨b7, 3, none⟩ (.int .i64 (1 + m))).setCell ⟨b8, 4, none⟩ (.int .i64 (1 + m))).setCell ⟨b9, 7, none⟩ (.int .u16 (1 + m)) = c1 at *
    have l7 := P7.lt
    have l8 := P8.lt
    have l9 := P9.lt
    obtain ⟨vb', vv', hE, hbr, hvr⟩ := id q1
    simp only [rqV, Value.agg.injEq, Array.mk.injEq, List.cons.injEq, and_true, true_and] at hE
    obtain ⟨rfl, rfl⟩ := hE
    have W0 := ((Below.refl c1.heap.size c1).alloc (Nat.le_refl _) (.cells #[.int .i64 q.fn, .int .i64 q.loc, .int .i64 q.cnt, .int .i64 q.wat, .int .i64 q.sub, .slice qb q.bits.length qcb, .slice qv q.vals.length qcv, .int .u16 q.land.toNat, .int .u16 q.lor.toNat] 26)).alloc (by simp) (.cells #[] 4)
    have ho0 := World.ownsRow_made (base := c1.heap.size + 1) (e := 4) (size := 1) (c1.alloc (.cells #[.int .i64 q.fn, .int .i64 q.loc, .int .i64 q.cnt, .int .i64 q.wat, .int .i64 q.sub, .slice qb q.bits.length qcb, .slice qv q.vals.length qcv, .int .u16 q.land.toNat, .int .u16 q.lor.toNat] 26)) #[] 0 (by simp) (Nat.zero_le _) (by simp)
    simp only [World.size_alloc] at ho0
    have hv0 := hbr.below W0
    have XD := (Blk.new c1 26 [.int .i64 q.fn, .int .i64 q.loc, .int .i64 q.cnt, .int .i64 q.wat, .int .i64 q.sub, .slice qb q.bits.length qcb, .slice qv q.vals.length qcv, .int .u16 q.land.toNat, .int .u16 q.lor.toNat]).alloc (.cells #[] 4)
    obtain ⟨lt1, x0, x1, x2, x3, x4, x5, x6, x7, x8⟩ := HX1.out
    have hbl : (q.bits.map Value.bool).length ≤ 9223372036854775807 := by obtain ⟨_, _, e, h1, h2, -⟩ := hbr; unfold maxLen at h2; omega
    have hbl2 : q.bits.length ≤ 30 := HB30
    go_wp2_with (at_builtin; refine wpList_app rfl (.tmp 32) (.tmp 34) 22 rfl (c1.heap.size + 1) 4 (.bool false) 1 Try.underlying22 info_bool rfl rfl ho0 rfl hv0 ?h0 ?h1 ?h2 ?h3 ?_)
    case h0 => intro u hu; simp only [List.mem_map] at hu; obtain ⟨y, -, rfl⟩ := hu; rfl
    case h1 => simp [maxLen]; omega
    case h2 => simp; omega
    case h3 => simp
    intro v3 w3 ho1 hg1
    have q1' := W0.grown hg1 (by simp; omega) (fun k hk => by simp [Value.ownBlock] at hk; omega)
    replace XD := XD.grownX hg1 (fun k hk => by simp [Value.ownBlock] at hk; omega)
    have hr1 := row_new w3 [.bool true] 4 1 rfl (by decide)
    have hz1 : c1.heap.size + 1 ≤ w3.heap.size := by have := hg1.size; simp at this; omega
    go_wp2_with (at_builtin; refine wpList_app rfl (.tmp 35) (.tmp 36) 22 rfl (c1.heap.size + 1) 4 (.bool false) 1 Try.underlying22 info_bool rfl rfl (ho1.alloc _) rfl hr1 ?k0 ?k1 ?k2 ?k3 ?_)
    case k0 => intro u hu; simp at hu; subst hu; rfl
    case k1 => simp [maxLen]; omega
    case k2 => simp; omega
    case k3 => simp; omega
    intro v4 w4 ho2 hg2
    replace q1' := (q1'.alloc (by omega) (.cells #[.bool true] 4)).grown hg2 (by simp; omega) (fun k hk => by have := (ho1.lt k hk).1; omega)
    replace XD := (XD.alloc (.cells #[.bool true] 4)).grownX hg2 (fun k hk => by have := (ho1.lt k hk).1; omega)
    have hdr := Row.of_owns ho2
    obtain ⟨da, dcap, rfl, -⟩ := id hdr
    have nd := NewV.of_owns ho2
    simp at hdr nd
    have y5 := XD.cell 5
    simp at y5
    have fD := XD.frozen
    go_wp2
    refine wp_region_pi [(0, true), (3, true), (4, true), (5, true), (1, false), (2, true), (6, true), (7, true), (8, true), (11, true), (12, true), (13, true), (9, false), (10, true), (14, true), (15, true), (16, true), (17, true), (20, true), (21, true), (22, true), (18, false), (19, true), (23, true), (24, true), (25, true), (26, true), (27, false), (28, true), (29, true), (30, true), (31, false), (32, true), (33, true)] (by kernel_rfl) (by kernel_rfl) (by kernel_rfl) (fun _ _ _ d _ h => by cases d <;> exact h) ?_
    clear y5 fD x0 x1 x2 x3 x4 x5 x6 x7 x8 lt1
    have hw : ((wOf (1 + m)).toNat : Int) = 1 + m := by rw [wOf_nat]; omega
    have C4 := (q1'.setCell (p := ⟨c1.heap.size, 5, none⟩) (Nat.le_refl _) (.slice da (q.bits.length + 1) dcap)).drew
    replace P7 := P7.below C4 l7
    replace P8 := P8.below C4 l8
    replace P9 := P9.below C4 l9
    rw [← hw] at P9
    replace HX1 := hidden (HX1.out.ext C4)
    replace hdr := (hdr.setCell_new (g := c1.heap.size) (o := 5) (u := .slice da (q.bits.length + 1) dcap) nd (by omega)).drew
    replace XD := (XD.set 5 (.slice da (q.bits.length + 1) dcap)).drew
    simp at XD
    replace hbr := hbr.below C4
    replace hvr := hvr.below C4
    replace B1 := below_then B1 C4
    clear C4 q1' ho1 ho2 hg1 hg2 hr1 ho0 hv0 W0 q1
    clear hw
    obtain ⟨bD, hbD⟩ : ∃ b, b = c1.heap.size := ⟨_, rfl⟩
    generalize (w4.setCell ⟨c1.heap.size, 5, none⟩ (.slice da (q.bits.length + 1) dcap)).drew = y0 at *
    rw [← hbD] at XD
    have BX : Hid (∀ w', Ext y0 w' → (w'.cell? ⟨b7, 0, none⟩ = some (.int .i64 q.fn) ∧ w'.cell? ⟨b7, 1, none⟩ = some (.int .i64 q.loc) ∧ w'.cell? ⟨b7, 2, none⟩ = some (.int .i64 q.cnt) ∧ w'.cell? ⟨b7, 3, none⟩ = some (.int .i64 (1 + m)) ∧ w'.cell? ⟨b7, 4, none⟩ = some (.int .i64 q.sub) ∧ w'.cell? ⟨b7, 5, none⟩ = some (.slice qb q.bits.length qcb) ∧ w'.cell? ⟨b7, 6, none⟩ = some (.slice qv q.vals.length qcv) ∧ w'.cell? ⟨b7, 7, none⟩ = some (.int .u16 q.land.toNat) ∧ w'.cell? ⟨b7, 8, none⟩ = some (.int .u16 q.lor.toNat)) ∧ (w'.cell? ⟨b8, 0, none⟩ = some (.int .i64 q.fn) ∧ w'.cell? ⟨b8, 1, none⟩ = some (.int .i64 q.loc) ∧ w'.cell? ⟨b8, 2, none⟩ = some (.int .i64 q.cnt) ∧ w'.cell? ⟨b8, 3, none⟩ = some (.int .i64 q.wat) ∧ w'.cell? ⟨b8, 4, none⟩ = some (.int .i64 (1 + m)) ∧ w'.cell? ⟨b8, 5, none⟩ = some (.slice qb q.bits.length qcb) ∧ w'.cell? ⟨b8, 6, none⟩ = some (.slice qv q.vals.length qcv) ∧ w'.cell? ⟨b8, 7, none⟩ = some (.int .u16 q.land.toNat) ∧ w'.cell? ⟨b8, 8, none⟩ = some (.int .u16 q.lor.toNat)) ∧ (w'.cell? ⟨b9, 0, none⟩ = some (.int .i64 q.fn) ∧ w'.cell? ⟨b9, 1, none⟩ = some (.int .i64 q.loc) ∧ w'.cell? ⟨b9, 2, none⟩ = some (.int .i64 q.cnt) ∧ w'.cell? ⟨b9, 3, none⟩ = some (.int .i64 q.wat) ∧ w'.cell? ⟨b9, 4, none⟩ = some (.int .i64 q.sub) ∧ w'.cell? ⟨b9, 5, none⟩ = some (.slice qb q.bits.length qcb) ∧ w'.cell? ⟨b9, 6, none⟩ = some (.slice qv q.vals.length qcv) ∧ w'.cell? ⟨b9, 7, none⟩ = some (.int .u16 (wOf (1 + m)).toNat) ∧ w'.cell? ⟨b9, 8, none⟩ = some (.int .u16 q.lor.toNat)) ∧ (w'.cell? ⟨bD, 0, none⟩ = some (.int .i64 q.fn) ∧ w'.cell? ⟨bD, 1, none⟩ = some (.int .i64 q.loc) ∧ w'.cell? ⟨bD, 2, none⟩ = some (.int .i64 q.cnt) ∧ w'.cell? ⟨bD, 3, none⟩ = some (.int .i64 q.wat) ∧ w'.cell? ⟨bD, 4, none⟩ = some (.int .i64 q.sub) ∧ w'.cell? ⟨bD, 5, none⟩ = some (.slice da (q.bits.length + 1) dcap) ∧ w'.cell? ⟨bD, 6, none⟩ = some (.slice qv q.vals.length qcv) ∧ w'.cell? ⟨bD, 7, none⟩ = some (.int .u16 q.land.toNat) ∧ w'.cell? ⟨bD, 8, none⟩ = some (.int .u16 q.lor.toNat)) ∧ w'.cell? ⟨w1.heap.size, 0, none⟩ = some (.int .i64 q.fn)) := fun w' hx =>
      ⟨⟨(P7.below hx P7.lt).cell 0, (P7.below hx P7.lt).cell 1, (P7.below hx P7.lt).cell 2, (P7.below hx P7.lt).cell 3, (P7.below hx P7.lt).cell 4, (P7.below hx P7.lt).cell 5, (P7.below hx P7.lt).cell 6, (P7.below hx P7.lt).cell 7, (P7.below hx P7.lt).cell 8⟩, ⟨(P8.below hx P8.lt).cell 0, (P8.below hx P8.lt).cell 1, (P8.below hx P8.lt).cell 2, (P8.below hx P8.lt).cell 3, (P8.below hx P8.lt).cell 4, (P8.below hx P8.lt).cell 5, (P8.below hx P8.lt).cell 6, (P8.below hx P8.lt).cell 7, (P8.below hx P8.lt).cell 8⟩, ⟨(P9.below hx P9.lt).cell 0, (P9.below hx P9.lt).cell 1, (P9.below hx P9.lt).cell 2, (P9.below hx P9.lt).cell 3, (P9.below hx P9.lt).cell 4, (P9.below hx P9.lt).cell 5, (P9.below hx P9.lt).cell 6, (P9.below hx P9.lt).cell 7, (P9.below hx P9.lt).cell 8⟩, ⟨(XD.below hx XD.lt).cell 0, (XD.below hx XD.lt).cell 1, (XD.below hx XD.lt).cell 2, (XD.below hx XD.lt).cell 3, (XD.below hx XD.lt).cell 4, (XD.below hx XD.lt).cell 5, (XD.below hx XD.lt).cell 6, (XD.below hx XD.lt).cell 7, (XD.below hx XD.lt).cell 8⟩, (HX1.out.ext hx).c0⟩
    rw [← hbD]
    clear P7 P8 P9 XD HX1 nd hbD
    have QA : IsRq y0 (rqV q.fn q.loc q.cnt (1 + m) q.sub (.slice qb q.bits.length qcb) (.slice qv q.vals.length qcv) q.land q.lor) ⟨q.fn, q.loc, q.cnt, 1 + m, q.sub, q.bits, q.vals, q.land, q.lor⟩ := ⟨_, _, rfl, hbr, hvr⟩
    have QB : IsRq y0 (rqV q.fn q.loc q.cnt q.wat (1 + m) (.slice qb q.bits.length qcb) (.slice qv q.vals.length qcv) q.land q.lor) ⟨q.fn, q.loc, q.cnt, q.wat, 1 + m, q.bits, q.vals, q.land, q.lor⟩ := ⟨_, _, rfl, hbr, hvr⟩
    have QC : IsRq y0 (rqV q.fn q.loc q.cnt q.wat q.sub (.slice qb q.bits.length qcb) (.slice qv q.vals.length qcv) (wOf (1 + m)) q.lor) ⟨q.fn, q.loc, q.cnt, q.wat, q.sub, q.bits, q.vals, wOf (1 + m), q.lor⟩ := ⟨_, _, rfl, hbr, hvr⟩
    have QD : IsRq y0 (rqV q.fn q.loc q.cnt q.wat q.sub (.slice da (q.bits.length + 1) dcap) (.slice qv q.vals.length qcv) q.land q.lor) ⟨q.fn, q.loc, q.cnt, q.wat, q.sub, q.bits ++ [true], q.vals, q.land, q.lor⟩ := ⟨_, _, rfl, by simpa using hdr, hvr⟩
    have RA := right_wat q (1 + m) RP.out (by omega) (by omega)
    have RB := right_sub q (1 + m) RP.out (by omega) (by omega)
    have RC := right_and q (1 + m) RP.out (by omega) (by omega)
    have RD := right_bit q RP.out
    obtain ⟨EA, hEA⟩ : ∃ E, rightE ⟨q.fn, q.loc, q.cnt, 1 + m, q.sub, q.bits, q.vals, q.land, q.lor⟩ = E := ⟨_, rfl⟩
    obtain ⟨EB, hEB⟩ : ∃ E, rightE ⟨q.fn, q.loc, q.cnt, q.wat, 1 + m, q.bits, q.vals, q.land, q.lor⟩ = E := ⟨_, rfl⟩
    obtain ⟨EC, hEC⟩ : ∃ E, rightE ⟨q.fn, q.loc, q.cnt, q.wat, q.sub, q.bits, q.vals, wOf (1 + m), q.lor⟩ = E := ⟨_, rfl⟩
    rw [hEA] at RA
    rw [hEB] at RB
    rw [hEC] at RC
    obtain ⟨t1, ht1⟩ : ∃ b, (q.fn == 23) = b := ⟨_, rfl⟩
    obtain ⟨t2, ht2⟩ : ∃ b, (q.fn == 8) = b := ⟨_, rfl⟩
    obtain ⟨t3, ht3⟩ : ∃ b, (q.fn == 22) = b := ⟨_, rfl⟩
    rw [ht1, beq_iff_eq] at RA
    rw [ht2, beq_iff_eq] at RB
    rw [ht3, beq_iff_eq] at RC
    have HA := hidden hEA
    have HB := hidden hEB
    have HC := hidden hEC
    have HD := hidden RD
    have T := hidden (show _ ∧ _ ∧ _ ∧ _ ∧ _ ∧ _ from ⟨ht1, ht2, ht3, RA, RB, RC⟩)
    clear hEA hEB hEC RD ht1 ht2 ht3 RA RB RC hbr hvr hdr
    have z0 := Ext.refl y0
    iterate 4 (first | (refine pi_pure z0 rfl (by kernel_rfl) (fun w' => by obtain ⟨g1, g2, g3, g4, g5, g6⟩ := T.out; go_simp; with_reducible rfl) ?_; try simp only [Act.put, List.setIfInBounds_toArray, List.set_cons_zero, List.set_cons_succ]) | (refine pi_read z0 rfl (by kernel_rfl) (fun w' hx => by obtain ⟨g1, g2, g3, g4, g5, g6⟩ := T.out; obtain ⟨⟨a0, a1, a2, a3, a4, a5, a6, a7, a8⟩, ⟨b0, b1, b2, b3, b4, b5, b6, b7', b8'⟩, ⟨e0, e1, e2, e3, e4, e5, e6, e7, e8⟩, ⟨d0, d1, d2, d3, d4, d5, d6, d7, d8⟩, x0⟩ := BX.out w' hx; go_simp; with_reducible rfl) ?_; try simp only [Act.put, List.setIfInBounds_toArray, List.set_cons_zero, List.set_cons_succ]))
    refine pi_move rfl (by kernel_rfl) (fun K hK => ?_)
    go_wp2_with fail
    refine (right_pdu _ _ _ QA).mono ?_
    rintro e y1 ⟨rfl, E1⟩
    rw [HA.out]
    go_simp
    refine hK.out _ _ E1 ?_
    clear K hK
    try simp only [Act.put, List.setIfInBounds_toArray, List.set_cons_zero, List.set_cons_succ]
    have z1 := Ext.refl y1
    replace BX := hidden (fun w' (hx : Ext y1 w') => BX.out w' (Ext.trans E1 hx))
    iterate 7 (first | (refine pi_pure E1 rfl (by kernel_rfl) (fun w' => by obtain ⟨g1, g2, g3, g4, g5, g6⟩ := T.out; go_simp; with_reducible rfl) ?_; try simp only [Act.put, List.setIfInBounds_toArray, List.set_cons_zero, List.set_cons_succ]) | (refine pi_read E1 rfl (by kernel_rfl) (fun w' hx => by obtain ⟨g1, g2, g3, g4, g5, g6⟩ := T.out; obtain ⟨⟨a0, a1, a2, a3, a4, a5, a6, a7, a8⟩, ⟨b0, b1, b2, b3, b4, b5, b6, b7', b8'⟩, ⟨e0, e1, e2, e3, e4, e5, e6, e7, e8⟩, ⟨d0, d1, d2, d3, d4, d5, d6, d7, d8⟩, x0⟩ := BX.out w' hx; go_simp; with_reducible rfl) ?_; try simp only [Act.put, List.setIfInBounds_toArray, List.set_cons_zero, List.set_cons_succ]) | (refine pi_pure z1 rfl (by kernel_rfl) (fun w' => by obtain ⟨g1, g2, g3, g4, g5, g6⟩ := T.out; go_simp; with_reducible rfl) ?_; try simp only [Act.put, List.setIfInBounds_toArray, List.set_cons_zero, List.set_cons_succ]) | (refine pi_read z1 rfl (by kernel_rfl) (fun w' hx => by obtain ⟨g1, g2, g3, g4, g5, g6⟩ := T.out; obtain ⟨⟨a0, a1, a2, a3, a4, a5, a6, a7, a8⟩, ⟨b0, b1, b2, b3, b4, b5, b6, b7', b8'⟩, ⟨e0, e1, e2, e3, e4, e5, e6, e7, e8⟩, ⟨d0, d1, d2, d3, d4, d5, d6, d7, d8⟩, x0⟩ := BX.out w' hx; go_simp; with_reducible rfl) ?_; try simp only [Act.put, List.setIfInBounds_toArray, List.set_cons_zero, List.set_cons_succ]))
    refine pi_move rfl (by kernel_rfl) (fun K hK => ?_)
    go_wp2_with fail
    refine (right_pdu _ _ _ (QB.below E1)).mono ?_
    rintro e y2 ⟨rfl, E2⟩
    rw [HB.out]
    go_simp
    refine hK.out _ _ E2 ?_
    clear K hK
    try simp only [Act.put, List.setIfInBounds_toArray, List.set_cons_zero, List.set_cons_succ]
    have z2 := Ext.refl y2
    replace BX := hidden (fun w' (hx : Ext y2 w') => BX.out w' (Ext.trans E2 hx))
    iterate 8 (first | (refine pi_pure E2 rfl (by kernel_rfl) (fun w' => by obtain ⟨g1, g2, g3, g4, g5, g6⟩ := T.out; go_simp; with_reducible rfl) ?_; try simp only [Act.put, List.setIfInBounds_toArray, List.set_cons_zero, List.set_cons_succ]) | (refine pi_read E2 rfl (by kernel_rfl) (fun w' hx => by obtain ⟨g1, g2, g3, g4, g5, g6⟩ := T.out; obtain ⟨⟨a0, a1, a2, a3, a4, a5, a6, a7, a8⟩, ⟨b0, b1, b2, b3, b4, b5, b6, b7', b8'⟩, ⟨e0, e1, e2, e3, e4, e5, e6, e7, e8⟩, ⟨d0, d1, d2, d3, d4, d5, d6, d7, d8⟩, x0⟩ := BX.out w' hx; go_simp; with_reducible rfl) ?_; try simp only [Act.put, List.setIfInBounds_toArray, List.set_cons_zero, List.set_cons_succ]) | (refine pi_pure z2 rfl (by kernel_rfl) (fun w' => by obtain ⟨g1, g2, g3, g4, g5, g6⟩ := T.out; go_simp; with_reducible rfl) ?_; try simp only [Act.put, List.setIfInBounds_toArray, List.set_cons_zero, List.set_cons_succ]) | (refine pi_read z2 rfl (by kernel_rfl) (fun w' hx => by obtain ⟨g1, g2, g3, g4, g5, g6⟩ := T.out; obtain ⟨⟨a0, a1, a2, a3, a4, a5, a6, a7, a8⟩, ⟨b0, b1, b2, b3, b4, b5, b6, b7', b8'⟩, ⟨e0, e1, e2, e3, e4, e5, e6, e7, e8⟩, ⟨d0, d1, d2, d3, d4, d5, d6, d7, d8⟩, x0⟩ := BX.out w' hx; go_simp; with_reducible rfl) ?_; try simp only [Act.put, List.setIfInBounds_toArray, List.set_cons_zero, List.set_cons_succ]))
    refine pi_move rfl (by kernel_rfl) (fun K hK => ?_)
    go_wp2_with fail
    refine (right_pdu _ _ _ ((QC.below E1).below E2)).mono ?_
    rintro e y3 ⟨rfl, E3⟩
    rw [HC.out]
    go_simp
    refine hK.out _ _ E3 ?_
    clear K hK
    try simp only [Act.put, List.setIfInBounds_toArray, List.set_cons_zero, List.set_cons_succ]
    have z3 := Ext.refl y3
    replace BX := hidden (fun w' (hx : Ext y3 w') => BX.out w' (Ext.trans E3 hx))
    iterate 5 (first | (refine pi_pure E3 rfl (by kernel_rfl) (fun w' => by obtain ⟨g1, g2, g3, g4, g5, g6⟩ := T.out; go_simp; with_reducible rfl) ?_; try simp only [Act.put, List.setIfInBounds_toArray, List.set_cons_zero, List.set_cons_succ]) | (refine pi_read E3 rfl (by kernel_rfl) (fun w' hx => by obtain ⟨g1, g2, g3, g4, g5, g6⟩ := T.out; obtain ⟨⟨a0, a1, a2, a3, a4, a5, a6, a7, a8⟩, ⟨b0, b1, b2, b3, b4, b5, b6, b7', b8'⟩, ⟨e0, e1, e2, e3, e4, e5, e6, e7, e8⟩, ⟨d0, d1, d2, d3, d4, d5, d6, d7, d8⟩, x0⟩ := BX.out w' hx; go_simp; with_reducible rfl) ?_; try simp only [Act.put, List.setIfInBounds_toArray, List.set_cons_zero, List.set_cons_succ]) | (refine pi_pure z3 rfl (by kernel_rfl) (fun w' => by obtain ⟨g1, g2, g3, g4, g5, g6⟩ := T.out; go_simp; with_reducible rfl) ?_; try simp only [Act.put, List.setIfInBounds_toArray, List.set_cons_zero, List.set_cons_succ]) | (refine pi_read z3 rfl (by kernel_rfl) (fun w' hx => by obtain ⟨g1, g2, g3, g4, g5, g6⟩ := T.out; obtain ⟨⟨a0, a1, a2, a3, a4, a5, a6, a7, a8⟩, ⟨b0, b1, b2, b3, b4, b5, b6, b7', b8'⟩, ⟨e0, e1, e2, e3, e4, e5, e6, e7, e8⟩, ⟨d0, d1, d2, d3, d4, d5, d6, d7, d8⟩, x0⟩ := BX.out w' hx; go_simp; with_reducible rfl) ?_; try simp only [Act.put, List.setIfInBounds_toArray, List.set_cons_zero, List.set_cons_succ]))
    refine pi_move rfl (by kernel_rfl) (fun K hK => ?_)
    go_wp2_with fail
    refine (right_pdu _ _ _ (((QD.below E1).below E2).below E3)).mono ?_
    rintro e y4 ⟨rfl, E4⟩
    rw [HD.out]
    go_simp
    refine hK.out _ _ E4 ?_
    clear K hK
    try simp only [Act.put, List.setIfInBounds_toArray, List.set_cons_zero, List.set_cons_succ]
    iterate 3 (first | (refine pi_pure E4 rfl (by kernel_rfl) (fun w' => by obtain ⟨g1, g2, g3, g4, g5, g6⟩ := T.out; go_simp; with_reducible rfl) ?_; try simp only [Act.put, List.setIfInBounds_toArray, List.set_cons_zero, List.set_cons_succ]) | (refine pi_read E4 rfl (by kernel_rfl) (fun w' hx => by obtain ⟨g1, g2, g3, g4, g5, g6⟩ := T.out; obtain ⟨⟨a0, a1, a2, a3, a4, a5, a6, a7, a8⟩, ⟨b0, b1, b2, b3, b4, b5, b6, b7', b8'⟩, ⟨e0, e1, e2, e3, e4, e5, e6, e7, e8⟩, ⟨d0, d1, d2, d3, d4, d5, d6, d7, d8⟩, x0⟩ := BX.out w' hx; go_simp; with_reducible rfl) ?_; try simp only [Act.put, List.setIfInBounds_toArray, List.set_cons_zero, List.set_cons_succ]))
    refine pi_move rfl (by kernel_rfl) (fun K hK => ?_)
    go_wp2_with fail
    refine (known_law _).mono ?_
    rintro e y5 ⟨rfl, E5⟩
    go_simp
    refine hK.out _ _ (Ext.trans E4 E5) ?_
    clear K hK
    try simp only [Act.put, List.setIfInBounds_toArray, List.set_cons_zero, List.set_cons_succ]
    have E45 := Ext.trans E4 E5
    iterate 2 (first | (refine pi_pure E45 rfl (by kernel_rfl) (fun w' => by obtain ⟨g1, g2, g3, g4, g5, g6⟩ := T.out; go_simp; with_reducible rfl) ?_; try simp only [Act.put, List.setIfInBounds_toArray, List.set_cons_zero, List.set_cons_succ]) | (refine pi_read E45 rfl (by kernel_rfl) (fun w' hx => by obtain ⟨g1, g2, g3, g4, g5, g6⟩ := T.out; obtain ⟨⟨a0, a1, a2, a3, a4, a5, a6, a7, a8⟩, ⟨b0, b1, b2, b3, b4, b5, b6, b7', b8'⟩, ⟨e0, e1, e2, e3, e4, e5, e6, e7, e8⟩, ⟨d0, d1, d2, d3, d4, d5, d6, d7, d8⟩, x0⟩ := BX.out w' hx; go_simp; with_reducible rfl) ?_; try simp only [Act.put, List.setIfInBounds_toArray, List.set_cons_zero, List.set_cons_succ]))
    refine pi_nil ?_
    replace B1 := below_then B1 (Ext.trans (Ext.trans (Ext.trans E1 E2) E3) E45)
    go_wp2
    go_ret
    exact ⟨rfl, B1⟩

end Go.Proofs.Ytbkkinmnokfofaa
