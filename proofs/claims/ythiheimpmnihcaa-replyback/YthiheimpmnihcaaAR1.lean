/- ReplyRefuses: the walk. -/
import Derived.Test.YthiheimpmnihcaaA7
import Derived.Test.YthiheimpmnihcaaW1
namespace Go.Proofs.Ythiheimpmnihcaa
open Go.RowKit

theorem or128 (n : Int) (h0 : 0 ≤ n) (h1 : n ≤ 127) : bits BinOp.or IntKind.u8 n 128 = n + 128 := by
  have : ∀ k : Fin 128, bits BinOp.or IntKind.u8 (k.val : Int) 128 = (k.val : Int) + 128 := by decide +kernel
  have := this ⟨n.toNat, by omega⟩
  simp only at this
  rw [show ((n.toNat : Nat) : Int) = n by omega] at this
  exact this
theorem ref_good (f k : Int) (h0 : 0 ≤ f) (h1 : f ≤ 127) (h2 : 1 ≤ k) (h3 : k ≤ 255) : goodE (refP f k) = 0 :=
  goodE_c0 (by simp [refP]; omega) ((codeB_iff _ (by simp [refP]; omega)).2 ⟨h2, h3, h0, h1, rfl⟩)
theorem ref_lay (f k : Int) (h : k ≠ 0) : layA (refP f k) = [b8 (f + 128), b8 k] := by simp [layA, refP, h]
theorem ref_isA (f k c : Int) (h0 : 0 ≤ f) (h1 : f ≤ 127) (h2 : 1 ≤ k) (h3 : k ≤ 255) : isA [b8 (f + 128), b8 k] c (refP f k) :=
  ⟨ref_good f k h0 h1 h2 h3, ref_lay f k (by omega), by unfold askB; rw [if_pos (by simp only [refP]; omega)]⟩
theorem ref_fn (f k : Int) (h0 : 0 ≤ f) (h1 : f ≤ 127) : fnOf [b8 (f + 128), b8 k] = f + 128 := b8_val _ (by omega) (by omega)

set_option maxRecDepth 100000 in
set_option maxHeartbeats 4000000 in
theorem refuses_walk (fn code : Int) (w : World) (_hf : -9223372036854775808 ≤ fn ∧ fn ≤ 9223372036854775807) (hc : -9223372036854775808 ≤ code ∧ code ≤ 9223372036854775807) :
    Calls Try.prog 8 #[.int .i64 fn, .int .i64 code] w fun e w' => e = .returned (.bool true) ∧ Below w.heap.size w w' := by
  have a1 := and127 fn
  have f0 : 0 ≤ fn % 128 := by omega
  have f1 : fn % 128 ≤ 127 := by omega
  generalize fn % 128 = f at *
  go_enter Try.func8, Try.ntmps8
  have B := Below.refl w.heap.size w
  go_wp2_with fail
  refine (within_any code 0 254 _ hc (by decide) (by decide) (by decide)).mono ?_
  rintro e w1 ⟨⟨m, rfl, m0, m1⟩, rfl⟩
  have k1 : 1 + m = m + 1 := by omega
  have k0 : 1 ≤ m + 1 := by omega
  have k2 : m + 1 ≤ 255 := by omega
  go_wp2_with fail
  try simp only [k1]
  generalize m + 1 = k at *
  refine (refuse_rep f k _).mono ?_
  rintro e w1 ⟨rfl, E⟩
  replace B := below_then B E
  clear E
  rw [show f % 128 = f by omega, show k % 256 = k by omega]
  have EA := (Below.refl w1.heap.size w1).alloc (Nat.le_refl _) (.cells #[.int .i64 f, .int .i64 k, .int .i64 0, .int .i64 0, .int .i64 0, .slice none 0 0, .slice none 0 0, .int .u16 0, .int .u16 0, .slice none 0 0] 46)
  replace B := below_then B EA
  clear EA
  have G := hidden (ref_good f k f0 f1 k0 k2)
  have IA := hidden (fun c => ref_isA f k c f0 f1 k0 k2)
  have FN := hidden (ref_fn f k f0 f1)
  have LY := hidden (ref_lay f k (by omega))
  go_wp2_with fail
  refine (bytes_rep _ (refP f k) _ (ref_rp _ f k)).mono ?_
  rintro e w2 ⟨v2, rfl, r2, E⟩
  replace B := below_then B E
  clear E
  rw [G.out]
  rw [layR_0 G.out, LY.out] at r2
  have T3 := hidden (takeE_is (f := f) (by rw [FN.out]; simp [ansB]; omega) (IA.out 0))
  have U3 := hidden (takeR_is (f := f) (by rw [FN.out]; simp [ansB]; omega) (IA.out 0))
  have a2 := and127 (f + 1)
  have g0 : 0 ≤ (f + 1) % 128 := by omega
  have AN : Hid (ansB (fnOf [b8 (f + 128), b8 k]) ((f + 1) % 128) = false) := by show _ = _; rw [FN.out]; simp [ansB]; omega
  have T4 := hidden (takeE_ans (c := 0) (by simp) AN.out)
  have U4 := hidden (takeR_ans (c := 0) AN.out)
  go_wp2_with fail
  refine (read_rep _ _ [b8 (f + 128), b8 k] ⟨f, 0, 0, 0, 0, [], [], 0, 0⟩ _ r2 ⟨_, _, rfl, Row.nil _, Row.nil _⟩ ⟨by simp only; omega, by simp only; omega⟩).mono ?_
  rintro e w3 ⟨v3, rfl, q3, E, -⟩
  replace B := below_then B E
  replace r2 := r2.below E
  clear E
  simp only at q3 ⊢
  rw [T3.out]
  rw [U3.out] at q3
  obtain ⟨b3, cb3, c3, cc3, d3, cd3, rfl, -, -, -⟩ := q3.slices
  have X3 := hidden (BoxP.new w3 (refP f k).fn (refP f k).code (refP f k).loc (refP f k).cnt (refP f k).sub (.slice b3 (refP f k).bits.length cb3) (.slice c3 (refP f k).vals.length cc3) (refP f k).land (refP f k).lor (.slice d3 (refP f k).data.length cd3) 46)
  have EA := (Below.refl w3.heap.size w3).alloc (Nat.le_refl _) (.cells #[.int .i64 (refP f k).fn, .int .i64 (refP f k).code, .int .i64 (refP f k).loc, .int .i64 (refP f k).cnt, .int .i64 (refP f k).sub, .slice b3 (refP f k).bits.length cb3, .slice c3 (refP f k).vals.length cc3, .int .u16 (refP f k).land.toNat, .int .u16 (refP f k).lor.toNat, .slice d3 (refP f k).data.length cd3] 46)
  replace B := below_then B EA
  replace r2 := r2.below EA
  replace q3 := q3.below EA
  clear EA
  generalize (f + 1) % 128 = g at *
  go_wp2_with fail
  try simp only [a2]
  refine (read_rep _ _ [b8 (f + 128), b8 k] ⟨g, 0, 0, 0, 0, [], [], 0, 0⟩ _ r2 ⟨_, _, rfl, Row.nil _, Row.nil _⟩ ⟨by simp only; omega, by simp only; omega⟩).mono ?_
  rintro e w4 ⟨v4, rfl, q4, E, -⟩
  replace B := below_then B E
  replace r2 := r2.below E
  replace q3 := q3.below E
  replace X3 := hidden (X3.out.ext E)
  clear E
  simp only at q4 ⊢
  rw [T4.out]
  rw [U4.out] at q4
  obtain ⟨b4, cb4, c4, cc4, d4, cd4, rfl, -, -, -⟩ := q4.slices
  have X4 := hidden (BoxP.new w4 zeroP.fn zeroP.code zeroP.loc zeroP.cnt zeroP.sub (.slice b4 zeroP.bits.length cb4) (.slice c4 zeroP.vals.length cc4) zeroP.land zeroP.lor (.slice d4 zeroP.data.length cd4) 46)
  have EA := (Below.refl w4.heap.size w4).alloc (Nat.le_refl _) (.cells #[.int .i64 zeroP.fn, .int .i64 zeroP.code, .int .i64 zeroP.loc, .int .i64 zeroP.cnt, .int .i64 zeroP.sub, .slice b4 zeroP.bits.length cb4, .slice c4 zeroP.vals.length cc4, .int .u16 zeroP.land.toNat, .int .u16 zeroP.lor.toNat, .slice d4 zeroP.data.length cd4] 46)
  replace B := below_then B EA
  replace r2 := r2.below EA
  replace q3 := q3.below EA
  replace X3 := hidden (X3.out.ext EA)
  replace q4 := q4.below EA
  clear EA
  clear q4 X4 q3
  have x0 : w4.heap.size = w4.heap.size := rfl
  clear x0
  have e0 := X3.out.c0
  have e1 := X3.out.c1
  have o1 := or128 f f0 f1
  obtain ⟨ra, rc, rfl, -⟩ := id r2
  obtain ⟨-, hcap, hmx, hcell⟩ := r2.at
  simp only [List.length_map, List.length_cons, List.length_nil, Nat.zero_add, Nat.reduceAdd] at r2 hcap hcell ⊢
  obtain ⟨rb, ro, rfl, hcl⟩ := hcell 0 0 (by decide)
  have y0 := hcl 0 (by decide)
  have y1 := hcl 1 (by decide)
  simp only [List.getD_cons_zero, List.getD_cons_succ, bV, Nat.add_zero] at y0 y1
  rw [b8_val _ (by omega) (by omega)] at y0 y1
  clear hcell hcl
  simp only [refP] at e0 e1
  go_wp2_with fail
  refine (known_law4 _).mono ?_
  rintro e w5 ⟨rfl, E⟩
  replace B := below_then B E
  go_wp2
  go_ret
  exact ⟨rfl, B⟩

end Go.Proofs.Ythiheimpmnihcaa
