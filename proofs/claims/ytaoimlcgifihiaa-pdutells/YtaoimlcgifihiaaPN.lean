/- PduNumbers: the closed sentence of chapter 3. The walk. -/
import Derived.Test.YtaoimlcgifihiaaOD3
import Derived.Test.YtaoimlcgifihiaaV4
namespace Go.Proofs.Ytaoimlcgifihiaa
open Go.RowKit

theorem bytesR_short (q : Rq) : (bytesR q).length ≤ 1000 := by
  by_cases hr : rightE q = 0
  · rw [bytesR_0 hr]
    obtain ⟨hk, -, -, hl⟩ := right_parts hr
    obtain ⟨f, a, c, p, s, bs, vs, m, o⟩ := q
    rcases known_cases hk with e | e | e | e | e | e | e | e | e | e | e | e
    all_goals
      simp only at e
      subst e
      simp [listB] at hl
      simp [bytesQ, bodyQ, pw, cntL, packL_len, bytesL_len]
      try omega
  · rw [bytesR_no hr]; simp

def nl21 : List Int := [-1, 0, 1, 2, 121, 122, 123, 124, 125, 126, 127, 128, 1968, 1969, 2000, 2001, 2040, 2041, 65535, 65536, -9223372036854775808]
theorem nl21_in (j : Nat) (h : j < 21) : -9223372036854775808 ≤ nl21.getD j 0 ∧ nl21.getD j 0 ≤ 9223372036854775807 := by
  have H : ∀ n ∈ nl21, -9223372036854775808 ≤ n ∧ n ≤ 9223372036854775807 := by decide
  have hj : j < nl21.length := by simpa [nl21] using h
  rw [List.getD_eq_getElem?_getD, List.getElem?_eq_getElem hj]
  exact H _ (List.getElem_mem hj)
theorem xor_pow3 (x : UInt8) (t : Nat) (h : t < 8) : ∃ y : UInt8, bits BinOp.xor IntKind.u8 (x.toNat : Int) ((2 : Int) ^ t % 256) = (y.toNat : Int) := by
  obtain ⟨e, hl⟩ := pow8 t h
  have hz : x.toNat ^^^ 2 ^ t < 256 := Nat.xor_lt_two_pow (n := 8) x.toNat_lt hl
  have hy : (UInt8.ofNat (x.toNat ^^^ 2 ^ t)).toNat = x.toNat ^^^ 2 ^ t := by rw [UInt8.toNat_ofNat']; omega
  exact ⟨UInt8.ofNat (x.toNat ^^^ 2 ^ t), by rw [hy, e, u8_xor_nat _ _ x.toNat_lt hl]⟩

/-- one of the functions -/
theorem fun12 (w : World) (k : Nat) : ∃ F : Int, (w.alloc (.cells #[.int .i64 1, .int .i64 2, .int .i64 3, .int .i64 4, .int .i64 5, .int .i64 6, .int .i64 8, .int .i64 15, .int .i64 16, .int .i64 17, .int .i64 22, .int .i64 23] 3)).cell? ⟨w.heap.size, k % 12, none⟩ = some (.int .i64 F) := by
  have X := (Blk.new w 3 [.int .i64 1, .int .i64 2, .int .i64 3, .int .i64 4, .int .i64 5, .int .i64 6, .int .i64 8, .int .i64 15, .int .i64 16, .int .i64 17, .int .i64 22, .int .i64 23]).cell (k % 12)
  have hk : k % 12 < 12 := Nat.mod_lt _ (by decide)
  generalize k % 12 = j at *
  match j, hk with
  | 0, _ => exact ⟨_, X⟩
  | 1, _ => exact ⟨_, X⟩
  | 2, _ => exact ⟨_, X⟩
  | 3, _ => exact ⟨_, X⟩
  | 4, _ => exact ⟨_, X⟩
  | 5, _ => exact ⟨_, X⟩
  | 6, _ => exact ⟨_, X⟩
  | 7, _ => exact ⟨_, X⟩
  | 8, _ => exact ⟨_, X⟩
  | 9, _ => exact ⟨_, X⟩
  | 10, _ => exact ⟨_, X⟩
  | 11, _ => exact ⟨_, X⟩

set_option maxRecDepth 100000 in
set_option maxHeartbeats 1000000 in
theorem pnumbers_walk (w : World) : Calls Try.prog 3 #[] w fun e w' => e = .returned (.bool true) ∧ Below w.heap.size w w' := by
  have HRQ := hidden req_ok
  go_enter Try.func3, Try.ntmps3
  go_wp2
  go_loopw [1] (fun z1 wr => ∃ k : Nat, k ≤ 50 ∧ z1 = .int .i64 k ∧ Below w.heap.size w wr) (fun z1 _ => 50 - (intOf z1).toNat)
  case atStart => exact ⟨0, by omega, rfl, Below.refl _ _⟩
  case round =>
    obtain ⟨k, hk, rfl, hb⟩ := hrel
    obtain ⟨wo, hwo⟩ : ∃ wo, wo = wr := ⟨_, rfl⟩
    subst hwo
    by_cases hlt : k < 50
    · have hlt' : (k : Int) < 50 := by omega
      go_wp2_with fail
      refine (tape_law3 k _ (by omega)).mono ?_
      rintro e w1 ⟨v1, rfl, l, R1, HL, b1⟩
      replace hb := below_then hb b1
      obtain ⟨ta, tc, rfl, -⟩ := id R1
      simp only [List.length_map] at R1 ⊢
      have T1 := tap_new w1 ta l.length tc l R1 HL
      clear b1
      go_wp2_with fail
      refine (HRQ.out _ _ l _ T1 (by simp)).mono ?_
      rintro e w2 ⟨v2, rfl, q, q2, -, -, -, -, D2⟩
      have E2 : Below w1.heap.size w1 w2 := (((Below.refl w1.heap.size w1).alloc (Nat.le_refl _) (.cells #[.slice ta l.length tc, .int .i64 0] 31))).trans (D2.below (by omega) (Nat.le_refl _))
      replace hb := below_then hb E2
      clear D2 T1 E2 R1 HL
      obtain ⟨qb, qcb, qv, qcv, rfl, -, -⟩ := q2.slices
      have X0 := Blk.new w2 26 [.int .i64 q.fn, .int .i64 q.loc, .int .i64 q.cnt, .int .i64 q.wat, .int .i64 q.sub, .slice qb q.bits.length qcb, .slice qv q.vals.length qcv, .int .u16 q.land.toNat, .int .u16 q.lor.toNat]
      have E3 := (Below.refl w2.heap.size w2).alloc (Nat.le_refl _) (.cells #[.int .i64 q.fn, .int .i64 q.loc, .int .i64 q.cnt, .int .i64 q.wat, .int .i64 q.sub, .slice qb q.bits.length qcb, .slice qv q.vals.length qcv, .int .u16 q.land.toNat, .int .u16 q.lor.toNat] 26)
      go_wp2_with fail
      refine (functions_any _).mono ?_
      rintro e w3 ⟨rfl, hw3⟩
      obtain ⟨F, cF⟩ := fun12 (w2.alloc (.cells #[.int .i64 q.fn, .int .i64 q.loc, .int .i64 q.cnt, .int .i64 q.wat, .int .i64 q.sub, .slice qb q.bits.length qcb, .slice qv q.vals.length qcv, .int .u16 q.land.toNat, .int .u16 q.lor.toNat] 26)) k
      have E4 := E3.alloc (by simp) (.cells #[.int .i64 1, .int .i64 2, .int .i64 3, .int .i64 4, .int .i64 5, .int .i64 6, .int .i64 8, .int .i64 15, .int .i64 16, .int .i64 17, .int .i64 22, .int .i64 23] 3)
      replace X0 := X0.alloc (.cells #[.int .i64 1, .int .i64 2, .int .i64 3, .int .i64 4, .int .i64 5, .int .i64 6, .int .i64 8, .int .i64 15, .int .i64 16, .int .i64 17, .int .i64 22, .int .i64 23] 3)
      rw [hw3] at cF E4 X0
      simp only [World.size_alloc] at cF ⊢
      have f0 := X0.frozen
      have c0 := X0.cell 0
      simp at c0
      have X1 := X0.set 0 (.int .i64 F)
      simp at X1
      have E5 := E4.setCell (p := ⟨w2.heap.size, 0, none⟩) (Nat.le_refl _) (.int .i64 F)
      have hkk : (k : Int) % 12 < 12 := by omega
      obtain ⟨w4, hw4⟩ : ∃ w4, w3.setCell ⟨w2.heap.size, 0, none⟩ (.int .i64 F) = w4 := ⟨_, rfl⟩
      rw [hw4] at X1 E5
      have q4 : IsRq w4 (rqV F q.loc q.cnt q.wat q.sub (.slice qb q.bits.length qcb) (.slice qv q.vals.length qcv) q.land q.lor) ⟨F, q.loc, q.cnt, q.wat, q.sub, q.bits, q.vals, q.land, q.lor⟩ := by
        obtain ⟨vb, vv, hE, h1, h2⟩ := q2.below E5
        simp only [rqV, Value.agg.injEq, Array.mk.injEq, List.cons.injEq, and_true, true_and] at hE
        obtain ⟨rfl, rfl⟩ := hE
        exact ⟨_, _, rfl, h1, h2⟩
      replace hb := below_then hb E5
      have l4 := X1.lt
      have d0 := X1.cell 0
      have d1 := X1.cell 1
      have d2 := X1.cell 2
      have d3 := X1.cell 3
      have d4 := X1.cell 4
      have d5 := X1.cell 5
      have d6 := X1.cell 6
      have d7 := X1.cell 7
      have d8 := X1.cell 8
      simp at d0 d1 d2 d3 d4 d5 d6 d7 d8
      have f4 := X1.frozen
      have CB := hidden (bytes_ref _ _ _ q4)
      clear E3 E4 E5 X0 q2
      go_wp2_with fail
      clear hw4 hw3 cF c0 f0
      refine CB.out.mono ?_
      rintro e w5 ⟨v5, rfl, o5, b5⟩
      have LB := bytesR_short ⟨F, q.loc, q.cnt, q.wat, q.sub, q.bits, q.vals, q.land, q.lor⟩
      generalize bytesR ⟨F, q.loc, q.cnt, q.wat, q.sub, q.bits, q.vals, q.land, q.lor⟩ = B at *
      generalize rightE ⟨F, q.loc, q.cnt, q.wat, q.sub, q.bits, q.vals, q.land, q.lor⟩ = eB at *
      have X5 := X1.below b5 l4
      have q5 := q4.below b5
      replace hb := below_then hb b5
      have R5 := Row.of_owns o5
      have l5 := X5.lt
      clear CB X1 q4 b5 o5 l4 d0 d1 d2 d3 d4 d5 d6 d7 d8 f4
      go_wp2
      go_loopw [5] (fun z5 wr => ∃ u : Nat, u ≤ 10 ∧ z5 = .int .i64 u ∧ Below w5.heap.size w5 wr) (fun z _ => 10 - (intOf z).toNat)
      case atStart => exact ⟨0, by omega, rfl, Below.refl _ _⟩
      case round =>
        obtain ⟨u, hu, rfl, hbu⟩ := hrel
        obtain ⟨wu, hwu⟩ : ∃ wu, wu = wr := ⟨_, rfl⟩
        subst hwu
        by_cases hlu : u < 10
        · have hlu' : (u : Int) < 10 := by omega
          have G21 : Blk (wu.alloc (.cells (nl21.map iV).toArray 3)) wu.heap.size 3 (nl21.map iV) := Blk.new wu 3 (nl21.map iV)
          have b21 : Below w5.heap.size w5 (wu.alloc (.cells (nl21.map iV).toArray 3)) := hbu.alloc hbu.size _
          obtain ⟨w9, hw9⟩ : ∃ w9, wu.alloc (.cells (nl21.map iV).toArray 3) = w9 := ⟨_, rfl⟩
          have hs9 : wu.heap.size < w9.heap.size := by rw [← hw9]; simp
          rw [hw9] at G21 b21
          have hw9' : wu.alloc (.cells #[.int .i64 (-1), .int .i64 0, .int .i64 1, .int .i64 2, .int .i64 121, .int .i64 122, .int .i64 123, .int .i64 124, .int .i64 125, .int .i64 126, .int .i64 127, .int .i64 128, .int .i64 1968, .int .i64 1969, .int .i64 2000, .int .i64 2001, .int .i64 2040, .int .i64 2041, .int .i64 65535, .int .i64 65536, .int .i64 (-9223372036854775808)] 3) = w9 := hw9
          clear hw9
          go_wp2
          clear hw9'
          go_loopw [42] (fun z wr => ∃ j : Nat, j ≤ 21 ∧ z = .int .i64 j ∧ Below w9.heap.size w9 wr) (fun z _ => 21 - (intOf z).toNat)
          case atStart => exact ⟨0, by omega, rfl, Below.refl _ _⟩
          case round =>
            obtain ⟨j, hj, rfl, hbj⟩ := hrel
            by_cases hlj : j < 21
            · have hlj' : (j : Int) < 21 := by omega
              have c0 : wr.cell? ⟨wu.heap.size, j, none⟩ = some (iV (nl21.getD j 0)) := by
                rw [(G21.below hbj hs9).cell j]
                have : j < nl21.length := by simpa [nl21] using hlj
                simp [List.getD_eq_getElem?_getD, this]
              have nb := nl21_in j hlj
              generalize nl21.getD j 0 = n at *
              have b6 := below_then b21 hbj
              have X6 := X5.below b6 l5
              have q6 := q5.below b6
              have l6 := X6.lt
              have d0 := X6.cell 0
              have d1 := X6.cell 1
              have d2 := X6.cell 2
              have d3 := X6.cell 3
              have d4 := X6.cell 4
              have d5 := X6.cell 5
              have d6 := X6.cell 6
              have d7 := X6.cell 7
              have d8 := X6.cell 8
              simp at d0 d1 d2 d3 d4 d5 d6 d7 d8
              have f6 := X6.frozen
              clear X6 G21
              go_wp2_with fail
              refine (odd_law3 _ _ (u : Int) n _ q6 (by omega) nb).mono ?_
              rintro e w7 ⟨v7, rfl, ⟨x, q7⟩, b7⟩
              replace hbj := below_then hbj b7
              obtain ⟨xb, xcb, xv, xcv, rfl, -, -⟩ := q7.slices
              have Y0 := Blk.new w7 26 [.int .i64 x.fn, .int .i64 x.loc, .int .i64 x.cnt, .int .i64 x.wat, .int .i64 x.sub, .slice xb x.bits.length xcb, .slice xv x.vals.length xcv, .int .u16 x.land.toNat, .int .u16 x.lor.toNat]
              have b8 := (Below.refl w7.heap.size w7).alloc (Nat.le_refl _) (.cells #[.int .i64 x.fn, .int .i64 x.loc, .int .i64 x.cnt, .int .i64 x.wat, .int .i64 x.sub, .slice xb x.bits.length xcb, .slice xv x.vals.length xcv, .int .u16 x.land.toNat, .int .u16 x.lor.toNat] 26)
              have q8 := q7.below b8
              replace hbj := below_then hbj b8
              clear q6 q7 b6 b7 b8 c0 d0 d1 d2 d3 d4 d5 d6 d7 d8 f6 l6
              go_wp2_with fail
              refine (bytes_ref _ x _ q8).mono ?_
              rintro e w8 ⟨v8, rfl, o8, b8⟩
              have LX := bytesR_short x
              generalize bytesR x = BX at *
              generalize rightE x = eX at *
              replace Y0 := Y0.below b8 Y0.lt
              replace q8 := q8.below b8
              replace hbj := below_then hbj b8
              have R8 := Row.of_owns o8
              clear b8 o8
              have d0 := Y0.cell 0
              have d1 := Y0.cell 1
              have d2 := Y0.cell 2
              have d3 := Y0.cell 3
              have d4 := Y0.cell 4
              have d5 := Y0.cell 5
              have d6 := Y0.cell 6
              have d7 := Y0.cell 7
              have d8 := Y0.cell 8
              simp at d0 d1 d2 d3 d4 d5 d6 d7 d8
              have l8 := Y0.lt
              go_wp2_with fail
              refine (same_law3 _ x _ q8).mono ?_
              rintro e w10 ⟨rfl, b10⟩
              replace hbj := below_then hbj b10
              replace R8 := R8.below b10
              clear b10 q8 d0 d1 d2 d3 d4 d5 d6 d7 d8 l8 Y0
              go_wp2_with fail
              refine (reads_law3 _ BX _ R8 (by omega)).mono ?_
              rintro e w11 ⟨rfl, b11⟩
              replace hbj := below_then hbj b11
              clear b11 R8
              go_wp2
              go_roundw
              case rel => exact ⟨j + 1, by omega, by go_num, hbj⟩
              case measure => simp [intOf]; omega
            · have hlj' : ¬ (j : Int) < 21 := by omega
              have b6 := below_then b21 hbj
              clear G21
              go_wp2
              go_roundw
              case rel => exact ⟨u + 1, by omega, by go_num, b6⟩
              case measure => simp [intOf]; omega
        · have hlu' : ¬ (u : Int) < 10 := by omega
          have R6 := R5.below hbu
          have hb6 := below_then hb hbu
          obtain ⟨ba, bc, rfl, -⟩ := id R6
          obtain ⟨-, h1, h2, h3⟩ := R6.at
          unfold maxLen at h2
          simp only [List.length_map] at R6 h1 ⊢
          have H3 := hidden h3
          clear X5 q5 R5 l5 hbu h3
          obtain ⟨N, hN⟩ : ∃ N, B.length = N := ⟨_, rfl⟩
          have HN := hidden hN
          rw [hN] at R6 h1 LB ⊢
          clear hN
          go_wp2
          go_loopw [66] (fun z wr => ∃ i : Nat, i ≤ N ∧ z = .int .i64 i ∧ Below wu.heap.size wu wr) (fun z _ => N - (intOf z).toNat)
          case atStart => exact ⟨0, by omega, rfl, Below.refl _ _⟩
          case round =>
            obtain ⟨i, hi, rfl, hbi⟩ := hrel
            by_cases hli : i < N
            · have hli' : (i : Int) < (N : Int) := by omega
              obtain ⟨bb, bo, rfl, -⟩ := H3.out i 0 (by rw [List.length_map, HN.out]; exact hli)
              have R7 := R6.below hbi
              have ho0 := World.ownsRow_made (base := wr.heap.size) (e := 5) (size := 1) wr #[] 0 (Nat.le_refl _) (Nat.zero_le _) (by simp)
              have hb0 : Below wr.heap.size wr (wr.alloc (.cells #[] 5)) := (Below.refl _ _).alloc (Nat.le_refl _) _
              have hv0 := R7.below hb0
              go_wp2_with (at_builtin; refine wpList_app rfl (.tmp 69) (.tmp 70) 34 rfl wr.heap.size 5 (.int .u8 0) 1 Try.underlying34 info_u8 rfl rfl ho0 rfl hv0 (one_bytes B) (by have := HN.out; simp [maxLen]; omega) (by have := HN.out; simp; omega) (by simp) ?_)
              intro v4 w4 ho4 hg4
              simp only [HN.out] at ho4
              have q4 : Below wr.heap.size wr w4 := hb0.grown hg4 (by simp) (fun k hk => (ho0.lt k hk).1)
              obtain ⟨g, cap4, rfl, hgb⟩ := owns_some ho4 (by omega)
              clear hb0 hv0 hg4 ho0
              have hiB : i < B.length := by rw [HN.out]; exact hli
              have c0 : w4.cell? ⟨g, i, none⟩ = some (bV (B.getD i 0)) := by rw [ho4.cellAt _ (by omega)]; simp [hiB]
              have f0 := ho4.frozenAt i
              generalize B.getD i 0 = x at *
              obtain ⟨y, hy⟩ := xor_pow3 x ((i + k) % 8) (by omega)
              have HY := hidden hy
              clear hy hiB
              have st := ho4.stored i (.int .u8 (y.toNat : Int))
              rw [← List.map_set (f := bV) (a := y)] at st
              have q5 := q4.grown st.2 q4.size (fun k hk => by cases hk; exact hgb)
              have R9 := Row.of_owns st.1
              have hZ : (B.set i y).length ≤ 1000 := by simp [HN.out]; omega
              generalize B.set i y = Z at *
              obtain ⟨wz, hwz⟩ : ∃ wz, w4.setCell ⟨g, i, none⟩ (.int .u8 (y.toNat : Int)) = wz := ⟨_, rfl⟩
              rw [hwz] at R9 q5
              have hwz' : w4.setCell ⟨g, i, none⟩ (.int .u8 (bits BinOp.xor IntKind.u8 (x.toNat : Int) ((2 : Int) ^ ((i + k) % 8) % 256))) = wz := by rw [HY.out]; exact hwz
              replace hbi := below_then hbi q5
              replace R7 := R7.below q5
              have RT := R7.take i (by omega)
              rw [← List.map_take] at RT
              have HT : (B.take i).length ≤ 1000 := by simp [HN.out]; omega
              generalize B.take i = BT at *
              have hic : i ≤ bc := by omega
              clear st q4 q5 ho4 hwz HY
              have RE := R7.drop i (by omega) bb bo rfl
              rw [← List.map_drop] at RE
              have HE : (B.drop i).length ≤ 1000 := by simp [HN.out]; omega
              generalize B.drop i = BE at *
              have hibc : ¬ (bc = i) := by omega
              go_wp2_with fail
              refine (reads_law3 _ Z _ R9 (by omega)).mono ?_
              rintro e wa ⟨rfl, ba1⟩
              replace hbi := below_then hbi ba1
              replace RT := RT.below ba1
              replace RE := RE.below ba1
              clear ba1 R9 c0 f0 hwz'
              go_wp2_with fail
              refine (reads_law3 _ BT _ RT (by omega)).mono ?_
              rintro e wb ⟨rfl, ba1⟩
              replace hbi := below_then hbi ba1
              replace RE := RE.below ba1
              clear ba1 RT
              go_wp2_with fail
              refine (reads_law3 _ BE _ RE (by omega)).mono ?_
              rintro e wc ⟨rfl, ba1⟩
              replace hbi := below_then hbi ba1
              clear ba1 RE
              go_wp2
              go_roundw
              case rel => exact ⟨i + 1, by omega, by go_num, hbi⟩
              case measure => simp [intOf]; omega
            · have hli' : ¬ (i : Int) < (N : Int) := by omega
              have b7 := below_then hb6 hbi
              go_wp2
              go_roundw
              case rel => exact ⟨k + 1, by omega, by go_num, b7⟩
              case measure => simp [intOf]; omega
    · have hlt' : ¬ (k : Int) < 50 := by omega
      clear HRQ
      go_wp2
      go_loopw [13] (fun z wr => ∃ f : Nat, f ≤ 256 ∧ z = .int .i64 f ∧ Below w.heap.size w wr) (fun z _ => 256 - (intOf z).toNat)
      case atStart => exact ⟨0, by omega, rfl, hb⟩
      case round =>
        obtain ⟨f, hf, rfl, hbf⟩ := hrel
        obtain ⟨wf, hwf⟩ : ∃ wf, wf = wr := ⟨_, rfl⟩
        subst hwf
        by_cases hlf : f < 256
        · have hlf' : (f : Int) < 256 := by omega
          go_wp2
          go_loopw [14] (fun z wr => ∃ n : Nat, n ≤ 12 ∧ z = .int .i64 n ∧ Below w.heap.size w wr) (fun z _ => 12 - (intOf z).toNat)
          case atStart => exact ⟨0, by omega, rfl, hbf⟩
          case round =>
            obtain ⟨n, hn, rfl, hbn⟩ := hrel
            by_cases hln : n < 12
            · have hln' : (n : Int) < 12 := by omega
              have mk := mk_zer 34 5 (.int .u8 0) 1 Try.underlying34 info_u8 rfl (n : Int) n (by omega) (by omega) (by omega) wr
              have GZ := zer_blk wr n (.int .u8 0) 5
              have BZ := (Below.refl wr.heap.size wr).alloc (Nat.le_refl _) (.cells (zer n (.int .u8 0)) 5)
              by_cases hn0 : 0 < n
              · have hn0' : (0 : Int) < (n : Int) := by omega
                have c0 : (wr.alloc (.cells (zer n (.int .u8 0)) 5)).cell? ⟨wr.heap.size, 0, none⟩ = some (.int .u8 0) := by rw [GZ.cell 0]; simp [hn0]
                have f0 := GZ.frozen 0
                have l0 := GZ.lt
                have ez : (zer n (.int .u8 0)).setIfInBounds 0 (.int .u8 (f : Int)) = ((List.replicate n (Value.int .u8 0)).set 0 (.int .u8 (f : Int))).toArray := by unfold zer; rw [List.setIfInBounds_toArray]
                have G2 := Blk.new wr 5 ((List.replicate n (Value.int .u8 0)).set 0 (.int .u8 (f : Int)))
                rw [← ez] at G2
                have B2 := (Below.refl wr.heap.size wr).alloc (Nat.le_refl _) (.cells ((zer n (.int .u8 0)).setIfInBounds 0 (.int .u8 (f : Int))) 5)
                clear ez
                have R2 := G2.row n (by simp) (by unfold maxLen; omega)
                have e2 : (List.replicate n (Value.int .u8 0)).set 0 (.int .u8 (f : Int)) = (UInt8.ofNat f :: List.replicate (n - 1) 0).map bV := by
                  obtain ⟨j, rfl⟩ : ∃ j, n = j + 1 := ⟨n - 1, by omega⟩
                  have e8 : ((UInt8.ofNat f).toNat : Int) = (f : Int) := by rw [UInt8.toNat_ofNat']; omega
                  rw [List.replicate_succ, List.set_cons_zero, List.map_cons, bV, e8, List.map_replicate]
                  rfl
                rw [e2] at R2
                have eL : (List.map bV (UInt8.ofNat f :: List.replicate (n - 1) 0)).length = n := by simp; omega
                rw [eL] at R2
                have CR := hidden (reads_law3 _ _ _ R2 (by simp; omega))
                clear R2 G2 GZ e2 eL
                go_wp2_with fail
                refine CR.out.mono ?_
                rintro e wa ⟨rfl, b1⟩
                replace hbn := below_then hbn (below_then B2 b1)
                clear CR B2 b1 c0 f0 mk BZ
                go_wp2
                go_roundw
                case rel => exact ⟨n + 1, by omega, by go_num, hbn⟩
                case measure => simp [intOf]; omega
              · have hn0' : ¬ (0 : Int) < (n : Int) := by omega
                have R2 := GZ.row n (by simp) (by unfold maxLen; omega)
                have e2 : (List.replicate n (Value.int .u8 0)) = (List.replicate n (0 : UInt8)).map bV := by rw [List.map_replicate]; rfl
                rw [e2] at R2
                have eL : (List.map bV (List.replicate n (0 : UInt8))).length = n := by simp
                rw [eL] at R2
                have CR := hidden (reads_law3 _ _ _ R2 (by simp; omega))
                clear R2 GZ e2 eL
                go_wp2_with fail
                refine CR.out.mono ?_
                rintro e wa ⟨rfl, b1⟩
                replace hbn := below_then hbn (below_then BZ b1)
                clear CR b1 mk BZ
                go_wp2
                go_roundw
                case rel => exact ⟨n + 1, by omega, by go_num, hbn⟩
                case measure => simp [intOf]; omega
            · have hln' : ¬ (n : Int) < 12 := by omega
              go_wp2
              go_roundw
              case rel => exact ⟨f + 1, by omega, by go_num, hbn⟩
              case measure => simp [intOf]; omega
        · have hlf' : ¬ (f : Int) < 256 := by omega
          go_wp2_with fail
          refine (known_law _).mono ?_
          rintro e wa ⟨rfl, b1⟩
          go_wp2
          go_ret
          exact ⟨rfl, below_then hbf b1⟩

end Go.Proofs.Ytaoimlcgifihiaa
