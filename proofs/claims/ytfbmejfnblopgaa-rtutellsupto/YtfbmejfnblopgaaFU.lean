/- RtuBursts: with up to sixteen bits turned, side by side on the line, a frame is none. The walk. -/
import Derived.Test.YtfbmejfnblopgaaF5
import Derived.Test.YtfbmejfnblopgaaW1
namespace Go.Proofs.Ytfbmejfnblopgaa
open Go.RowKit

/-- a bit that is turned is no other one -/
theorem bitAt_turn5 (Z : List UInt8) (q i : Nat) (y : UInt8) (hq : q < 8 * Z.length) (hy : y.toNat = (Z.getD (q / 8) 0).toNat ^^^ 2 ^ (q % 8)) (hi : i ≠ q) : bitAt (Z.set (q / 8) y) i = bitAt Z i := by
  unfold bitAt
  by_cases h : i / 8 = q / 8
  · have hl : q / 8 < Z.length := by omega
    have e1 : (Z.set (q / 8) y).getD (i / 8) 0 = y := by rw [h]; simp [List.getD_eq_getElem?_getD, hl]
    rw [e1, hy, h, Nat.testBit_xor, Nat.testBit_two_pow]
    have : ¬ q % 8 = i % 8 := by omega
    simp [this]
  · have e1 : (Z.set (q / 8) y).getD (i / 8) 0 = Z.getD (i / 8) 0 := by
      rw [List.getD_eq_getElem?_getD, List.getElem?_set_ne (fun e => h e.symm), List.getD_eq_getElem?_getD]
    rw [e1]
theorem xor_pow5 (x : UInt8) (t : Nat) (h : t < 8) : ∃ y : UInt8, bits BinOp.xor IntKind.u8 (x.toNat : Int) ((2 : Int) ^ t % 256) = (y.toNat : Int) ∧ y.toNat = x.toNat ^^^ 2 ^ t := by
  obtain ⟨e, hl⟩ := pow8 t h
  have hz : x.toNat ^^^ 2 ^ t < 256 := Nat.xor_lt_two_pow (n := 8) x.toNat_lt hl
  have hy : (UInt8.ofNat (x.toNat ^^^ 2 ^ t)).toNat = x.toNat ^^^ 2 ^ t := by rw [UInt8.toNat_ofNat']; omega
  refine ⟨UInt8.ofNat (x.toNat ^^^ 2 ^ t), ?_, hy⟩
  rw [hy, e, u8_xor_nat _ _ x.toNat_lt hl]
theorem frm_len (a : Int) (b : List UInt8) (h : 1 ≤ a) (h' : a ≤ 247) (h0 : 0 < b.length) (h1 : b.length ≤ 253) : (frmL a b).length = b.length + 3 := by
  rw [(frm_ok h h' h0 h1).2, sealL_len]; simp
/-- a frame of whose bits no more than sixteen, side by side, are turned is read just if it is the frame -/
theorem burst5 (a : Int) (b : List UInt8) (h : 1 ≤ a) (h' : a ≤ 247) (h0 : 0 < b.length) (h1 : b.length ≤ 253) (Z : List UInt8) (k : Nat) (hl : Z.length = (frmL a b).length) (hb : ∀ i, i < 8 * (frmL a b).length → i < k ∨ k + 16 ≤ i → bitAt Z i = bitAt (frmL a b) i) :
    ((rdE Z == 0) == (Z == frmL a b)) = true := by
  have e := (frm_ok h h' h0 h1).2
  have hL := frm_len a b h h' h0 h1
  by_cases q : Z = frmL a b
  · subst q
    rw [(rd_frm h h' h0 h1).1]; simp
  · have q1 : (Z == frmL a b) = false := by simpa using q
    have hX : crcN (frmL a b) = 0 := by rw [e]; exact crc_seal _
    have q2 : unsealOk Z = false := by
      unfold unsealOk
      rw [Bool.and_eq_false_iff]
      exact .inr (decide_eq_false fun hz => q (crc_burst _ Z k hl hb (by rw [hz, hX])))
    rw [q1, (rd_sum (b := Z) (by omega) (by omega) q2).1]; rfl

set_option maxRecDepth 100000 in
set_option maxHeartbeats 4000000 in
theorem bursts_walk (v : Value) (bs : List UInt8) (at0 at' t : Int) (w : World) (ha0 : -9223372036854775808 ≤ at0 ∧ at0 ≤ 9223372036854775807) (ha : -9223372036854775808 ≤ at' ∧ at' ≤ 9223372036854775807) (ht : 0 ≤ t ∧ t ≤ 65535)
    (hv : Row w v (bs.map bV)) (r1 : bs.length ≤ 140737488351232) :
    Calls Try.prog 7 #[.int .i64 at0, v, .int .i64 at', .int .u16 t] w fun e w' => e = .returned (.bool true) ∧ Below w.heap.size w w' := by
  obtain ⟨a, cap, rfl, -⟩ := id hv
  obtain ⟨-, hc, hm, -⟩ := hv.at
  simp only [List.length_map] at hc hv ⊢
  obtain ⟨n, hn⟩ : ∃ n, min bs.length 60 = n := ⟨_, rfl⟩
  have hmin : (if (60 : Int) < (bs.length : Int) then (60 : Int) else (bs.length : Int)) = (n : Int) := by split <;> omega
  have hn60 : n ≤ 60 := by omega
  have hnl : n ≤ bs.length := by omega
  have hnc : n ≤ cap := by omega
  have hp := hv.take n hnl
  rw [← List.map_take] at hp
  have hql : (bs.take n).length = n := by simp; omega
  have HQ := hidden hql
  clear hql hn
  generalize bs.take n = Q at *
  generalize bs.length = lb at *
  clear hv
  have x1 : Below w.heap.size w (w.drew.alloc (.cells #[.int .u8 3] 5)) := (Below.refl w.heap.size w).drew.alloc (Nat.le_refl _) _
  have R1 := hp.below x1
  have O1 := World.ownsRow_lit (base := w.heap.size) (e := 5) (size := 1) w.drew #[.int .u8 3] 1 (Nat.le_refl _) (by decide) rfl
  go_enter Try.func7, Try.ntmps7
  go_wp2
  refine c_begin 16 rfl (by kernel_rfl) ?_
  refine c_pure trivial (by kernel_rfl) (fun _ _ _ d _ h => by cases d <;> exact h) 0 rfl (by kernel_rfl) (by kernel_rfl) (fun w' => by go_simp; with_reducible rfl) ?_; try simp only [Act.put, List.setIfInBounds_toArray, List.set_cons_zero, List.set_cons_succ]
  refine c_pure trivial (by kernel_rfl) (fun _ _ _ d _ h => by cases d <;> exact h) 4 rfl (by kernel_rfl) (by kernel_rfl) (fun w' => by go_simp; with_reducible rfl) ?_; try simp only [Act.put, List.setIfInBounds_toArray, List.set_cons_zero, List.set_cons_succ]
  refine c_pure trivial (by kernel_rfl) (fun _ _ _ d _ h => by cases d <;> exact h) 5 rfl (by kernel_rfl) (by kernel_rfl) (fun w' => by go_simp; with_reducible rfl) ?_; try simp only [Act.put, List.setIfInBounds_toArray, List.set_cons_zero, List.set_cons_succ]
  refine c_pure trivial (by kernel_rfl) (fun _ _ _ d _ h => by cases d <;> exact h) 6 rfl (by kernel_rfl) (by kernel_rfl) (fun w' => by go_simp; with_reducible rfl) ?_; try simp only [Act.put, List.setIfInBounds_toArray, List.set_cons_zero, List.set_cons_succ]
  refine c_pure trivial (by kernel_rfl) (fun _ _ _ d _ h => by cases d <;> exact h) 7 rfl (by kernel_rfl) (by kernel_rfl) (fun w' => by go_simp; with_reducible rfl) ?_; try simp only [Act.put, List.setIfInBounds_toArray, List.set_cons_zero, List.set_cons_succ]
  refine c_pure trivial (by kernel_rfl) (fun _ _ _ d _ h => by cases d <;> exact h) 8 rfl (by kernel_rfl) (by kernel_rfl) (fun w' => by go_simp; with_reducible rfl) ?_; try simp only [Act.put, List.setIfInBounds_toArray, List.set_cons_zero, List.set_cons_succ]
  refine c_move2 1 3 (by kernel_rfl) (c_op 1 [] (by kernel_rfl) rfl (by kernel_rfl) (fun K hK => ?_)) (c_op 3 [] (by kernel_rfl) rfl (by kernel_rfl) (fun K hK => ?_))
  focus
    go_wp2_with fail
    refine (within_any at0 0 246 _ ha0 (by omega) (by omega) (by omega)).mono ?_
    rintro e wx ⟨⟨m, rfl, hm0, hm2⟩, rfl⟩
    go_simp
    refine hK.out _ _ trivial ?_
    clear K hK
    try simp only [Act.put, List.setIfInBounds_toArray, List.set_cons_zero, List.set_cons_succ]
    refine c_pure trivial (by kernel_rfl) (fun _ _ _ d _ h => by cases d <;> exact h) 2 rfl (by kernel_rfl) (by kernel_rfl) (fun w' => by go_simp; with_reducible rfl) ?_; try simp only [Act.put, List.setIfInBounds_toArray, List.set_cons_zero, List.set_cons_succ]
    refine c_move 3 (by kernel_rfl) (c_op 3 [] (by kernel_rfl) rfl (by kernel_rfl) (fun K hK => ?_))
    go_simp
    refine hK.out _ _ trivial ?_
    clear K hK
    try simp only [Act.put, List.setIfInBounds_toArray, List.set_cons_zero, List.set_cons_succ]
  rotate_left
  focus
    go_simp
    refine hK.out _ _ trivial ?_
    clear K hK
    try simp only [Act.put, List.setIfInBounds_toArray, List.set_cons_zero, List.set_cons_succ]
    refine c_move 1 (by kernel_rfl) (c_op 1 [] (by kernel_rfl) rfl (by kernel_rfl) (fun K hK => ?_))
    go_wp2_with fail
    refine (within_any at0 0 246 _ ha0 (by omega) (by omega) (by omega)).mono ?_
    rintro e wx ⟨⟨m, rfl, hm0, hm2⟩, rfl⟩
    go_simp
    refine hK.out _ _ trivial ?_
    clear K hK
    try simp only [Act.put, List.setIfInBounds_toArray, List.set_cons_zero, List.set_cons_succ]
    refine c_pure trivial (by kernel_rfl) (fun _ _ _ d _ h => by cases d <;> exact h) 2 rfl (by kernel_rfl) (by kernel_rfl) (fun w' => by go_simp; with_reducible rfl) ?_; try simp only [Act.put, List.setIfInBounds_toArray, List.set_cons_zero, List.set_cons_succ]
  all_goals
    refine c_move 9 (by kernel_rfl) (c_op 9 [] (by kernel_rfl) rfl (by kernel_rfl) (fun K hK => ?_))
    refine wp_app (.tmp 21) (.tmp 26) 23 rfl w.heap.size 5 (.int .u8 0) 1 Try.underlying23 info_u8 rfl rfl O1 rfl R1 (one_bytes Q) (by simp [maxLen, HQ.out] <;> omega) (by simp [HQ.out] <;> omega) (by first | omega | (simp; done) | (simp; omega)) ?_
    intro v2 w2 ho2 hg2
    have x2 := x1.grown hg2 (by simp) (fun k hk => (O1.lt k hk).1)
    have R2 : Row w2 v2 ((3 :: Q).map bV) := Row.of_owns ho2
    refine hK.out _ _ trivial ?_
    clear K hK
    try simp only [Act.put, List.setIfInBounds_toArray, List.set_cons_zero, List.set_cons_succ]
    refine c_move 10 (by kernel_rfl) (c_op 10 [] (by kernel_rfl) rfl (by kernel_rfl) (fun K hK => ?_))
    go_wp2_with fail
    obtain ⟨fe, -⟩ := frm_ok (a := 1 + m) (b := 3 :: Q) (by omega) (by omega) (by simp) (by simp [HQ.out]; omega)
    have HB := hidden (burst5 (1 + m) (3 :: Q) (by omega) (by omega) (by simp) (by simp [HQ.out]; omega))
    have HX := hidden (frm_len (1 + m) (3 :: Q) (by omega) (by omega) (by simp) (by simp [HQ.out]; omega))
    refine (frame_b (1 + m) _ (3 :: Q) _ 0 _ (by omega) R2 fe rfl).mono ?_
    rintro e w3 ⟨v3, rfl, hr3, hb3⟩
    replace hb3 := below_then x2 hb3
    go_simp
    refine hK.out _ _ trivial ?_
    clear K hK
    try simp only [Act.put, List.setIfInBounds_toArray, List.set_cons_zero, List.set_cons_succ]
    refine c_pure trivial (by kernel_rfl) (fun _ _ _ d _ h => by cases d <;> exact h) 11 rfl (by kernel_rfl) (by kernel_rfl) (fun w' => by go_simp; with_reducible rfl) ?_; try simp only [Act.put, List.setIfInBounds_toArray, List.set_cons_zero, List.set_cons_succ]
    refine c_pure trivial (by kernel_rfl) (fun _ _ _ d _ h => by cases d <;> exact h) 12 rfl (by kernel_rfl) (by kernel_rfl) (fun w' => by go_simp; with_reducible rfl) ?_; try simp only [Act.put, List.setIfInBounds_toArray, List.set_cons_zero, List.set_cons_succ]
    refine c_pure trivial (by kernel_rfl) (fun _ _ _ d _ h => by cases d <;> exact h) 13 rfl (by kernel_rfl) (by kernel_rfl) (fun w' => by go_simp; with_reducible rfl) ?_; try simp only [Act.put, List.setIfInBounds_toArray, List.set_cons_zero, List.set_cons_succ]
    refine c_pure trivial (by kernel_rfl) (fun _ _ _ d _ h => by cases d <;> exact h) 14 rfl (by kernel_rfl) (by kernel_rfl) (fun w' => by go_simp; with_reducible rfl) ?_; try simp only [Act.put, List.setIfInBounds_toArray, List.set_cons_zero, List.set_cons_succ]
    refine c_pure trivial (by kernel_rfl) (fun _ _ _ d _ h => by cases d <;> exact h) 15 rfl (by kernel_rfl) (by kernel_rfl) (fun w' => by go_simp; with_reducible rfl) ?_; try simp only [Act.put, List.setIfInBounds_toArray, List.set_cons_zero, List.set_cons_succ]
    refine c_done (by kernel_rfl) ?_
    clear x1 x2 O1 R1 R2 ho2 hg2 fe
    generalize frmL (1 + m) (3 :: Q) = X at *
    simp only [List.length_cons, HQ.out] at HX
    obtain ⟨N, hN⟩ : ∃ N, X.length = N := ⟨_, rfl⟩
    have hN4 : 4 ≤ N := by have := HX.out; omega
    have hN6 : N ≤ 64 := by have := HX.out; omega
    have HN := hidden hN
    clear hN hm0 hm2
    obtain ⟨a1, cap1, rfl, -⟩ := id hr3
    obtain ⟨-, hcp1, hm1, -⟩ := hr3.at
    simp only [List.length_map] at hcp1 hr3 ⊢
    rw [HN.out] at hcp1 hr3 ⊢
    have zl : ((N : Int) == 0) = false := by rw [beq_eq_false_iff_ne]; omega
    go_wp2_with fail
    refine (within_any at' 0 (8 * (N : Int) - 1) _ ha (by omega) (by omega) (by omega)).mono ?_
    rintro e w' ⟨⟨m', rfl, hm0, hm2⟩, rfl⟩
    obtain ⟨k, rfl⟩ : ∃ k : Nat, m' = (k : Int) := ⟨m'.toNat, by omega⟩
    have hk : k < 8 * N := by omega
    clear zl
    have ho0 := World.ownsRow_made (base := w3.heap.size) (e := 5) (size := 1) w3 #[] 0 (Nat.le_refl _) (Nat.zero_le _) (by simp)
    have hb0 : Below w3.heap.size w3 (w3.alloc (.cells #[] 5)) := (Below.refl _ _).alloc (Nat.le_refl _) _
    have hv0 := hr3.below hb0
    go_wp2_with (at_builtin; refine wpList_app rfl (.tmp 44) (.tmp 45) 23 rfl w3.heap.size 5 (.int .u8 0) 1 Try.underlying23 info_u8 rfl rfl ho0 rfl hv0 (one_bytes X) (by have := HN.out; simp [maxLen]; omega) (by have := HN.out; simp; omega) (by simp) ?_)
    intro v4 w4 ho4 hg4
    simp only [HN.out] at ho4
    have q4 : Below w3.heap.size w3 w4 := hb0.grown hg4 (by simp) (fun k hk => (ho0.lt k hk).1)
    obtain ⟨g, cap4, rfl, hgb⟩ := owns_some ho4 (by omega)
    clear hb0 hv0 hg4 ho0
    go_wp2
    go_loopw [13] (fun i wr => ∃ (j : Nat) (Z : List UInt8), j ≤ 16 ∧ i = .int .i64 j ∧ Hid (Z.length = N ∧ ∀ i, i < 8 * N → i < k ∨ k + 16 ≤ i → bitAt Z i = bitAt X i) ∧ wr.ownsRow w3.heap.size 5 1 (.slice (some ⟨g, 0, none⟩) N cap4) N (Z.map bV) ∧ Below w3.heap.size w3 wr) (fun i _ => 16 - (intOf i).toNat)
    case atStart => exact ⟨0, X, by omega, rfl, ⟨HN.out, fun i _ _ => rfl⟩, ho4, q4⟩
    case round =>
      obtain ⟨j, Z, hj, rfl, HZ, ho, hb⟩ := hrel
      clear ho4 q4
      by_cases hg : j < 16 ∧ k + j < 8 * N
      · obtain ⟨hj16, hjn⟩ := hg
        have hj' : (j : Int) < 16 := by omega
        have hjn' : (k : Int) + (j : Int) < 8 * (N : Int) := by omega
        obtain ⟨T, rfl⟩ : ∃ T : Nat, t = (T : Int) := ⟨t.toNat, by omega⟩
        cases hbit : (bits BinOp.and IntKind.u16 ((T : Int) / 2 ^ j) 1 == 1)
        · go_wp2
          go_roundw
          case rel => exact ⟨j + 1, Z, by omega, by go_num, HZ, ho, hb⟩
          case measure => simp [intOf]; omega
        · have hZl := HZ.out.1
          have hq : (k + j) / 8 < Z.length := by omega
          have c0 : wr.cell? ⟨g, (k + j) / 8, none⟩ = some (bV (Z.getD ((k + j) / 8) 0)) := by rw [ho.cellAt _ (by omega)]; simp [hq]
          have f0 := ho.frozenAt ((k + j) / 8)
          clear hq hZl
          have BT := hidden (bitAt_turn5 Z (k + j))
          generalize Z.getD ((k + j) / 8) 0 = x at *
          have hqi : ((k : Int) + (j : Int)) / 8 < (N : Int) := by omega
          obtain ⟨y, hy, hy2⟩ := xor_pow5 x ((k + j) % 8) (by omega)
          have HY := hidden hy
          clear hy
          have st := ho.stored ((k + j) / 8) (.int .u8 (y.toNat : Int))
          rw [← List.map_set (f := bV) (a := y)] at st
          have q := hb.grown st.2 hb.size (fun k hk => by cases hk; exact hgb)
          go_wp2
          go_roundw
          case rel =>
            rw [HY.out]
            refine ⟨j + 1, Z.set ((k + j) / 8) y, by omega, by go_num, ⟨by simpa using HZ.out.1, fun i h1 h2 => ?_⟩, st.1, q⟩
            rw [BT.out i y (by rw [HZ.out.1]; omega) hy2 (by omega)]
            exact HZ.out.2 i h1 h2
          case measure => simp [intOf]; omega
      · have hr4 := (Row.of_owns ho)
        have BK := hidden (HB.out Z k (by rw [HN.out]; exact HZ.out.1) (by rw [HN.out]; exact HZ.out.2))
        have C5 := hidden (read_any _ Z wr hr4)
        generalize rdE Z = ze at *
        generalize rdA Z = za at *
        generalize rdP Z = zp at *
        replace hr3 := hr3.below hb
        replace hb := below_then hb3 hb
        clear ho hb3 HZ HB
        have hb' : ((j : Int) < 16 ∧ 8 * (N : Int) ≤ (k : Int) + (j : Int)) ∨ 16 ≤ (j : Int) := by omega
        clear hg
        rcases hb' with ⟨h1, h2⟩ | h1
        all_goals
          go_wp2_with fail
          refine C5.out.mono ?_
          rintro e w5 ⟨v5, rfl, -, hb5⟩
          replace hr3 := hr3.below hb5
          replace hr4 := hr4.below hb5
          replace hb5 := below_then hb hb5
          have hc1 := conv_row (P := Try.prog) hr3 23 9 5 Try.underlying23 Try.underlying5 Try.underlying9
          have hc4 := conv_row (P := Try.prog) hr4 23 9 5 Try.underlying23 Try.underlying5 Try.underlying9
          have bk := BK.out
          clear hb C5
          go_wp2_with fail
          refine (known5_any _).mono ?_
          rintro e w6 ⟨rfl, hb6⟩
          clear bk
          go_wp2
          go_ret
          exact ⟨rfl, below_then hb5 hb6⟩
end Go.Proofs.Ytfbmejfnblopgaa
