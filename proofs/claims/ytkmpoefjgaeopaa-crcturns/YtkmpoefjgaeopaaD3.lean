/- CrcTurns: a sealed row's sum is 0; with up to sixteen bits turned, side by side, it opens no more. The walk. -/
import Derived.Test.YtkmpoefjgaeopaaL3
import Derived.Test.YtkmpoefjgaeopaaW1
namespace Go.Proofs.Ytkmpoefjgaeopaa
open Go.RowKit

theorem unsealOk_seal (b : List UInt8) : unsealOk (sealL b) = true := by
  unfold unsealOk; rw [sealL_len, crc_seal]; simp
theorem unsealR_seal (b : List UInt8) : unsealR (sealL b) = b := by
  unfold unsealR
  rw [unsealOk_seal, if_pos rfl, sealL_len]
  simp [sealL]

/-- a bit that is turned is no other one -/
theorem bitAt_turn (Z : List UInt8) (q i : Nat) (y : UInt8) (hq : q < 8 * Z.length) (hy : y.toNat = (Z.getD (q / 8) 0).toNat ^^^ 2 ^ (q % 8)) (hi : i ≠ q) : bitAt (Z.set (q / 8) y) i = bitAt Z i := by
  unfold bitAt
  by_cases h : i / 8 = q / 8
  · have hl : q / 8 < Z.length := by omega
    have e1 : (Z.set (q / 8) y).getD (i / 8) 0 = y := by rw [h]; simp [List.getD_eq_getElem?_getD, hl]
    rw [e1, hy, h, Nat.testBit_xor, Nat.testBit_two_pow]
    have : ¬ q % 8 = i % 8 := by omega
    simp [this]
  · have e1 : (Z.set (q / 8) y).getD (i / 8) 0 = Z.getD (i / 8) 0 := by
      rw [List.getD_eq_getElem?_getD, List.getElem?_set_ne (fun e => h e.symm), List.getD_eq_getElem?_getD]
    rw [e1]

theorem burst_ok (X Z : List UInt8) (k : Nat) (hX : crcN X = 0) (h2 : 2 ≤ X.length) (hl : Z.length = X.length) (h : ∀ i, i < 8 * X.length → i < k ∨ k + 16 ≤ i → bitAt Z i = bitAt X i) : (unsealOk Z == (Z == X)) = true := by
  by_cases e : Z = X
  · subst e
    simp [unsealOk, hX, h2]
  · have h1 : (Z == X) = false := by simpa using e
    have h3 : unsealOk Z = false := by
      unfold unsealOk
      rw [Bool.and_eq_false_iff]
      refine .inr (decide_eq_false fun h0 => e (crc_burst X Z k hl h (by rw [h0, hX])))
    rw [h1, h3]; rfl

theorem xor_pow (x : UInt8) (t : Nat) (h : t < 8) : ∃ y : UInt8, bits BinOp.xor IntKind.u8 (x.toNat : Int) ((2 : Int) ^ t % 256) = (y.toNat : Int) ∧ y.toNat = x.toNat ^^^ 2 ^ t := by
  obtain ⟨e, hl⟩ := pow8 t h
  have hz : x.toNat ^^^ 2 ^ t < 256 := Nat.xor_lt_two_pow (n := 8) x.toNat_lt hl
  have hy : (UInt8.ofNat (x.toNat ^^^ 2 ^ t)).toNat = x.toNat ^^^ 2 ^ t := by rw [UInt8.toNat_ofNat']; omega
  refine ⟨UInt8.ofNat (x.toNat ^^^ 2 ^ t), ?_, hy⟩
  rw [hy, e, u8_xor_nat _ _ x.toNat_lt hl]

set_option maxHeartbeats 2000000 in
theorem cturns_walk (v : Value) (bs : List UInt8) (at' t : Int) (w : World) (ha : -9223372036854775808 ≤ at' ∧ at' ≤ 9223372036854775807) (ht : 0 ≤ t ∧ t ≤ 65535)
    (hv : Row w v (bs.map bV)) (r1 : bs.length ≤ 140737488351232) :
    Calls Try.prog 5 #[v, .int .i64 at', .int .u16 t] w fun e w' => e = .returned (.bool true) ∧ Below w.heap.size w w' := by
  obtain ⟨a, cap, rfl, -⟩ := id hv
  obtain ⟨-, hc, hm, -⟩ := hv.at
  simp only [List.length_map] at hc hv ⊢
  have ho0 := fun u : World => World.ownsRow_made (base := u.heap.size) (e := 5) (size := 1) u #[] 0 (Nat.le_refl _) (Nat.zero_le _) (by simp)
  have K1 := hidden (unsealOk_seal bs)
  have K2 := hidden (unsealR_seal bs)
  have K3 := hidden (crc_seal bs)
  have C1 := hidden (seal_any _ bs w hv (by omega))
  obtain ⟨X, hX⟩ : ∃ X, sealL bs = X := ⟨_, rfl⟩
  have hXl : X.length = bs.length + 2 := by rw [← hX, sealL_len]
  rw [hX] at C1 K1 K2 K3
  clear hX
  obtain ⟨n, hn⟩ : ∃ n, X.length = n := ⟨_, rfl⟩
  have hn2 : 2 ≤ n := by omega
  have hnb : n ≤ 140737488351234 := by omega
  have tl : ((n : Int) != (bs.length : Int) + 2) = false := by rw [bne_eq_false_iff_eq]; omega
  have HN := hidden hn
  clear hXl hn
  go_enter Try.func5, Try.ntmps5
  go_wp2_with fail
  refine C1.out.mono ?_
  rintro e w1 ⟨v1, rfl, hr1, hb1⟩
  clear C1
  go_wp2_with fail
  refine (copen_b _ X bs true _ hr1 (by rw [HN.out]; omega) K2.out K1.out).mono ?_
  rintro e w2 ⟨v2, rfl, hr2, hb2⟩
  replace hr1 := hr1.below hb2
  replace hb2 := below_then hb1 hb2
  clear hb1 K1 K2
  obtain ⟨a1, cap1, rfl, -⟩ := id hr1
  obtain ⟨-, hcp1, hm1, -⟩ := hr1.at
  simp only [List.length_map] at hcp1 hr1 ⊢
  rw [HN.out] at hcp1 hr1 ⊢
  go_wp2_with fail
  refine (of_b _ X 0 _ hr1 (by rw [K3.out]; rfl)).mono ?_
  rintro e w3 ⟨rfl, hb3⟩
  replace hr1 := hr1.below hb3
  replace hr2 := hr2.below hb3
  replace hb3 := below_then hb2 hb3
  clear hb2
  have hc2 := conv_row (P := Try.prog) hr2 22 9 5 Try.underlying22 Try.underlying5 Try.underlying9
  have hc0 := conv_row (P := Try.prog) (hv.below hb3) 22 9 5 Try.underlying22 Try.underlying5 Try.underlying9
  go_wp2_with fail
  refine (within_any at' 0 (8 * (n : Int) - 1) _ ha (by omega) (by omega) (by omega)).mono ?_
  rintro e w' ⟨⟨m, rfl, hm0, hm2⟩, rfl⟩
  obtain ⟨k, rfl⟩ : ∃ k : Nat, m = (k : Int) := ⟨m.toNat, by omega⟩
  have hk : k < 8 * n := by omega
  clear hc2 hc0 hr2 tl
  have hb0 : Below w3.heap.size w3 (w3.alloc (.cells #[] 5)) := (Below.refl _ _).alloc (Nat.le_refl _) _
  have hv0 := hr1.below hb0
  go_wp2_with (at_builtin; refine wpList_app rfl (.tmp 50) (.tmp 51) 22 rfl w3.heap.size 5 (.int .u8 0) 1 Try.underlying22 info_u8 rfl rfl (ho0 w3) rfl hv0 (one_bytes X) ?h1 ?h2 ?h3 ?_)
  case h1 => have := HN.out; simp [maxLen]; omega
  case h2 => have := HN.out; simp; omega
  case h3 => simp
  intro v4 w4 ho4 hg4
  simp only [HN.out] at ho4
  have q4 : Below w3.heap.size w3 w4 := hb0.grown hg4 (by simp) (fun k hk => by simp [Value.ownBlock] at hk; omega)
  obtain ⟨g, cap4, rfl, hgb⟩ := owns_some ho4 (by omega)
  clear hb0 hv0 hg4 ho0
  go_wp2
  go_loopw [12] (fun i wr => ∃ (j : Nat) (Z : List UInt8), j ≤ 16 ∧ i = .int .i64 j ∧ Hid (Z.length = n ∧ ∀ i, i < 8 * n → i < k ∨ k + 16 ≤ i → bitAt Z i = bitAt X i) ∧ wr.ownsRow w3.heap.size 5 1 (.slice (some ⟨g, 0, none⟩) n cap4) n (Z.map bV) ∧ Below w3.heap.size w3 wr) (fun i _ => 16 - (intOf i).toNat)
  case atStart => exact ⟨0, X, by omega, rfl, ⟨HN.out, fun i _ _ => rfl⟩, ho4, q4⟩
  case round =>
    obtain ⟨j, Z, hj, rfl, HZ, ho, hb⟩ := hrel
    clear ho4 q4
    by_cases hg : j < 16 ∧ k + j < 8 * n
    · obtain ⟨hj16, hjn⟩ := hg
      have hj' : (j : Int) < 16 := by omega
      have hjn' : (k : Int) + (j : Int) < 8 * (n : Int) := by omega
      obtain ⟨T, rfl⟩ : ∃ T : Nat, t = (T : Int) := ⟨t.toNat, by omega⟩
      cases hbit : (bits BinOp.and IntKind.u16 ((T : Int) / 2 ^ j) 1 == 1)
      · go_wp2
        go_roundw
        case rel => exact ⟨j + 1, Z, by omega, by go_num, HZ, ho, hb⟩
        case measure => simp [intOf]; omega
      · have hZl := HZ.out.1
        have hq : (k + j) / 8 < Z.length := by omega
        have c0 : wr.cell? ⟨g, (k + j) / 8, none⟩ = some (bV (Z.getD ((k + j) / 8) 0)) := by rw [ho.cellAt _ (by omega)]; simp [hq]
        have f0 := ho.frozenAt ((k + j) / 8)
        clear hq hZl
        have BT := hidden (bitAt_turn Z (k + j))
        generalize Z.getD ((k + j) / 8) 0 = x at *
        have hqi : ((k : Int) + (j : Int)) / 8 < (n : Int) := by omega
        obtain ⟨y, hy, hy2⟩ := xor_pow x ((k + j) % 8) (by omega)
        have HY := hidden hy
        clear hy
        have st := ho.stored ((k + j) / 8) (.int .u8 (y.toNat : Int))
        rw [← List.map_set (f := bV) (a := y)] at st
        have q := hb.grown st.2 hb.size (fun k hk => by cases hk; exact hgb)
        go_wp2
        go_roundw
        case rel =>
          rw [HY.out]
          refine ⟨j + 1, Z.set ((k + j) / 8) y, by omega, by go_num, ⟨by simpa using HZ.out.1, fun i h1 h2 => ?_⟩, st.1, q⟩
          rw [BT.out i y (by rw [HZ.out.1]; omega) hy2 (by omega)]
          exact HZ.out.2 i h1 h2
        case measure => simp [intOf]; omega
    · have hr4 := (Row.of_owns ho)
      have BK := hidden (burst_ok X Z k K3.out (by rw [HN.out]; omega) (by rw [HN.out]; exact HZ.out.1) (by rw [HN.out]; exact HZ.out.2))
      have C5 := hidden (copen_any _ Z wr hr4 (by rw [HZ.out.1]; omega))
      obtain ⟨ok, hok⟩ : ∃ b, unsealOk Z = b := ⟨_, rfl⟩
      rw [hok] at BK C5
      clear hok
      replace hr1 := hr1.below hb
      replace hb := below_then hb3 hb
      clear ho hb3 HZ
      have hb' : ((j : Int) < 16 ∧ 8 * (n : Int) ≤ (k : Int) + (j : Int)) ∨ 16 ≤ (j : Int) := by omega
      clear hg
      rcases hb' with ⟨h1, h2⟩ | h1
      all_goals
        go_wp2_with fail
        refine C5.out.mono ?_
        rintro e w5 ⟨v5, rfl, -, hb5⟩
        replace hr1 := hr1.below hb5
        replace hr4 := hr4.below hb5
        replace hb5 := below_then hb hb5
        have hc1 := conv_row (P := Try.prog) hr1 22 9 5 Try.underlying22 Try.underlying5 Try.underlying9
        have hc4 := conv_row (P := Try.prog) hr4 22 9 5 Try.underlying22 Try.underlying5 Try.underlying9
        have bk := BK.out
        clear hb C5
        go_wp2_with fail
        refine (known2_any _).mono ?_
        rintro e w6 ⟨rfl, hb6⟩
        clear bk
        go_wp2
        go_ret
        exact ⟨rfl, below_then hb5 hb6⟩

end Go.Proofs.Ytkmpoefjgaeopaa
