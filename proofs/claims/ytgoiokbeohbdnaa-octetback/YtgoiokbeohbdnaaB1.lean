/- OctetBack: numbers, bits, words come back as they were. The walk. -/
import Derived.Test.YtgoiokbeohbdnaaL1
namespace Go.Proofs.Ytgoiokbeohbdnaa
open Go.RowKit

theorem getN_put (bs : List UInt8) (x : UInt16) : getN (bs ++ [hiB x, loB x]) bs.length = x.toNat := by
  unfold getN
  rw [if_pos (by simp), Int.toNat_natCast]
  have e1 : (bs ++ [hiB x, loB x]).getD bs.length 0 = hiB x := by simp [List.getD_eq_getElem?_getD]
  have e2 : (bs ++ [hiB x, loB x]).getD (bs.length + 1) 0 = loB x := by simp [List.getD_eq_getElem?_getD]
  rw [e1, e2, mkW_hi_lo]
theorem getOk_put (bs : List UInt8) (x : UInt16) : getOk (bs ++ [hiB x, loB x]) bs.length = true := by
  simp [getOk]

set_option maxHeartbeats 2000000 in
theorem back_walk (v vl vw : Value) (bs : List UInt8) (n : Int) (l : List Bool) (ws : List UInt16) (w : World) (hn : -9223372036854775808 ≤ n ∧ n ≤ 9223372036854775807)
    (hv : Row w v (bs.map bV)) (hl : Row w vl (l.map Value.bool)) (hw : Row w vw (ws.map wV)) (r1 : bs.length ≤ 140737488351232) (r2 : l.length ≤ 140737488351232) (r3 : ws.length * 2 ≤ 140737488351232) :
    Calls Try.prog 5 #[v, .int .i64 n, vl, vw] w fun e w' => e = .returned (.bool true) ∧ Below w.heap.size w w' := by
  obtain ⟨a, cap, rfl, -⟩ := id hv
  obtain ⟨-, hcp, hm, -⟩ := hv.at
  obtain ⟨a2, cap2, rfl, -⟩ := id hl
  obtain ⟨-, hcp2, hm2, -⟩ := hl.at
  obtain ⟨a3, cap3, rfl, -⟩ := id hw
  obtain ⟨-, hcp3, hm3, -⟩ := hw.at
  simp only [List.length_map] at hcp hcp2 hcp3 hv hl hw ⊢
  obtain ⟨X, hX⟩ : ∃ X, wOf n = X := ⟨_, rfl⟩
  have tx : Hid ((((X.toNat : Nat) : Int) == bits BinOp.and IntKind.i64 n 65535) = true) := by
    show _ = _
    have := i64_and_mask n 16 (by decide)
    have e : bits BinOp.and IntKind.i64 n 65535 = n % 65536 := by simpa using this
    rw [e, ← hX, wOf_nat]
    simp
  have P0 := hidden (put_any _ bs n w hn hv r1)
  rw [hX] at P0
  clear hX
  have hXl := X.toNat_lt
  go_enter Try.func5, Try.ntmps5
  go_wp2_with fail
  refine P0.out.mono ?_
  rintro e w1 ⟨v1, rfl, hr1, hb1⟩
  go_wp2_with fail
  refine (get_b _ _ _ _ _ _ (by omega) hr1 (getN_put bs X) (getOk_put bs X)).mono ?_
  rintro e w2 ⟨rfl, hb2⟩
  replace hb2 := below_then hb1 hb2
  clear hb1 hr1 P0
  go_wp2_with fail
  refine (pack_any _ l _ (hl.below hb2) r2).mono ?_
  rintro e w3 ⟨v3, rfl, hr3, hb3⟩
  replace hb3 := below_then hb2 hb3
  clear hb2
  go_wp2_with fail
  refine (open_b _ (packL l) _ _ l true (by omega) hr3 (by rw [packL_len]; omega) (by rw [openR_yes (openOk_packL l)]; exact openL_packL l) (openOk_packL l)).mono ?_
  rintro e w4 ⟨v4, rfl, hr4, hb4⟩
  replace hb4 := below_then hb3 hb4
  clear hb3 hr3
  go_wp2_with fail
  refine (bytes_any _ ws _ (hw.below hb4) r3).mono ?_
  rintro e w5 ⟨v5, rfl, hr5, hb5⟩
  replace hr4 := hr4.below hb5
  replace hb5 := below_then hb4 hb5
  clear hb4
  go_wp2_with fail
  refine (words_b _ (bytesL ws) _ ws true hr5 (by rw [bytesL_len]; omega) (by unfold wordsR; rw [if_pos (by rw [bytesL_len]; omega), wordsL_bytesL]) (by rw [bytesL_len]; simp)).mono ?_
  rintro e w6 ⟨v6, rfl, hr6, hb6⟩
  replace hr4 := hr4.below hb6
  replace hb6 := below_then hb5 hb6
  clear hb5 hr5
  have tx' := tx.out
  go_wp2_with fail
  refine (same_bool _ _ l l _ hr4 (hl.below hb6)).mono ?_
  rintro e w7 ⟨rfl, hb7⟩
  replace hr6 := hr6.below hb7
  replace hb7 := below_then hb6 hb7
  clear hb6 hr4 tx'
  rw [show (l == l) = true by simp]
  go_wp2_with fail
  refine (same_u16 _ _ ws ws _ hr6 (hw.below hb7)).mono ?_
  rintro e w8 ⟨rfl, hb8⟩
  replace hb8 := below_then hb7 hb8
  clear hb7 hr6
  rw [show (ws == ws) = true by simp]
  go_wp2_with fail
  refine (pack_any _ l _ (hl.below hb8) r2).mono ?_
  rintro e w9 ⟨v9, rfl, hr9, hb9⟩
  replace hb9 := below_then hb8 hb9
  clear hb8
  obtain ⟨a9, cap9, rfl, -⟩ := id hr9
  have L9 : Hid (((packL l).map bV).length = (l.length + 7) / 8) := by show _ = _; simp [packL_len]
  rw [L9.out]
  have t9 : ((((l.length + 7) / 8 : Nat) : Int) == ((l.length : Int) + 7) / 8) = true := by simp
  go_wp2_with fail
  refine (bytes_any _ ws _ (hw.below hb9) r3).mono ?_
  rintro e w10 ⟨v10, rfl, hr10, hb10⟩
  replace hb10 := below_then hb9 hb10
  clear hb9 hr9 t9
  obtain ⟨a10, cap10, rfl, -⟩ := id hr10
  have L10 : Hid (((bytesL ws).map bV).length = 2 * ws.length) := by show _ = _; simp [bytesL_len]
  rw [L10.out]
  have t10 : ((((2 * ws.length : Nat)) : Int) == 2 * (ws.length : Int)) = true := by simp
  clear hr10
  go_wp2_with fail
  refine (known_any _).mono ?_
  rintro e w11 ⟨rfl, hb11⟩
  go_wp2
  go_ret
  exact ⟨rfl, below_then hb10 hb11⟩

end Go.Proofs.Ytgoiokbeohbdnaa
