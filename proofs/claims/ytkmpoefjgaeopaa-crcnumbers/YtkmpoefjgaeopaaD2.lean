/- CrcNumbers: chapter 2's runs, each byte, short rows. The walk. -/
import Derived.Test.YtkmpoefjgaeopaaL3
namespace Go.Proofs.Ytkmpoefjgaeopaa
open Go.RowKit

theorem nat_bV (k : Nat) (h : k < 256) : ∃ x : UInt8, Value.int .u8 (k : Int) = bV x := ⟨UInt8.ofNat k, by
  simp only [bV, UInt8.toNat_ofNat']
  congr 1; omega⟩

set_option maxHeartbeats 2000000 in
theorem cnumbers_walk (w : World) : Calls Try.prog 3 #[] w fun e w' => e = .returned (.bool true) ∧ Below w.heap.size w w' := by
  go_enter Try.func3, Try.ntmps3
  go_wp2
  go_loopw [1, 2] (fun v i wr => ∃ (k : Nat) (L : List UInt8), k ≤ 256 ∧ i = .int .i64 k ∧ Hid (L.length = k) ∧ wr.ownsRow w.heap.size 5 1 v k (L.map bV) ∧ Below w.heap.size w wr) (fun _ i _ => 256 - (intOf i).toNat)
  case atStart => exact ⟨0, [], by omega, rfl, rfl, World.ownsRow_nil _ _ _ _, Below.refl _ _⟩
  case round =>
    obtain ⟨k, L, hk, rfl, HL, ho, hb⟩ := hrel
    by_cases hlt : k < 256
    · have hlt' : (k : Int) < 256 := by omega
      obtain ⟨x, hx⟩ := nat_bV k hlt
      have HX := hidden hx
      clear hx
      obtain ⟨w0, rfl⟩ : ∃ u : World, u = wr := ⟨_, rfl⟩
      have hr0 := row_new w0 [.int .u8 (k : Int)] 5 1 rfl (by decide)
      rw [HX.out] at hr0
      go_wp2_with fail
      rw [HX.out]
      refine (same2_any _ [x] _ hr0 (by simp)).mono ?_
      rintro e w1 ⟨rfl, hb1⟩
      replace hb1 := below_step (Below.refl _ _) hb1
      clear hr0
      have hr1 := row_new w1 [.int .u8 0, .int .u8 (k : Int), .int .u8 255] 5 3 rfl (by decide)
      rw [HX.out] at hr1
      go_wp2_with fail
      rw [HX.out]
      refine (same2_any _ [0, x, 255] _ hr1 (by simp)).mono ?_
      rintro e w2 ⟨rfl, hb2⟩
      replace hb2 := below_step hb1 hb2
      clear hr1 hb1
      have hr2 := row_new w2 [.int .u8 (k : Int)] 5 1 rfl (by decide)
      rw [HX.out] at hr2
      go_wp2_with fail
      rw [HX.out]
      refine (rseal_any _ [x] _ hr2 (by simp)).mono ?_
      rintro e w3 ⟨v3, rfl, hr3, hb3⟩
      replace hb3 := below_step hb2 hb3
      clear hr2 hb2
      go_wp2_with fail
      refine (same2_any _ _ _ hr3 (by rw [sealL_len]; simp)).mono ?_
      rintro e w4 ⟨rfl, hb4⟩
      replace hb4 := below_then hb3 hb4
      clear hr3 hb3
      have hkk : 0 ≤ (k : Int) * (k : Int) ∧ (k : Int) * (k : Int) ≤ 65536 := by
        have h1 : k * k ≤ 256 * 256 := Nat.mul_le_mul hk hk
        have e : (k : Int) * (k : Int) = ((k * k : Nat) : Int) := by rw [Int.natCast_mul]
        rw [e]
        generalize k * k = q at h1
        exact ⟨by omega, by omega⟩
      obtain ⟨hkk1, hkk2⟩ := hkk
      obtain ⟨y, hy⟩ := wrap_bV ((k : Int) * (k : Int) + 3)
      have HY := hidden hy
      clear hy
      have hb' := below_then hb hb4
      replace ho := owns_below ho hb4
      clear hb hb4
      have hsz := hb'.size
      have hr5 := row_new w4 [.int .u8 (((k : Int) * (k : Int) + 3) % 256)] 5 1 rfl (by decide)
      go_wp2_with (at_builtin; refine wpList_app rfl (.tmp 27) (.tmp 33) 22 rfl w.heap.size 5 (.int .u8 0) 1 Try.underlying22 info_u8 rfl rfl (ho.alloc _) rfl hr5 ?k0 ?k1 ?k2 ?k3 ?_)
      case k0 => first | rfl | (intro u hu; simp at hu; subst hu; rfl)
      case k1 => simp [maxLen]; omega
      case k2 => first | omega | (simp; omega)
      case k3 => first | omega | (simp; omega)
      intro v5 w5 ho5 hg5
      have hb5 := (hb'.alloc hsz (.cells #[.int .u8 (((k : Int) * (k : Int) + 3) % 256)] 5)).grown hg5 (by simp; omega) (fun k hk => (ho.lt k hk).1)
      have HL5 : Hid ((L ++ [y]).length = k + 1) := by show _ = _; simp [HL.out]
      have ho6 : w5.ownsRow w.heap.size 5 1 v5 (k + 1) ((L ++ [y]).map bV) := by
        rw [HY.out] at ho5
        simpa using ho5
      clear ho5 ho hr5 hg5 hb' HL HY
      generalize L ++ [y] = M at *
      by_cases h17 : k % 17 = 0
      · have t17 : ((k : Int) % 17 == 0) = true := by rw [beq_iff_eq]; omega
        clear h17
        go_wp2_with fail
        refine (same2_any _ M _ (Row.of_owns ho6) (by rw [HL5.out]; omega)).mono ?_
        rintro e w6 ⟨rfl, hb6⟩
        replace ho6 := owns_below ho6 hb6
        replace hb6 := below_then hb5 hb6
        clear hb5
        go_wp2_with fail
        refine (rseal_any _ M _ (Row.of_owns ho6) (by rw [HL5.out]; omega)).mono ?_
        rintro e w7 ⟨v7, rfl, hr7, hb7⟩
        replace ho6 := owns_below ho6 hb7
        replace hb7 := below_then hb6 hb7
        clear hb6
        go_wp2_with fail
        refine (same2_any _ _ _ hr7 (by rw [sealL_len, HL5.out]; omega)).mono ?_
        rintro e w8 ⟨rfl, hb8⟩
        replace ho6 := owns_below ho6 hb8
        replace hb8 := below_then hb7 hb8
        clear hb7 hr7
        go_wp2
        go_roundw
        case rel => exact ⟨k + 1, M, by omega, by go_num, HL5, ho6, hb8⟩
        case measure => simp [intOf]; omega
      · have t17 : ((k : Int) % 17 == 0) = false := by rw [beq_eq_false_iff_ne]; omega
        clear h17
        go_wp2
        go_roundw
        case rel => exact ⟨k + 1, M, by omega, by go_num, HL5, ho6, hb5⟩
        case measure => simp [intOf]; omega
    · have hlt' : ¬ (k : Int) < 256 := by omega
      go_wp2_with fail
      refine (known2_any _).mono ?_
      rintro e w8 ⟨rfl, hb8⟩
      go_wp2
      go_ret
      exact ⟨rfl, below_then hb hb8⟩

end Go.Proofs.Ytkmpoefjgaeopaa
