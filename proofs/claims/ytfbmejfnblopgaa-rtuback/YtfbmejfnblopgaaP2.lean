/- Contracts of crc's functions and of the reference's sums. -/
import Derived.Test.YtfbmejfnblopgaaG1
import Derived.Test.YtfbmejfnblopgaaM2
namespace Go.Proofs.Ytfbmejfnblopgaa
open Go.RowKit

theorem and_one16 (s : Nat) (h : s < 65536) : bits BinOp.and IntKind.u16 (s : Int) 1 = ((s % 2 : Nat) : Int) := by
  have := u16_and_nat s 1 h (by decide)
  rw [nat_mask1] at this
  exact this
theorem xor_turn (s : Nat) (h : s < 65536) : bits BinOp.xor IntKind.u16 ((s : Int) / 2) 40961 = (((s / 2) ^^^ 40961 : Nat) : Int) := by
  have := u16_xor_nat (s / 2) 40961 (by omega) (by decide)
  rw [← this]; simp
theorem xor_byte (s : Nat) (h : s < 65536) (x : UInt8) : bits BinOp.xor IntKind.u16 (s : Int) (x.toNat : Int) = ((s ^^^ x.toNat : Nat) : Int) :=
  u16_xor_nat s x.toNat h (by have := x.toNat_lt; omega)
theorem ret_u16 {a b : Nat} (h : a = b) : Ending.returned (.int .u16 (a : Int)) = .returned (.int .u16 (b : Int)) := by rw [h]

set_option maxHeartbeats 400000 in
theorem step_any (s : Nat) (w : World) (hs : s < 65536) :
    Calls Try.prog 30 #[.int .u16 (s : Int)] w fun e w' => e = .returned (.int .u16 ((crcBits 8 s : Nat) : Int)) ∧ w = w' := by
  go_enter Try.func30, Try.ntmps30
  go_wp2
  go_loopw [0, 4] (fun v i wr => ∃ k t : Nat, k ≤ 8 ∧ i = .int .i64 k ∧ v = .int .u16 (t : Int) ∧ t < 65536 ∧ Hid (crcBits (8 - k) t = crcBits 8 s) ∧ w = wr) (fun _ i _ => 8 - (intOf i).toNat)
  case atStart => exact ⟨0, s, by omega, rfl, rfl, hs, rfl, rfl⟩
  case round =>
    obtain ⟨k, t, hk, rfl, rfl, ht, HE, rfl⟩ := hrel
    by_cases hlt : k < 8
    · have hlt' : (k : Int) < 8 := by omega
      have e8 : Hid (crcBits (8 - (k + 1)) (crcBit t) = crcBits 8 s) := by
        show _ = _
        rw [← HE.out, show 8 - k = (8 - (k + 1)) + 1 by omega, crcBits]
      have hA := and_one16 t ht
      by_cases hodd : t % 2 = 1
      · have eb : crcBit t = (t / 2) ^^^ 40961 := by unfold crcBit; rw [if_pos hodd]
        have hX := xor_turn t ht
        have hl := crcBit_lt ht
        rw [eb] at e8 hl
        clear eb
        rw [hodd] at hA
        clear hodd HE
        generalize (t / 2) ^^^ 40961 = u at *
        go_wp2
        go_roundw
        case rel => exact ⟨k + 1, u, by omega, by go_num, rfl, hl, e8, trivial⟩
        case measure => simp [intOf]; omega
      · have eb : crcBit t = t / 2 := by unfold crcBit; rw [if_neg hodd]
        rw [eb] at e8
        clear eb
        have h0 : t % 2 = 0 := by omega
        rw [h0] at hA
        clear hodd h0 HE
        go_wp2
        go_roundw
        case rel => exact ⟨k + 1, t / 2, by omega, by go_num, by go_num, by omega, e8, trivial⟩
        case measure => simp [intOf]; omega
    · have hlt' : ¬ (k : Int) < 8 := by omega
      have e8 := HE.out
      rw [show 8 - k = 0 by omega, crcBits] at e8
      have HE2 := hidden e8
      clear HE e8
      go_wp2
      go_ret
      exact ⟨ret_u16 HE2.out, rfl⟩

set_option maxHeartbeats 400000 in
theorem of_any (v : Value) (bs : List UInt8) (w : World) (hv : Row w v (bs.map bV)) :
    Calls Try.prog 27 #[v] w fun e w' => e = .returned (.int .u16 ((crcN bs : Nat) : Int)) ∧ w = w' := by
  obtain ⟨a, cap, rfl, -⟩ := id hv
  obtain ⟨hl, hc, hm, -⟩ := hv.at
  simp only [List.length_map] at hl hc hv ⊢
  unfold maxLen at hm
  go_enter Try.func27, Try.ntmps27
  go_wp2
  go_loopw [3, 8] (fun v i wr => ∃ k t : Nat, k ≤ bs.length ∧ i = .int .i64 k ∧ v = .int .u16 (t : Int) ∧ t < 65536 ∧ Hid (crcN (bs.take k) = t) ∧ w = wr) (fun _ i _ => bs.length - (intOf i).toNat)
  case atStart => exact ⟨0, 65535, by omega, rfl, rfl, by omega, rfl, rfl⟩
  case round =>
    obtain ⟨k, t, hk, rfl, rfl, ht, HE, rfl⟩ := hrel
    by_cases hlt : k < bs.length
    · obtain ⟨-, -, -, hcell⟩ := hv.at
      obtain ⟨b, off, rfl, hcl⟩ := hcell k 0 hlt
      have cx := hcl k hlt
      clear hcl hcell
      have S : Hid (crcN (bs.take (k + 1)) = crcBits 8 (t ^^^ (bs.getD k 0).toNat)) := by
        show _ = _
        rw [List.take_succ_eq_append_getElem hlt, crcN, crcFrom_snoc, ← crcN, HE.out]
        simp [crcByte, hlt]
      generalize bs.getD k 0 = x at *
      have hx := x.toNat_lt
      have hX := xor_byte t ht x
      have hl := xor_lt16 ht (show x.toNat < 65536 by omega)
      generalize t ^^^ x.toNat = u at *
      have hlt' : (k : Int) < (bs.length : Int) := by omega
      clear HE
      go_wp2_with fail
      refine (step_any u _ hl).mono ?_
      rintro e w2 ⟨rfl, rfl⟩
      go_wp2
      go_roundw
      case rel => exact ⟨k + 1, crcBits 8 u, by omega, by go_num, rfl, crcBits_lt 8 u hl, S, trivial⟩
      case measure => simp [intOf]; omega
    · have hk' : k = bs.length := by omega
      subst hk'
      have e8 := HE.out
      rw [List.take_length] at e8
      have HE2 := hidden e8
      clear HE e8
      go_wp2
      go_ret
      exact ⟨ret_u16 HE2.out.symm, rfl⟩

set_option maxHeartbeats 400000 in
theorem rsum_any (v : Value) (bs : List UInt8) (w : World) (hv : Row w v (bs.map bV)) :
    Calls Try.prog 18 #[v] w fun e w' => e = .returned (.int .u16 ((crcN bs : Nat) : Int)) ∧ w = w' := by
  obtain ⟨a, cap, rfl, -⟩ := id hv
  obtain ⟨hl, hc, hm, -⟩ := hv.at
  simp only [List.length_map] at hl hc hv ⊢
  unfold maxLen at hm
  go_enter Try.func18, Try.ntmps18
  go_wp2
  go_loopw [3, 10] (fun v i wr => ∃ k t : Nat, k ≤ bs.length ∧ i = .int .i64 k ∧ v = .int .u16 (t : Int) ∧ t < 65536 ∧ Hid (crcN (bs.take k) = t) ∧ w = wr) (fun _ i _ => bs.length - (intOf i).toNat)
  case atStart => exact ⟨0, 65535, by omega, rfl, rfl, by omega, rfl, rfl⟩
  case round =>
    obtain ⟨k, t, hk, rfl, rfl, ht, HE, rfl⟩ := hrel
    by_cases hlt : k < bs.length
    · obtain ⟨-, -, -, hcell⟩ := hv.at
      obtain ⟨b, off, rfl, hcl⟩ := hcell k 0 hlt
      have cx := hcl k hlt
      clear hcl hcell
      have S : Hid (crcN (bs.take (k + 1)) = crcBits 8 (t ^^^ (bs.getD k 0).toNat)) := by
        show _ = _
        rw [List.take_succ_eq_append_getElem hlt, crcN, crcFrom_snoc, ← crcN, HE.out]
        simp [crcByte, hlt]
      generalize bs.getD k 0 = x at *
      have hx := x.toNat_lt
      have hX := xor_byte t ht x
      have hu := xor_lt16 ht (show x.toNat < 65536 by omega)
      generalize t ^^^ x.toNat = s at *
      have hlt' : (k : Int) < (bs.length : Int) := by omega
      clear HE
      go_wp2
      go_loopw [3, 6] (fun v i wr => ∃ j q : Nat, j ≤ 8 ∧ i = .int .i64 j ∧ v = .int .u16 (q : Int) ∧ q < 65536 ∧ Hid (crcBits (8 - j) q = crcBits 8 s) ∧ w = wr) (fun _ i _ => 8 - (intOf i).toNat)
      case atStart => exact ⟨0, s, by omega, rfl, rfl, hu, rfl, rfl⟩
      case round =>
        obtain ⟨j, q, hj, rfl, rfl, hq, HE, rfl⟩ := hrel
        by_cases hjl : j < 8
        · have hjl' : (j : Int) < 8 := by omega
          have e8 : Hid (crcBits (8 - (j + 1)) (crcBit q) = crcBits 8 s) := by
            show _ = _
            rw [← HE.out, show 8 - j = (8 - (j + 1)) + 1 by omega, crcBits]
          have hA := and_one16 q hq
          by_cases hodd : q % 2 = 1
          · have eb : crcBit q = (q / 2) ^^^ 40961 := by unfold crcBit; rw [if_pos hodd]
            have hX := xor_turn q hq
            have hl := crcBit_lt hq
            rw [eb] at e8 hl
            clear eb
            rw [hodd] at hA
            clear hodd HE
            generalize (q / 2) ^^^ 40961 = u at *
            go_wp2
            go_roundw
            case rel => exact ⟨j + 1, u, by omega, by go_num, rfl, hl, e8, trivial⟩
            case measure => simp [intOf]; omega
          · have eb : crcBit q = q / 2 := by unfold crcBit; rw [if_neg hodd]
            rw [eb] at e8
            clear eb
            have h0 : q % 2 = 0 := by omega
            rw [h0] at hA
            clear hodd h0 HE
            go_wp2
            go_roundw
            case rel => exact ⟨j + 1, q / 2, by omega, by go_num, by go_num, by omega, e8, trivial⟩
            case measure => simp [intOf]; omega
        · have hjl' : ¬ (j : Int) < 8 := by omega
          have e8 := HE.out
          rw [show 8 - j = 0 by omega, crcBits] at e8
          have S2 : Hid (crcN (bs.take (k + 1)) = q) := by show _ = _; rw [S.out, e8]
          clear HE e8 S
          go_wp2
          go_roundw
          case rel => exact ⟨k + 1, q, by omega, by go_num, rfl, hq, S2, trivial⟩
          case measure => simp [intOf]; omega
    · have hk' : k = bs.length := by omega
      subst hk'
      have e8 := HE.out
      rw [List.take_length] at e8
      have HE2 := hidden e8
      clear HE e8
      go_wp2
      go_ret
      exact ⟨ret_u16 HE2.out.symm, rfl⟩

end Go.Proofs.Ytfbmejfnblopgaa
