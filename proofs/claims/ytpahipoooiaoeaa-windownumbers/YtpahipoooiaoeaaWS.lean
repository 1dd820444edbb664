/- The walk of burgagelaw10.WindowNumbers. -/
import Derived.Test.YtpahipoooiaoeaaWR
namespace Go.Proofs.Ytpahipoooiaoeaa
open Go.RowKit

theorem six1 {j : Nat} (h : j < 6) : ∃ x : Int, -1 ≤ x ∧ x ≤ 70 ∧ [iV (-1), iV 0, iV 1, iV 4, iV 30, iV 70][j]? = some (iV x) := by
  match j, h with
  | 0, _ => exact ⟨-1, by omega, by omega, rfl⟩
  | 1, _ => exact ⟨0, by omega, by omega, rfl⟩
  | 2, _ => exact ⟨1, by omega, by omega, rfl⟩
  | 3, _ => exact ⟨4, by omega, by omega, rfl⟩
  | 4, _ => exact ⟨30, by omega, by omega, rfl⟩
  | 5, _ => exact ⟨70, by omega, by omega, rfl⟩
theorem six2 {j : Nat} (h : j < 6) : ∃ x : Int, i64 x ∧ [iV 511, iV 512, iV 65535, iV 65536, iV 9223372036854775807, iV (-9223372036854775808)][j]? = some (iV x) := by
  match j, h with
  | 0, _ => exact ⟨511, by unfold i64; omega, rfl⟩
  | 1, _ => exact ⟨512, by unfold i64; omega, rfl⟩
  | 2, _ => exact ⟨65535, by unfold i64; omega, rfl⟩
  | 3, _ => exact ⟨65536, by unfold i64; omega, rfl⟩
  | 4, _ => exact ⟨9223372036854775807, by unfold i64; omega, rfl⟩
  | 5, _ => exact ⟨-9223372036854775808, by unfold i64; omega, rfl⟩
def nl (n : Int) : WL := [(3, n, 0, 1), (3, 0, n, 1), (n, 0, 0, 1), (3, 0, 0, n)]
theorem nl_ok {n : Int} (h : i64 n) : OkW (nl n) := by
  intro x hx
  unfold i64 at h ⊢
  simp [nl] at hx
  rcases hx with rfl | rfl | rfl | rfl <;> (simp only; omega)
theorem tape_next (k : Nat) (w : World) (hk : k + 1 ≤ 1000) : Calls Try.prog 8 #[.int .i64 ((k : Int) + 1)] w fun e w' => ∃ v', e = .returned v' ∧ ∃ l : List Int, Row w' v' (l.map iV) ∧ (∀ x ∈ l, -9223372036854775808 ≤ x ∧ x ≤ 9223372036854775807) ∧ Below w.heap.size w w' := by
  have := tape_law10 (k + 1) w hk
  rw [show ((k + 1 : Nat) : Int) = (k : Int) + 1 by omega] at this
  exact this
theorem nl_new (w : World) (n : Int) : Wns (w.alloc (.cells #[.int .i64 3, .int .i64 n, .int .i64 0, .int .i64 1, .int .i64 3, .int .i64 0, .int .i64 n, .int .i64 1, .int .i64 n, .int .i64 0, .int .i64 0, .int .i64 1, .int .i64 3, .int .i64 0, .int .i64 0, .int .i64 n] 28)) (.slice (some ⟨w.heap.size, 0, none⟩) 4 4) (nl n) :=
  Lsf.of_blk wf_len 4 rfl (by unfold maxLen; omega) (wcs (nl n)) (Blk.new w 28 (wcs (nl n))) (fun i x hx j u hu => flatMap_get wf_len (nl n) i x hx j u hu)

set_option maxRecDepth 100000 in
set_option maxHeartbeats 16000000 in
theorem numbers_law (w : World) : Calls Try.prog 3 #[] w fun e w' => e = .returned (.bool true) ∧ Below w.heap.size w w' := by
  go_enter Try.func3, Try.ntmps3
  go_wp2
  go_loopw [1] (fun z wr => ∃ k : Nat, k ≤ 40 ∧ z = .int .i64 k ∧ Below w.heap.size w wr) (fun z _ => 40 - (intOf z).toNat)
  case atStart => exact ⟨0, by omega, rfl, Below.refl _ _⟩
  case round =>
    obtain ⟨k, hk, rfl, hb⟩ := hrel
    by_cases hlt : k < 40
    · have hlt' : (k : Int) < 40 := by omega
      have HB := hidden hb
      clear hb
      go_wp2_with fail
      refine (tape_law10 k _ (by omega)).mono ?_
      rintro e w1 ⟨v1, rfl, l1, r1, i1, B1⟩
      obtain ⟨a1, c1, rfl, -⟩ := id r1
      simp only [List.length_map] at r1 ⊢
      replace HB := hidden (below_then HB.out B1)
      clear B1
      go_wp2_with fail
      refine (windows_law a1 l1.length c1 l1 k _ r1 i1 (by omega)).mono ?_
      rintro e w2 ⟨v2, rfl, ⟨ws1, t1, W1, ht1, gw1⟩, B2⟩
      replace HB := hidden (below_then HB.out B2)
      have O1 := hidden (gw1.okw ht1)
      have L1 := hidden gw1.len
      obtain ⟨b1, d1, rfl, -⟩ := id W1
      have HW1 := hidden W1
      clear B2 W1 gw1 r1 i1
      have CT := hidden (fun w => tape_next k w (by omega))
      go_wp2_with fail
      refine (CT.out _).mono ?_
      rintro e w3 ⟨v3, rfl, l2, r2, i2, B3⟩
      clear CT
      obtain ⟨a2, c2, rfl, -⟩ := id r2
      simp only [List.length_map] at r2 ⊢
      replace HB := hidden (below_then HB.out B3)
      replace HW1 := hidden (HW1.out.ext B3)
      clear B3
      go_wp2_with fail
      refine (windows_law a2 l2.length c2 l2 k _ r2 i2 (by omega)).mono ?_
      rintro e w4 ⟨v4, rfl, ⟨ws2, t2, W2, ht2, gw2⟩, B4⟩
      replace HB := hidden (below_then HB.out B4)
      replace HW1 := hidden (HW1.out.ext B4)
      have O2 := hidden (gw2.okw ht2)
      have L2 := hidden gw2.len
      obtain ⟨b2, d2, rfl, -⟩ := id W2
      have HW2 := hidden W2
      clear B4 W2 gw2 r2 i2
      go_wp2
      go_loopw [4] (fun z wr => ∃ a : Int, -1 ≤ a ∧ a ≤ 62 ∧ z = .int .i64 a ∧ Below w4.heap.size w4 wr) (fun z _ => (62 - intOf z).toNat)
      case atStart => exact ⟨-1, by omega, by omega, rfl, Below.refl _ _⟩
      case round =>
        obtain ⟨a, ha, ha2, rfl, hb⟩ := hrel
        by_cases h60 : a < 60
        · have d60 : decide (a < 60) = true := by simpa using h60
          have XL := Blk.new wr 3 [iV (-1), iV 0, iV 1, iV 4, iV 30, iV 70]
          have E := (Below.refl wr.heap.size wr).alloc (Nat.le_refl _) (.cells #[.int .i64 (-1), .int .i64 0, .int .i64 1, .int .i64 4, .int .i64 30, .int .i64 70] 3)
          have H4 := hidden (below_then hb E)
          obtain ⟨wo, hwo⟩ : ∃ wo, wo = wr := ⟨_, rfl⟩
          subst hwo
          clear hb E
          go_wp2
          go_loopw [28] (fun z wr => ∃ j : Nat, j ≤ 6 ∧ z = .int .i64 j ∧ Blk wr wo.heap.size 3 [iV (-1), iV 0, iV 1, iV 4, iV 30, iV 70] ∧ Below w4.heap.size w4 wr) (fun z _ => 6 - (intOf z).toNat)
          case atStart => exact ⟨0, by omega, rfl, XL, H4.out⟩
          case round =>
            clear XL H4
            obtain ⟨j, hj, rfl, XL, hb⟩ := hrel
            by_cases hj6 : j < 6
            · have hj6' : (j : Int) < 6 := by omega
              obtain ⟨n, n1, n2, hn⟩ := six1 hj6
              have c0 := (XL.cell j).trans hn
              have H4 := hidden hb
              have HX := hidden XL
              clear hb XL hn
              go_wp2_with fail
              refine (same_law _ _ ws1 ws2 ((k : Int) % 6 - 1) a n _ (HW1.out.ext H4.out) (HW2.out.ext H4.out) O1.out O2.out (by unfold i64; omega) (Nat.le_trans L1.out (by omega)) (Nat.le_trans L2.out (by omega))).mono ?_
              rintro e w6 ⟨rfl, B⟩
              have X6 := hidden (HX.out.below B HX.out.lt)
              have H6 := hidden (below_then H4.out B)
              have E := (Below.refl w6.heap.size w6).alloc (Nat.le_refl _) (.cells #[] 28)
              have OL := hidden (World.ownsRow_made (base := w6.heap.size) (e := 28) (size := 4) w6 #[] 0 (Nat.le_refl _) (Nat.zero_le _) (by simp))
              have R1 := hidden (HW1.out.ext (below_then H6.out E))
              have HE := hidden E
              clear B E c0 HX
              go_wp2_with (at_builtin; refine wpList_appW (l := []) (news := ws1) (by kernel_rfl) (.tmp 42) (.tmp 43) rfl w6.heap.size rfl OL.out rfl R1.out (by have := L1.out; simp; omega) HE.out.size ?_)
              intro v7 w7 own7 gr7
              have B7 := hidden (HE.out.grown gr7 HE.out.size (fun k hk => (OL.out.lt k hk).1))
              have R2 := hidden (HW2.out.ext (below_then H6.out B7.out))
              have OL7 := hidden own7
              go_wp2_with (at_builtin; refine wpList_appW (v := v7) (l := [] ++ ws1) (news := ws2) (by kernel_rfl) (.tmp 44) (.tmp 45) rfl w6.heap.size rfl OL7.out rfl R2.out (by have := L1.out; have := L2.out; simp; omega) B7.out.size ?_)
              intro v8 w8 own8 gr8
              have B8 := hidden (B7.out.grown gr8 B7.out.size (fun k hk => (OL7.out.lt k hk).1))
              have W8 : Wns w8 v8 (ws1 ++ ws2) := Lsf.of_owns wf_len (by decide) own8
              have H8 := hidden (below_then H6.out B8.out)
              have X8 := hidden (X6.out.below B8.out X6.out.lt)
              have R3 := hidden (HW1.out.ext H8.out)
              have O8 := hidden (O1.out.app O2.out)
              have L8 : Hid ((ws1 ++ ws2).length ≤ 1000000) := by show _ ≤ _; have := L1.out; have := L2.out; simp; omega
              clear own7 own8 gr7 gr8 OL OL7 B7 B8 R1 R2 HE
              obtain ⟨a8, c8, rfl, -⟩ := id W8
              have W9 : Hid (Wns w8 (.slice a8 (ws1.length + ws2.length) c8) (ws1 ++ ws2)) := by
                show Wns _ _ _
                rw [← List.length_append]
                exact W8
              clear W8
              go_wp2_with fail
              refine (same_law _ _ (ws1 ++ ws2) ws1 3 a (n + a) _ W9.out R3.out O8.out O1.out (by unfold i64; omega) L8.out (Nat.le_trans L1.out (by omega))).mono ?_
              rintro e w9 ⟨rfl, B⟩
              have X9 := X8.out.below B X8.out.lt
              have H9 := below_then H8.out B
              clear B W9 R3 X8 H8 X6 H6 H4
              go_wp2
              go_roundw
              case rel => exact ⟨j + 1, by omega, by go_num, X9, H9⟩
              case measure => simp [intOf]; omega
            · have hj6' : ¬ (j : Int) < 6 := by omega
              go_wp2
              go_roundw
              case rel => exact ⟨a + 3, by omega, by omega, rfl, hb⟩
              case measure => simp only [intOf]; omega
        · have d60 : decide (a < 60) = false := by simp; omega
          go_wp2
          go_roundw
          case rel => exact ⟨k + 1, by omega, by go_num, below_then HB.out hb⟩
          case measure => simp [intOf]; omega
    · have hlt' : ¬ (k : Int) < 40 := by omega
      have XL := Blk.new wr 3 [iV 511, iV 512, iV 65535, iV 65536, iV 9223372036854775807, iV (-9223372036854775808)]
      have HB := hidden (hb.alloc hb.size (.cells #[.int .i64 511, .int .i64 512, .int .i64 65535, .int .i64 65536, .int .i64 9223372036854775807, .int .i64 (-9223372036854775808)] 3))
      obtain ⟨wo, hwo⟩ : ∃ wo, wo = wr := ⟨_, rfl⟩
      subst hwo
      clear hb
      go_wp2
      go_loopw [58] (fun z wr => ∃ j : Nat, j ≤ 6 ∧ z = .int .i64 j ∧ Blk wr wo.heap.size 3 [iV 511, iV 512, iV 65535, iV 65536, iV 9223372036854775807, iV (-9223372036854775808)] ∧ Below w.heap.size w wr) (fun z _ => 6 - (intOf z).toNat)
      case atStart => exact ⟨0, by omega, rfl, XL, HB.out⟩
      case round =>
        clear XL HB
        obtain ⟨j, hj, rfl, XL, hb⟩ := hrel
        by_cases hj6 : j < 6
        · have hj6' : (j : Int) < 6 := by omega
          obtain ⟨n, n1, hn⟩ := six2 hj6
          have c0 := (XL.cell j).trans hn
          have HX := hidden XL
          have H0 := hidden hb
          have WN := hidden (nl_new wr n)
          have E := hidden ((Below.refl wr.heap.size wr).alloc (Nat.le_refl _) (.cells #[.int .i64 3, .int .i64 n, .int .i64 0, .int .i64 1, .int .i64 3, .int .i64 0, .int .i64 n, .int .i64 1, .int .i64 n, .int .i64 0, .int .i64 0, .int .i64 1, .int .i64 3, .int .i64 0, .int .i64 0, .int .i64 n] 28))
          have HN := hidden n1
          clear XL hb hn n1
          go_wp2_with fail
          refine (same_law _ _ (nl n) [] 3 n n _ WN.out (Lsf.nil _) (nl_ok HN.out) OkW.nil HN.out (by simp [nl]) (by simp)).mono ?_
          rintro e w6 ⟨rfl, B⟩
          have X9 := (HX.out.below E.out HX.out.lt).below B (Nat.lt_of_lt_of_le HX.out.lt E.out.size)
          have H9 := below_then (below_then H0.out E.out) B
          clear B E c0 HX H0
          go_wp2
          go_roundw
          case rel => exact ⟨j + 1, by omega, by go_num, X9, H9⟩
          case measure => simp [intOf]; omega
        · have hj6' : ¬ (j : Int) < 6 := by omega
          have H0 := hidden hb
          clear hb XL
          go_wp2_with fail
          refine (known_law _).mono ?_
          rintro e w6 ⟨rfl, B⟩
          have H9 := hidden (below_then H0.out B)
          clear B
          go_wp2
          go_ret
          exact ⟨rfl, H9.out⟩

end Go.Proofs.Ytpahipoooiaoeaa
