/- The walk of burgagelaw11.TableNumbers. -/
import Derived.Test.YtffjhimdamdenaaBS
namespace Go.Proofs.Ytffjhimdamdenaa
open Go.RowKit

theorem num20 {j : Nat} (h : j < 20) : ∃ x : Int, i64 x ∧ [iV (-1), iV 0, iV 1, iV 2, iV 5, iV 6, iV 7, iV 71, iV 72, iV 73, iV 130, iV 247, iV 248, iV 510, iV 511, iV 512, iV 2000, iV 2001, iV 65535, iV 4611686018427387904][j]? = some (iV x) := by
  match j, h with
  | 0, _ => exact ⟨-1, by unfold i64; decide, rfl⟩
  | 1, _ => exact ⟨0, by unfold i64; decide, rfl⟩
  | 2, _ => exact ⟨1, by unfold i64; decide, rfl⟩
  | 3, _ => exact ⟨2, by unfold i64; decide, rfl⟩
  | 4, _ => exact ⟨5, by unfold i64; decide, rfl⟩
  | 5, _ => exact ⟨6, by unfold i64; decide, rfl⟩
  | 6, _ => exact ⟨7, by unfold i64; decide, rfl⟩
  | 7, _ => exact ⟨71, by unfold i64; decide, rfl⟩
  | 8, _ => exact ⟨72, by unfold i64; decide, rfl⟩
  | 9, _ => exact ⟨73, by unfold i64; decide, rfl⟩
  | 10, _ => exact ⟨130, by unfold i64; decide, rfl⟩
  | 11, _ => exact ⟨247, by unfold i64; decide, rfl⟩
  | 12, _ => exact ⟨248, by unfold i64; decide, rfl⟩
  | 13, _ => exact ⟨510, by unfold i64; decide, rfl⟩
  | 14, _ => exact ⟨511, by unfold i64; decide, rfl⟩
  | 15, _ => exact ⟨512, by unfold i64; decide, rfl⟩
  | 16, _ => exact ⟨2000, by unfold i64; decide, rfl⟩
  | 17, _ => exact ⟨2001, by unfold i64; decide, rfl⟩
  | 18, _ => exact ⟨65535, by unfold i64; decide, rfl⟩
  | 19, _ => exact ⟨4611686018427387904, by unfold i64; decide, rfl⟩
  | _ + 20, h => exact absurd h (by omega)
abbrev zT : List Value := [.int .i64 0, .int .u32 0, .int .i64 0, .slice none 0 0, .slice none 0 0]
theorem zero5 (w : World) (cs : Array Value) (hc : cs = (zT ++ zT ++ zT ++ zT ++ zT).toArray) : Tns (w.alloc (.cells cs 43)) (.slice (some ⟨w.heap.size, 0, none⟩) 5 5) (List.replicate 5 ⟨0, 0, 0, [], []⟩) := by
  subst hc
  refine ⟨List.replicate 5 (⟨0, 0, 0, [], []⟩, .slice none 0 0, .slice none 0 0), rfl, Lsf.of_blk tf_len 5 rfl (by decide) _ (Blk.new w 43 (zT ++ zT ++ zT ++ zT ++ zT)) (fun i z hi j u hu => flatMap_get tf_len (List.replicate 5 (⟨0, 0, 0, [], []⟩, .slice none 0 0, .slice none 0 0)) i z hi j u hu), fun e he => ?_⟩
  rw [List.eq_of_mem_replicate he]
  exact ⟨Lsf.nil _, Lsf.nil _⟩
theorem mad5 : madS (.agg #[.int .i64 0, .int .u32 0, .int .i64 0, .slice none 0 0, .slice none 0 0]) (5 * 5) = #[.int .i64 0, .int .u32 0, .int .i64 0, .slice none 0 0, .slice none 0 0, .int .i64 0, .int .u32 0, .int .i64 0, .slice none 0 0, .slice none 0 0, .int .i64 0, .int .u32 0, .int .i64 0, .slice none 0 0, .slice none 0 0, .int .i64 0, .int .u32 0, .int .i64 0, .slice none 0 0, .slice none 0 0, .int .i64 0, .int .u32 0, .int .i64 0, .slice none 0 0, .slice none 0 0] := by kernel_rfl
theorem mk5 (u : World) : (Instr.makeSlice 22 (.int .i64 5) (.int .i64 5)).run Try.prog u = .ok (.slice (some ⟨u.heap.size, 0, none⟩) 5 5) (u.alloc (.cells #[.int .i64 0, .int .u32 0, .int .i64 0, .slice none 0 0, .slice none 0 0, .int .i64 0, .int .u32 0, .int .i64 0, .slice none 0 0, .slice none 0 0, .int .i64 0, .int .u32 0, .int .i64 0, .slice none 0 0, .slice none 0 0, .int .i64 0, .int .u32 0, .int .i64 0, .slice none 0 0, .slice none 0 0, .int .i64 0, .int .u32 0, .int .i64 0, .slice none 0 0, .slice none 0 0] 43)) := by
  have h := mk_rec 22 43 _ 5 72 Try.underlying22 info_ten 5 5 rfl (by decide) (by decide) u
  rw [h, mad5]
theorem zok5 : OkTs (List.replicate 5 ⟨0, 0, 0, [], []⟩) := by
  refine ⟨fun x hx => ?_, by decide⟩
  rw [List.eq_of_mem_replicate hx]
  have i0 : i64 0 := by unfold i64; decide
  exact ⟨i0, by decide, i0, (fun z hz => by cases hz), (fun z hz => by cases hz), Nat.zero_le _, Nat.zero_le _⟩

set_option maxRecDepth 100000 in
set_option maxHeartbeats 16000000 in
theorem numbers_law (w : World) : Calls Try.prog 3 #[] w fun e w' => e = .returned (.bool true) ∧ Below w.heap.size w w' := by
  go_enter Try.func3, Try.ntmps3
  go_wp2
  go_loopw [1] (fun z wr => ∃ k : Nat, k ≤ 40 ∧ z = .int .i64 k ∧ Below w.heap.size w wr) (fun z _ => 40 - (intOf z).toNat)
  case atStart => exact ⟨0, by omega, rfl, Below.refl _ _⟩
  case round =>
    obtain ⟨k, hk, rfl, hb⟩ := hrel
    by_cases hlt : k < 40
    · have hlt' : (k : Int) < 40 := by omega
      have HB := hidden hb
      clear hb
      go_wp2_with fail
      refine (tape_law11 k _ (by omega)).mono ?_
      rintro e w1 ⟨v1, rfl, l1, r1, i1, B1⟩
      obtain ⟨a1, c1, rfl, -⟩ := id r1
      simp only [List.length_map] at r1 ⊢
      replace HB := hidden (below_then HB.out B1)
      have T0 := hidden (tap_new w1 a1 _ c1 l1 r1 i1)
      have B0 := hidden ((Below.refl w1.heap.size w1).alloc (Nat.le_refl _) (.cells #[.slice a1 l1.length c1, .int .i64 0] 29))
      have S1 : Hid (w1.heap.size + 1 ≤ (w1.alloc (.cells #[.slice a1 l1.length c1, .int .i64 0] 29)).heap.size) := by show _ ≤ _; rw [World.size_alloc]; omega
      clear B1 r1 i1
      go_wp2_with fail
      refine (table_any _ _ l1 _ T0.out S1.out).mono ?_
      rintro e w2 ⟨vt, frx, lx, rfl, T1, OKX, D1⟩
      have B1 : Below w1.heap.size w1 w2 := B0.out.trans (D1.below (by have := S1.out; omega) (Nat.le_refl _))
      obtain ⟨tx, cx, rfl, -, -⟩ := T1.sl
      have OX := hidden OKX
      have E := (Below.refl w2.heap.size w2).alloc (Nat.le_refl _) (boxA frx (.slice tx lx.length cx))
      have Y := BxA.new w2 frx (.slice tx lx.length cx)
      replace HB := hidden (below_then (below_then HB.out B1) E)
      replace T1 := T1.ext E
      clear T0 B0 S1 B1 D1 E OKX
      have R := hidden (right_tab frx _ lx _ T1 OX.out.i64 OX.out.okTs)
      rw [OX.out.where_] at R
      have HT := hidden T1
      clear T1
      obtain ⟨c0, c1'⟩ := Y.cells
      go_wp2_with fail
      refine R.out.mono ?_
      rintro e w3 ⟨rfl, B3⟩
      replace Y := Y.ext B3
      have HT3 := hidden (HT.out.ext B3)
      replace HB := hidden (below_then HB.out B3)
      generalize w2.heap.size = g2 at *
      clear HT R c0 c1' B3
      go_wp2
      go_loopw [3] (fun z wr => ∃ a : Nat, a ≤ 14 ∧ z = .int .i64 a ∧ BxA wr g2 frx (.slice tx lx.length cx) ∧ Below w3.heap.size w3 wr) (fun z _ => 14 - (intOf z).toNat)
      case atStart => exact ⟨0, by omega, rfl, Y, Below.refl _ _⟩
      case round =>
        clear Y
        obtain ⟨a, ha, rfl, Y, hb⟩ := hrel
        by_cases h14 : a < 14
        · have h14' : (a : Int) < 14 := by omega
          have XL := Blk.new wr 3 [iV (-1), iV 0, iV 1, iV 2, iV 5, iV 6, iV 7, iV 71, iV 72, iV 73, iV 130, iV 247, iV 248, iV 510, iV 511, iV 512, iV 2000, iV 2001, iV 65535, iV 4611686018427387904]
          have E := (Below.refl wr.heap.size wr).alloc (Nat.le_refl _) (.cells #[.int .i64 (-1), .int .i64 0, .int .i64 1, .int .i64 2, .int .i64 5, .int .i64 6, .int .i64 7, .int .i64 71, .int .i64 72, .int .i64 73, .int .i64 130, .int .i64 247, .int .i64 248, .int .i64 510, .int .i64 511, .int .i64 512, .int .i64 2000, .int .i64 2001, .int .i64 65535, .int .i64 4611686018427387904] 3)
          have Y4 := hidden (Y.ext E)
          have H4 := hidden (below_then hb E)
          obtain ⟨wo, hwo⟩ : ∃ wo, wo = wr := ⟨_, rfl⟩
          subst hwo
          clear hb E Y
          go_wp2
          go_loopw [24] (fun z wr => ∃ j : Nat, j ≤ 20 ∧ z = .int .i64 j ∧ Blk wr wo.heap.size 3 [iV (-1), iV 0, iV 1, iV 2, iV 5, iV 6, iV 7, iV 71, iV 72, iV 73, iV 130, iV 247, iV 248, iV 510, iV 511, iV 512, iV 2000, iV 2001, iV 65535, iV 4611686018427387904] ∧ BxA wr g2 frx (.slice tx lx.length cx) ∧ Below w3.heap.size w3 wr) (fun z _ => 20 - (intOf z).toNat)
          case atStart => exact ⟨0, by omega, rfl, XL, Y4.out, H4.out⟩
          case round =>
            clear XL H4 Y4
            obtain ⟨j, hj, rfl, XL, Y, hb⟩ := hrel
            by_cases h20 : j < 20
            · have h20' : (j : Int) < 20 := by omega
              obtain ⟨n, n1, hn⟩ := num20 h20
              have c0 := (XL.cell j).trans hn
              obtain ⟨c1, c2⟩ := Y.cells
              have H4 := hidden hb
              have HX := hidden XL
              have HN := hidden n1
              have HY := hidden Y
              clear hb XL hn n1 Y
              go_wp2_with fail
              refine (odd_any frx _ lx a ((k : Int) + a) n 10 _ (HT3.out.ext H4.out) OX.out.okTb (by decide) OX.out.i64 (by unfold i64; omega) (by unfold i64; omega) HN.out).mono ?_
              rintro e w5 ⟨fo, vo, rfl, OR⟩
              have HOR := hidden OR
              clear c0 c1 c2 OR
              go_wp2_with fail
              refine (HOR.out.same (by decide)).mono ?_
              rintro e w6 ⟨rfl, B6⟩
              have B7 := below_then HOR.out.2.1 B6
              have X9 := HX.out.below B7 HX.out.lt
              have Y9 := HY.out.ext B7
              have H9 := below_then H4.out B7
              clear B6 B7 HX HY H4 HOR
              go_wp2
              go_roundw
              case rel => exact ⟨j + 1, by omega, by go_num, X9, Y9, H9⟩
              case measure => simp [intOf]; omega
            · have h20' : ¬ (j : Int) < 20 := by omega
              go_wp2
              go_roundw
              case rel => exact ⟨a + 1, by omega, by go_num, Y, hb⟩
              case measure => simp [intOf]; omega
        · have h14' : ¬ (a : Int) < 14 := by omega
          go_wp2
          go_roundw
          case rel => exact ⟨k + 1, by omega, by go_num, below_then HB.out hb⟩
          case measure => simp [intOf]; omega
    · have hlt' : ¬ (k : Int) < 40 := by omega
      have HB := hidden hb
      clear hb
      go_wp2_with fail
      refine (same_law 0 _ [] _ (Tns.nil _) (by unfold i64; decide) ⟨(fun x hx => by cases hx), Nat.zero_le _⟩).mono ?_
      rintro e w1 ⟨rfl, B1⟩
      replace HB := hidden (below_then HB.out B1)
      clear B1
      go_wp2_with fail
      refine (same_law 1 _ [] _ (Tns.nil _) (by unfold i64; decide) ⟨(fun x hx => by cases hx), Nat.zero_le _⟩).mono ?_
      rintro e w2 ⟨rfl, B2⟩
      replace HB := hidden (below_then HB.out B2)
      clear B2
      have mk := mk5 w2
      go_wp2_with fail
      clear mk
      refine (same_law 1 _ (List.replicate 5 ⟨0, 0, 0, [], []⟩) _ (zero5 w2 _ rfl) (by unfold i64; decide) zok5).mono ?_
      rintro e w4 ⟨rfl, B4⟩
      replace HB := hidden (below_then (below_then HB.out ((Below.refl w2.heap.size w2).alloc (Nat.le_refl _) _)) B4)
      clear B4
      go_wp2_with fail
      refine (known_law _).mono ?_
      rintro e w5 ⟨rfl, B5⟩
      replace HB := hidden (below_then HB.out B5)
      clear B5
      go_wp2
      go_ret
      exact ⟨rfl, HB.out⟩

end Go.Proofs.Ytffjhimdamdenaa
