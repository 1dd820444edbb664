/- The walk of burgagelaw8.StoreNumbers. -/
import Derived.Test.YtaabjgdomookkaaYD
namespace Go.Proofs.Ytaabjgdomookkaa
open Go.RowKit

theorem blk3 (w : World) (o1 o2 : Obj) (cs : List Value) : Blk (((w.alloc o1).alloc o2).alloc (.cells cs.toArray tA)) (w.heap.size + 1 + 1) tA cs := by
  have := Blk.new ((w.alloc o1).alloc o2) tA cs
  simpa using this
theorem ext3 (w : World) (o1 o2 o3 : Obj) : Below w.heap.size w (((w.alloc o1).alloc o2).alloc o3) :=
  (((Below.refl w.heap.size w).alloc (Nat.le_refl _) _).alloc (by simp) _).alloc (by simp; omega) _
theorem AskL.ext {w w' : World} {v : Value} {c : Nat → Option Value} (h : AskL w v c) (hb : Below w.heap.size w w') : AskL w' v c := by
  obtain ⟨kd, sp, a, n, vb, vv, bs, us, q, r, s, t⟩ := h
  exact ⟨kd, sp, a, n, vb, vv, bs, us, q, r, s.ext hb, t.ext hb⟩
theorem below_own {w w' : World} {base s : Nat} {e : TypeId} {v : Value} {n : Nat} {xs : List Value} (hg : w.grownBy w' v.ownBlock) (ho : w.ownsRow base e s v n xs) (hb : base ≤ w.heap.size) : Below base w w' :=
  (Below.refl base w).grown hg hb (fun k hk => (ho.lt k hk).1)
theorem ofN (p : Nat) (h : p < 65536) : wV (UInt16.ofNat p) = .int .u16 p := by
  have : (UInt16.ofNat p).toNat = p := by rw [UInt16.toNat_ofNat']; omega
  rw [wV, this]
theorem num_ask {w : World} {base m : Nat} {v : Value} {xs : List Value} (ho : w.ownsRow base tA 6 v m xs) (kd sp a n : Int) (x : Bool) (p q : Nat) (hp : p < 65536) (hq : q < 65536) (h : i64 kd ∧ i64 sp ∧ i64 a ∧ i64 n) :
    AskL (((w.alloc (.cells #[.bool x, .bool true] 4)).alloc (.cells #[.int .u16 p, .int .u16 9, .int .u16 q] 24)).alloc (.cells #[.int .i64 kd, .int .i64 sp, .int .i64 a, .int .i64 n, .slice (some ⟨w.heap.size, 0, none⟩) 2 2, .slice (some ⟨w.heap.size + 1, 0, none⟩) 3 3] tA)) v
      (fun j => ([.int .i64 kd, .int .i64 sp, .int .i64 a, .int .i64 n, .slice (some ⟨w.heap.size, 0, none⟩) 2 2, .slice (some ⟨w.heap.size + 1, 0, none⟩) 3 3] : List Value)[j]?) := by
  refine ⟨kd, sp, a, n, _, _, [x, true], [UInt16.ofNat p, 9, UInt16.ofNat q], h, ⟨rfl, rfl, rfl, rfl, rfl, rfl⟩, ⟨?_, fun _ k hk e => ?_⟩, ⟨?_, fun _ k hk e => ?_⟩⟩
  · have R := row_new w [.bool x, .bool true] 4 2 rfl (by unfold maxLen; omega)
    have := (R.below ((Below.refl _ _).alloc (Nat.le_refl _) (.cells #[.int .u16 p, .int .u16 9, .int .u16 q] 24))).below ((Below.refl _ _).alloc (Nat.le_refl _) (.cells #[.int .i64 kd, .int .i64 sp, .int .i64 a, .int .i64 n, .slice (some ⟨w.heap.size, 0, none⟩) 2 2, .slice (some ⟨w.heap.size + 1, 0, none⟩) 3 3] tA))
    exact this
  · simp only [Value.ownBlock, Option.some.injEq] at hk
    have := (ho.lt k e).2
    omega
  · have R := row_new (w.alloc (.cells #[.bool x, .bool true] 4)) [.int .u16 p, .int .u16 9, .int .u16 q] 24 3 rfl (by unfold maxLen; omega)
    have := R.below ((Below.refl _ _).alloc (Nat.le_refl _) (.cells #[.int .i64 kd, .int .i64 sp, .int .i64 a, .int .i64 n, .slice (some ⟨w.heap.size, 0, none⟩) 2 2, .slice (some ⟨w.heap.size + 1, 0, none⟩) 3 3] tA))
    simp only [List.map_cons, List.map_nil, ofN p hp, ofN q hq]
    rw [World.size_alloc] at this
    exact this
  · simp only [Value.ownBlock, Option.some.injEq] at hk
    have := (ho.lt k e).2
    omega
abbrev twoW (w : World) : World := (w.alloc (.cells #[.int .u16 1] 24)).alloc (.cells #[.int .i64 0, .int .i64 3, .int .i64 9223372036854775807, .int .i64 9223372036854775807, .slice none 0 0, .slice none 0 0, .int .i64 1, .int .i64 3, .int .i64 (-9223372036854775808), .int .i64 0, .slice none 0 0, .slice (some ⟨w.heap.size, 0, none⟩) 1 1] tA)
theorem two_ext (w : World) : Below w.heap.size w (twoW w) := ((Below.refl w.heap.size w).alloc (Nat.le_refl _) _).alloc (by simp) _
theorem two_asks (w : World) : Asks (twoW w) (.slice (some ⟨w.heap.size + 1, 0, none⟩) 2 2) 2 := by
  have hb := Blk.new (w.alloc (.cells #[.int .u16 1] 24)) tA [.int .i64 0, .int .i64 3, .int .i64 9223372036854775807, .int .i64 9223372036854775807, .slice none 0 0, .slice none 0 0, .int .i64 1, .int .i64 3, .int .i64 (-9223372036854775808), .int .i64 0, .slice none 0 0, .slice (some ⟨w.heap.size, 0, none⟩) 1 1]
  rw [World.size_alloc] at hb
  have R := (row_new w [.int .u16 1] 24 1 rfl (by unfold maxLen; omega)).below ((Below.refl _ _).alloc (Nat.le_refl _) (.cells #[.int .i64 0, .int .i64 3, .int .i64 9223372036854775807, .int .i64 9223372036854775807, .slice none 0 0, .slice none 0 0, .int .i64 1, .int .i64 3, .int .i64 (-9223372036854775808), .int .i64 0, .slice none 0 0, .slice (some ⟨w.heap.size, 0, none⟩) 1 1] tA))
  refine ⟨_, 2, rfl, Nat.le_refl _, by unfold maxLen; omega, fun i hi => ⟨_, 0, rfl, fun j hj => ?_⟩⟩
  match j, hj with
  | 0, _ => exact ⟨0, 3, _, _, _, _, [], [], by decide, ⟨hb.cell 0, hb.cell 1, hb.cell 2, hb.cell 3, hb.cell 4, hb.cell 5⟩, Row.nil _, Row.nil _⟩
  | 1, _ => exact ⟨1, 3, _, _, _, _, [], [1], by decide, ⟨hb.cell 6, hb.cell 7, hb.cell 8, hb.cell 9, hb.cell 10, hb.cell 11⟩, Row.nil _, R⟩

set_option maxRecDepth 100000 in
set_option maxHeartbeats 4000000 in
theorem numbers_law (w : World) :
    Calls Try.prog 3 #[] w fun e w' => e = .returned (.bool true) ∧ Below w.heap.size w w' := by
  go_enter Try.func3, Try.ntmps3
  go_wp2
  go_loopw [1] (fun s1 wr => ∃ k : Nat, 1 ≤ k ∧ k ≤ 40 ∧ s1 = .int .i64 k ∧ Below w.heap.size w wr) (fun s1 _ => 40 - (intOf s1).toNat)
  case atStart => exact ⟨1, by omega, by omega, rfl, Below.refl _ _⟩
  case round =>
    obtain ⟨wo, hwo⟩ : ∃ wo, wo = wr := ⟨_, rfl⟩
    subst hwo
    obtain ⟨k, hk1, hk2, rfl, BL⟩ := hrel
    by_cases hlt : k < 40
    · have hlt' : (k : Int) < 40 := by omega
      go_wp2
      go_loopw [2, 3] (fun s2 s3 wr => ∃ i : Nat, i ≤ 50 ∧ s3 = .int .i64 i ∧ OAsks wr w.heap.size s2 i ∧ Below w.heap.size w wr) (fun s2 s3 _ => 50 - (intOf s3).toNat)
      case atStart => exact ⟨0, Nat.zero_le _, rfl, OAsks.nil _ _, BL⟩
      case round =>
        clear BL
        obtain ⟨i, hi, rfl, OA, BL⟩ := hrel
        by_cases hli : i < 50
        · have hli' : (i : Int) < 50 := by omega
          obtain ⟨xs, ho, hx⟩ := OA
          have HX := hidden hx
          have n1 : 0 ≤ (i : Int) * (i : Int) := Int.mul_nonneg (by omega) (by omega)
          have n2 : (i : Int) * (i : Int) ≤ 2500 := by
            have h : i * i ≤ 50 * 50 := Nat.mul_le_mul (by omega) (by omega)
            have e : ((i * i : Nat) : Int) = (i : Int) * (i : Int) := by simp
            omega
          have n3 : 0 ≤ (i : Int) * (k : Int) := Int.mul_nonneg (by omega) (by omega)
          have n4 : (i : Int) * (k : Int) ≤ 2500 := by
            have h : i * k ≤ 50 * 50 := Nat.mul_le_mul (by omega) (by omega)
            have e : ((i * k : Nat) : Int) = (i : Int) * (k : Int) := by simp
            omega
          clear hx
          go_wp2_with (at_builtin; refine wpList_pushA rfl (.tmp 12) (.tmp 45) rfl w.heap.size rfl (owns_belowS ho (ext3 _ _ _ _)) _ _ _ rfl (blk3 _ _ _ _) rfl (by simp [Value.oneCell']) (by omega) (by have := BL.size; simp; omega) ?_)
          intro v2 w2 q1 q2 q4
          have AK := num_ask ho ((i + k) % 3) (((i : Int) * i + k) % 6 - 1) (((i : Int) * 3 + k) % 44 - 2) ((i : Int) * k % 9 - 1) ((i : Int) % 2 == 0) i k (by omega) (by omega) ⟨by unfold i64; omega, by unfold i64; omega, by unfold i64; omega, by unfold i64; omega⟩
          have PS := hidden (OAsks.push (owns_belowS ho (ext3 _ _ _ _)) (fun i hi => (HX.out i hi).ext (ext3 _ _ _ _)) AK rfl q1 q2 (by simpa using q4))
          have BN := hidden ((below_then BL (ext3 _ _ _ _)).trans (below_own q2 (owns_belowS ho (ext3 _ _ _ _)) (by have := BL.size; simp; omega)))
          clear q1 q2 q4 AK HX ho BL n1 n2 n3 n4
          go_wp2
          go_roundw
          case rel => exact ⟨i + 1, by omega, by go_num, PS.out, BN.out⟩
          case measure => simp [intOf]; omega
        · have hli' : ¬ (i : Int) < 50 := by omega
          go_wp2_with fail
          refine (play_any k _ i wr OA.asks (by unfold i64; omega)).mono ?_
          rintro e w2 ⟨rfl, E⟩
          replace BL := below_then BL E
          clear E OA
          go_wp2
          go_roundw
          case rel => exact ⟨k + 1, by omega, by omega, by go_num, BL⟩
          case measure => simp [intOf]; omega
    · have hlt' : ¬ (k : Int) < 40 := by omega
      clear hlt hk1 hk2
      go_wp2_with fail
      refine (play_any (-1) _ 0 _ (Asks.nil _) (by decide)).mono ?_
      rintro e w2 ⟨rfl, E⟩
      replace BL := below_then BL E
      clear E
      go_wp2_with fail
      refine (play_any 4611686018427387904 _ 0 _ (Asks.nil _) (by decide)).mono ?_
      rintro e w3 ⟨rfl, E⟩
      replace BL := below_then BL E
      clear E
      go_wp2_with fail
      have E := two_ext w3
      replace BL := below_then BL E
      clear E
      refine (play_any 65536 _ 2 _ (two_asks _) (by decide)).mono ?_
      rintro e w4 ⟨rfl, E⟩
      replace BL := below_then BL E
      clear E
      go_wp2_with fail
      refine (known_any _).mono ?_
      rintro e w5 ⟨rfl, E⟩
      replace BL := below_then BL E
      clear E
      go_wp2
      go_ret
      exact ⟨rfl, BL⟩

end Go.Proofs.Ytaabjgdomookkaa
