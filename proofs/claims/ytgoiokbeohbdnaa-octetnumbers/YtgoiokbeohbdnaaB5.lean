/- OctetNumbers: the closed sentence of chapter 1. The walk. -/
import Derived.Test.YtgoiokbeohbdnaaL1
import Derived.Test.YtgoiokbeohbdnaaL2
namespace Go.Proofs.Ytgoiokbeohbdnaa
open Go.RowKit

theorem wrap_bV (n : Int) : ∃ x : UInt8, Value.int .u8 (n % 256) = bV x := by
  refine ⟨UInt8.ofNat (n % 256).toNat, ?_⟩
  have : (((UInt8.ofNat (n % 256).toNat).toNat : Nat) : Int) = n % 256 := by rw [UInt8.toNat_ofNat']; omega
  rw [bV, this]
theorem wrap_wV (n : Int) : ∃ x : UInt16, Value.int .u16 (n % 65536) = wV x := by
  refine ⟨UInt16.ofNat (n % 65536).toNat, ?_⟩
  have : (((UInt16.ofNat (n % 65536).toNat).toNat : Nat) : Int) = n % 65536 := by rw [UInt16.toNat_ofNat']; omega
  rw [wV, this]

theorem owns_below {w w' : World} {base : Nat} {e : TypeId} {v : Value} {n : Nat} {xs : List Value} (h : w.ownsRow base e 1 v n xs) (hb : Below w.heap.size w w') : w'.ownsRow base e 1 v n xs :=
  h.kept (w' := w') (row := none) ⟨hb.os, hb.tape, hb.output, hb.size, fun k hk _ => hb.block k hk⟩ (by cases v.ownBlock <;> simp)

theorem owns_apart {w : World} {base e1 e2 : Nat} {v1 v2 : Value} {n1 n2 : Nat} {xs ys : List Value} (h1 : w.ownsRow base e1 1 v1 n1 xs) (h2 : w.ownsRow base e2 1 v2 n2 ys) (he : e1 ≠ e2) : v1.ownBlock = none ∨ v1.ownBlock ≠ v2.ownBlock := by
  rcases h1.2 with ⟨rfl, -⟩ | ⟨g, cap, cur, rfl, -, hg, -⟩
  · exact .inl rfl
  · right
    rcases h2.2 with ⟨rfl, -⟩ | ⟨g', cap', cur', rfl, -, hg', -⟩
    · simp [Value.ownBlock]
    · simp only [Value.ownBlock, ne_eq, Option.some.injEq]
      intro h
      rw [h, hg'] at hg
      simp at hg
      exact he hg.2.symm

set_option maxRecDepth 100000 in
set_option maxHeartbeats 4000000 in
theorem numbers_walk (w : World) : Calls Try.prog 3 #[] w fun e w' => e = .returned (.bool true) ∧ Below w.heap.size w w' := by
  go_enter Try.func3, Try.ntmps3
  go_wp2
  go_loopw [1, 2, 3] (fun vl vw i wr => ∃ (k : Nat) (L : List Bool) (W : List UInt16), k ≤ 40 ∧ i = .int .i64 k ∧ L.length = k ∧ W.length = k ∧ wr.ownsRow w.heap.size 4 1 vl k (L.map Value.bool) ∧ wr.ownsRow w.heap.size 27 1 vw k (W.map wV) ∧ Below w.heap.size w wr) (fun _ _ i _ => 40 - (intOf i).toNat)
  case atStart => exact ⟨0, [], [], by omega, rfl, rfl, rfl, World.ownsRow_nil _ _ _ _, World.ownsRow_nil _ _ _ _, Below.refl _ _⟩
  case round =>
    obtain ⟨k, L, W, hk, rfl, hL, hW, hol, how, hb⟩ := hrel
    by_cases hlt : k < 40
    · have hlt' : (k : Int) < 40 := by omega
      have HL : Hid (L.length = k ∧ W.length = k) := ⟨hL, hW⟩
      have hL1 : L.length ≤ 40 := by omega
      have hW1 : W.length ≤ 40 := by omega
      clear hL hW
      have hmk := mk_zer 24 5 (.int .u8 0) 1 Try.underlying24 info_u8 rfl ((k : Int) % 5) (k % 5) (by omega) (by omega) (by omega)
      have hsz := hb.size
      have hb0 : Below wr.heap.size wr (wr.alloc (.cells (zer (k % 5) (.int .u8 0)) 5)) := (Below.refl _ _).alloc (Nat.le_refl _) _
      have hg0 := zer_blk wr (k % 5) (.int .u8 0) 5
      obtain ⟨wo, rfl⟩ : ∃ wo : World, wo = wr := ⟨_, rfl⟩
      go_wp2
      go_loopw [19] (fun i w1 => ∃ (j : Nat) (bs : List UInt8), j ≤ k % 5 ∧ i = .int .i64 j ∧ bs.length = k % 5 ∧ Blk w1 wo.heap.size 5 (bs.map bV) ∧ Below wo.heap.size wo w1) (fun i _ => k % 5 - (intOf i).toNat)
      case atStart => exact ⟨0, List.replicate (k % 5) 0, by omega, rfl, by simp, by simpa [bV] using hg0, hb0⟩
      case round =>
        obtain ⟨j, bs, hj, rfl, hbs, hg, hb1⟩ := hrel
        clear hmk hb0 hg0
        by_cases hjl : j < k % 5
        · have hjl' : (j : Int) < ((k % 5 : Nat) : Int) := by omega
          obtain ⟨u, cu⟩ := hg.some j (by simp; omega)
          have fu := hg.frozen j
          have HB : Hid (bs.length = k % 5) := hbs
          clear hbs
          go_wp2
          go_roundw
          case rel =>
            obtain ⟨x, hx⟩ := wrap_bV ((k : Int) * 37 + (j : Int) * 11)
            refine ⟨j + 1, bs.set j x, by omega, by go_num, by simpa using HB.out, ?_, ?_⟩
            · have := hg.set j (.int .u8 (((k : Int) * 37 + (j : Int) * 11) % 256))
              rw [hx] at this ⊢
              rw [List.map_set]
              exact this
            · exact hb1.setCell (p := ⟨wo.heap.size, j, none⟩) (Nat.le_refl _) _
          case measure => simp [intOf]; omega
        · have hrb := hg.row (k % 5) (by simp; omega) (by unfold maxLen; omega)
          simp only [List.length_map] at hrb
          rw [hbs] at hrb
          have hbl : bs.length ≤ 4 := by omega
          have hbW := below_then hb hb1
          have hrl := (Row.of_owns hol).below hb1
          have hrw := (Row.of_owns how).below hb1
          clear hg hbs
          obtain ⟨w1, rfl⟩ : ∃ u : World, u = wr := ⟨_, rfl⟩
          have tj : ¬ (j : Int) < (k : Int) % 5 := by omega
          go_wp2
          go_loopw [6] (fun i w2 => ∃ m : Int, -2 ≤ m ∧ m ≤ 42 ∧ i = .int .i64 m ∧ Below w1.heap.size w1 w2) (fun i _ => (42 - intOf i).toNat)
          case atStart => exact ⟨-2, by omega, by omega, rfl, Below.refl _ _⟩
          case round =>
            obtain ⟨m, hm1, hm2, rfl, hb2⟩ := hrel
            by_cases hm : m < 42
            · go_wp2_with (go_at_call 8; refine (same_any _ _ _ bs m m L W _ (by omega) (by omega) (hrb.below hb2) (hrl.below hb2) (hrw.below hb2) (by omega) (by omega) (by omega)).mono ?_; rintro e w3 ⟨rfl, hb3⟩)
              go_roundw
              case rel => exact ⟨m + 1, by omega, by omega, rfl, below_then hb2 (by assumption)⟩
              case measure => simp [intOf]; omega
            · obtain ⟨w2, rfl⟩ : ∃ u : World, u = wr := ⟨_, rfl⟩
              replace hbW := below_then hbW hb2
              replace hrl := hrl.below hb2
              replace hrw := hrw.below hb2
              have hb12 := below_then hb1 hb2
              clear hrb hb2
              go_wp2
              go_loopw [7] (fun i w3 => ∃ m : Nat, m ≤ 8 ∧ i = .int .u64 m ∧ Below w2.heap.size w2 w3) (fun i _ => 8 - (intOf i).toNat)
              case atStart => exact ⟨0, by omega, rfl, Below.refl _ _⟩
              case round =>
                obtain ⟨m, hm2, rfl, hb3⟩ := hrel
                by_cases hm : m < 8
                · have hm' : (m : Int) < 8 := by omega
                  obtain ⟨x, hx⟩ := wrap_bV (2 ^ m)
                  have HX : Hid (Value.int .u8 (2 ^ m % 256) = bV x) := hx
                  have hr0 := row_new wr [.int .u8 (2 ^ m % 256), .int .u8 (2 ^ m % 256)] 5 2 rfl (by decide)
                  rw [hx] at hr0
                  clear hx
                  have hq : Below wr.heap.size wr (wr.alloc (.cells #[bV x, bV x] 5)) := (Below.refl _ _).alloc (Nat.le_refl _) _
                  have hb3q := below_then hb3 hq
                  go_wp2_with fail
                  rw [HX.out]
                  refine (same_any _ _ _ [x, x] _ _ L W _ (by omega) (by omega) hr0 (hrl.below hb3q) (hrw.below hb3q) (by simp) (by omega) (by omega)).mono ?_
                  rintro e w4 ⟨rfl, hb4⟩
                  replace hb4 := below_then hb3q hb4
                  clear hr0 hq hb3q
                  go_wp2
                  go_roundw
                  case rel => exact ⟨m + 1, by omega, by go_num, hb4⟩
                  case measure => simp [intOf]; omega
                · have hm' : ¬ (m : Int) < 8 := by omega
                  replace hbW := below_then hbW hb3
                  have hb13 := below_then hb12 hb3
                  replace hol := owns_below hol hb13
                  replace how := owns_below how hb13
                  have hsz3 := hbW.size
                  clear hb3 hrl hrw hb12 hb13 hb1 hb hsz
                  have hr1 := row_new wr [.bool ((k : Int) % 3 == 0)] 4 1 rfl (by decide)
                  go_wp2_with (at_builtin; refine wpList_app rfl (.tmp 61) (.tmp 65) 22 rfl w.heap.size 4 (.bool false) 1 Try.underlying22 info_bool rfl rfl (hol.alloc _) rfl hr1 ?k0 ?k1 ?k2 ?k3 ?_)
                  case k0 => first | rfl | (intro u hu; simp at hu; subst hu; rfl)
                  case k1 => simp [maxLen]; omega
                  case k2 => first | omega | (simp; omega)
                  case k3 => first | omega | (simp; omega)
                  intro v5 w5 ho5 hg5
                  have hb5 := (hbW.alloc hsz3 (.cells #[.bool ((k : Int) % 3 == 0)] 4)).grown hg5 (by simp; omega) (fun k hk => (hol.lt k hk).1)
                  have how5 := (how.alloc (.cells #[.bool ((k : Int) % 3 == 0)] 4)).kept hg5 (owns_apart how hol (by decide))
                  clear hol how hbW hr1 hg5
                  obtain ⟨x, hx⟩ := wrap_wV ((k : Int) * (k : Int) * 77)
                  have HX : Hid (Value.int .u16 ((k : Int) * (k : Int) * 77 % 65536) = wV x) := hx
                  clear hx
                  have hkk : 0 ≤ (k : Int) * (k : Int) ∧ (k : Int) * (k : Int) ≤ 1600 := by
                    have h1 : k * k ≤ 40 * 40 := Nat.mul_le_mul hk hk
                    have e : (k : Int) * (k : Int) = ((k * k : Nat) : Int) := by rw [Int.natCast_mul]
                    rw [e]
                    generalize k * k = q at h1
                    exact ⟨by omega, by omega⟩
                  obtain ⟨hkk1, hkk2⟩ := hkk
                  have hsz5 := hb5.size
                  have hr6 := row_new w5 [.int .u16 ((k : Int) * (k : Int) * 77 % 65536)] 27 1 rfl (by decide)
                  go_wp2_with (at_builtin; refine wpList_app rfl (.tmp 67) (.tmp 73) 23 rfl w.heap.size 27 (.int .u16 0) 2 Try.underlying23 info_u16 rfl rfl (how5.alloc _) rfl hr6 ?j0 ?j1 ?j2 ?j3 ?_)
                  case j0 => first | rfl | (intro u hu; simp at hu; subst hu; rfl)
                  case j1 => simp [maxLen]; omega
                  case j2 => first | omega | (simp; omega)
                  case j3 => first | omega | (simp; omega)
                  intro v7 w7 ho7 hg7
                  have hb7 := (hb5.alloc hsz5 (.cells #[.int .u16 ((k : Int) * (k : Int) * 77 % 65536)] 27)).grown hg7 (by simp; omega) (fun k hk => (how5.lt k hk).1)
                  have ho57 := (ho5.alloc (.cells #[.int .u16 ((k : Int) * (k : Int) * 77 % 65536)] 27)).kept hg7 (owns_apart ho5 how5 (by decide))
                  clear ho5 how5 hr6 hg7 hb5
                  go_wp2
                  go_roundw
                  case rel =>
                    refine ⟨k + 1, L ++ [((k : Int) % 3 == 0)], W ++ [x], by omega, by go_num, ?_, ?_, ?_, ?_, hb7⟩
                    · have := HL.out.1; simp; omega
                    · have := HL.out.2; simp; omega
                    · simpa using ho57
                    · rw [HX.out] at ho7
                      simpa using ho7
                  case measure => simp [intOf]; omega
    · have hk40 : ¬ (k : Int) < 40 := by omega
      clear hol how hL hW
      have hg0 := Blk.new wr 3 ([-9223372036854775808, 9223372036854775807, 4294967296, 65535, 65536].map (Value.int .i64))
      have hb0 : Below wr.heap.size wr (wr.alloc (.cells ([-9223372036854775808, 9223372036854775807, 4294967296, 65535, 65536].map (Value.int .i64)).toArray 3)) := (Below.refl _ _).alloc (Nat.le_refl _) _
      have hbW := below_then hb hb0
      go_wp2
      obtain ⟨wo, hwo⟩ : ∃ u : World, u = wr.alloc (.cells ([-9223372036854775808, 9223372036854775807, 4294967296, 65535, 65536].map (Value.int .i64)).toArray 3) := ⟨_, rfl⟩
      rw [← hwo] at hg0 hbW
      have hwo' := hwo
      simp only [List.map_cons, List.map_nil] at hwo'
      rw [← hwo']
      clear hwo hwo' hb0
      obtain ⟨g, hg⟩ : ∃ g, wr.heap.size = g := ⟨_, rfl⟩
      rw [hg] at hg0 ⊢
      clear hg hb
      go_loopw [77] (fun i w3 => ∃ j : Nat, j ≤ 5 ∧ i = .int .i64 j ∧ Below wo.heap.size wo w3) (fun i _ => 5 - (intOf i).toNat)
      case atStart => exact ⟨0, by omega, rfl, Below.refl _ _⟩
      case round =>
        obtain ⟨j, hj, rfl, hb1⟩ := hrel
        by_cases hjl : j < 5
        · have hjl' : (j : Int) < 5 := by omega
          have cj := (hg0.below hb1 hg0.lt).cell j
          obtain ⟨m, hm, hm1, hm2⟩ : ∃ m : Int, ([-9223372036854775808, 9223372036854775807, 4294967296, 65535, 65536].map (Value.int .i64))[j]? = some (Value.int .i64 m) ∧ -9223372036854775808 ≤ m ∧ m ≤ 9223372036854775807 := by
            match j, hjl with
            | 0, _ => exact ⟨_, rfl, by decide, by decide⟩
            | 1, _ => exact ⟨_, rfl, by decide, by decide⟩
            | 2, _ => exact ⟨_, rfl, by decide, by decide⟩
            | 3, _ => exact ⟨_, rfl, by decide, by decide⟩
            | 4, _ => exact ⟨_, rfl, by decide, by decide⟩
          rw [hm] at cj
          clear hm
          have hr0 := row_new wr [.int .u8 1, .int .u8 2, .int .u8 3] 5 3 rfl (by decide)
          go_wp2_with fail
          refine (same_any _ _ _ [1, 2, 3] m m [] [] _ ⟨hm1, hm2⟩ ⟨hm1, hm2⟩ hr0 (Row.nil _) (Row.nil _) (by decide) (by decide) (by decide)).mono ?_
          rintro e w4 ⟨rfl, hb4⟩
          replace hb4 := below_step hb1 hb4
          clear hr0
          go_wp2
          go_roundw
          case rel => exact ⟨j + 1, by omega, by go_num, hb4⟩
          case measure => simp [intOf]; omega
        · have hjl' : ¬ (j : Int) < 5 := by omega
          go_wp2_with fail
          refine (known_any _).mono ?_
          rintro e w5 ⟨rfl, hb5⟩
          go_wp2
          go_ret
          exact ⟨rfl, below_then (below_then hbW hb1) hb5⟩

end Go.Proofs.Ytgoiokbeohbdnaa
