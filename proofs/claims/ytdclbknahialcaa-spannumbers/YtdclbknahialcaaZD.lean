/- The walk of burgagelaw7.SpanNumbers. -/
import Derived.Test.YtdclbknahialcaaZC
namespace Go.Proofs.Ytdclbknahialcaa
open Go.RowKit

def lA : List Int := [2147483647, 2147483648, 2147483649, 9223372036854775807, -9223372036854775808]
def lB : List Int := [0, 1, 2, 2147483648, 9223372036854775807]
theorem lA_ok : ∀ j, i64 (lA.getD j 0) := by
  intro j
  match j with
  | 0 => unfold i64 lA; simp
  | 1 => unfold i64 lA; simp
  | 2 => unfold i64 lA; simp
  | 3 => unfold i64 lA; simp
  | 4 => unfold i64 lA; simp
  | j + 5 => unfold i64 lA; simp
theorem lB_ok : ∀ j, i64 (lB.getD j 0) := by
  intro j
  match j with
  | 0 => unfold i64 lB; simp
  | 1 => unfold i64 lB; simp
  | 2 => unfold i64 lB; simp
  | 3 => unfold i64 lB; simp
  | 4 => unfold i64 lB; simp
  | j + 5 => unfold i64 lB; simp
theorem okl_one {a n : Int} (h1 : i64 a) (h2 : i64 n) : OkL [(a, n)] := fun x hx => by simp at hx; subst hx; exact ⟨h1, h2⟩

set_option maxHeartbeats 8000000 in
theorem numbers_law (w : World) :
    Calls Try.prog 3 #[] w fun e w' => e = .returned (.bool true) ∧ Below w.heap.size w w' := by
  have CS := hidden (fun a n b m t w hn hm ht => same_any a n b m t w hn hm ht)
  have CC := hidden (fun v l a n w hv ho hn hl => covers_any v l a n w hv ho hn hl)
  go_enter Try.func3, Try.ntmps3
  go_wp2
  go_loopw [1] (fun z wr => ∃ x : Int, z = .int .i64 x ∧ -1 ≤ x ∧ x ≤ 6 ∧ Below w.heap.size w wr) (fun z _ => (6 - intOf z).toNat)
  case atStart => exact ⟨-1, rfl, by omega, by omega, Below.refl _ _⟩
  case round =>
    obtain ⟨x, rfl, x0, x1, hb⟩ := hrel
    obtain ⟨wa, hwa⟩ : ∃ wa, wa = wr := ⟨_, rfl⟩
    subst hwa
    by_cases hx : x < 6
    · have kx : -9223372036854775808 ≤ x + 1 ∧ x + 1 ≤ 9223372036854775807 := by omega
      have dx : decide (x < 6) = true := by simpa using hx
      go_wp2
      go_loopw [2] (fun z wr => ∃ y : Int, z = .int .i64 y ∧ -1 ≤ y ∧ y ≤ 5 ∧ Below w.heap.size w wr) (fun z _ => (5 - intOf z).toNat)
      case atStart => exact ⟨-1, rfl, by omega, by omega, hb⟩
      case round =>
        clear hb
        obtain ⟨y, rfl, y0, y1, hb⟩ := hrel
        obtain ⟨wb, hwb⟩ : ∃ wb, wb = wr := ⟨_, rfl⟩
        subst hwb
        by_cases hy : y < 5
        · have ky : -9223372036854775808 ≤ y + 1 ∧ y + 1 ≤ 9223372036854775807 := by omega
          have dy : decide (y < 5) = true := by simpa using hy
          go_wp2
          go_loopw [3] (fun z wr => ∃ u : Int, z = .int .i64 u ∧ -1 ≤ u ∧ u ≤ 6 ∧ Below w.heap.size w wr) (fun z _ => (6 - intOf z).toNat)
          case atStart => exact ⟨-1, rfl, by omega, by omega, hb⟩
          case round =>
            clear hb
            obtain ⟨u, rfl, u0, u1, hb⟩ := hrel
            obtain ⟨wc, hwc⟩ : ∃ wc, wc = wr := ⟨_, rfl⟩
            subst hwc
            by_cases hu : u < 6
            · have ku : -9223372036854775808 ≤ u + 1 ∧ u + 1 ≤ 9223372036854775807 := by omega
              have du : decide (u < 6) = true := by simpa using hu
              go_wp2
              go_loopw [4] (fun z wr => ∃ v : Int, z = .int .i64 v ∧ 0 ≤ v ∧ v ≤ 4 ∧ Below w.heap.size w wr) (fun z _ => (4 - intOf z).toNat)
              case atStart => exact ⟨0, rfl, by omega, by omega, hb⟩
              case round =>
                clear hb
                obtain ⟨v, rfl, v0, v1, hb⟩ := hrel
                by_cases hv : v < 4
                · have kv : -9223372036854775808 ≤ v + 1 ∧ v + 1 ≤ 9223372036854775807 := by omega
                  have kw : -9223372036854775808 ≤ x + v ∧ x + v ≤ 9223372036854775807 := by omega
                  have dv : decide (v < 4) = true := by simpa using hv
                  go_wp2_with fail
                  refine (CS.out x y u v (x + v) _ (by unfold i64; omega) (by unfold i64; omega) kw).mono ?_
                  rintro e w5 ⟨rfl, B5⟩
                  replace B5 := below_then hb B5
                  go_wp2
                  go_roundw
                  case rel => exact ⟨v + 1, rfl, by omega, by omega, B5⟩
                  case measure => simp [intOf]; omega
                · have dv : decide (v < 4) = false := by simpa using hv
                  go_wp2
                  go_roundw
                  case rel => exact ⟨u + 1, rfl, by omega, by omega, hb⟩
                  case measure => simp [intOf]; omega
            · have du : decide (u < 6) = false := by simpa using hu
              go_wp2
              go_roundw
              case rel => exact ⟨y + 1, rfl, by omega, by omega, hb⟩
              case measure => simp [intOf]; omega
        · have dy : decide (y < 5) = false := by simpa using hy
          go_wp2
          go_roundw
          case rel => exact ⟨x + 1, rfl, by omega, by omega, hb⟩
          case measure => simp [intOf]; omega
    · have dx : decide (x < 6) = false := by simpa using hx
      go_wp2
      have RA := row_new wa (lA.map (Value.int .i64)) 3 5 rfl (by decide)
      have hb1 := hb.alloc hb.size (.cells (lA.map (Value.int .i64)).toArray 3)
      have eA : Hid ((wa.alloc (.cells (lA.map (Value.int .i64)).toArray 3)) = (wa.alloc (.cells #[.int .i64 2147483647, .int .i64 2147483648, .int .i64 2147483649, .int .i64 9223372036854775807, .int .i64 (-9223372036854775808)] 3))) := rfl
      rw [eA.out] at RA hb1
      generalize wa.alloc (.cells #[.int .i64 2147483647, .int .i64 2147483648, .int .i64 2147483649, .int .i64 9223372036854775807, .int .i64 (-9223372036854775808)] 3) = w2 at *
      clear eA hb
      go_loopw [41] (fun z wr => ∃ i : Nat, z = .int .i64 i ∧ i ≤ 5 ∧ Below w2.heap.size w2 wr) (fun z _ => (5 - intOf z).toNat)
      case atStart => exact ⟨0, rfl, by omega, Below.refl _ _⟩
      case round =>
        obtain ⟨i, rfl, i1, hb2⟩ := hrel
        obtain ⟨wc, hwc⟩ : ∃ wc, wc = wr := ⟨_, rfl⟩
        subst hwc
        have si := hb2.size
        by_cases hi : i < 5
        · obtain ⟨-, -, -, hcell⟩ := Row.at (f := Value.int .i64) (xs := lA) (RA.below hb2)
          obtain ⟨b, off, hbo, hcl⟩ := hcell i 0 hi
          simp only [Option.some.injEq, Addr.mk.injEq, and_true] at hbo
          obtain ⟨rfl, rfl⟩ := hbo
          have c0 := hcl i hi
          have on := lA_ok i
          clear hcl hcell
          generalize lA.getD i 0 = n at *
          have hlt' : (i : Int) < 5 := by omega
          rw [Nat.zero_add] at c0
          go_wp2
          have RB := row_new wc (lB.map (Value.int .i64)) 3 5 rfl (by decide)
          have hb3 := (below_then hb1 hb2).alloc (below_then hb1 hb2).size (.cells (lB.map (Value.int .i64)).toArray 3)
          have hb4 := (Below.refl w2.heap.size w2).trans (hb2.alloc hb2.size (.cells (lB.map (Value.int .i64)).toArray 3))
          have eB : Hid ((wc.alloc (.cells (lB.map (Value.int .i64)).toArray 3)) = (wc.alloc (.cells #[.int .i64 0, .int .i64 1, .int .i64 2, .int .i64 2147483648, .int .i64 9223372036854775807] 3))) := rfl
          rw [eB.out] at RB hb3 hb4
          generalize wc.alloc (.cells #[.int .i64 0, .int .i64 1, .int .i64 2, .int .i64 2147483648, .int .i64 9223372036854775807] 3) = w3 at *
          generalize wc.heap.size = g3 at *
          clear eB c0
          go_loopw [47] (fun z wr => ∃ j : Nat, z = .int .i64 j ∧ j ≤ 5 ∧ Below w3.heap.size w3 wr) (fun z _ => (5 - intOf z).toNat)
          case atStart => exact ⟨0, rfl, by omega, Below.refl _ _⟩
          case round =>
            obtain ⟨j, rfl, j1, hb5⟩ := hrel
            by_cases hj : j < 5
            · obtain ⟨-, -, -, hcell⟩ := Row.at (f := Value.int .i64) (xs := lB) (RB.below hb5)
              obtain ⟨b, off, hbo, hcl⟩ := hcell j 0 hj
              simp only [Option.some.injEq, Addr.mk.injEq, and_true] at hbo
              obtain ⟨rfl, rfl⟩ := hbo
              have c0 := hcl j hj
              have om := lB_ok j
              clear hcl hcell
              generalize lB.getD j 0 = m at *
              have hltj : (j : Int) < 5 := by omega
              rw [Nat.zero_add] at c0
              go_wp2_with fail
              refine (CS.out n m 2147483647 1 n _ om (by unfold i64; omega) on).mono ?_
              rintro e w5 ⟨rfl, B5⟩
              replace B5 := below_then hb5 B5
              go_wp2_with fail
              refine (CS.out m n 0 2147483648 n _ on (by unfold i64; omega) on).mono ?_
              rintro e w6 ⟨rfl, B6⟩
              replace B6 := below_then B5 B6
              have SL1 := hidden (sps_lit w6 24 [(m, n)] 1 rfl (by decide))
              go_wp2_with fail
              refine (CC.out _ [(m, n)] 1 1 _ ?sl (okl_one om on) (by unfold i64; omega) (by simp)).mono ?_
              case sl => simpa [scs] using SL1.out
              rintro e w7 ⟨rfl, B7⟩
              replace B7 := below_step B6 B7
              go_wp2
              go_roundw
              case rel => exact ⟨j + 1, by go_num, by omega, B7⟩
              case measure => simp [intOf]; omega
            · have hnj : ¬ (j : Int) < 5 := by omega
              have dj : decide ((j : Int) < 5) = false := by simpa using hnj
              have hb6 := hb4.trans (hb5.mono hb4.size)
              go_wp2
              go_roundw
              case rel => exact ⟨i + 1, by go_num, by omega, hb6⟩
              case measure => simp [intOf]; omega
        · have hni : ¬ (i : Int) < 5 := by omega
          have di : decide ((i : Int) < 5) = false := by simpa using hni
          have hb7 := below_then hb1 hb2
          clear hb1 hb2 RA si
          go_wp2
          obtain ⟨w9, hw9⟩ : ∃ w9, w9 = wc := ⟨_, rfl⟩
          subst hw9
          go_loopw [9] (fun z wr => ∃ k : Int, z = .int .i64 k ∧ 0 ≤ k ∧ k ≤ 200 ∧ Below w.heap.size w wr) (fun z _ => (200 - intOf z).toNat)
          case atStart => exact ⟨0, rfl, by omega, by omega, hb7⟩
          case round =>
            clear hb7
            obtain ⟨k, rfl, k0, k1, hb⟩ := hrel
            obtain ⟨wd, hwd⟩ : ∃ wd, wd = wr := ⟨_, rfl⟩
            subst hwd
            by_cases hk : k < 200
            · have kk : -9223372036854775808 ≤ k + 1 ∧ k + 1 ≤ 9223372036854775807 := by omega
              have dk : decide (k < 200) = true := by simpa using hk
              go_wp2
              go_loopw [10, 11] (fun z10 z11 wr => ∃ (i : Int) (l : SL) (vo : Value), vo = z10 ∧ z11 = .int .i64 i ∧ 0 ≤ i ∧ i ≤ 5 ∧ (l.length : Int) = i ∧ OkL l ∧ wr.ownsRow w.heap.size 24 2 vo l.length (scs l) ∧ Below w.heap.size w wr) (fun _ z _ => (5 - intOf z).toNat)
              case atStart => exact ⟨0, [], _, rfl, rfl, by omega, by omega, rfl, okl_nil, owns_nilS _ _ _, hb⟩
              case round =>
                clear hb
                obtain ⟨i, l, vo, hvo, rfl, i0, i1, hl, ol, own, hb⟩ := hrel
                subst hvo
                have t5 : (k) % 5 < 5 := by omega
                by_cases hi : i < k % 5
                · have di : decide (i < k % 5) = true := by simpa using hi
                  have hsq : 0 ≤ i * i ∧ i * i ≤ 25 := by
                    have : i = 0 ∨ i = 1 ∨ i = 2 ∨ i = 3 ∨ i = 4 ∨ i = 5 := by omega
                    rcases this with rfl | rfl | rfl | rfl | rfl | rfl <;> decide
                  have k2 : -9223372036854775808 ≤ i + 1 ∧ i + 1 ≤ 9223372036854775807 := by omega
                  have k3 : -9223372036854775808 ≤ i * i ∧ i * i ≤ 9223372036854775807 := by omega
                  have k4 : -9223372036854775808 ≤ i * i * 3 ∧ i * i * 3 ≤ 9223372036854775807 := by omega
                  have k5 : -9223372036854775808 ≤ i * i * 3 + k ∧ i * i * 3 + k ≤ 9223372036854775807 := by omega
                  have k5' : 0 ≤ i * i * 3 + k := by omega
                  have k7' : 0 ≤ i * 7 + k := by omega
                  have k6 : -9223372036854775808 ≤ i * 7 ∧ i * 7 ≤ 9223372036854775807 := by omega
                  have k7 : -9223372036854775808 ≤ i * 7 + k ∧ i * 7 + k ≤ 9223372036854775807 := by omega
                  have p1 : (i * i * 3 + k) % 11 < 11 := by omega
                  have p2 : 0 ≤ (i * i * 3 + k) % 11 := by omega
                  have q1 : (i * 7 + k) % 6 < 6 := by omega
                  have q2 : 0 ≤ (i * 7 + k) % 6 := by omega
                  have k8 : -9223372036854775808 ≤ 1 + (i * 7 + k) % 6 ∧ 1 + (i * 7 + k) % 6 ≤ 9223372036854775807 := by omega
                  have OL : Hid (OkL (l ++ [((i * i * 3 + k) % 11, 1 + (i * 7 + k) % 6)])) := by
                    intro x hx
                    rcases List.mem_append.1 hx with h | h
                    · exact ol x h
                    · simp only [List.mem_singleton] at h
                      subst h
                      unfold i64
                      simp only
                      omega
                  have E1 := (Below.refl wr.heap.size wr).alloc (Nat.le_refl _) (.cells #[.int .i64 ((i * i * 3 + k) % 11), .int .i64 (1 + (i * 7 + k) % 6)] 24)
                  have HO := hidden (owns_belowS own E1)
                  have HB := hidden (below_then hb E1)
                  have HL := hidden own.lt
                  have hsz := hb.size
                  have hll : l.length ≤ 5 := by omega
                  have HLL := hidden hl
                  clear E1 own hb hl ol
                  go_wp2_with (at_builtin; refine wpList_pushS (l := l) (v := vo) rfl (.tmp 88) (.tmp 103) 27 24 rfl w.heap.size Try.underlying27 info_sp rfl HO.out _ 1 ((i * i * 3 + k) % 11) (1 + (i * 7 + k) % 6) rfl ?q1 ?q2 ?q3 ?q4)
                  case q1 => exact Bx.new _ _ _ _
                  case q2 => omega
                  case q3 => simp; omega
                  case q4 =>
                    intro v' w8 own8 gr8 ob8
                    have B8 := HB.out.grown gr8 (by simp; omega) (fun k hk => (HL.out k hk).1)
                    clear gr8 ob8
                    have HLN : Hid (((l ++ [((i * i * 3 + k) % 11, 1 + (i * 7 + k) % 6)]).length : Int) = i + 1) := by
                      have := HLL.out
                      show _ = _
                      simp
                      omega
                    have HLM : Hid (l.length + 1 = (l ++ [((i * i * 3 + k) % 11, 1 + (i * 7 + k) % 6)]).length) := by show _ = _; simp
                    generalize l ++ [((i * i * 3 + k) % 11, 1 + (i * 7 + k) % 6)] = l2 at *
                    go_wp2
                    go_roundw
                    case rel => exact ⟨i + 1, l2, _, rfl, rfl, by omega, by omega, HLN.out, OL.out, (by rw [← HLM.out]; exact own8), B8⟩
                    case measure => simp [intOf]; omega
                · have di : decide (i < k % 5) = false := by simpa using hi
                  have p1 : (k) % 7 < 7 := by omega
                  have p2 : 0 ≤ (k) % 7 := by omega
                  have q1 : (k) % 9 < 9 := by omega
                  have q2 : 0 ≤ (k) % 9 := by omega
                  have k8 : -9223372036854775808 ≤ 1 + k % 9 ∧ 1 + k % 9 ≤ 9223372036854775807 := by omega
                  have hll : l.length ≤ 5 := by omega
                  have sp := Sps.of_owns own
                  clear own hl
                  go_wp2_with fail
                  refine (CC.out _ l (k % 7) (1 + k % 9) _ sp ol k8 (by omega)).mono ?_
                  rintro e w8 ⟨rfl, B8⟩
                  replace B8 := below_then hb B8
                  go_wp2
                  go_roundw
                  case rel => exact ⟨k + 1, rfl, by omega, by omega, B8⟩
                  case measure => simp [intOf]; omega
            · have dk : decide (k < 200) = false := by simpa using hk
              go_wp2_with fail
              refine (known_any _).mono ?_
              rintro e w8 ⟨rfl, B8⟩
              replace B8 := below_then hb B8
              go_wp2
              go_ret
              exact ⟨rfl, B8⟩

end Go.Proofs.Ytdclbknahialcaa
