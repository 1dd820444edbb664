/- Contract of burgagelaw7.covers. -/
import Derived.Test.YtdclbknahialcaaZ9
namespace Go.Proofs.Ytdclbknahialcaa
open Go.RowKit

theorem take_push {l : SL} {k : Nat} (hk : k < l.length) : l.take (k + 1) = l.take k ++ [((l.getD k (0, 0)).1, (l.getD k (0, 0)).2)] := by
  rw [List.getD_eq_getElem?_getD, List.getElem?_eq_getElem hk, Option.getD_some]
  exact List.take_succ_eq_append_getElem hk

set_option maxHeartbeats 4000000 in
theorem covers_any (v : Value) (l : SL) (a n : Int) (w : World) (hv : Sps w v l) (ho : OkL l) (hn : i64 n) (hlen : l.length ≤ 1000000) :
    Calls Try.prog 8 #[v, spV a n] w fun e w' => e = .returned (.bool true) ∧ Below w.heap.size w w' := by
  obtain ⟨av, cap, rfl, -⟩ := id hv
  obtain ⟨hl, hc, hm, -⟩ := hv.at
  unfold maxLen at hm
  have B1 := hidden (Bx.new w 24 a n)
  have W1 := hidden (fun o => (Below.refl w.heap.size w).alloc (Nat.le_refl _) o)
  go_enter Try.func8, Try.ntmps8
  go_wp2
  go_loopw [5, 15] (fun z5 i wr => ∃ (k : Nat) (vo : Value), vo = z5 ∧ k ≤ l.length ∧ i = .int .i64 k ∧ wr.ownsRow (w.heap.size + 1) 37 2 vo (l.take k).length (scs (l.take k)) ∧ Bx wr w.heap.size 24 a n ∧ Below w.heap.size w wr) (fun _ i _ => l.length - (intOf i).toNat)
  case atStart => exact ⟨0, _, rfl, Nat.zero_le _, rfl, owns_nilS _ _ _, B1.out, W1.out _⟩
  case round =>
    clear B1 W1
    obtain ⟨k, vo, hvo, hk, rfl, own, bx, hb⟩ := hrel
    subst hvo
    by_cases hlt : k < l.length
    · obtain ⟨-, -, -, hcell⟩ := (hv.ext hb).at
      obtain ⟨b, off, rfl, hcl⟩ := hcell k hlt
      obtain ⟨c0, c1⟩ := hcl k hlt
      clear hcl hcell
      have hlt' : (k : Int) < (l.length : Int) := by omega
      have TP := hidden (take_push hlt)
      generalize (l.getD k (0, 0)).1 = x at *
      generalize (l.getD k (0, 0)).2 = y at *
      have E1 := (Below.refl wr.heap.size wr).alloc (Nat.le_refl _) (.cells #[.int .i64 x, .int .i64 y] 24)
      have bx1 := bx.ext E1
      have own1 := owns_belowS own E1
      have wneg : vo.ownBlock ≠ some w.heap.size := fun e => absurd (own.lt _ e).1 (by omega)
      have hb1 := below_then hb E1
      have E2 := (Below.refl (wr.alloc (.cells #[.int .i64 x, .int .i64 y] 24)).heap.size (wr.alloc (.cells #[.int .i64 x, .int .i64 y] 24))).alloc (Nat.le_refl _) (.cells #[.int .i64 x, .int .i64 y] 37)
      have HO := hidden (owns_belowS own1 E2)
      have HX := hidden (bx1.ext E2)
      have HB := hidden (below_then hb1 E2)
      have HL := hidden own.lt
      have hsz := hb.size
      have hsl : (l.take k).length ≤ 1000000 := by simp; omega
      clear E1 E2 own1 bx1 hb1
      generalize hT : l.take k = tl at *
      have HTK := hidden hT
      clear hT
      go_wp2_with (at_builtin; refine wpList_pushS (l := tl) (v := vo) rfl (.tmp 19) (.tmp 25) 43 37 rfl (w.heap.size + 1) Try.underlying43 info_rsp rfl HO.out _ 1 x y rfl ?q1 ?q2 ?q3 ?q4)
      case q1 =>
        have := Bx.new (wr.alloc (.cells #[.int .i64 x, .int .i64 y] 24)) 37 x y
        simpa using this
      case q2 => omega
      case q3 => have := bx.lt; simp; omega
      case q4 =>
        intro v' w8 own8 gr8 ob8
        have bx8 := HX.out.grown gr8 wneg
        have B8 := HB.out.grown gr8 (by simp; omega) (fun k hk => by have := (HL.out k hk).1; omega)
        have HL8 : Hid ((l.take (k + 1)).length = tl.length + 1) := by show _ = _; rw [TP.out]; simp
        rw [← TP.out] at own8
        clear gr8 ob8
        go_wp2
        go_roundw
        case rel => exact ⟨k + 1, _, rfl, by omega, by go_num, (by rw [HL8.out]; exact own8), bx8, B8⟩
        case measure => simp [intOf]; omega
    · have e : l.take k = l := List.take_of_length_le (by omega)
      rw [e] at own
      clear e
      have d0 : decide ((k : Int) < (l.length : Int)) = false := by simp; omega
      obtain ⟨wa, hwa⟩ : ∃ wa, wa = wr := ⟨_, rfl⟩
      subst hwa
      have C1 := hidden (cover_any _ l a n wa (hv.ext hb) ho hn)
      have C2 := hidden (fun w (h : Sps w vo l) => rcover_any vo l a n w h ho hn)
      generalize hr : (covR l a n).isSome = r at *
      generalize hO : (covR l a n).getD [] = o at *
      clear hr hO
      obtain ⟨c1, c2⟩ := bx.cells2
      go_wp2_with fail
      refine C1.out.mono ?_
      rintro e w2 ⟨v8, rfl, own2, B2⟩
      have sp := Sps.of_owns (owns_belowS own B2)
      have s8 := Sps.of_owns own2
      replace bx := bx.ext B2
      replace hb := below_then hb B2
      clear c1 c2
      obtain ⟨c1, c2⟩ := bx.cells2
      clear own2 B2 own
      go_wp2_with fail
      refine (C2.out _ sp).mono ?_
      rintro e w3 ⟨v10, rfl, own3, B3⟩
      replace s8 := s8.ext B3
      have s10 := Sps.of_owns own3
      replace hb := below_then hb B3
      clear c1 c2 own3 B3 sp bx C1 C2
      obtain ⟨a8, cap8, rfl, -⟩ := id s8
      obtain ⟨a10, cap10, rfl, -⟩ := id s10
      obtain ⟨-, hc8, hm8, -⟩ := s8.at
      obtain ⟨-, hc10, hm10, -⟩ := s10.at
      unfold maxLen at hm8 hm10
      go_wp2
      go_loopw [56] (fun i wr => ∃ k : Nat, k ≤ o.length ∧ i = .int .i64 k ∧ Below w3.heap.size w3 wr) (fun i _ => o.length - (intOf i).toNat)
      case atStart => exact ⟨0, Nat.zero_le _, rfl, Below.refl _ _⟩
      case round =>
        obtain ⟨j, hj, rfl, h3⟩ := hrel
        by_cases hlt : j < o.length
        · obtain ⟨-, -, -, hcell⟩ := (s8.ext h3).at
          obtain ⟨b, off, rfl, hcl⟩ := hcell j hlt
          obtain ⟨c0, c1⟩ := hcl j hlt
          clear hcl hcell
          obtain ⟨-, -, -, hcell⟩ := (s10.ext h3).at
          obtain ⟨b2, off2, rfl, hcl⟩ := hcell j hlt
          obtain ⟨e0, e1⟩ := hcl j hlt
          clear hcl hcell
          have hlt' : (j : Int) < (o.length : Int) := by omega
          generalize (o.getD j (0, 0)).1 = x at *
          generalize (o.getD j (0, 0)).2 = y at *
          have nx : (x != x) = false := by simp
          have ny : (y != y) = false := by simp
          go_wp2
          go_quiet (fail)
          go_wp2
          go_roundw
          case rel => exact ⟨j + 1, by omega, by go_num, below_drewn h3 _⟩
          case measure => simp [intOf]; omega
        · go_wp2
          go_ret
          exact ⟨rfl, below_then hb h3⟩

end Go.Proofs.Ytdclbknahialcaa
