/- Contracts of burgageref11's slot, meet, windows. -/
import Derived.Test.YtffjhimdamdenaaBC
namespace Go.Proofs.Ytffjhimdamdenaa
open Go.RowKit

theorem rslot_any (p n fr : Int) (w : World) (hn : i64 n) (hf : i64 fr) :
    Calls Try.prog 39 #[spV p n, .int .i64 fr] w fun e w' => e = .returned (.bool (decide (72 ≤ n) && okR p n fr)) ∧ Below w.heap.size w w' := by
  unfold i64 at hn hf
  have W0 := hidden (fun o => (Below.refl w.heap.size w).alloc (Nat.le_refl _) o)
  by_cases h1 : 0 ≤ p
  · by_cases h2 : 72 ≤ n
    · rw [decide_eq_true h2, Bool.true_and]
      by_cases h3 : p ≤ fr
      · by_cases h4 : n ≤ fr - p
        · rw [okR_t ⟨h1, by omega, h3, h4⟩]
          go_enter Try.func39, Try.ntmps39
          go_wp2
          go_ret
          exact ⟨rfl, W0.out _⟩
        · rw [okR_f (by omega)]
          go_enter Try.func39, Try.ntmps39
          go_wp2
          go_ret
          exact ⟨rfl, W0.out _⟩
      · rw [okR_f (by omega)]
        go_enter Try.func39, Try.ntmps39
        go_wp2
        go_ret
        exact ⟨rfl, W0.out _⟩
    · rw [decide_eq_false h2, Bool.false_and]
      go_enter Try.func39, Try.ntmps39
      go_wp2
      go_ret
      exact ⟨rfl, W0.out _⟩
  · rw [okR_f (by omega), Bool.and_false]
    go_enter Try.func39, Try.ntmps39
    go_wp2
    go_ret
    exact ⟨rfl, W0.out _⟩

theorem twoS (w : World) (p q a b : Int) : Bx ((w.alloc (boxS p q)).alloc (boxS a b)) w.heap.size 48 p q ∧ Bx ((w.alloc (boxS p q)).alloc (boxS a b)) (w.heap.size + 1) 48 a b ∧ Below w.heap.size w ((w.alloc (boxS p q)).alloc (boxS a b)) := by
  refine ⟨(Bx.new w _ p q).alloc _, ?_, ((Below.refl w.heap.size w).alloc (Nat.le_refl _) _).alloc (by simp) _⟩
  have := Bx.new (w.alloc (boxS p q)) 48 a b
  simpa using this
set_option maxHeartbeats 1000000 in
theorem rmeetS_any (p q a b : Int) (w : World) (hq : i64 q) (hb : i64 b) :
    Calls Try.prog 41 #[spV p q, spV a b] w fun e w' => e = .returned (.bool (mE (p, q) (a, b))) ∧ Below w.heap.size w w' := by
  obtain ⟨X, Y, B⟩ := twoS w p q a b
  have M := hidden (fun w => rmeet_any p q a b w hq hb)
  show Calls _ _ _ _ fun e w' => e = .returned (.bool (meetE p q a b)) ∧ Below w.heap.size w w'
  generalize meetA p q a b = ma at *
  generalize meetN p q a b = mn at *
  generalize meetE p q a b = me at *
  obtain ⟨p0, p1⟩ := X.cells2
  obtain ⟨q0, q1⟩ := Y.cells2
  go_enter Try.func41, Try.ntmps41
  go_wp2_with fail
  refine (M.out _).mono ?_
  rintro e w1 ⟨rfl, B1⟩
  have hb1 := below_then B B1
  have HB := (hb1.alloc hb1.size (.cells #[.int .i64 ma, .int .i64 mn] 85))
  clear p0 p1 q0 q1 M X Y B B1
  go_wp2
  go_ret
  exact ⟨rfl, HB⟩

set_option maxHeartbeats 4000000 in
theorem rwindows_any (vl : Value) (l : WL) (w : World) (hl : Wns w vl l) (ho : OkW l) (_hn : l.length ≤ 1000) :
    Calls Try.prog 38 #[vl] w fun e w' => e = .returned (.bool (wsB l)) ∧ Below w.heap.size w w' := by
  have HL := hidden hl
  obtain ⟨a, cap, rfl, -⟩ := id hl
  obtain ⟨-, hc, hm, -⟩ := hl.at
  unfold maxLen at hm
  have OL := hidden ho
  have OW := hidden (fun w' (h : Wns w' (.slice a l.length cap) l) => rown_any _ l w' h ho)
  obtain ⟨Z, hZ⟩ : ∃ Z, wsB l = Z := ⟨_, rfl⟩
  rw [hZ]
  have HZ : Hid ((l.all wR && ownB l) = Z) := hZ
  generalize ownB l = ow at *
  clear hl ho hZ _hn
  go_enter Try.func38, Try.ntmps38
  go_wp2
  go_loopw [7] (fun i wr => ∃ k : Nat, k ≤ l.length ∧ i = .int .i64 k ∧ Hid ((l.take k).all wR = true) ∧ Below w.heap.size w wr) (fun i _ => l.length - (intOf i).toNat)
  case atStart => exact ⟨0, Nat.zero_le _, rfl, hidden rfl, Below.refl _ _⟩
  case round =>
    obtain ⟨k, hk, rfl, HE, hb⟩ := hrel
    by_cases hlt : k < l.length
    · obtain ⟨⟨s, v, p, n⟩, hx⟩ := getx hlt
      obtain ⟨b, off, rfl, c0, c1, c2, c3⟩ := (HL.out.ext hb).wn hx
      have hlt' : (k : Int) < (l.length : Int) := by omega
      have HS := hidden (all_snoc hx wR)
      have HT := hidden (all_miss hx wR)
      have R := hidden (fun w => rwindow_any s v p n w (OL.out.at hx).2.2.2)
      generalize wR (s, v, p, n) = ok at *
      have x2 := BxW.new wr s v p n
      have hb0 := hb.alloc hb.size (boxW s v p n)
      obtain ⟨q0, q1, q2, q3⟩ := x2.cells
      go_wp2_with fail
      refine (R.out _).mono ?_
      rintro e w1 ⟨rfl, B1⟩
      replace hb0 := below_then hb0 B1
      clear q0 q1 q2 q3 c0 c1 c2 c3
      cases ok
      · have E2 : Z = false := by rw [← HZ.out, HT.out rfl]; rfl
        subst E2
        go_wp2
        go_ret
        exact ⟨rfl, hb0⟩
      · have E2 : Hid ((l.take (k + 1)).all wR = true) := by
          show _ = _
          rw [HS.out, HE.out]; rfl
        go_wp2
        go_roundw
        case rel => exact ⟨k + 1, by omega, by go_num, E2, hb0⟩
        case measure => simp [intOf]; omega
    · have e : l.take k = l := List.take_of_length_le (by omega)
      rw [e] at HE
      have E2 : Z = ow := by rw [← HZ.out, HE.out]; rfl
      subst E2
      go_wp2_with fail
      refine (OW.out _ (HL.out.ext hb)).mono ?_
      rintro e w1 ⟨rfl, B1⟩
      replace hb := below_then hb B1
      go_wp2
      go_ret
      exact ⟨rfl, hb⟩

end Go.Proofs.Ytffjhimdamdenaa
