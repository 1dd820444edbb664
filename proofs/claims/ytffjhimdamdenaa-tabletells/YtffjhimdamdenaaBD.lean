/- Contracts of slices.Equal of windows and of slots, of table.Same, slices.EqualFunc, table.Equal. -/
import Derived.Test.YtffjhimdamdenaaBC
import Derived.BigQuiet
namespace Go.Proofs.Ytffjhimdamdenaa
open Go.RowKit

theorem drewN2 (w : World) (a b : Nat) : (w.drewN a).drewN b = w.drewN (a + b) := by simp [World.drewN, Nat.add_assoc]
theorem ne_of_take {α : Type} {p q : List α} {k : Nat} {x y : α} (hx : p[k]? = some x) (hy : q[k]? = some y) (h : ¬ x = y) : ¬ p = q := by
  intro e
  rw [e, hy] at hx
  exact h (Option.some.inj hx).symm
theorem eq_take {α : Type} {p q : List α} {k : Nat} {x : α} (hx : p[k]? = some x) (hy : q[k]? = some x) (h : p.take k = q.take k) : p.take (k + 1) = q.take (k + 1) := by
  rw [take_snoc hx, take_snoc hy, h]
theorem decF {p : Prop} [Decidable p] (h : ¬ p) : decide p = false := decide_eq_false h

set_option maxHeartbeats 4000000 in
theorem eqW (u v : Value) (p q : WL) (w : World) (hu : Wns w u p) (hv : Wns w v q) :
    Calls Try.prog 28 #[u, v] w fun e w' => e = .returned (.bool (decide (p = q))) ∧ ∃ nq, w' = w.drewN nq := by
  have HU := hidden hu
  have HV := hidden hv
  obtain ⟨a, cap, rfl, -⟩ := id hu
  obtain ⟨a2, cap2, rfl, -⟩ := id hv
  obtain ⟨-, hc, hm, -⟩ := hu.at
  obtain ⟨-, hc2, hm2, -⟩ := hv.at
  unfold maxLen at hm hm2
  obtain ⟨Z, hZ⟩ : ∃ Z, decide (p = q) = Z := ⟨_, rfl⟩
  rw [hZ]
  have HZ := hidden hZ
  clear hu hv hZ
  by_cases hlen : p.length = q.length
  · have ht : ((p.length : Int) != (q.length : Int)) = false := by simp; omega
    have HL := hidden hlen
    clear hlen
    go_enter Try.func28, Try.ntmps28
    go_wp2
    go_loopw [13] (fun i wr => ∃ k : Nat, k ≤ p.length ∧ i = .int .i64 k ∧ Hid (p.take k = q.take k) ∧ ∃ nq, wr = w.drewN nq) (fun i _ => p.length - (intOf i).toNat)
    case atStart => exact ⟨0, Nat.zero_le _, rfl, hidden rfl, 0, rfl⟩
    case round =>
      obtain ⟨k, hk, rfl, HE, nr, rfl⟩ := hrel
      by_cases hlt : k < p.length
      · have hlt2 : k < q.length := by have := HL.out; omega
        obtain ⟨⟨x1, x2, x3, x4⟩, hx⟩ := getx hlt
        obtain ⟨⟨y1, y2, y3, y4⟩, hy⟩ := getx hlt2
        obtain ⟨b, off, rfl, c0, c1, c2, c3⟩ := HU.out.wn hx
        obtain ⟨b2, off2, rfl, e0, e1, e2, e3⟩ := HV.out.wn hy
        have hlt' : (k : Int) < (p.length : Int) := by omega
        have hlt2' : (k : Int) < (q.length : Int) := by omega
        have HX := hidden hx
        have HY := hidden hy
        clear hx hy
        by_cases h1 : x1 = y1
        · subst h1
          by_cases h2 : x2 = y2
          · subst h2
            by_cases h3 : x3 = y3
            · subst h3
              by_cases h4 : x4 = y4
              · subst h4
                have E2 := hidden (eq_take HX.out HY.out HE.out)
                go_wp2
                go_quiet (fail)
                go_wp2
                go_roundw
                case rel => exact ⟨k + 1, by omega, by go_num, E2, _, rfl⟩
                case measure => simp [intOf]; omega
              · have E2 : Z = false := by rw [← HZ.out]; exact decF (ne_of_take HX.out HY.out (by simp [h4]))
                have d : (x4 == y4) = false := by simpa using h4
                subst E2
                go_wp2
                go_quiet (fail)
                go_wp2
                go_ret
                first | exact ⟨rfl, _, rfl⟩ | exact ⟨rfl, _, drewN2 _ _ _⟩
            · have E2 : Z = false := by rw [← HZ.out]; exact decF (ne_of_take HX.out HY.out (by simp [h3]))
              have d : (x3 == y3) = false := by simpa using h3
              subst E2
              go_wp2
              go_quiet (fail)
              go_wp2
              go_ret
              first | exact ⟨rfl, _, rfl⟩ | exact ⟨rfl, _, drewN2 _ _ _⟩
          · have E2 : Z = false := by rw [← HZ.out]; exact decF (ne_of_take HX.out HY.out (by simp [h2]))
            have d : (x2 == y2) = false := by simpa using h2
            subst E2
            go_wp2
            go_quiet (fail)
            go_wp2
            go_ret
            first | exact ⟨rfl, _, rfl⟩ | exact ⟨rfl, _, drewN2 _ _ _⟩
        · have E2 : Z = false := by rw [← HZ.out]; exact decF (ne_of_take HX.out HY.out (by simp [h1]))
          have d : (x1 == y1) = false := by simpa using h1
          subst E2
          go_wp2
          go_quiet (fail)
          go_wp2
          go_ret
          first | exact ⟨rfl, _, rfl⟩ | exact ⟨rfl, _, drewN2 _ _ _⟩
      · have E2 : Z = true := by
          have e := HE.out
          have hL := HL.out
          rw [List.take_of_length_le (by omega), List.take_of_length_le (by omega)] at e
          rw [← HZ.out]
          exact decide_eq_true e
        subst E2
        go_wp2
        go_ret
        first | exact ⟨rfl, _, rfl⟩ | exact ⟨rfl, _, drewN2 _ _ _⟩
  · have ht : ((p.length : Int) != (q.length : Int)) = true := by simp; omega
    have E2 : Z = false := by rw [← HZ.out]; exact decF (fun h => hlen (by rw [h]))
    subst E2
    clear hlen
    go_enter Try.func28, Try.ntmps28
    go_wp2
    go_ret
    exact ⟨rfl, 0, rfl⟩

set_option maxHeartbeats 4000000 in
theorem eqS (u v : Value) (p q : SL) (w : World) (hu : Sts w u p) (hv : Sts w v q) :
    Calls Try.prog 29 #[u, v] w fun e w' => e = .returned (.bool (decide (p = q))) ∧ ∃ nq, w' = w.drewN nq := by
  have HU := hidden hu
  have HV := hidden hv
  obtain ⟨a, cap, rfl, -⟩ := id hu
  obtain ⟨a2, cap2, rfl, -⟩ := id hv
  obtain ⟨-, hc, hm, -⟩ := hu.at
  obtain ⟨-, hc2, hm2, -⟩ := hv.at
  unfold maxLen at hm hm2
  obtain ⟨Z, hZ⟩ : ∃ Z, decide (p = q) = Z := ⟨_, rfl⟩
  rw [hZ]
  have HZ := hidden hZ
  clear hu hv hZ
  by_cases hlen : p.length = q.length
  · have ht : ((p.length : Int) != (q.length : Int)) = false := by simp; omega
    have HL := hidden hlen
    clear hlen
    go_enter Try.func29, Try.ntmps29
    go_wp2
    go_loopw [13] (fun i wr => ∃ k : Nat, k ≤ p.length ∧ i = .int .i64 k ∧ Hid (p.take k = q.take k) ∧ ∃ nq, wr = w.drewN nq) (fun i _ => p.length - (intOf i).toNat)
    case atStart => exact ⟨0, Nat.zero_le _, rfl, hidden rfl, 0, rfl⟩
    case round =>
      obtain ⟨k, hk, rfl, HE, nr, rfl⟩ := hrel
      by_cases hlt : k < p.length
      · have hlt2 : k < q.length := by have := HL.out; omega
        obtain ⟨⟨x1, x2⟩, hx⟩ := getx hlt
        obtain ⟨⟨y1, y2⟩, hy⟩ := getx hlt2
        obtain ⟨b, off, rfl, c0, c1⟩ := HU.out.st hx
        obtain ⟨b2, off2, rfl, e0, e1⟩ := HV.out.st hy
        have hlt' : (k : Int) < (p.length : Int) := by omega
        have hlt2' : (k : Int) < (q.length : Int) := by omega
        have HX := hidden hx
        have HY := hidden hy
        clear hx hy
        by_cases h1 : x1 = y1
        · subst h1
          by_cases h2 : x2 = y2
          · subst h2
            have E2 := hidden (eq_take HX.out HY.out HE.out)
            go_wp2
            go_quiet (fail)
            go_wp2
            go_roundw
            case rel => exact ⟨k + 1, by omega, by go_num, E2, _, rfl⟩
            case measure => simp [intOf]; omega
          · have E2 : Z = false := by rw [← HZ.out]; exact decF (ne_of_take HX.out HY.out (by simp [h2]))
            have d : (x2 == y2) = false := by simpa using h2
            subst E2
            go_wp2
            go_quiet (fail)
            go_wp2
            go_ret
            first | exact ⟨rfl, _, rfl⟩ | exact ⟨rfl, _, drewN2 _ _ _⟩
        · have E2 : Z = false := by rw [← HZ.out]; exact decF (ne_of_take HX.out HY.out (by simp [h1]))
          have d : (x1 == y1) = false := by simpa using h1
          subst E2
          go_wp2
          go_quiet (fail)
          go_wp2
          go_ret
          first | exact ⟨rfl, _, rfl⟩ | exact ⟨rfl, _, drewN2 _ _ _⟩
      · have E2 : Z = true := by
          have e := HE.out
          have hL := HL.out
          rw [List.take_of_length_le (by omega), List.take_of_length_le (by omega)] at e
          rw [← HZ.out]
          exact decide_eq_true e
        subst E2
        go_wp2
        go_ret
        first | exact ⟨rfl, _, rfl⟩ | exact ⟨rfl, _, drewN2 _ _ _⟩
  · have ht : ((p.length : Int) != (q.length : Int)) = true := by simp; omega
    have E2 : Z = false := by rw [← HZ.out]; exact decF (fun h => hlen (by rw [h]))
    subst E2
    clear hlen
    go_enter Try.func29, Try.ntmps29
    go_wp2
    go_ret
    exact ⟨rfl, 0, rfl⟩

end Go.Proofs.Ytffjhimdamdenaa
