/- Contracts of slices.Equal, of burgagebook.Same of lists that are the same, and of store's Same. -/
import Derived.Test.YtdihcdphgiaepaaY4
namespace Go.Proofs.Ytdihcdphgiaepaa
open Go.RowKit

theorem drewN2 (w : World) (a b : Nat) : (w.drewN a).drewN b = w.drewN (a + b) := by simp [World.drewN, Nat.add_assoc]
theorem wne_f {x y : UInt16} (h : x = y) : ((x.toNat : Int) != (y.toNat : Int)) = false := by subst h; simp
theorem wne_t {x y : UInt16} (h : ¬ x = y) : ((x.toNat : Int) != (y.toNat : Int)) = true := by
  simp only [bne_iff_ne, ne_eq]
  intro e
  exact h (UInt16.toNat_inj.1 (by omega))

set_option maxHeartbeats 1000000 in
theorem eqqB (u v : Value) (p q : List Bool) (w : World) (hu : Row w u (p.map Value.bool)) (hv : Row w v (q.map Value.bool)) :
    Calls Try.prog 48 #[u, v] w fun e w' => e = .returned (.bool (p == q)) ∧ ∃ nq, w' = w.drewN nq := by
  obtain ⟨a, cap, rfl, -⟩ := id hu
  obtain ⟨a2, cap2, rfl, -⟩ := id hv
  obtain ⟨hl, hc, hm, -⟩ := hu.at
  obtain ⟨hl2, hc2, hm2, -⟩ := hv.at
  simp only [List.length_map] at hl hc hl2 hc2 hu hv ⊢
  unfold maxLen at hm hm2
  by_cases hlen : p.length = q.length
  · have ht : ((p.length : Int) != (q.length : Int)) = false := by simp; omega
    have HL : Hid (p.length = q.length) := hlen
    clear hlen
    go_enter Try.func48, Try.ntmps48
    go_wp2
    go_loopw [13] (fun i wr => ∃ k : Nat, k ≤ p.length ∧ i = .int .i64 k ∧ p.take k = q.take k ∧ ∃ nq, wr = w.drewN nq) (fun i _ => p.length - (intOf i).toNat)
    case atStart => exact ⟨0, Nat.zero_le _, rfl, rfl, 0, rfl⟩
    case round =>
      obtain ⟨k, hk, rfl, he, nr, rfl⟩ := hrel
      have HE : Hid (p.take k = q.take k) := he
      clear he
      by_cases hlt : k < p.length
      · have hlt2 : k < q.length := by have := HL.out; omega
        obtain ⟨-, -, -, hcell⟩ := hu.at
        obtain ⟨b, off, rfl, hcl⟩ := hcell k false hlt
        obtain ⟨-, -, -, hcell2⟩ := hv.at
        obtain ⟨b2, off2, rfl, hcl2⟩ := hcell2 k false hlt2
        have c0 := hcl k hlt
        have c1 := hcl2 k hlt2
        clear hcl hcell hcl2 hcell2
        have hlt' : (k : Int) < (p.length : Int) := by omega
        have hlt2' : (k : Int) < (q.length : Int) := by omega
        have S1 : Hid (p.take (k + 1) = p.take k ++ [p.getD k false]) := by
          show _ = _; rw [List.take_succ_eq_append_getElem hlt]; simp [hlt]
        have S2 : Hid (q.take (k + 1) = q.take k ++ [q.getD k false]) := by
          show _ = _; rw [List.take_succ_eq_append_getElem hlt2]; simp [hlt2]
        generalize p.getD k false = x at *
        generalize q.getD k false = y at *
        by_cases hxy : x = y
        · subst hxy
          have hne : (x != x) = false := by simp
          go_wp2
          go_quiet (fail)
          go_wp2
          go_roundw
          case rel => exact ⟨k + 1, by omega, by go_num, by rw [S1.out, S2.out, HE.out], _, rfl⟩
          case measure => simp [intOf]; omega
        · have hpq : Hid ((p == q) = false) := by
            show _ = _
            rw [beq_eq_false_iff_ne]
            intro h
            have a1 := S1.out
            have a2 := S2.out
            rw [h, a2] at a1
            simp at a1
            exact hxy a1.symm
          rcases (show (x = true ∧ y = false) ∨ (x = false ∧ y = true) by cases x <;> cases y <;> simp at hxy ⊢) with ⟨rfl, rfl⟩ | ⟨rfl, rfl⟩
          all_goals
            clear hxy
            go_wp2
            go_quiet (fail)
            go_wp2
            go_ret
            exact ⟨ret_bool hpq.out.symm, _, drewN2 _ _ _⟩
      · have h0 : k = p.length := by omega
        subst h0
        have e := HE.out
        rw [List.take_length, HL.out, List.take_length] at e
        have hpq : Hid ((p == q) = true) := by show _ = _; rw [e]; simp
        clear e
        go_wp2
        go_ret
        exact ⟨ret_bool hpq.out.symm, nr, rfl⟩
  · have ht : ((p.length : Int) != (q.length : Int)) = true := by simp; omega
    have hne : (p == q) = false := by
      rw [beq_eq_false_iff_ne]; intro h; exact hlen (by rw [h])
    rw [hne]
    clear hlen hne
    go_enter Try.func48, Try.ntmps48
    go_wp2
    go_ret
    exact ⟨rfl, 0, rfl⟩

set_option maxHeartbeats 1000000 in
theorem booksameB (u v : Value) (p : List Bool) (w : World) (hu : Row w u (p.map Value.bool)) (hv : Row w v (p.map Value.bool)) :
    Calls Try.prog 10 #[u, v] w fun e w' => e = .returned (.bool true) ∧ ∃ nq, w' = w.drewN nq := by
  obtain ⟨a, cap, rfl, -⟩ := id hu
  obtain ⟨a2, cap2, rfl, -⟩ := id hv
  obtain ⟨hl, hc, hm, -⟩ := hu.at
  obtain ⟨hl2, hc2, hm2, -⟩ := hv.at
  simp only [List.length_map] at hl hc hl2 hc2 hu hv ⊢
  unfold maxLen at hm hm2
  go_enter Try.func10, Try.ntmps10
  go_wp2
  go_loopw [5] (fun i wr => ∃ k : Nat, k ≤ p.length ∧ i = .int .i64 k ∧ ∃ nq, wr = w.drewN nq) (fun i _ => p.length - (intOf i).toNat)
  case atStart => exact ⟨0, Nat.zero_le _, rfl, 0, rfl⟩
  case round =>
    obtain ⟨k, hk, rfl, nr, rfl⟩ := hrel
    by_cases hlt : k < p.length
    · obtain ⟨-, -, -, hcell⟩ := hu.at
      obtain ⟨b, off, rfl, hcl⟩ := hcell k false hlt
      obtain ⟨-, -, -, hcell2⟩ := hv.at
      obtain ⟨b2, off2, rfl, hcl2⟩ := hcell2 k false hlt
      have c0 := hcl k hlt
      have c1 := hcl2 k hlt
      clear hcl hcell hcl2 hcell2
      have hlt' : (k : Int) < (p.length : Int) := by omega
      generalize p.getD k false = x at *
      go_wp2
      go_quiet (fail)
      go_wp2
      go_roundw
      case rel => exact ⟨k + 1, by omega, by go_num, _, rfl⟩
      case measure => simp [intOf]; omega
    · go_wp2
      go_ret
      exact ⟨rfl, nr, rfl⟩

set_option maxHeartbeats 1000000 in
theorem eqqV (u v : Value) (p q : List UInt16) (w : World) (hu : Row w u (p.map wV)) (hv : Row w v (q.map wV)) :
    Calls Try.prog 49 #[u, v] w fun e w' => e = .returned (.bool (p == q)) ∧ ∃ nq, w' = w.drewN nq := by
  obtain ⟨a, cap, rfl, -⟩ := id hu
  obtain ⟨a2, cap2, rfl, -⟩ := id hv
  obtain ⟨hl, hc, hm, -⟩ := hu.at
  obtain ⟨hl2, hc2, hm2, -⟩ := hv.at
  simp only [List.length_map] at hl hc hl2 hc2 hu hv ⊢
  unfold maxLen at hm hm2
  by_cases hlen : p.length = q.length
  · have ht : ((p.length : Int) != (q.length : Int)) = false := by simp; omega
    have HL : Hid (p.length = q.length) := hlen
    clear hlen
    go_enter Try.func49, Try.ntmps49
    go_wp2
    go_loopw [13] (fun i wr => ∃ k : Nat, k ≤ p.length ∧ i = .int .i64 k ∧ p.take k = q.take k ∧ ∃ nq, wr = w.drewN nq) (fun i _ => p.length - (intOf i).toNat)
    case atStart => exact ⟨0, Nat.zero_le _, rfl, rfl, 0, rfl⟩
    case round =>
      obtain ⟨k, hk, rfl, he, nr, rfl⟩ := hrel
      have HE : Hid (p.take k = q.take k) := he
      clear he
      by_cases hlt : k < p.length
      · have hlt2 : k < q.length := by have := HL.out; omega
        obtain ⟨-, -, -, hcell⟩ := hu.at
        obtain ⟨b, off, rfl, hcl⟩ := hcell k 0 hlt
        obtain ⟨-, -, -, hcell2⟩ := hv.at
        obtain ⟨b2, off2, rfl, hcl2⟩ := hcell2 k 0 hlt2
        have c0 := hcl k hlt
        have c1 := hcl2 k hlt2
        clear hcl hcell hcl2 hcell2
        have hlt' : (k : Int) < (p.length : Int) := by omega
        have hlt2' : (k : Int) < (q.length : Int) := by omega
        have S1 : Hid (p.take (k + 1) = p.take k ++ [p.getD k 0]) := by
          show _ = _; rw [List.take_succ_eq_append_getElem hlt]; simp [hlt]
        have S2 : Hid (q.take (k + 1) = q.take k ++ [q.getD k 0]) := by
          show _ = _; rw [List.take_succ_eq_append_getElem hlt2]; simp [hlt2]
        generalize p.getD k 0 = x at *
        generalize q.getD k 0 = y at *
        by_cases hxy : x = y
        · subst hxy
          have hne : ((x.toNat : Int) != (x.toNat : Int)) = false := by simp
          go_wp2
          go_quiet (fail)
          go_wp2
          go_roundw
          case rel => exact ⟨k + 1, by omega, by go_num, by rw [S1.out, S2.out, HE.out], _, rfl⟩
          case measure => simp [intOf]; omega
        · have hpq : Hid ((p == q) = false) := by
            show _ = _
            rw [beq_eq_false_iff_ne]
            intro h
            have a1 := S1.out
            have a2 := S2.out
            rw [h, a2] at a1
            simp at a1
            exact hxy a1.symm
          have hne := wne_t hxy
          clear hxy
          go_wp2
          go_quiet (fail)
          go_wp2
          go_ret
          exact ⟨ret_bool hpq.out.symm, _, drewN2 _ _ _⟩
      · have h0 : k = p.length := by omega
        subst h0
        have e := HE.out
        rw [List.take_length, HL.out, List.take_length] at e
        have hpq : Hid ((p == q) = true) := by show _ = _; rw [e]; simp
        clear e
        go_wp2
        go_ret
        exact ⟨ret_bool hpq.out.symm, nr, rfl⟩
  · have ht : ((p.length : Int) != (q.length : Int)) = true := by simp; omega
    have hne : (p == q) = false := by
      rw [beq_eq_false_iff_ne]; intro h; exact hlen (by rw [h])
    rw [hne]
    clear hlen hne
    go_enter Try.func49, Try.ntmps49
    go_wp2
    go_ret
    exact ⟨rfl, 0, rfl⟩

set_option maxHeartbeats 1000000 in
theorem booksameV (u v : Value) (p : List UInt16) (w : World) (hu : Row w u (p.map wV)) (hv : Row w v (p.map wV)) :
    Calls Try.prog 9 #[u, v] w fun e w' => e = .returned (.bool true) ∧ ∃ nq, w' = w.drewN nq := by
  obtain ⟨a, cap, rfl, -⟩ := id hu
  obtain ⟨a2, cap2, rfl, -⟩ := id hv
  obtain ⟨hl, hc, hm, -⟩ := hu.at
  obtain ⟨hl2, hc2, hm2, -⟩ := hv.at
  simp only [List.length_map] at hl hc hl2 hc2 hu hv ⊢
  unfold maxLen at hm hm2
  go_enter Try.func9, Try.ntmps9
  go_wp2
  go_loopw [5] (fun i wr => ∃ k : Nat, k ≤ p.length ∧ i = .int .i64 k ∧ ∃ nq, wr = w.drewN nq) (fun i _ => p.length - (intOf i).toNat)
  case atStart => exact ⟨0, Nat.zero_le _, rfl, 0, rfl⟩
  case round =>
    obtain ⟨k, hk, rfl, nr, rfl⟩ := hrel
    by_cases hlt : k < p.length
    · obtain ⟨-, -, -, hcell⟩ := hu.at
      obtain ⟨b, off, rfl, hcl⟩ := hcell k 0 hlt
      obtain ⟨-, -, -, hcell2⟩ := hv.at
      obtain ⟨b2, off2, rfl, hcl2⟩ := hcell2 k 0 hlt
      have c0 := hcl k hlt
      have c1 := hcl2 k hlt
      clear hcl hcell hcl2 hcell2
      have hlt' : (k : Int) < (p.length : Int) := by omega
      generalize p.getD k 0 = x at *
      go_wp2
      go_quiet (fail)
      go_wp2
      go_roundw
      case rel => exact ⟨k + 1, by omega, by go_num, _, rfl⟩
      case measure => simp [intOf]; omega
    · go_wp2
      go_ret
      exact ⟨rfl, nr, rfl⟩

end Go.Proofs.Ytdihcdphgiaepaa
