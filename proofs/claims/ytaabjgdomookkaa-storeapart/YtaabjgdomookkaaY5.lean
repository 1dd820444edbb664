/- Contracts of slices.Equal, of burgagebook.Same of lists that are the same, and of store's Same. -/
import Derived.Test.YtaabjgdomookkaaY4
namespace Go.Proofs.Ytaabjgdomookkaa
open Go.RowKit

theorem drewN2 (w : World) (a b : Nat) : (w.drewN a).drewN b = w.drewN (a + b) := by simp [World.drewN, Nat.add_assoc]
theorem wne_f {x y : UInt16} (h : x = y) : ((x.toNat : Int) != (y.toNat : Int)) = false := by subst h; simp
theorem wne_t {x y : UInt16} (h : ¬ x = y) : ((x.toNat : Int) != (y.toNat : Int)) = true := by
  simp only [bne_iff_ne, ne_eq]
  intro e
  exact h (UInt16.toNat_inj.1 (by omega))

set_option maxHeartbeats 1000000 in
theorem eqqB (u v : Value) (p q : List Bool) (w : World) (hu : Row w u (p.map Value.bool)) (hv : Row w v (q.map Value.bool)) :
    Calls Try.prog 32 #[u, v] w fun e w' => e = .returned (.bool (p == q)) ∧ ∃ nq, w' = w.drewN nq := by
  obtain ⟨a, cap, rfl, -⟩ := id hu
  obtain ⟨a2, cap2, rfl, -⟩ := id hv
  obtain ⟨hl, hc, hm, -⟩ := hu.at
  obtain ⟨hl2, hc2, hm2, -⟩ := hv.at
  simp only [List.length_map] at hl hc hl2 hc2 hu hv ⊢
  unfold maxLen at hm hm2
  by_cases hlen : p.length = q.length
  · have ht : ((p.length : Int) != (q.length : Int)) = false := by simp; omega
    have HL : Hid (p.length = q.length) := hlen
    clear hlen
    go_enter Try.func32, Try.ntmps32
    go_wp2
    go_loopw [13] (fun i wr => ∃ k : Nat, k ≤ p.length ∧ i = .int .i64 k ∧ p.take k = q.take k ∧ ∃ nq, wr = w.drewN nq) (fun i _ => p.length - (intOf i).toNat)
    case atStart => exact ⟨0, Nat.zero_le _, rfl, rfl, 0, rfl⟩
    case round =>
      obtain ⟨k, hk, rfl, he, nr, rfl⟩ := hrel
      have HE : Hid (p.take k = q.take k) := he
      clear he
      by_cases hlt : k < p.length
      · have hlt2 : k < q.length := by have := HL.out; omega
        obtain ⟨-, -, -, hcell⟩ := hu.at
        obtain ⟨b, off, rfl, hcl⟩ := hcell k false hlt
        obtain ⟨-, -, -, hcell2⟩ := hv.at
        obtain ⟨b2, off2, rfl, hcl2⟩ := hcell2 k false hlt2
        have c0 := hcl k hlt
        have c1 := hcl2 k hlt2
        clear hcl hcell hcl2 hcell2
        have hlt' : (k : Int) < (p.length : Int) := by omega
        have hlt2' : (k : Int) < (q.length : Int) := by omega
        have S1 : Hid (p.take (k + 1) = p.take k ++ [p.getD k false]) := by
          show _ = _; rw [List.take_succ_eq_append_getElem hlt]; simp [hlt]
        have S2 : Hid (q.take (k + 1) = q.take k ++ [q.getD k false]) := by
          show _ = _; rw [List.take_succ_eq_append_getElem hlt2]; simp [hlt2]
        generalize p.getD k false = x at *
        generalize q.getD k false = y at *
        by_cases hxy : x = y
        · subst hxy
          have hne : (x != x) = false := by simp
          go_wp2
          go_quiet (fail)
          go_wp2
          go_roundw
          case rel => exact ⟨k + 1, by omega, by go_num, by rw [S1.out, S2.out, HE.out], _, rfl⟩
          case measure => simp [intOf]; omega
        · have hpq : Hid ((p == q) = false) := by
            show _ = _
            rw [beq_eq_false_iff_ne]
            intro h
            have a1 := S1.out
            have a2 := S2.out
            rw [h, a2] at a1
            simp at a1
            exact hxy a1.symm
          rcases (show (x = true ∧ y = false) ∨ (x = false ∧ y = true) by cases x <;> cases y <;> simp at hxy ⊢) with ⟨rfl, rfl⟩ | ⟨rfl, rfl⟩
          all_goals
            clear hxy
            go_wp2
            go_quiet (fail)
            go_wp2
            go_ret
            exact ⟨ret_bool hpq.out.symm, _, drewN2 _ _ _⟩
      · have h0 : k = p.length := by omega
        subst h0
        have e := HE.out
        rw [List.take_length, HL.out, List.take_length] at e
        have hpq : Hid ((p == q) = true) := by show _ = _; rw [e]; simp
        clear e
        go_wp2
        go_ret
        exact ⟨ret_bool hpq.out.symm, nr, rfl⟩
  · have ht : ((p.length : Int) != (q.length : Int)) = true := by simp; omega
    have hne : (p == q) = false := by
      rw [beq_eq_false_iff_ne]; intro h; exact hlen (by rw [h])
    rw [hne]
    clear hlen hne
    go_enter Try.func32, Try.ntmps32
    go_wp2
    go_ret
    exact ⟨rfl, 0, rfl⟩

set_option maxHeartbeats 1000000 in
theorem booksameB (u v : Value) (p : List Bool) (w : World) (hu : Row w u (p.map Value.bool)) (hv : Row w v (p.map Value.bool)) :
    Calls Try.prog 17 #[u, v] w fun e w' => e = .returned (.bool true) ∧ ∃ nq, w' = w.drewN nq := by
  obtain ⟨a, cap, rfl, -⟩ := id hu
  obtain ⟨a2, cap2, rfl, -⟩ := id hv
  obtain ⟨hl, hc, hm, -⟩ := hu.at
  obtain ⟨hl2, hc2, hm2, -⟩ := hv.at
  simp only [List.length_map] at hl hc hl2 hc2 hu hv ⊢
  unfold maxLen at hm hm2
  go_enter Try.func17, Try.ntmps17
  go_wp2
  go_loopw [5] (fun i wr => ∃ k : Nat, k ≤ p.length ∧ i = .int .i64 k ∧ ∃ nq, wr = w.drewN nq) (fun i _ => p.length - (intOf i).toNat)
  case atStart => exact ⟨0, Nat.zero_le _, rfl, 0, rfl⟩
  case round =>
    obtain ⟨k, hk, rfl, nr, rfl⟩ := hrel
    by_cases hlt : k < p.length
    · obtain ⟨-, -, -, hcell⟩ := hu.at
      obtain ⟨b, off, rfl, hcl⟩ := hcell k false hlt
      obtain ⟨-, -, -, hcell2⟩ := hv.at
      obtain ⟨b2, off2, rfl, hcl2⟩ := hcell2 k false hlt
      have c0 := hcl k hlt
      have c1 := hcl2 k hlt
      clear hcl hcell hcl2 hcell2
      have hlt' : (k : Int) < (p.length : Int) := by omega
      generalize p.getD k false = x at *
      go_wp2
      go_quiet (fail)
      go_wp2
      go_roundw
      case rel => exact ⟨k + 1, by omega, by go_num, _, rfl⟩
      case measure => simp [intOf]; omega
    · go_wp2
      go_ret
      exact ⟨rfl, nr, rfl⟩

set_option maxHeartbeats 1000000 in
theorem eqqV (u v : Value) (p q : List UInt16) (w : World) (hu : Row w u (p.map wV)) (hv : Row w v (q.map wV)) :
    Calls Try.prog 33 #[u, v] w fun e w' => e = .returned (.bool (p == q)) ∧ ∃ nq, w' = w.drewN nq := by
  obtain ⟨a, cap, rfl, -⟩ := id hu
  obtain ⟨a2, cap2, rfl, -⟩ := id hv
  obtain ⟨hl, hc, hm, -⟩ := hu.at
  obtain ⟨hl2, hc2, hm2, -⟩ := hv.at
  simp only [List.length_map] at hl hc hl2 hc2 hu hv ⊢
  unfold maxLen at hm hm2
  by_cases hlen : p.length = q.length
  · have ht : ((p.length : Int) != (q.length : Int)) = false := by simp; omega
    have HL : Hid (p.length = q.length) := hlen
    clear hlen
    go_enter Try.func33, Try.ntmps33
    go_wp2
    go_loopw [13] (fun i wr => ∃ k : Nat, k ≤ p.length ∧ i = .int .i64 k ∧ p.take k = q.take k ∧ ∃ nq, wr = w.drewN nq) (fun i _ => p.length - (intOf i).toNat)
    case atStart => exact ⟨0, Nat.zero_le _, rfl, rfl, 0, rfl⟩
    case round =>
      obtain ⟨k, hk, rfl, he, nr, rfl⟩ := hrel
      have HE : Hid (p.take k = q.take k) := he
      clear he
      by_cases hlt : k < p.length
      · have hlt2 : k < q.length := by have := HL.out; omega
        obtain ⟨-, -, -, hcell⟩ := hu.at
        obtain ⟨b, off, rfl, hcl⟩ := hcell k 0 hlt
        obtain ⟨-, -, -, hcell2⟩ := hv.at
        obtain ⟨b2, off2, rfl, hcl2⟩ := hcell2 k 0 hlt2
        have c0 := hcl k hlt
        have c1 := hcl2 k hlt2
        clear hcl hcell hcl2 hcell2
        have hlt' : (k : Int) < (p.length : Int) := by omega
        have hlt2' : (k : Int) < (q.length : Int) := by omega
        have S1 : Hid (p.take (k + 1) = p.take k ++ [p.getD k 0]) := by
          show _ = _; rw [List.take_succ_eq_append_getElem hlt]; simp [hlt]
        have S2 : Hid (q.take (k + 1) = q.take k ++ [q.getD k 0]) := by
          show _ = _; rw [List.take_succ_eq_append_getElem hlt2]; simp [hlt2]
        generalize p.getD k 0 = x at *
        generalize q.getD k 0 = y at *
        by_cases hxy : x = y
        · subst hxy
          have hne : ((x.toNat : Int) != (x.toNat : Int)) = false := by simp
          go_wp2
          go_quiet (fail)
          go_wp2
          go_roundw
          case rel => exact ⟨k + 1, by omega, by go_num, by rw [S1.out, S2.out, HE.out], _, rfl⟩
          case measure => simp [intOf]; omega
        · have hpq : Hid ((p == q) = false) := by
            show _ = _
            rw [beq_eq_false_iff_ne]
            intro h
            have a1 := S1.out
            have a2 := S2.out
            rw [h, a2] at a1
            simp at a1
            exact hxy a1.symm
          have hne := wne_t hxy
          clear hxy
          go_wp2
          go_quiet (fail)
          go_wp2
          go_ret
          exact ⟨ret_bool hpq.out.symm, _, drewN2 _ _ _⟩
      · have h0 : k = p.length := by omega
        subst h0
        have e := HE.out
        rw [List.take_length, HL.out, List.take_length] at e
        have hpq : Hid ((p == q) = true) := by show _ = _; rw [e]; simp
        clear e
        go_wp2
        go_ret
        exact ⟨ret_bool hpq.out.symm, nr, rfl⟩
  · have ht : ((p.length : Int) != (q.length : Int)) = true := by simp; omega
    have hne : (p == q) = false := by
      rw [beq_eq_false_iff_ne]; intro h; exact hlen (by rw [h])
    rw [hne]
    clear hlen hne
    go_enter Try.func33, Try.ntmps33
    go_wp2
    go_ret
    exact ⟨rfl, 0, rfl⟩

set_option maxHeartbeats 1000000 in
theorem booksameV (u v : Value) (p : List UInt16) (w : World) (hu : Row w u (p.map wV)) (hv : Row w v (p.map wV)) :
    Calls Try.prog 16 #[u, v] w fun e w' => e = .returned (.bool true) ∧ ∃ nq, w' = w.drewN nq := by
  obtain ⟨a, cap, rfl, -⟩ := id hu
  obtain ⟨a2, cap2, rfl, -⟩ := id hv
  obtain ⟨hl, hc, hm, -⟩ := hu.at
  obtain ⟨hl2, hc2, hm2, -⟩ := hv.at
  simp only [List.length_map] at hl hc hl2 hc2 hu hv ⊢
  unfold maxLen at hm hm2
  go_enter Try.func16, Try.ntmps16
  go_wp2
  go_loopw [5] (fun i wr => ∃ k : Nat, k ≤ p.length ∧ i = .int .i64 k ∧ ∃ nq, wr = w.drewN nq) (fun i _ => p.length - (intOf i).toNat)
  case atStart => exact ⟨0, Nat.zero_le _, rfl, 0, rfl⟩
  case round =>
    obtain ⟨k, hk, rfl, nr, rfl⟩ := hrel
    by_cases hlt : k < p.length
    · obtain ⟨-, -, -, hcell⟩ := hu.at
      obtain ⟨b, off, rfl, hcl⟩ := hcell k 0 hlt
      obtain ⟨-, -, -, hcell2⟩ := hv.at
      obtain ⟨b2, off2, rfl, hcl2⟩ := hcell2 k 0 hlt
      have c0 := hcl k hlt
      have c1 := hcl2 k hlt
      clear hcl hcell hcl2 hcell2
      have hlt' : (k : Int) < (p.length : Int) := by omega
      generalize p.getD k 0 = x at *
      go_wp2
      go_quiet (fail)
      go_wp2
      go_roundw
      case rel => exact ⟨k + 1, by omega, by go_num, _, rfl⟩
      case measure => simp [intOf]; omega
    · go_wp2
      go_ret
      exact ⟨rfl, nr, rfl⟩

theorem same_nil (g : Nat) (w : World) : Calls Try.prog 18 #[ptrG g, .pointer none] w fun e w' => e = .returned (.bool false) ∧ ∃ nq, w' = w.drewN nq := by
  go_enter Try.func18, Try.ntmps18
  go_wp2
  go_quiet (fail)
  go_wp2
  go_ret
  exact ⟨rfl, _, rfl⟩

/-- are two stores the same? -/
def sameC (s r : Cs) : Bool := s.b0 == r.b0 && (s.b1 == r.b1 && (s.v0 == r.v0 && s.v1 == r.v1))
theorem sameC_self (s : Cs) : sameC s s = true := by simp [sameC]
set_option maxHeartbeats 4000000 in
theorem same_any (lo hi g n lo' hi' g' n' : Nat) (s r : Cs) (w : World) (h : SD w lo hi g n s) (h' : SD w lo' hi' g' n' r) :
    Calls Try.prog 18 #[ptrG g, ptrG g'] w fun e w' => e = .returned (.bool (sameC s r)) ∧ ∃ nq, w' = w.drewN nq := by
  obtain ⟨⟨k0, k1, k2, k3⟩, -, -, -, -, g0, g1, g2, g3, c0, c1, c2, c3, hb, -, -, r0, r1, r2, r3⟩ := h
  obtain ⟨⟨k0', k1', k2', k3'⟩, -, -, -, -, g0', g1', g2', g3', c0', c1', c2', c3', hb', -, -, r0', r1', r2', r3'⟩ := h'
  have C0 := hidden (fun k => eqqB _ _ s.b0 r.b0 (w.drewN k) ((r0.row (n := n) (by simpa using k0)).drewN k) ((r0'.row (n := n') (by simpa using k0')).drewN k))
  have C1 := hidden (fun k => eqqB _ _ s.b1 r.b1 (w.drewN k) ((r1.row (n := n) (by simpa using k1)).drewN k) ((r1'.row (n := n') (by simpa using k1')).drewN k))
  have C2 := hidden (fun k => eqqV _ _ s.v0 r.v0 (w.drewN k) ((r2.row (n := n) (by simpa using k2)).drewN k) ((r2'.row (n := n') (by simpa using k2')).drewN k))
  have C3 := hidden (fun k => eqqV _ _ s.v1 r.v1 (w.drewN k) ((r3.row (n := n) (by simpa using k3)).drewN k) ((r3'.row (n := n') (by simpa using k3')).drewN k))
  have q0 : w.cell? ⟨g, 0, none⟩ = some (.slice (some ⟨g0, 0, none⟩) n c0) := hb.cell 0
  have q1 : w.cell? ⟨g, 1, none⟩ = some (.slice (some ⟨g1, 0, none⟩) n c1) := hb.cell 1
  have q2 : w.cell? ⟨g, 2, none⟩ = some (.slice (some ⟨g2, 0, none⟩) n c2) := hb.cell 2
  have q3 : w.cell? ⟨g, 3, none⟩ = some (.slice (some ⟨g3, 0, none⟩) n c3) := hb.cell 3
  have q0' : w.cell? ⟨g', 0, none⟩ = some (.slice (some ⟨g0', 0, none⟩) n' c0') := hb'.cell 0
  have q1' : w.cell? ⟨g', 1, none⟩ = some (.slice (some ⟨g1', 0, none⟩) n' c1') := hb'.cell 1
  have q2' : w.cell? ⟨g', 2, none⟩ = some (.slice (some ⟨g2', 0, none⟩) n' c2') := hb'.cell 2
  have q3' : w.cell? ⟨g', 3, none⟩ = some (.slice (some ⟨g3', 0, none⟩) n' c3') := hb'.cell 3
  clear hb hb' r0 r1 r2 r3 r0' r1' r2' r3' k0 k1 k2 k3 k0' k1' k2' k3'
  unfold sameC
  generalize (s.b0 == r.b0) = x0 at *
  generalize (s.b1 == r.b1) = x1 at *
  generalize (s.v0 == r.v0) = x2 at *
  generalize (s.v1 == r.v1) = x3 at *
  cases x0
  · clear C1 C2 C3 
    go_enter Try.func18, Try.ntmps18
    go_wp2
    go_quiet (first | (go_at_call_of 32 (Value.slice (some ⟨g0, 0, none⟩) n c0); exact Calls.quiet_of (C0.out _)))
    go_wp2
    go_ret
    exact ⟨rfl, _, rfl⟩
  · skip
    cases x1
    · clear C2 C3 
      go_enter Try.func18, Try.ntmps18
      go_wp2
      go_quiet (first | (go_at_call_of 32 (Value.slice (some ⟨g0, 0, none⟩) n c0); exact Calls.quiet_of (C0.out _)) | (go_at_call_of 32 (Value.slice (some ⟨g1, 0, none⟩) n c1); exact Calls.quiet_of (C1.out _)))
      go_wp2
      go_ret
      exact ⟨rfl, _, rfl⟩
    · skip
      cases x2
      · clear C3 
        go_enter Try.func18, Try.ntmps18
        go_wp2
        go_quiet (first | (go_at_call_of 32 (Value.slice (some ⟨g0, 0, none⟩) n c0); exact Calls.quiet_of (C0.out _)) | (go_at_call_of 32 (Value.slice (some ⟨g1, 0, none⟩) n c1); exact Calls.quiet_of (C1.out _)) | (go_at_call_of 33 (Value.slice (some ⟨g2, 0, none⟩) n c2); exact Calls.quiet_of (C2.out _)))
        go_wp2
        go_ret
        exact ⟨rfl, _, rfl⟩
      · skip
        cases x3
        · go_enter Try.func18, Try.ntmps18
          go_wp2
          go_quiet (first | (go_at_call_of 32 (Value.slice (some ⟨g0, 0, none⟩) n c0); exact Calls.quiet_of (C0.out _)) | (go_at_call_of 32 (Value.slice (some ⟨g1, 0, none⟩) n c1); exact Calls.quiet_of (C1.out _)) | (go_at_call_of 33 (Value.slice (some ⟨g2, 0, none⟩) n c2); exact Calls.quiet_of (C2.out _)) | (go_at_call_of 33 (Value.slice (some ⟨g3, 0, none⟩) n c3); exact Calls.quiet_of (C3.out _)))
          go_wp2
          go_ret
          exact ⟨rfl, _, rfl⟩
        · go_enter Try.func18, Try.ntmps18
          go_wp2
          go_quiet (first | (go_at_call_of 32 (Value.slice (some ⟨g0, 0, none⟩) n c0); exact Calls.quiet_of (C0.out _)) | (go_at_call_of 32 (Value.slice (some ⟨g1, 0, none⟩) n c1); exact Calls.quiet_of (C1.out _)) | (go_at_call_of 33 (Value.slice (some ⟨g2, 0, none⟩) n c2); exact Calls.quiet_of (C2.out _)) | (go_at_call_of 33 (Value.slice (some ⟨g3, 0, none⟩) n c3); exact Calls.quiet_of (C3.out _)))
          go_wp2
          go_ret
          exact ⟨rfl, _, rfl⟩

end Go.Proofs.Ytaabjgdomookkaa
