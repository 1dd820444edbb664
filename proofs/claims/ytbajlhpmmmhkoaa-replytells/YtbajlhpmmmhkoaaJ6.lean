/- Contracts of pdu.listed, others, Same. -/
import Derived.Test.YtbajlhpmmmhkoaaJ2
import Derived.Test.YtbajlhpmmmhkoaaJ4
namespace Go.Proofs.Ytbajlhpmmmhkoaa
open Go.RowKit
set_option maxHeartbeats 400000 in
theorem eq_bool (u v : Value) (p q : List Bool) (w : World) (hu : Row w u (p.map Value.bool)) (hv : Row w v (q.map Value.bool)) :
  Calls Try.prog 49 #[u, v] w fun e w' => e = .returned (.bool (p == q)) ∧ Below w.heap.size w w' := by
 obtain ⟨a, cap, rfl, -⟩ := id hu
 obtain ⟨a2, cap2, rfl, -⟩ := id hv
 obtain ⟨hl, hc, hm, -⟩ := hu.at
 obtain ⟨hl2, hc2, hm2, -⟩ := hv.at
 simp only [List.length_map] at hl hc hl2 hc2 hu hv ⊢
 unfold maxLen at hm hm2
 by_cases hlen : p.length = q.length
 ·
  have ht : ((p.length : Int) != (q.length : Int)) = false := by simp; omega
  have HL : Hid (p.length = q.length) := hlen
  clear hlen
  go_enter Try.func49, Try.ntmps49
  go_wp2
  go_loopw [13] (fun i wr => ∃ k : Nat, k ≤ p.length ∧ i = .int .i64 k ∧ p.take k = q.take k ∧ Below w.heap.size w wr) (fun i _ => p.length - (intOf i).toNat)
  case atStart => exact ⟨0, Nat.zero_le _, rfl, rfl, Below.refl _ _⟩
  case round =>
   obtain ⟨k, hk, rfl, he, hb⟩ := hrel
   have HE : Hid (p.take k = q.take k) := he
   clear he
   by_cases hlt : k < p.length
   ·
    have hlt2 : k < q.length := by have := HL.out; omega
    obtain ⟨-, -, -, hcell⟩ := (hu.below hb).at
    obtain ⟨b, off, rfl, hcl⟩ := hcell k false hlt
    obtain ⟨-, -, -, hcell2⟩ := (hv.below hb).at
    obtain ⟨b2, off2, rfl, hcl2⟩ := hcell2 k false hlt2
    have c0 := hcl k hlt
    have c1 := hcl2 k hlt2
    clear hcl hcell hcl2 hcell2
    have hlt' : (k : Int) < (p.length : Int) := by omega
    have hlt2' : (k : Int) < (q.length : Int) := by omega
    have S1 : Hid (p.take (k + 1) = p.take k ++ [p.getD k false]) := by
     show _ = _; rw [List.take_succ_eq_append_getElem hlt]; simp [hlt]
    have S2 : Hid (q.take (k + 1) = q.take k ++ [q.getD k false]) := by
     show _ = _; rw [List.take_succ_eq_append_getElem hlt2]; simp [hlt2]
    generalize p.getD k false = x at *
    generalize q.getD k false = y at *
    by_cases hxy : x = y
    ·
     subst hxy
     have hne : (x != x) = false := by simp
     go_wp2
     go_quiet (fail)
     go_wp2
     go_roundw
     case rel => exact ⟨k + 1, by omega, by go_num, by rw [S1.out, S2.out, HE.out], below_drewn hb _⟩
     case measure => simp [intOf]; omega
    ·
     have hpq : Hid ((p == q) = false) := by
      show _ = _
      rw [beq_eq_false_iff_ne]
      intro h
      have a1 := S1.out
      have a2 := S2.out
      rw [h, a2] at a1
      simp at a1
      exact hxy a1.symm
     rcases (show (x = true ∧ y = false) ∨ (x = false ∧ y = true) by cases x <;> cases y <;> simp at hxy ⊢) with ⟨rfl, rfl⟩ | ⟨rfl, rfl⟩
     all_goals
      clear hxy
      go_wp2
      go_quiet (fail)
      go_wp2
      go_ret
      exact ⟨ret_bool hpq.out.symm, below_drewn hb _⟩
   ·
    have h0 : k = p.length := by omega
    subst h0
    have e := HE.out
    rw [List.take_length, HL.out, List.take_length] at e
    have hpq : Hid ((p == q) = true) := by show _ = _; rw [e]; simp
    clear e
    go_wp2
    go_ret
    exact ⟨ret_bool hpq.out.symm, hb⟩
 ·
  have ht : ((p.length : Int) != (q.length : Int)) = true := by simp; omega
  have hne : (p == q) = false := by
   rw [beq_eq_false_iff_ne]; intro h; exact hlen (by rw [h])
  rw [hne]
  clear hlen hne
  go_enter Try.func49, Try.ntmps49
  go_wp2
  go_ret
  exact ⟨rfl, Below.refl _ _⟩
set_option maxHeartbeats 400000 in
theorem rbits_any (u v : Value) (p q : List Bool) (w : World) (hu : Row w u (p.map Value.bool)) (hv : Row w v (q.map Value.bool)) :
  Calls Try.prog 27 #[u, v] w fun e w' => e = .returned (.bool (p == q)) ∧ Below w.heap.size w w' := by
 obtain ⟨a, cap, rfl, -⟩ := id hu
 obtain ⟨a2, cap2, rfl, -⟩ := id hv
 obtain ⟨hl, hc, hm, -⟩ := hu.at
 obtain ⟨hl2, hc2, hm2, -⟩ := hv.at
 simp only [List.length_map] at hl hc hl2 hc2 hu hv ⊢
 unfold maxLen at hm hm2
 by_cases hlen : p.length = q.length
 ·
  have ht : ((p.length : Int) != (q.length : Int)) = false := by simp; omega
  have HL : Hid (p.length = q.length) := hlen
  clear hlen
  go_enter Try.func27, Try.ntmps27
  go_wp2
  go_loopw [13] (fun i wr => ∃ k : Nat, k ≤ p.length ∧ i = .int .i64 k ∧ p.take k = q.take k ∧ Below w.heap.size w wr) (fun i _ => p.length - (intOf i).toNat)
  case atStart => exact ⟨0, Nat.zero_le _, rfl, rfl, Below.refl _ _⟩
  case round =>
   obtain ⟨k, hk, rfl, he, hb⟩ := hrel
   have HE : Hid (p.take k = q.take k) := he
   clear he
   by_cases hlt : k < p.length
   ·
    have hlt2 : k < q.length := by have := HL.out; omega
    obtain ⟨-, -, -, hcell⟩ := (hu.below hb).at
    obtain ⟨b, off, rfl, hcl⟩ := hcell k false hlt
    obtain ⟨-, -, -, hcell2⟩ := (hv.below hb).at
    obtain ⟨b2, off2, rfl, hcl2⟩ := hcell2 k false hlt2
    have c0 := hcl k hlt
    have c1 := hcl2 k hlt2
    clear hcl hcell hcl2 hcell2
    have hlt' : (k : Int) < (p.length : Int) := by omega
    have hlt2' : (k : Int) < (q.length : Int) := by omega
    have S1 : Hid (p.take (k + 1) = p.take k ++ [p.getD k false]) := by
     show _ = _; rw [List.take_succ_eq_append_getElem hlt]; simp [hlt]
    have S2 : Hid (q.take (k + 1) = q.take k ++ [q.getD k false]) := by
     show _ = _; rw [List.take_succ_eq_append_getElem hlt2]; simp [hlt2]
    generalize p.getD k false = x at *
    generalize q.getD k false = y at *
    by_cases hxy : x = y
    ·
     subst hxy
     have hne : (x != x) = false := by simp
     go_wp2
     go_quiet (fail)
     go_wp2
     go_roundw
     case rel => exact ⟨k + 1, by omega, by go_num, by rw [S1.out, S2.out, HE.out], below_drewn hb _⟩
     case measure => simp [intOf]; omega
    ·
     have hpq : Hid ((p == q) = false) := by
      show _ = _
      rw [beq_eq_false_iff_ne]
      intro h
      have a1 := S1.out
      have a2 := S2.out
      rw [h, a2] at a1
      simp at a1
      exact hxy a1.symm
     rcases (show (x = true ∧ y = false) ∨ (x = false ∧ y = true) by cases x <;> cases y <;> simp at hxy ⊢) with ⟨rfl, rfl⟩ | ⟨rfl, rfl⟩
     all_goals
      clear hxy
      go_wp2
      go_quiet (fail)
      go_wp2
      go_ret
      exact ⟨ret_bool hpq.out.symm, below_drewn hb _⟩
   ·
    have h0 : k = p.length := by omega
    subst h0
    have e := HE.out
    rw [List.take_length, HL.out, List.take_length] at e
    have hpq : Hid ((p == q) = true) := by show _ = _; rw [e]; simp
    clear e
    go_wp2
    go_ret
    exact ⟨ret_bool hpq.out.symm, hb⟩
 ·
  have ht : ((p.length : Int) != (q.length : Int)) = true := by simp; omega
  have hne : (p == q) = false := by
   rw [beq_eq_false_iff_ne]; intro h; exact hlen (by rw [h])
  rw [hne]
  clear hlen hne
  go_enter Try.func27, Try.ntmps27
  go_wp2
  go_ret
  exact ⟨rfl, Below.refl _ _⟩
set_option maxHeartbeats 400000 in
theorem eq_u16 (u v : Value) (p q : List UInt16) (w : World) (hu : Row w u (p.map wV)) (hv : Row w v (q.map wV)) :
  Calls Try.prog 50 #[u, v] w fun e w' => e = .returned (.bool (p == q)) ∧ Below w.heap.size w w' := by
 obtain ⟨a, cap, rfl, -⟩ := id hu
 obtain ⟨a2, cap2, rfl, -⟩ := id hv
 obtain ⟨hl, hc, hm, -⟩ := hu.at
 obtain ⟨hl2, hc2, hm2, -⟩ := hv.at
 simp only [List.length_map] at hl hc hl2 hc2 hu hv ⊢
 unfold maxLen at hm hm2
 by_cases hlen : p.length = q.length
 ·
  have ht : ((p.length : Int) != (q.length : Int)) = false := by simp; omega
  have HL : Hid (p.length = q.length) := hlen
  clear hlen
  go_enter Try.func50, Try.ntmps50
  go_wp2
  go_loopw [13] (fun i wr => ∃ k : Nat, k ≤ p.length ∧ i = .int .i64 k ∧ p.take k = q.take k ∧ Below w.heap.size w wr) (fun i _ => p.length - (intOf i).toNat)
  case atStart => exact ⟨0, Nat.zero_le _, rfl, rfl, Below.refl _ _⟩
  case round =>
   obtain ⟨k, hk, rfl, he, hb⟩ := hrel
   have HE : Hid (p.take k = q.take k) := he
   clear he
   by_cases hlt : k < p.length
   ·
    have hlt2 : k < q.length := by have := HL.out; omega
    obtain ⟨-, -, -, hcell⟩ := (hu.below hb).at
    obtain ⟨b, off, rfl, hcl⟩ := hcell k 0 hlt
    obtain ⟨-, -, -, hcell2⟩ := (hv.below hb).at
    obtain ⟨b2, off2, rfl, hcl2⟩ := hcell2 k 0 hlt2
    have c0 := hcl k hlt
    have c1 := hcl2 k hlt2
    clear hcl hcell hcl2 hcell2
    have hlt' : (k : Int) < (p.length : Int) := by omega
    have hlt2' : (k : Int) < (q.length : Int) := by omega
    have S1 : Hid (p.take (k + 1) = p.take k ++ [p.getD k 0]) := by
     show _ = _; rw [List.take_succ_eq_append_getElem hlt]; simp [hlt]
    have S2 : Hid (q.take (k + 1) = q.take k ++ [q.getD k 0]) := by
     show _ = _; rw [List.take_succ_eq_append_getElem hlt2]; simp [hlt2]
    generalize p.getD k 0 = x at *
    generalize q.getD k 0 = y at *
    by_cases hxy : x = y
    ·
     subst hxy
     have hne : ((x.toNat : Int) != (x.toNat : Int)) = false := by simp
     go_wp2
     go_quiet (fail)
     go_wp2
     go_roundw
     case rel => exact ⟨k + 1, by omega, by go_num, by rw [S1.out, S2.out, HE.out], below_drewn hb _⟩
     case measure => simp [intOf]; omega
    ·
     have hne : ((x.toNat : Int) != (y.toNat : Int)) = true := by simp; intro h; exact hxy (UInt16.toNat_inj.1 (by omega))
     have hpq : Hid ((p == q) = false) := by
      show _ = _
      rw [beq_eq_false_iff_ne]
      intro h
      have a1 := S1.out
      have a2 := S2.out
      rw [h, a2] at a1
      simp at a1
      exact hxy a1.symm
     go_wp2
     go_quiet (fail)
     go_wp2
     go_ret
     exact ⟨ret_bool hpq.out.symm, below_drewn hb _⟩
   ·
    have h0 : k = p.length := by omega
    subst h0
    have e := HE.out
    rw [List.take_length, HL.out, List.take_length] at e
    have hpq : Hid ((p == q) = true) := by show _ = _; rw [e]; simp
    clear e
    go_wp2
    go_ret
    exact ⟨ret_bool hpq.out.symm, hb⟩
 ·
  have ht : ((p.length : Int) != (q.length : Int)) = true := by simp; omega
  have hne : (p == q) = false := by
   rw [beq_eq_false_iff_ne]; intro h; exact hlen (by rw [h])
  rw [hne]
  clear hlen hne
  go_enter Try.func50, Try.ntmps50
  go_wp2
  go_ret
  exact ⟨rfl, Below.refl _ _⟩
set_option maxHeartbeats 400000 in
theorem rvals_any (u v : Value) (p q : List UInt16) (w : World) (hu : Row w u (p.map wV)) (hv : Row w v (q.map wV)) :
  Calls Try.prog 28 #[u, v] w fun e w' => e = .returned (.bool (p == q)) ∧ Below w.heap.size w w' := by
 obtain ⟨a, cap, rfl, -⟩ := id hu
 obtain ⟨a2, cap2, rfl, -⟩ := id hv
 obtain ⟨hl, hc, hm, -⟩ := hu.at
 obtain ⟨hl2, hc2, hm2, -⟩ := hv.at
 simp only [List.length_map] at hl hc hl2 hc2 hu hv ⊢
 unfold maxLen at hm hm2
 by_cases hlen : p.length = q.length
 ·
  have ht : ((p.length : Int) != (q.length : Int)) = false := by simp; omega
  have HL : Hid (p.length = q.length) := hlen
  clear hlen
  go_enter Try.func28, Try.ntmps28
  go_wp2
  go_loopw [13] (fun i wr => ∃ k : Nat, k ≤ p.length ∧ i = .int .i64 k ∧ p.take k = q.take k ∧ Below w.heap.size w wr) (fun i _ => p.length - (intOf i).toNat)
  case atStart => exact ⟨0, Nat.zero_le _, rfl, rfl, Below.refl _ _⟩
  case round =>
   obtain ⟨k, hk, rfl, he, hb⟩ := hrel
   have HE : Hid (p.take k = q.take k) := he
   clear he
   by_cases hlt : k < p.length
   ·
    have hlt2 : k < q.length := by have := HL.out; omega
    obtain ⟨-, -, -, hcell⟩ := (hu.below hb).at
    obtain ⟨b, off, rfl, hcl⟩ := hcell k 0 hlt
    obtain ⟨-, -, -, hcell2⟩ := (hv.below hb).at
    obtain ⟨b2, off2, rfl, hcl2⟩ := hcell2 k 0 hlt2
    have c0 := hcl k hlt
    have c1 := hcl2 k hlt2
    clear hcl hcell hcl2 hcell2
    have hlt' : (k : Int) < (p.length : Int) := by omega
    have hlt2' : (k : Int) < (q.length : Int) := by omega
    have S1 : Hid (p.take (k + 1) = p.take k ++ [p.getD k 0]) := by
     show _ = _; rw [List.take_succ_eq_append_getElem hlt]; simp [hlt]
    have S2 : Hid (q.take (k + 1) = q.take k ++ [q.getD k 0]) := by
     show _ = _; rw [List.take_succ_eq_append_getElem hlt2]; simp [hlt2]
    generalize p.getD k 0 = x at *
    generalize q.getD k 0 = y at *
    by_cases hxy : x = y
    ·
     subst hxy
     have hne : ((x.toNat : Int) != (x.toNat : Int)) = false := by simp
     go_wp2
     go_quiet (fail)
     go_wp2
     go_roundw
     case rel => exact ⟨k + 1, by omega, by go_num, by rw [S1.out, S2.out, HE.out], below_drewn hb _⟩
     case measure => simp [intOf]; omega
    ·
     have hne : ((x.toNat : Int) != (y.toNat : Int)) = true := by simp; intro h; exact hxy (UInt16.toNat_inj.1 (by omega))
     have hpq : Hid ((p == q) = false) := by
      show _ = _
      rw [beq_eq_false_iff_ne]
      intro h
      have a1 := S1.out
      have a2 := S2.out
      rw [h, a2] at a1
      simp at a1
      exact hxy a1.symm
     go_wp2
     go_quiet (fail)
     go_wp2
     go_ret
     exact ⟨ret_bool hpq.out.symm, below_drewn hb _⟩
   ·
    have h0 : k = p.length := by omega
    subst h0
    have e := HE.out
    rw [List.take_length, HL.out, List.take_length] at e
    have hpq : Hid ((p == q) = true) := by show _ = _; rw [e]; simp
    clear e
    go_wp2
    go_ret
    exact ⟨ret_bool hpq.out.symm, hb⟩
 ·
  have ht : ((p.length : Int) != (q.length : Int)) = true := by simp; omega
  have hne : (p == q) = false := by
   rw [beq_eq_false_iff_ne]; intro h; exact hlen (by rw [h])
  rw [hne]
  clear hlen hne
  go_enter Try.func28, Try.ntmps28
  go_wp2
  go_ret
  exact ⟨rfl, Below.refl _ _⟩
set_option maxHeartbeats 400000 in
theorem eq_u8 (u v : Value) (p q : List UInt8) (w : World) (hu : Row w u (p.map bV)) (hv : Row w v (q.map bV)) :
  Calls Try.prog 51 #[u, v] w fun e w' => e = .returned (.bool (p == q)) ∧ Below w.heap.size w w' := by
 obtain ⟨a, cap, rfl, -⟩ := id hu
 obtain ⟨a2, cap2, rfl, -⟩ := id hv
 obtain ⟨hl, hc, hm, -⟩ := hu.at
 obtain ⟨hl2, hc2, hm2, -⟩ := hv.at
 simp only [List.length_map] at hl hc hl2 hc2 hu hv ⊢
 unfold maxLen at hm hm2
 by_cases hlen : p.length = q.length
 ·
  have ht : ((p.length : Int) != (q.length : Int)) = false := by simp; omega
  have HL : Hid (p.length = q.length) := hlen
  clear hlen
  go_enter Try.func51, Try.ntmps51
  go_wp2
  go_loopw [13] (fun i wr => ∃ k : Nat, k ≤ p.length ∧ i = .int .i64 k ∧ p.take k = q.take k ∧ Below w.heap.size w wr) (fun i _ => p.length - (intOf i).toNat)
  case atStart => exact ⟨0, Nat.zero_le _, rfl, rfl, Below.refl _ _⟩
  case round =>
   obtain ⟨k, hk, rfl, he, hb⟩ := hrel
   have HE : Hid (p.take k = q.take k) := he
   clear he
   by_cases hlt : k < p.length
   ·
    have hlt2 : k < q.length := by have := HL.out; omega
    obtain ⟨-, -, -, hcell⟩ := (hu.below hb).at
    obtain ⟨b, off, rfl, hcl⟩ := hcell k 0 hlt
    obtain ⟨-, -, -, hcell2⟩ := (hv.below hb).at
    obtain ⟨b2, off2, rfl, hcl2⟩ := hcell2 k 0 hlt2
    have c0 := hcl k hlt
    have c1 := hcl2 k hlt2
    clear hcl hcell hcl2 hcell2
    have hlt' : (k : Int) < (p.length : Int) := by omega
    have hlt2' : (k : Int) < (q.length : Int) := by omega
    have S1 : Hid (p.take (k + 1) = p.take k ++ [p.getD k 0]) := by
     show _ = _; rw [List.take_succ_eq_append_getElem hlt]; simp [hlt]
    have S2 : Hid (q.take (k + 1) = q.take k ++ [q.getD k 0]) := by
     show _ = _; rw [List.take_succ_eq_append_getElem hlt2]; simp [hlt2]
    generalize p.getD k 0 = x at *
    generalize q.getD k 0 = y at *
    by_cases hxy : x = y
    ·
     subst hxy
     have hne : ((x.toNat : Int) != (x.toNat : Int)) = false := by simp
     go_wp2
     go_quiet (fail)
     go_wp2
     go_roundw
     case rel => exact ⟨k + 1, by omega, by go_num, by rw [S1.out, S2.out, HE.out], below_drewn hb _⟩
     case measure => simp [intOf]; omega
    ·
     have hne : ((x.toNat : Int) != (y.toNat : Int)) = true := by simp; intro h; exact hxy (UInt8.toNat_inj.1 (by omega))
     have hpq : Hid ((p == q) = false) := by
      show _ = _
      rw [beq_eq_false_iff_ne]
      intro h
      have a1 := S1.out
      have a2 := S2.out
      rw [h, a2] at a1
      simp at a1
      exact hxy a1.symm
     go_wp2
     go_quiet (fail)
     go_wp2
     go_ret
     exact ⟨ret_bool hpq.out.symm, below_drewn hb _⟩
   ·
    have h0 : k = p.length := by omega
    subst h0
    have e := HE.out
    rw [List.take_length, HL.out, List.take_length] at e
    have hpq : Hid ((p == q) = true) := by show _ = _; rw [e]; simp
    clear e
    go_wp2
    go_ret
    exact ⟨ret_bool hpq.out.symm, hb⟩
 ·
  have ht : ((p.length : Int) != (q.length : Int)) = true := by simp; omega
  have hne : (p == q) = false := by
   rw [beq_eq_false_iff_ne]; intro h; exact hlen (by rw [h])
  rw [hne]
  clear hlen hne
  go_enter Try.func51, Try.ntmps51
  go_wp2
  go_ret
  exact ⟨rfl, Below.refl _ _⟩
end Go.Proofs.Ytbajlhpmmmhkoaa
namespace Go.Proofs.Ytbajlhpmmmhkoaa
open Go.RowKit
abbrev rqV (f a c p s : Int) (vb vv : Value) (m o : UInt16) : Value := .agg #[.int .i64 f, .int .i64 a, .int .i64 c, .int .i64 p, .int .i64 s, vb, vv, wV m, wV o]
def IsRq (w : World) (v : Value) (q : Rq) : Prop := ∃ vb vv, v = rqV q.fn q.loc q.cnt q.wat q.sub vb vv q.land q.lor ∧ Row w vb (q.bits.map Value.bool) ∧ Row w vv (q.vals.map wV)
theorem IsRq.below {w w' : World} {v : Value} {q : Rq} (h : IsRq w v q) (hb : Below w.heap.size w w') : IsRq w' v q := by
 obtain ⟨vb, vv, rfl, h1, h2⟩ := h
 exact ⟨vb, vv, rfl, h1.below hb, h2.below hb⟩
theorem number_pdu (n : Int) (w : World) : Calls Try.prog 81 #[.int .i64 n] w fun e w' => e = .returned (.bool (numB n)) ∧ w = w' := by
 by_cases h1 : 0 ≤ n
 ·
  by_cases h2 : n ≤ 65535
  ·
   have hb : numB n = true := by simp [numB]; omega
   rw [hb]
   go_enter Try.func81, Try.ntmps81
   go_wp2
   go_ret
   exact ⟨rfl, rfl⟩
  ·
   have hb : numB n = false := by simp [numB]; omega
   rw [hb]
   go_enter Try.func81, Try.ntmps81
   go_wp2
   go_ret
   exact ⟨rfl, rfl⟩
 ·
  have hb : numB n = false := by simp [numB]; omega
  rw [hb]
  go_enter Try.func81, Try.ntmps81
  go_wp2
  go_ret
  exact ⟨rfl, rfl⟩
theorem coil_pdu (b : Bool) (w : World) : Calls Try.prog 64 #[.bool b] w fun e w' => e = .returned (.int .i64 (if b then 65280 else 0)) ∧ w = w' := by
 cases b
 all_goals
  go_enter Try.func64, Try.ntmps64
  go_wp2
  go_ret
  exact ⟨rfl, rfl⟩
theorem known_no {f : Int} (h : knownB f = false) : (f == 1) = false ∧ (f == 2) = false ∧ (f == 3) = false ∧ (f == 4) = false ∧ (f == 5) = false ∧ (f == 6) = false ∧ (f == 8) = false ∧ (f == 15) = false ∧ (f == 16) = false ∧ (f == 17) = false ∧ (f == 22) = false ∧ (f == 23) = false := by
 have := of_decide_eq_false h
 simp only [not_or] at this
 simp only [beq_eq_false_iff_ne]
 exact this
set_option maxHeartbeats 400000 in
theorem known_pdu (f : Int) (w : World) : Calls Try.prog 78 #[.int .i64 f] w fun e w' => e = .returned (.bool (knownB f)) ∧ w = w' := by
 cases hb : knownB f
 ·
  obtain ⟨h1, h2, h3, h4, h5, h6, h8, h15, h16, h17, h22, h23⟩ := known_no hb
  clear hb
  go_enter Try.func78, Try.ntmps78
  go_wp2
  go_ret
  exact ⟨rfl, rfl⟩
 ·
  rcases known_cases hb with rfl | rfl | rfl | rfl | rfl | rfl | rfl | rfl | rfl | rfl | rfl | rfl
  all_goals
   clear hb
   go_enter Try.func78, Try.ntmps78
   go_wp2
   go_ret
   exact ⟨rfl, rfl⟩
end Go.Proofs.Ytbajlhpmmmhkoaa
namespace Go.Proofs.Ytbajlhpmmmhkoaa
open Go.RowKit
set_option maxHeartbeats 1000000 in
theorem listed_pdu (v : Value) (q : Rq) (w : World) (h : IsRq w v q) (hk : knownB q.fn = true) :
  Calls Try.prog 82 #[v] w fun e w' => e = .returned (.bool (listB q)) ∧ Below w.heap.size w w' := by
 obtain ⟨f, a, c, p, s, bs, vs, m, o⟩ := q
 obtain ⟨vb, vv, rfl, hb, hv⟩ := h
 obtain ⟨ab, capb, rfl, hc1, hc2, -⟩ := id hb
 obtain ⟨av, capv, rfl, hd1, hd2, -⟩ := id hv
 simp only [List.length_map] at hb hv hk hc1 hd1 ⊢
 clear hb hv
 unfold maxLen at hc2 hd2
 have B : Hid (∀ o, Below w.heap.size w (w.alloc o)) := fun o => (Below.refl _ _).alloc (Nat.le_refl _) o
 have R : Hid (listB ⟨f, a, c, p, s, bs, vs, m, o⟩ = listB ⟨f, a, c, p, s, bs, vs, m, o⟩) := rfl
 rcases known_cases hk with rfl | rfl | rfl | rfl | rfl | rfl | rfl | rfl | rfl | rfl | rfl | rfl
 case inr.inr.inr.inr.inr.inr.inr.inl =>
  by_cases h1 : (bs.length : Int) = c
  ·
   by_cases h2 : (bs.length : Int) ≤ 2040
   ·
    have e : listB ⟨15, a, c, p, s, bs, vs, m, o⟩ = true := by simp [listB]; omega
    rw [e]
    have t1 : ((bs.length : Int) == c) = true := by simpa using h1
    clear hk R e h1
    go_enter Try.func82, Try.ntmps82
    go_wp2
    go_ret
    exact ⟨rfl, B.out _⟩
   ·
    have e : listB ⟨15, a, c, p, s, bs, vs, m, o⟩ = false := by simp [listB]; omega
    rw [e]
    have t1 : ((bs.length : Int) == c) = true := by simpa using h1
    clear hk R e h1
    go_enter Try.func82, Try.ntmps82
    go_wp2
    go_ret
    exact ⟨rfl, B.out _⟩
  ·
   have e : listB ⟨15, a, c, p, s, bs, vs, m, o⟩ = false := by simp [listB]; omega
   rw [e]
   have t1 : ((bs.length : Int) == c) = false := by simpa using h1
   clear hk R e h1
   go_enter Try.func82, Try.ntmps82
   go_wp2
   go_ret
   exact ⟨rfl, B.out _⟩
 case inr.inr.inr.inr.inr.inr.inr.inr.inl =>
  by_cases h1 : (vs.length : Int) = c
  ·
   by_cases h2 : (vs.length : Int) ≤ 127
   ·
    have e : listB ⟨16, a, c, p, s, bs, vs, m, o⟩ = true := by simp [listB]; omega
    rw [e]
    have t1 : ((vs.length : Int) == c) = true := by simpa using h1
    clear hk R e h1
    go_enter Try.func82, Try.ntmps82
    go_wp2
    go_ret
    exact ⟨rfl, B.out _⟩
   ·
    have e : listB ⟨16, a, c, p, s, bs, vs, m, o⟩ = false := by simp [listB]; omega
    rw [e]
    have t1 : ((vs.length : Int) == c) = true := by simpa using h1
    clear hk R e h1
    go_enter Try.func82, Try.ntmps82
    go_wp2
    go_ret
    exact ⟨rfl, B.out _⟩
  ·
   have e : listB ⟨16, a, c, p, s, bs, vs, m, o⟩ = false := by simp [listB]; omega
   rw [e]
   have t1 : ((vs.length : Int) == c) = false := by simpa using h1
   clear hk R e h1
   go_enter Try.func82, Try.ntmps82
   go_wp2
   go_ret
   exact ⟨rfl, B.out _⟩
 all_goals
  clear hk
  go_enter Try.func82, Try.ntmps82
  go_wp2
  go_ret
  refine ⟨ret_bool ?_, B.out _⟩
  rw [Bool.eq_iff_iff]
  simp [listB]
  try omega
def othersQ (q : Rq) : Rq :=
 if q.fn = 1 ∨ q.fn = 2 ∨ q.fn = 3 ∨ q.fn = 4 then ⟨0, 0, 0, q.wat, q.sub, q.bits, q.vals, q.land, q.lor⟩
 else if q.fn = 5 then ⟨0, 0, q.cnt, q.wat, q.sub, [], q.vals, q.land, q.lor⟩
 else if q.fn = 6 then ⟨0, 0, q.cnt, q.wat, q.sub, q.bits, [], q.land, q.lor⟩
 else if q.fn = 8 then ⟨0, q.loc, q.cnt, q.wat, 0, q.bits, [], q.land, q.lor⟩
 else if q.fn = 15 then ⟨0, 0, 0, q.wat, q.sub, [], q.vals, q.land, q.lor⟩
 else if q.fn = 16 then ⟨0, 0, 0, q.wat, q.sub, q.bits, [], q.land, q.lor⟩
 else if q.fn = 22 then ⟨0, 0, q.cnt, q.wat, q.sub, q.bits, q.vals, 0, 0⟩
 else if q.fn = 23 then ⟨0, 0, 0, 0, q.sub, q.bits, [], q.land, q.lor⟩
 else ⟨0, q.loc, q.cnt, q.wat, q.sub, q.bits, q.vals, q.land, q.lor⟩
theorem others_form (q : Rq) (hk : knownB q.fn = true) : othersQ q = zeroQ ↔ formP q := by
 obtain ⟨f, a, c, p, s, bs, vs, m, o⟩ := q
 simp only at hk
 rcases known_cases hk with rfl | rfl | rfl | rfl | rfl | rfl | rfl | rfl | rfl | rfl | rfl | rfl <;> simp [othersQ, zeroQ, formP]
set_option maxHeartbeats 1000000 in
theorem others_pdu (v : Value) (q : Rq) (w : World) (h : IsRq w v q) (hk : knownB q.fn = true) :
  Calls Try.prog 80 #[v] w fun e w' => ∃ v', e = .returned v' ∧ IsRq w' v' (othersQ q) ∧ Below w.heap.size w w' := by
 obtain ⟨f, a, c, p, s, bs, vs, m, o⟩ := q
 obtain ⟨vb, vv, rfl, hb, hv⟩ := h
 obtain ⟨ab, capb, rfl, -⟩ := id hb
 obtain ⟨av, capv, rfl, -⟩ := id hv
 simp only at hb hv hk ⊢
 rcases known_cases hk with rfl | rfl | rfl | rfl | rfl | rfl | rfl | rfl | rfl | rfl | rfl | rfl
 all_goals
  clear hk
  go_enter Try.func80, Try.ntmps80
  go_wp2
 all_goals
  refine bodyPost_ret (v := _) (by simp [results, Try.results80, go_sem]; exact rfl) rfl ?_
  have hB := fun o1 o2 => ((Below.refl w.heap.size w).alloc (Nat.le_refl _) o1).alloc (by simp) o2
  refine ⟨_, rfl, ?_, hB _ _⟩
  simp only [List.length_map] at hb hv
  simp [othersQ]
  refine ⟨_, _, rfl, ?_, ?_⟩
  ·
   first | exact Row.nil _ | exact hb.below (hB _ _)
  ·
   first | exact Row.nil _ | exact hv.below (hB _ _)
end Go.Proofs.Ytbajlhpmmmhkoaa
