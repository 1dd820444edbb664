/- Contracts of pdu's small functions. -/
import Derived.Test.YtdihcdphgiaepaaZZ2
import Derived.Test.YtdihcdphgiaepaaZZ5
namespace Go.Proofs.Ytdihcdphgiaepaa
open Go.RowKit
set_option maxHeartbeats 400000 in
theorem eq_bool (u v : Value) (p q : List Bool) (w : World) (hu : Row w u (p.map Value.bool)) (hv : Row w v (q.map Value.bool)) :
  Calls Try.prog 48 #[u, v] w fun e w' => e = .returned (.bool (p == q)) ∧ Below w.heap.size w w' := by
 obtain ⟨a, cap, rfl, -⟩ := id hu
 obtain ⟨a2, cap2, rfl, -⟩ := id hv
 obtain ⟨hl, hc, hm, -⟩ := hu.at
 obtain ⟨hl2, hc2, hm2, -⟩ := hv.at
 simp only [List.length_map] at hl hc hl2 hc2 hu hv ⊢
 unfold maxLen at hm hm2
 by_cases hlen : p.length = q.length
 ·
  have ht : ((p.length : Int) != (q.length : Int)) = false := by simp; omega
  have HL : Hid (p.length = q.length) := hlen
  clear hlen
  go_enter Try.func48, Try.ntmps48
  go_wp2
  go_loopw [13] (fun i wr => ∃ k : Nat, k ≤ p.length ∧ i = .int .i64 k ∧ p.take k = q.take k ∧ Below w.heap.size w wr) (fun i _ => p.length - (intOf i).toNat)
  case atStart => exact ⟨0, Nat.zero_le _, rfl, rfl, Below.refl _ _⟩
  case round =>
   obtain ⟨k, hk, rfl, he, hb⟩ := hrel
   have HE : Hid (p.take k = q.take k) := he
   clear he
   by_cases hlt : k < p.length
   ·
    have hlt2 : k < q.length := by have := HL.out; omega
    obtain ⟨-, -, -, hcell⟩ := (hu.below hb).at
    obtain ⟨b, off, rfl, hcl⟩ := hcell k false hlt
    obtain ⟨-, -, -, hcell2⟩ := (hv.below hb).at
    obtain ⟨b2, off2, rfl, hcl2⟩ := hcell2 k false hlt2
    have c0 := hcl k hlt
    have c1 := hcl2 k hlt2
    clear hcl hcell hcl2 hcell2
    have hlt' : (k : Int) < (p.length : Int) := by omega
    have hlt2' : (k : Int) < (q.length : Int) := by omega
    have S1 : Hid (p.take (k + 1) = p.take k ++ [p.getD k false]) := by
     show _ = _; rw [List.take_succ_eq_append_getElem hlt]; simp [hlt]
    have S2 : Hid (q.take (k + 1) = q.take k ++ [q.getD k false]) := by
     show _ = _; rw [List.take_succ_eq_append_getElem hlt2]; simp [hlt2]
    generalize p.getD k false = x at *
    generalize q.getD k false = y at *
    by_cases hxy : x = y
    ·
     subst hxy
     have hne : (x != x) = false := by simp
     go_wp2
     go_quiet (fail)
     go_wp2
     go_roundw
     case rel => exact ⟨k + 1, by omega, by go_num, by rw [S1.out, S2.out, HE.out], below_drewn hb _⟩
     case measure => simp [intOf]; omega
    ·
     have hpq : Hid ((p == q) = false) := by
      show _ = _
      rw [beq_eq_false_iff_ne]
      intro h
      have a1 := S1.out
      have a2 := S2.out
      rw [h, a2] at a1
      simp at a1
      exact hxy a1.symm
     rcases (show (x = true ∧ y = false) ∨ (x = false ∧ y = true) by cases x <;> cases y <;> simp at hxy ⊢) with ⟨rfl, rfl⟩ | ⟨rfl, rfl⟩
     all_goals
      clear hxy
      go_wp2
      go_quiet (fail)
      go_wp2
      go_ret
      exact ⟨ret_bool hpq.out.symm, below_drewn hb _⟩
   ·
    have h0 : k = p.length := by omega
    subst h0
    have e := HE.out
    rw [List.take_length, HL.out, List.take_length] at e
    have hpq : Hid ((p == q) = true) := by show _ = _; rw [e]; simp
    clear e
    go_wp2
    go_ret
    exact ⟨ret_bool hpq.out.symm, hb⟩
 ·
  have ht : ((p.length : Int) != (q.length : Int)) = true := by simp; omega
  have hne : (p == q) = false := by
   rw [beq_eq_false_iff_ne]; intro h; exact hlen (by rw [h])
  rw [hne]
  clear hlen hne
  go_enter Try.func48, Try.ntmps48
  go_wp2
  go_ret
  exact ⟨rfl, Below.refl _ _⟩
set_option maxHeartbeats 400000 in
theorem rbits_any (u v : Value) (p q : List Bool) (w : World) (hu : Row w u (p.map Value.bool)) (hv : Row w v (q.map Value.bool)) :
  Calls Try.prog 44 #[u, v] w fun e w' => e = .returned (.bool (p == q)) ∧ Below w.heap.size w w' := by
 obtain ⟨a, cap, rfl, -⟩ := id hu
 obtain ⟨a2, cap2, rfl, -⟩ := id hv
 obtain ⟨hl, hc, hm, -⟩ := hu.at
 obtain ⟨hl2, hc2, hm2, -⟩ := hv.at
 simp only [List.length_map] at hl hc hl2 hc2 hu hv ⊢
 unfold maxLen at hm hm2
 by_cases hlen : p.length = q.length
 ·
  have ht : ((p.length : Int) != (q.length : Int)) = false := by simp; omega
  have HL : Hid (p.length = q.length) := hlen
  clear hlen
  go_enter Try.func44, Try.ntmps44
  go_wp2
  go_loopw [13] (fun i wr => ∃ k : Nat, k ≤ p.length ∧ i = .int .i64 k ∧ p.take k = q.take k ∧ Below w.heap.size w wr) (fun i _ => p.length - (intOf i).toNat)
  case atStart => exact ⟨0, Nat.zero_le _, rfl, rfl, Below.refl _ _⟩
  case round =>
   obtain ⟨k, hk, rfl, he, hb⟩ := hrel
   have HE : Hid (p.take k = q.take k) := he
   clear he
   by_cases hlt : k < p.length
   ·
    have hlt2 : k < q.length := by have := HL.out; omega
    obtain ⟨-, -, -, hcell⟩ := (hu.below hb).at
    obtain ⟨b, off, rfl, hcl⟩ := hcell k false hlt
    obtain ⟨-, -, -, hcell2⟩ := (hv.below hb).at
    obtain ⟨b2, off2, rfl, hcl2⟩ := hcell2 k false hlt2
    have c0 := hcl k hlt
    have c1 := hcl2 k hlt2
    clear hcl hcell hcl2 hcell2
    have hlt' : (k : Int) < (p.length : Int) := by omega
    have hlt2' : (k : Int) < (q.length : Int) := by omega
    have S1 : Hid (p.take (k + 1) = p.take k ++ [p.getD k false]) := by
     show _ = _; rw [List.take_succ_eq_append_getElem hlt]; simp [hlt]
    have S2 : Hid (q.take (k + 1) = q.take k ++ [q.getD k false]) := by
     show _ = _; rw [List.take_succ_eq_append_getElem hlt2]; simp [hlt2]
    generalize p.getD k false = x at *
    generalize q.getD k false = y at *
    by_cases hxy : x = y
    ·
     subst hxy
     have hne : (x != x) = false := by simp
     go_wp2
     go_quiet (fail)
     go_wp2
     go_roundw
     case rel => exact ⟨k + 1, by omega, by go_num, by rw [S1.out, S2.out, HE.out], below_drewn hb _⟩
     case measure => simp [intOf]; omega
    ·
     have hpq : Hid ((p == q) = false) := by
      show _ = _
      rw [beq_eq_false_iff_ne]
      intro h
      have a1 := S1.out
      have a2 := S2.out
      rw [h, a2] at a1
      simp at a1
      exact hxy a1.symm
     rcases (show (x = true ∧ y = false) ∨ (x = false ∧ y = true) by cases x <;> cases y <;> simp at hxy ⊢) with ⟨rfl, rfl⟩ | ⟨rfl, rfl⟩
     all_goals
      clear hxy
      go_wp2
      go_quiet (fail)
      go_wp2
      go_ret
      exact ⟨ret_bool hpq.out.symm, below_drewn hb _⟩
   ·
    have h0 : k = p.length := by omega
    subst h0
    have e := HE.out
    rw [List.take_length, HL.out, List.take_length] at e
    have hpq : Hid ((p == q) = true) := by show _ = _; rw [e]; simp
    clear e
    go_wp2
    go_ret
    exact ⟨ret_bool hpq.out.symm, hb⟩
 ·
  have ht : ((p.length : Int) != (q.length : Int)) = true := by simp; omega
  have hne : (p == q) = false := by
   rw [beq_eq_false_iff_ne]; intro h; exact hlen (by rw [h])
  rw [hne]
  clear hlen hne
  go_enter Try.func44, Try.ntmps44
  go_wp2
  go_ret
  exact ⟨rfl, Below.refl _ _⟩
set_option maxHeartbeats 400000 in
theorem eq_u16 (u v : Value) (p q : List UInt16) (w : World) (hu : Row w u (p.map wV)) (hv : Row w v (q.map wV)) :
  Calls Try.prog 49 #[u, v] w fun e w' => e = .returned (.bool (p == q)) ∧ Below w.heap.size w w' := by
 obtain ⟨a, cap, rfl, -⟩ := id hu
 obtain ⟨a2, cap2, rfl, -⟩ := id hv
 obtain ⟨hl, hc, hm, -⟩ := hu.at
 obtain ⟨hl2, hc2, hm2, -⟩ := hv.at
 simp only [List.length_map] at hl hc hl2 hc2 hu hv ⊢
 unfold maxLen at hm hm2
 by_cases hlen : p.length = q.length
 ·
  have ht : ((p.length : Int) != (q.length : Int)) = false := by simp; omega
  have HL : Hid (p.length = q.length) := hlen
  clear hlen
  go_enter Try.func49, Try.ntmps49
  go_wp2
  go_loopw [13] (fun i wr => ∃ k : Nat, k ≤ p.length ∧ i = .int .i64 k ∧ p.take k = q.take k ∧ Below w.heap.size w wr) (fun i _ => p.length - (intOf i).toNat)
  case atStart => exact ⟨0, Nat.zero_le _, rfl, rfl, Below.refl _ _⟩
  case round =>
   obtain ⟨k, hk, rfl, he, hb⟩ := hrel
   have HE : Hid (p.take k = q.take k) := he
   clear he
   by_cases hlt : k < p.length
   ·
    have hlt2 : k < q.length := by have := HL.out; omega
    obtain ⟨-, -, -, hcell⟩ := (hu.below hb).at
    obtain ⟨b, off, rfl, hcl⟩ := hcell k 0 hlt
    obtain ⟨-, -, -, hcell2⟩ := (hv.below hb).at
    obtain ⟨b2, off2, rfl, hcl2⟩ := hcell2 k 0 hlt2
    have c0 := hcl k hlt
    have c1 := hcl2 k hlt2
    clear hcl hcell hcl2 hcell2
    have hlt' : (k : Int) < (p.length : Int) := by omega
    have hlt2' : (k : Int) < (q.length : Int) := by omega
    have S1 : Hid (p.take (k + 1) = p.take k ++ [p.getD k 0]) := by
     show _ = _; rw [List.take_succ_eq_append_getElem hlt]; simp [hlt]
    have S2 : Hid (q.take (k + 1) = q.take k ++ [q.getD k 0]) := by
     show _ = _; rw [List.take_succ_eq_append_getElem hlt2]; simp [hlt2]
    generalize p.getD k 0 = x at *
    generalize q.getD k 0 = y at *
    by_cases hxy : x = y
    ·
     subst hxy
     have hne : ((x.toNat : Int) != (x.toNat : Int)) = false := by simp
     go_wp2
     go_quiet (fail)
     go_wp2
     go_roundw
     case rel => exact ⟨k + 1, by omega, by go_num, by rw [S1.out, S2.out, HE.out], below_drewn hb _⟩
     case measure => simp [intOf]; omega
    ·
     have hne : ((x.toNat : Int) != (y.toNat : Int)) = true := by simp; intro h; exact hxy (UInt16.toNat_inj.1 (by omega))
     have hpq : Hid ((p == q) = false) := by
      show _ = _
      rw [beq_eq_false_iff_ne]
      intro h
      have a1 := S1.out
      have a2 := S2.out
      rw [h, a2] at a1
      simp at a1
      exact hxy a1.symm
     go_wp2
     go_quiet (fail)
     go_wp2
     go_ret
     exact ⟨ret_bool hpq.out.symm, below_drewn hb _⟩
   ·
    have h0 : k = p.length := by omega
    subst h0
    have e := HE.out
    rw [List.take_length, HL.out, List.take_length] at e
    have hpq : Hid ((p == q) = true) := by show _ = _; rw [e]; simp
    clear e
    go_wp2
    go_ret
    exact ⟨ret_bool hpq.out.symm, hb⟩
 ·
  have ht : ((p.length : Int) != (q.length : Int)) = true := by simp; omega
  have hne : (p == q) = false := by
   rw [beq_eq_false_iff_ne]; intro h; exact hlen (by rw [h])
  rw [hne]
  clear hlen hne
  go_enter Try.func49, Try.ntmps49
  go_wp2
  go_ret
  exact ⟨rfl, Below.refl _ _⟩
set_option maxHeartbeats 400000 in
theorem rvals_any (u v : Value) (p q : List UInt16) (w : World) (hu : Row w u (p.map wV)) (hv : Row w v (q.map wV)) :
  Calls Try.prog 45 #[u, v] w fun e w' => e = .returned (.bool (p == q)) ∧ Below w.heap.size w w' := by
 obtain ⟨a, cap, rfl, -⟩ := id hu
 obtain ⟨a2, cap2, rfl, -⟩ := id hv
 obtain ⟨hl, hc, hm, -⟩ := hu.at
 obtain ⟨hl2, hc2, hm2, -⟩ := hv.at
 simp only [List.length_map] at hl hc hl2 hc2 hu hv ⊢
 unfold maxLen at hm hm2
 by_cases hlen : p.length = q.length
 ·
  have ht : ((p.length : Int) != (q.length : Int)) = false := by simp; omega
  have HL : Hid (p.length = q.length) := hlen
  clear hlen
  go_enter Try.func45, Try.ntmps45
  go_wp2
  go_loopw [13] (fun i wr => ∃ k : Nat, k ≤ p.length ∧ i = .int .i64 k ∧ p.take k = q.take k ∧ Below w.heap.size w wr) (fun i _ => p.length - (intOf i).toNat)
  case atStart => exact ⟨0, Nat.zero_le _, rfl, rfl, Below.refl _ _⟩
  case round =>
   obtain ⟨k, hk, rfl, he, hb⟩ := hrel
   have HE : Hid (p.take k = q.take k) := he
   clear he
   by_cases hlt : k < p.length
   ·
    have hlt2 : k < q.length := by have := HL.out; omega
    obtain ⟨-, -, -, hcell⟩ := (hu.below hb).at
    obtain ⟨b, off, rfl, hcl⟩ := hcell k 0 hlt
    obtain ⟨-, -, -, hcell2⟩ := (hv.below hb).at
    obtain ⟨b2, off2, rfl, hcl2⟩ := hcell2 k 0 hlt2
    have c0 := hcl k hlt
    have c1 := hcl2 k hlt2
    clear hcl hcell hcl2 hcell2
    have hlt' : (k : Int) < (p.length : Int) := by omega
    have hlt2' : (k : Int) < (q.length : Int) := by omega
    have S1 : Hid (p.take (k + 1) = p.take k ++ [p.getD k 0]) := by
     show _ = _; rw [List.take_succ_eq_append_getElem hlt]; simp [hlt]
    have S2 : Hid (q.take (k + 1) = q.take k ++ [q.getD k 0]) := by
     show _ = _; rw [List.take_succ_eq_append_getElem hlt2]; simp [hlt2]
    generalize p.getD k 0 = x at *
    generalize q.getD k 0 = y at *
    by_cases hxy : x = y
    ·
     subst hxy
     have hne : ((x.toNat : Int) != (x.toNat : Int)) = false := by simp
     go_wp2
     go_quiet (fail)
     go_wp2
     go_roundw
     case rel => exact ⟨k + 1, by omega, by go_num, by rw [S1.out, S2.out, HE.out], below_drewn hb _⟩
     case measure => simp [intOf]; omega
    ·
     have hne : ((x.toNat : Int) != (y.toNat : Int)) = true := by simp; intro h; exact hxy (UInt16.toNat_inj.1 (by omega))
     have hpq : Hid ((p == q) = false) := by
      show _ = _
      rw [beq_eq_false_iff_ne]
      intro h
      have a1 := S1.out
      have a2 := S2.out
      rw [h, a2] at a1
      simp at a1
      exact hxy a1.symm
     go_wp2
     go_quiet (fail)
     go_wp2
     go_ret
     exact ⟨ret_bool hpq.out.symm, below_drewn hb _⟩
   ·
    have h0 : k = p.length := by omega
    subst h0
    have e := HE.out
    rw [List.take_length, HL.out, List.take_length] at e
    have hpq : Hid ((p == q) = true) := by show _ = _; rw [e]; simp
    clear e
    go_wp2
    go_ret
    exact ⟨ret_bool hpq.out.symm, hb⟩
 ·
  have ht : ((p.length : Int) != (q.length : Int)) = true := by simp; omega
  have hne : (p == q) = false := by
   rw [beq_eq_false_iff_ne]; intro h; exact hlen (by rw [h])
  rw [hne]
  clear hlen hne
  go_enter Try.func45, Try.ntmps45
  go_wp2
  go_ret
  exact ⟨rfl, Below.refl _ _⟩
set_option maxHeartbeats 400000 in
theorem eq_u8 (u v : Value) (p q : List UInt8) (w : World) (hu : Row w u (p.map bV)) (hv : Row w v (q.map bV)) :
  Calls Try.prog 59 #[u, v] w fun e w' => e = .returned (.bool (p == q)) ∧ Below w.heap.size w w' := by
 obtain ⟨a, cap, rfl, -⟩ := id hu
 obtain ⟨a2, cap2, rfl, -⟩ := id hv
 obtain ⟨hl, hc, hm, -⟩ := hu.at
 obtain ⟨hl2, hc2, hm2, -⟩ := hv.at
 simp only [List.length_map] at hl hc hl2 hc2 hu hv ⊢
 unfold maxLen at hm hm2
 by_cases hlen : p.length = q.length
 ·
  have ht : ((p.length : Int) != (q.length : Int)) = false := by simp; omega
  have HL : Hid (p.length = q.length) := hlen
  clear hlen
  go_enter Try.func59, Try.ntmps59
  go_wp2
  go_loopw [13] (fun i wr => ∃ k : Nat, k ≤ p.length ∧ i = .int .i64 k ∧ p.take k = q.take k ∧ Below w.heap.size w wr) (fun i _ => p.length - (intOf i).toNat)
  case atStart => exact ⟨0, Nat.zero_le _, rfl, rfl, Below.refl _ _⟩
  case round =>
   obtain ⟨k, hk, rfl, he, hb⟩ := hrel
   have HE : Hid (p.take k = q.take k) := he
   clear he
   by_cases hlt : k < p.length
   ·
    have hlt2 : k < q.length := by have := HL.out; omega
    obtain ⟨-, -, -, hcell⟩ := (hu.below hb).at
    obtain ⟨b, off, rfl, hcl⟩ := hcell k 0 hlt
    obtain ⟨-, -, -, hcell2⟩ := (hv.below hb).at
    obtain ⟨b2, off2, rfl, hcl2⟩ := hcell2 k 0 hlt2
    have c0 := hcl k hlt
    have c1 := hcl2 k hlt2
    clear hcl hcell hcl2 hcell2
    have hlt' : (k : Int) < (p.length : Int) := by omega
    have hlt2' : (k : Int) < (q.length : Int) := by omega
    have S1 : Hid (p.take (k + 1) = p.take k ++ [p.getD k 0]) := by
     show _ = _; rw [List.take_succ_eq_append_getElem hlt]; simp [hlt]
    have S2 : Hid (q.take (k + 1) = q.take k ++ [q.getD k 0]) := by
     show _ = _; rw [List.take_succ_eq_append_getElem hlt2]; simp [hlt2]
    generalize p.getD k 0 = x at *
    generalize q.getD k 0 = y at *
    by_cases hxy : x = y
    ·
     subst hxy
     have hne : ((x.toNat : Int) != (x.toNat : Int)) = false := by simp
     go_wp2
     go_quiet (fail)
     go_wp2
     go_roundw
     case rel => exact ⟨k + 1, by omega, by go_num, by rw [S1.out, S2.out, HE.out], below_drewn hb _⟩
     case measure => simp [intOf]; omega
    ·
     have hne : ((x.toNat : Int) != (y.toNat : Int)) = true := by simp; intro h; exact hxy (UInt8.toNat_inj.1 (by omega))
     have hpq : Hid ((p == q) = false) := by
      show _ = _
      rw [beq_eq_false_iff_ne]
      intro h
      have a1 := S1.out
      have a2 := S2.out
      rw [h, a2] at a1
      simp at a1
      exact hxy a1.symm
     go_wp2
     go_quiet (fail)
     go_wp2
     go_ret
     exact ⟨ret_bool hpq.out.symm, below_drewn hb _⟩
   ·
    have h0 : k = p.length := by omega
    subst h0
    have e := HE.out
    rw [List.take_length, HL.out, List.take_length] at e
    have hpq : Hid ((p == q) = true) := by show _ = _; rw [e]; simp
    clear e
    go_wp2
    go_ret
    exact ⟨ret_bool hpq.out.symm, hb⟩
 ·
  have ht : ((p.length : Int) != (q.length : Int)) = true := by simp; omega
  have hne : (p == q) = false := by
   rw [beq_eq_false_iff_ne]; intro h; exact hlen (by rw [h])
  rw [hne]
  clear hlen hne
  go_enter Try.func59, Try.ntmps59
  go_wp2
  go_ret
  exact ⟨rfl, Below.refl _ _⟩
end Go.Proofs.Ytdihcdphgiaepaa
namespace Go.Proofs.Ytdihcdphgiaepaa
open Go.RowKit
abbrev rqV (f a c p s : Int) (vb vv : Value) (m o : UInt16) : Value := .agg #[.int .i64 f, .int .i64 a, .int .i64 c, .int .i64 p, .int .i64 s, vb, vv, wV m, wV o]
def IsRq (w : World) (v : Value) (q : Rq) : Prop := ∃ vb vv, v = rqV q.fn q.loc q.cnt q.wat q.sub vb vv q.land q.lor ∧ Row w vb (q.bits.map Value.bool) ∧ Row w vv (q.vals.map wV)
theorem IsRq.below {w w' : World} {v : Value} {q : Rq} (h : IsRq w v q) (hb : Below w.heap.size w w') : IsRq w' v q := by
 obtain ⟨vb, vv, rfl, h1, h2⟩ := h
 exact ⟨vb, vv, rfl, h1.below hb, h2.below hb⟩
theorem number_pdu (n : Int) (w : World) : Calls Try.prog 26 #[.int .i64 n] w fun e w' => e = .returned (.bool (numB n)) ∧ w = w' := by
 by_cases h1 : 0 ≤ n
 ·
  by_cases h2 : n ≤ 65535
  ·
   have hb : numB n = true := by simp [numB]; omega
   rw [hb]
   go_enter Try.func26, Try.ntmps26
   go_wp2
   go_ret
   exact ⟨rfl, rfl⟩
  ·
   have hb : numB n = false := by simp [numB]; omega
   rw [hb]
   go_enter Try.func26, Try.ntmps26
   go_wp2
   go_ret
   exact ⟨rfl, rfl⟩
 ·
  have hb : numB n = false := by simp [numB]; omega
  rw [hb]
  go_enter Try.func26, Try.ntmps26
  go_wp2
  go_ret
  exact ⟨rfl, rfl⟩
theorem within_pdu (n k : Int) (w : World) : Calls Try.prog 29 #[.int .i64 n, .int .i64 k] w fun e w' => e = .returned (.bool (decide (1 ≤ n ∧ n ≤ k))) ∧ w = w' := by
 by_cases h1 : 1 ≤ n
 ·
  by_cases h2 : n ≤ k
  ·
   have hb : decide (1 ≤ n ∧ n ≤ k) = true := by simp; omega
   rw [hb]
   go_enter Try.func29, Try.ntmps29
   go_wp2
   go_ret
   exact ⟨rfl, rfl⟩
  ·
   have hb : decide (1 ≤ n ∧ n ≤ k) = false := by simp; omega
   rw [hb]
   go_enter Try.func29, Try.ntmps29
   go_wp2
   go_ret
   exact ⟨rfl, rfl⟩
 ·
  have hb : decide (1 ≤ n ∧ n ≤ k) = false := by simp; omega
  rw [hb]
  go_enter Try.func29, Try.ntmps29
  go_wp2
  go_ret
  exact ⟨rfl, rfl⟩
theorem coil_pdu (b : Bool) (w : World) : Calls Try.prog 75 #[.bool b] w fun e w' => e = .returned (.int .i64 (if b then 65280 else 0)) ∧ w = w' := by
 cases b
 all_goals
  go_enter Try.func75, Try.ntmps75
  go_wp2
  go_ret
  exact ⟨rfl, rfl⟩
theorem known_no {f : Int} (h : knownB f = false) : (f == 1) = false ∧ (f == 2) = false ∧ (f == 3) = false ∧ (f == 4) = false ∧ (f == 5) = false ∧ (f == 6) = false ∧ (f == 8) = false ∧ (f == 15) = false ∧ (f == 16) = false ∧ (f == 17) = false ∧ (f == 22) = false ∧ (f == 23) = false := by
 have := of_decide_eq_false h
 simp only [not_or] at this
 simp only [beq_eq_false_iff_ne]
 exact this
set_option maxHeartbeats 400000 in
theorem known_pdu (f : Int) (w : World) : Calls Try.prog 23 #[.int .i64 f] w fun e w' => e = .returned (.bool (knownB f)) ∧ w = w' := by
 cases hb : knownB f
 ·
  obtain ⟨h1, h2, h3, h4, h5, h6, h8, h15, h16, h17, h22, h23⟩ := known_no hb
  clear hb
  go_enter Try.func23, Try.ntmps23
  go_wp2
  go_ret
  exact ⟨rfl, rfl⟩
 ·
  rcases known_cases hb with rfl | rfl | rfl | rfl | rfl | rfl | rfl | rfl | rfl | rfl | rfl | rfl
  all_goals
   clear hb
   go_enter Try.func23, Try.ntmps23
   go_wp2
   go_ret
   exact ⟨rfl, rfl⟩
end Go.Proofs.Ytdihcdphgiaepaa
