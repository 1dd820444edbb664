/- Contracts of burgageref3's small functions. -/
import Derived.Test.YtaoimlcgifihiaaS8
import Derived.Test.YtaoimlcgifihiaaRC
namespace Go.Proofs.Ytaoimlcgifihiaa
open Go.RowKit

theorem word_ref (n : Int) (w : World) : Calls Try.prog 50 #[.int .i64 n] w fun e w' => e = .returned (.bool (numB n)) ∧ w = w' := by
  by_cases h1 : 0 ≤ n
  · by_cases h2 : n ≤ 65535
    · have hb : numB n = true := by simp [numB]; omega
      rw [hb]
      go_enter Try.func50, Try.ntmps50
      go_wp2
      go_ret
      exact ⟨rfl, rfl⟩
    · have hb : numB n = false := by simp [numB]; omega
      rw [hb]
      go_enter Try.func50, Try.ntmps50
      go_wp2
      go_ret
      exact ⟨rfl, rfl⟩
  · have hb : numB n = false := by simp [numB]; omega
    rw [hb]
    go_enter Try.func50, Try.ntmps50
    go_wp2
    go_ret
    exact ⟨rfl, rfl⟩

set_option maxHeartbeats 400000 in
theorem has_ref (f : Int) (w : World) : Calls Try.prog 47 #[.int .i64 f] w fun e w' => e = .returned (.bool (knownB f)) ∧ w = w' := by
  cases hb : knownB f
  · have hn := of_decide_eq_false hb
    obtain ⟨-, -, -, -, -, -, h8, h15, h16, h17, h22, h23⟩ := known_no hb
    clear hb
    by_cases h1 : 1 ≤ f
    · have h2 : ¬ f ≤ 6 := by omega
      clear hn
      go_enter Try.func47, Try.ntmps47
      go_wp2
      go_ret
      exact ⟨rfl, rfl⟩
    · clear hn
      go_enter Try.func47, Try.ntmps47
      go_wp2
      go_ret
      exact ⟨rfl, rfl⟩
  · rcases known_cases hb with rfl | rfl | rfl | rfl | rfl | rfl | rfl | rfl | rfl | rfl | rfl | rfl
    all_goals
      clear hb
      go_enter Try.func47, Try.ntmps47
      go_wp2
      go_ret
      exact ⟨rfl, rfl⟩

/-- which fields a function has, as letters -/
def usesL (f : Int) : List UInt8 :=
  if f = 1 ∨ f = 2 ∨ f = 3 ∨ f = 4 then [97, 99]
  else if f = 5 then [97, 98]
  else if f = 6 then [97, 118]
  else if f = 8 then [115, 118]
  else if f = 15 then [97, 99, 98]
  else if f = 16 then [97, 99, 118]
  else if f = 22 then [97, 109]
  else if f = 23 then [97, 99, 119, 118]
  else []

set_option maxHeartbeats 400000 in
theorem uses_ref (f : Int) (w : World) (hk : knownB f = true) : Calls Try.prog 48 #[.int .i64 f] w fun e w' => e = .returned (.string ⟨(usesL f).toArray⟩) ∧ w = w' := by
  rcases known_cases hk with rfl | rfl | rfl | rfl | rfl | rfl | rfl | rfl | rfl | rfl | rfl | rfl
  all_goals
    clear hk
    go_enter Try.func48, Try.ntmps48
    go_wp2
    go_ret
    exact ⟨rfl, rfl⟩

set_option maxHeartbeats 400000 in
theorem in_ref (l : List UInt8) (c : UInt8) (w : World) (hl : l.length ≤ 100) : Calls Try.prog 49 #[.string ⟨l.toArray⟩, .int .u8 c.toNat] w fun e w' => e = .returned (.bool (l.contains c)) ∧ w = w' := by
  have hs : (⟨l.toArray⟩ : ByteArray).size = l.length := rfl
  go_enter Try.func49, Try.ntmps49
  go_wp2
  go_loopw [5] (fun i wr => ∃ k : Nat, k ≤ l.length ∧ i = .int .i64 k ∧ (∀ j, j < k → l.getD j 0 ≠ c) ∧ w = wr) (fun i _ => l.length - (intOf i).toNat)
  case atStart => exact ⟨0, Nat.zero_le _, rfl, fun j h => by omega, rfl⟩
  case round =>
    obtain ⟨k, hk, rfl, hn, rfl⟩ := hrel
    have HN := hidden hn
    clear hn
    by_cases hlt : k < l.length
    · have hlt' : (k : Int) < (l.length : Int) := by omega
      have HG : Hid (l.getD k 0 = (⟨l.toArray⟩ : ByteArray)[k]'hlt) := by
        show _ = _
        have : (⟨l.toArray⟩ : ByteArray)[k]'hlt = l[k] := rfl
        rw [this]; simp [hlt]
      by_cases hc : (⟨l.toArray⟩ : ByteArray)[k]'hlt = c
      · have t : ((((⟨l.toArray⟩ : ByteArray)[k]'hlt).toNat : Int) == (c.toNat : Int)) = true := by rw [hc]; simp
        have F : Hid (l.contains c = true) := by
          show _ = _
          rw [List.contains_iff_mem, ← hc]
          exact List.getElem_mem hlt
        clear hc
        go_wp2
        go_ret
        exact ⟨ret_bool F.out.symm, rfl⟩
      · have t : ((((⟨l.toArray⟩ : ByteArray)[k]'hlt).toNat : Int) == (c.toNat : Int)) = false := by
          rw [beq_eq_false_iff_ne]; intro h; exact hc (UInt8.toNat_inj.1 (by omega))
        have HC := hidden hc
        clear hc
        go_wp2
        go_roundw
        case rel =>
          refine ⟨k + 1, by omega, by go_num, fun j hj => ?_, trivial⟩
          by_cases e : j = k
          · subst e; rw [HG.out]; exact HC.out
          · exact HN.out j (by omega)
        case measure => simp [intOf]; omega
    · obtain rfl : k = l.length := by omega
      have F : Hid (l.contains c = false) := by
        show _ = _
        rw [← Bool.not_eq_true, List.contains_iff_mem]
        intro h
        obtain ⟨i, hi, e⟩ := List.getElem_of_mem h
        exact HN.out i hi (by simpa [hi] using e)
      go_wp2
      go_ret
      exact ⟨ret_bool F.out.symm, rfl⟩

set_option maxHeartbeats 1000000 in
theorem lists_ref (v : Value) (q : Rq) (w : World) (h : IsRq w v q) (hk : knownB q.fn = true) :
    Calls Try.prog 51 #[v] w fun e w' => e = .returned (.bool (listB q)) ∧ Below w.heap.size w w' := by
  obtain ⟨f, a, c, p, s, bs, vs, m, o⟩ := q
  obtain ⟨vb, vv, rfl, hb, hv⟩ := h
  obtain ⟨ab, capb, rfl, hc1, hc2, -⟩ := id hb
  obtain ⟨av, capv, rfl, hd1, hd2, -⟩ := id hv
  simp only [List.length_map] at hb hv hk hc1 hd1 ⊢
  clear hb hv
  unfold maxLen at hc2 hd2
  have B : Hid (∀ o n, Below w.heap.size w ((w.alloc o).drewN n)) := fun o n => below_drewn ((Below.refl _ _).alloc (Nat.le_refl _) o) n
  have R : Hid (listB ⟨f, a, c, p, s, bs, vs, m, o⟩ = listB ⟨f, a, c, p, s, bs, vs, m, o⟩) := rfl
  rcases known_cases hk with rfl | rfl | rfl | rfl | rfl | rfl | rfl | rfl | rfl | rfl | rfl | rfl
  case inr.inr.inr.inr.inr.inr.inr.inl =>
    by_cases h1 : (bs.length : Int) = c
    · by_cases h2 : (bs.length : Int) ≤ 2040
      · have e : listB ⟨15, a, c, p, s, bs, vs, m, o⟩ = true := by simp [listB]; omega
        rw [e]
        have t1 : ((bs.length : Int) == c) = true := by simpa using h1
        clear hk R e h1
        go_enter Try.func51, Try.ntmps51
        go_wp2
        go_quiet (fail)
        go_wp2
        go_ret
        first | exact ⟨rfl, B.out _ _⟩ | exact ⟨ret_bool (by simp; omega), B.out _ _⟩
      · have e : listB ⟨15, a, c, p, s, bs, vs, m, o⟩ = false := by simp [listB]; omega
        rw [e]
        have t1 : ((bs.length : Int) == c) = true := by simpa using h1
        clear hk R e h1
        go_enter Try.func51, Try.ntmps51
        go_wp2
        go_quiet (fail)
        go_wp2
        go_ret
        first | exact ⟨rfl, B.out _ _⟩ | exact ⟨ret_bool (by simp; omega), B.out _ _⟩
    · have e : listB ⟨15, a, c, p, s, bs, vs, m, o⟩ = false := by simp [listB]; omega
      rw [e]
      have t1 : ((bs.length : Int) == c) = false := by simpa using h1
      clear hk R e h1
      go_enter Try.func51, Try.ntmps51
      go_wp2
      go_quiet (fail)
      go_wp2
      go_ret
      first | exact ⟨rfl, B.out _ _⟩ | exact ⟨ret_bool (by simp; omega), B.out _ _⟩
  case inr.inr.inr.inr.inr.inr.inr.inr.inl =>
    by_cases h1 : (vs.length : Int) = c
    · by_cases h2 : (vs.length : Int) ≤ 127
      · have e : listB ⟨16, a, c, p, s, bs, vs, m, o⟩ = true := by simp [listB]; omega
        rw [e]
        have t1 : ((vs.length : Int) == c) = true := by simpa using h1
        clear hk R e h1
        go_enter Try.func51, Try.ntmps51
        go_wp2
        go_quiet (fail)
        go_wp2
        go_ret
        first | exact ⟨rfl, B.out _ _⟩ | exact ⟨ret_bool (by simp; omega), B.out _ _⟩
      · have e : listB ⟨16, a, c, p, s, bs, vs, m, o⟩ = false := by simp [listB]; omega
        rw [e]
        have t1 : ((vs.length : Int) == c) = true := by simpa using h1
        clear hk R e h1
        go_enter Try.func51, Try.ntmps51
        go_wp2
        go_quiet (fail)
        go_wp2
        go_ret
        first | exact ⟨rfl, B.out _ _⟩ | exact ⟨ret_bool (by simp; omega), B.out _ _⟩
    · have e : listB ⟨16, a, c, p, s, bs, vs, m, o⟩ = false := by simp [listB]; omega
      rw [e]
      have t1 : ((vs.length : Int) == c) = false := by simpa using h1
      clear hk R e h1
      go_enter Try.func51, Try.ntmps51
      go_wp2
      go_quiet (fail)
      go_wp2
      go_ret
      first | exact ⟨rfl, B.out _ _⟩ | exact ⟨ret_bool (by simp; omega), B.out _ _⟩
  all_goals
    clear hk
    go_enter Try.func51, Try.ntmps51
    go_wp2
    go_quiet (fail)
    go_wp2
    go_ret
    refine ⟨ret_bool ?_, B.out _ _⟩
    rw [Bool.eq_iff_iff]
    simp [listB]
    try omega


end Go.Proofs.Ytaoimlcgifihiaa
