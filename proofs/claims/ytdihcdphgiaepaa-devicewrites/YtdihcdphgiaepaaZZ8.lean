/- Contracts of pdu.listed, others, Same. -/
import Derived.Test.YtdihcdphgiaepaaZZ7
namespace Go.Proofs.Ytdihcdphgiaepaa
open Go.RowKit
set_option maxHeartbeats 1000000 in
theorem listed_pdu (v : Value) (q : Rq) (w : World) (h : IsRq w v q) (hk : knownB q.fn = true) :
  Calls Try.prog 27 #[v] w fun e w' => e = .returned (.bool (listB q)) ∧ Below w.heap.size w w' := by
 obtain ⟨f, a, c, p, s, bs, vs, m, o⟩ := q
 obtain ⟨vb, vv, rfl, hb, hv⟩ := h
 obtain ⟨ab, capb, rfl, hc1, hc2, -⟩ := id hb
 obtain ⟨av, capv, rfl, hd1, hd2, -⟩ := id hv
 simp only [List.length_map] at hb hv hk hc1 hd1 ⊢
 clear hb hv
 unfold maxLen at hc2 hd2
 have B : Hid (∀ o, Below w.heap.size w (w.alloc o)) := fun o => (Below.refl _ _).alloc (Nat.le_refl _) o
 have R : Hid (listB ⟨f, a, c, p, s, bs, vs, m, o⟩ = listB ⟨f, a, c, p, s, bs, vs, m, o⟩) := rfl
 rcases known_cases hk with rfl | rfl | rfl | rfl | rfl | rfl | rfl | rfl | rfl | rfl | rfl | rfl
 case inr.inr.inr.inr.inr.inr.inr.inl =>
  by_cases h1 : (bs.length : Int) = c
  ·
   by_cases h2 : (bs.length : Int) ≤ 2040
   ·
    have e : listB ⟨15, a, c, p, s, bs, vs, m, o⟩ = true := by simp [listB]; omega
    rw [e]
    have t1 : ((bs.length : Int) == c) = true := by simpa using h1
    clear hk R e h1
    go_enter Try.func27, Try.ntmps27
    go_wp2
    go_ret
    exact ⟨rfl, B.out _⟩
   ·
    have e : listB ⟨15, a, c, p, s, bs, vs, m, o⟩ = false := by simp [listB]; omega
    rw [e]
    have t1 : ((bs.length : Int) == c) = true := by simpa using h1
    clear hk R e h1
    go_enter Try.func27, Try.ntmps27
    go_wp2
    go_ret
    exact ⟨rfl, B.out _⟩
  ·
   have e : listB ⟨15, a, c, p, s, bs, vs, m, o⟩ = false := by simp [listB]; omega
   rw [e]
   have t1 : ((bs.length : Int) == c) = false := by simpa using h1
   clear hk R e h1
   go_enter Try.func27, Try.ntmps27
   go_wp2
   go_ret
   exact ⟨rfl, B.out _⟩
 case inr.inr.inr.inr.inr.inr.inr.inr.inl =>
  by_cases h1 : (vs.length : Int) = c
  ·
   by_cases h2 : (vs.length : Int) ≤ 127
   ·
    have e : listB ⟨16, a, c, p, s, bs, vs, m, o⟩ = true := by simp [listB]; omega
    rw [e]
    have t1 : ((vs.length : Int) == c) = true := by simpa using h1
    clear hk R e h1
    go_enter Try.func27, Try.ntmps27
    go_wp2
    go_ret
    exact ⟨rfl, B.out _⟩
   ·
    have e : listB ⟨16, a, c, p, s, bs, vs, m, o⟩ = false := by simp [listB]; omega
    rw [e]
    have t1 : ((vs.length : Int) == c) = true := by simpa using h1
    clear hk R e h1
    go_enter Try.func27, Try.ntmps27
    go_wp2
    go_ret
    exact ⟨rfl, B.out _⟩
  ·
   have e : listB ⟨16, a, c, p, s, bs, vs, m, o⟩ = false := by simp [listB]; omega
   rw [e]
   have t1 : ((vs.length : Int) == c) = false := by simpa using h1
   clear hk R e h1
   go_enter Try.func27, Try.ntmps27
   go_wp2
   go_ret
   exact ⟨rfl, B.out _⟩
 all_goals
  clear hk
  go_enter Try.func27, Try.ntmps27
  go_wp2
  go_ret
  refine ⟨ret_bool ?_, B.out _⟩
  rw [Bool.eq_iff_iff]
  simp [listB]
  try omega
def othersQ (q : Rq) : Rq :=
 if q.fn = 1 ∨ q.fn = 2 ∨ q.fn = 3 ∨ q.fn = 4 then ⟨0, 0, 0, q.wat, q.sub, q.bits, q.vals, q.land, q.lor⟩
 else if q.fn = 5 then ⟨0, 0, q.cnt, q.wat, q.sub, [], q.vals, q.land, q.lor⟩
 else if q.fn = 6 then ⟨0, 0, q.cnt, q.wat, q.sub, q.bits, [], q.land, q.lor⟩
 else if q.fn = 8 then ⟨0, q.loc, q.cnt, q.wat, 0, q.bits, [], q.land, q.lor⟩
 else if q.fn = 15 then ⟨0, 0, 0, q.wat, q.sub, [], q.vals, q.land, q.lor⟩
 else if q.fn = 16 then ⟨0, 0, 0, q.wat, q.sub, q.bits, [], q.land, q.lor⟩
 else if q.fn = 22 then ⟨0, 0, q.cnt, q.wat, q.sub, q.bits, q.vals, 0, 0⟩
 else if q.fn = 23 then ⟨0, 0, 0, 0, q.sub, q.bits, [], q.land, q.lor⟩
 else ⟨0, q.loc, q.cnt, q.wat, q.sub, q.bits, q.vals, q.land, q.lor⟩
theorem others_form (q : Rq) (hk : knownB q.fn = true) : othersQ q = zeroQ ↔ formP q := by
 obtain ⟨f, a, c, p, s, bs, vs, m, o⟩ := q
 simp only at hk
 rcases known_cases hk with rfl | rfl | rfl | rfl | rfl | rfl | rfl | rfl | rfl | rfl | rfl | rfl <;> simp [othersQ, zeroQ, formP]
set_option maxHeartbeats 1000000 in
theorem others_pdu (v : Value) (q : Rq) (w : World) (h : IsRq w v q) (hk : knownB q.fn = true) :
  Calls Try.prog 25 #[v] w fun e w' => ∃ v', e = .returned v' ∧ IsRq w' v' (othersQ q) ∧ Below w.heap.size w w' := by
 obtain ⟨f, a, c, p, s, bs, vs, m, o⟩ := q
 obtain ⟨vb, vv, rfl, hb, hv⟩ := h
 obtain ⟨ab, capb, rfl, -⟩ := id hb
 obtain ⟨av, capv, rfl, -⟩ := id hv
 simp only at hb hv hk ⊢
 rcases known_cases hk with rfl | rfl | rfl | rfl | rfl | rfl | rfl | rfl | rfl | rfl | rfl | rfl
 all_goals
  clear hk
  go_enter Try.func25, Try.ntmps25
  go_wp2
 all_goals
  refine bodyPost_ret (v := _) (by simp [results, Try.results25, go_sem]; exact rfl) rfl ?_
  have hB := fun o1 o2 => ((Below.refl w.heap.size w).alloc (Nat.le_refl _) o1).alloc (by simp) o2
  refine ⟨_, rfl, ?_, hB _ _⟩
  simp only [List.length_map] at hb hv
  simp [othersQ]
  refine ⟨_, _, rfl, ?_, ?_⟩
  ·
   first | exact Row.nil _ | exact hb.below (hB _ _)
  ·
   first | exact Row.nil _ | exact hv.below (hB _ _)
end Go.Proofs.Ytdihcdphgiaepaa
