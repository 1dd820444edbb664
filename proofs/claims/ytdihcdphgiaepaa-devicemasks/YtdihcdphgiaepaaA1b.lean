/- Contracts of reply.listed, asked, others, echo, echoed, known, slices.Clone. -/
import Derived.Test.YtdihcdphgiaepaaA1
import Derived.Test.YtdihcdphgiaepaaS7b
namespace Go.Proofs.Ytdihcdphgiaepaa
open Go.RowKit

set_option maxHeartbeats 1000000 in
theorem listed_rep (v : Value) (r : Rp) (w : World) (h : IsRp w v r) (hk : knownB r.fn = true) :
    Calls Try.prog 82 #[v] w fun e w' => e = .returned (.bool (listA r)) ∧ Below w.heap.size w w' := by
  obtain ⟨ab, capb, av, capv, ad, capd, rfl, h1, h2, h3⟩ := h.slices
  obtain ⟨f, k, a, c, s, bs, vs, m, o, ds⟩ := r
  simp only at h1 h2 h3 hk ⊢
  clear h
  have B : Hid (∀ o, Below w.heap.size w (w.alloc o)) := fun o => (Below.refl _ _).alloc (Nat.le_refl _) o
  rcases known_cases hk with rfl | rfl | rfl | rfl | rfl | rfl | rfl | rfl | rfl | rfl | rfl | rfl
  all_goals
    clear hk
    go_enter Try.func82, Try.ntmps82
    go_wp2
    go_ret
    refine ⟨ret_bool ?_, B.out _⟩
    rw [Bool.eq_iff_iff]
    simp [listA]
    try omega

/-- a reply without what its function has -/
def othersA (r : Rp) : Rp :=
  if r.fn = 1 ∨ r.fn = 2 then ⟨0, r.code, r.loc, r.cnt, r.sub, [], r.vals, r.land, r.lor, r.data⟩
  else if r.fn = 3 ∨ r.fn = 4 ∨ r.fn = 23 then ⟨0, r.code, r.loc, r.cnt, r.sub, r.bits, [], r.land, r.lor, r.data⟩
  else if r.fn = 5 then ⟨0, r.code, 0, r.cnt, r.sub, [], r.vals, r.land, r.lor, r.data⟩
  else if r.fn = 6 then ⟨0, r.code, 0, r.cnt, r.sub, r.bits, [], r.land, r.lor, r.data⟩
  else if r.fn = 8 then ⟨0, r.code, r.loc, r.cnt, 0, r.bits, [], r.land, r.lor, r.data⟩
  else if r.fn = 15 ∨ r.fn = 16 then ⟨0, r.code, 0, 0, r.sub, r.bits, r.vals, r.land, r.lor, r.data⟩
  else if r.fn = 17 then ⟨0, r.code, r.loc, r.cnt, r.sub, r.bits, r.vals, r.land, r.lor, []⟩
  else if r.fn = 22 then ⟨0, r.code, 0, r.cnt, r.sub, r.bits, r.vals, 0, 0, r.data⟩
  else ⟨0, r.code, r.loc, r.cnt, r.sub, r.bits, r.vals, r.land, r.lor, r.data⟩

theorem othersA_form (r : Rp) (hc : r.code = 0) (hk : knownB r.fn = true) : othersA r = zeroP ↔ formA r := by
  obtain ⟨f, k, a, c, s, bs, vs, m, o, ds⟩ := r
  simp only at hk hc
  subst hc
  rcases known_cases hk with rfl | rfl | rfl | rfl | rfl | rfl | rfl | rfl | rfl | rfl | rfl | rfl <;> simp [othersA, zeroP, formA, and_assoc]

set_option maxHeartbeats 1000000 in
theorem others_rep (v : Value) (r : Rp) (w : World) (h : IsRp w v r) (hk : knownB r.fn = true) :
    Calls Try.prog 80 #[v] w fun e w' => ∃ v', e = .returned v' ∧ IsRp w' v' (othersA r) ∧ Below w.heap.size w w' := by
  obtain ⟨f, k, a, c, s, bs, vs, m, o, ds⟩ := r
  obtain ⟨vb, vv, vd, rfl, hb, hv, hd⟩ := h
  obtain ⟨ab, capb, rfl, -⟩ := id hb
  obtain ⟨av, capv, rfl, -⟩ := id hv
  obtain ⟨ad, capd, rfl, -⟩ := id hd
  simp only at hb hv hd hk ⊢
  rcases known_cases hk with rfl | rfl | rfl | rfl | rfl | rfl | rfl | rfl | rfl | rfl | rfl | rfl
  all_goals
    clear hk
    go_enter Try.func80, Try.ntmps80
    go_wp2
  all_goals
    refine bodyPost_ret (v := _) (by simp [results, Try.results80, go_sem]; with_reducible rfl) rfl ?_
    have hB := fun o1 o2 => ((Below.refl w.heap.size w).alloc (Nat.le_refl _) o1).alloc (by simp) o2
    refine ⟨_, rfl, ?_, hB _ _⟩
    simp only [List.length_map] at hb hv hd
    simp [othersA]
    refine ⟨_, _, _, rfl, ?_, ?_, ?_⟩
    · first | exact Row.nil _ | exact hb.below (hB _ _)
    · first | exact Row.nil _ | exact hv.below (hB _ _)
    · first | exact Row.nil _ | exact hd.below (hB _ _)

set_option maxHeartbeats 1000000 in
theorem echoed_rep (v : Value) (r : Rp) (w : World) (h : IsRp w v r) :
    Calls Try.prog 65 #[v] w fun e w' => ∃ v', e = .returned v' ∧ IsRq w' v' (echoQ r) ∧ Below w.heap.size w w' := by
  obtain ⟨f, k, a, c, s, bs, vs, m, o, ds⟩ := r
  obtain ⟨vb, vv, vd, rfl, hb, hv, hd⟩ := h
  obtain ⟨ab, capb, rfl, -⟩ := id hb
  obtain ⟨av, capv, rfl, -⟩ := id hv
  obtain ⟨ad, capd, rfl, -⟩ := id hd
  simp only at hb hv hd ⊢
  go_enter Try.func65, Try.ntmps65
  go_wp2
  refine bodyPost_ret (v := _) (by simp [results, Try.results65, go_sem]; with_reducible rfl) rfl ?_
  have hB := fun o1 o2 => ((Below.refl w.heap.size w).alloc (Nat.le_refl _) o1).alloc (by simp) o2
  refine ⟨_, rfl, ?_, hB _ _⟩
  simp only [List.length_map] at hb hv
  exact ⟨_, _, rfl, hb.below (hB _ _), hv.below (hB _ _)⟩

def NewP (base : Nat) (v : Value) : Prop := ∃ f k a c s vb vv m o vd, v = rpV f k a c s vb vv m o vd ∧ NewV base vb ∧ NewV base vv ∧ NewV base vd

set_option maxHeartbeats 400000 in
theorem known_rep (f : Int) (w : World) : Calls Try.prog 78 #[.int .i64 f] w fun e w' => e = .returned (.bool (knownB f)) ∧ Below w.heap.size w w' := by
  have C := hidden (right_pdu _ ⟨f, 0, 0, 0, 0, [], [], 0, 0⟩ w ⟨_, _, rfl, Row.nil _, Row.nil _⟩)
  have E : Hid ((rightE ⟨f, 0, 0, 0, 0, [], [], 0, 0⟩ != 15) = knownB f) := by
    show _ = _
    cases hk : knownB f
    · simp [rightE, hk]
    · rw [bne_iff_ne]
      unfold rightE
      rw [if_neg (by rw [hk]; simp)]
      split
      · decide
      · split
        · decide
        · split <;> decide
  generalize rightE ⟨f, 0, 0, 0, 0, [], [], 0, 0⟩ = R at *
  go_enter Try.func78, Try.ntmps78
  go_wp2_with fail
  refine C.out.mono ?_
  rintro e w1 ⟨rfl, B1⟩
  go_wp2
  go_ret
  exact ⟨ret_bool E.out, B1⟩

end Go.Proofs.Ytdihcdphgiaepaa
