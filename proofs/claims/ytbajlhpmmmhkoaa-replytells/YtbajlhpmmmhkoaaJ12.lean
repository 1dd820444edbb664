/- Contracts of reply.listed, asked, others, echo, echoed, known, slices.Clone. -/
import Derived.Test.YtbajlhpmmmhkoaaJ10
import Derived.Test.YtbajlhpmmmhkoaaJ11
namespace Go.Proofs.Ytbajlhpmmmhkoaa
open Go.RowKit
set_option maxHeartbeats 1000000 in
theorem listed_rep (v : Value) (r : Rp) (w : World) (h : IsRp w v r) (hk : knownB r.fn = true) :
  Calls Try.prog 48 #[v] w fun e w' => e = .returned (.bool (listA r)) ∧ Below w.heap.size w w' := by
 obtain ⟨ab, capb, av, capv, ad, capd, rfl, h1, h2, h3⟩ := h.slices
 obtain ⟨f, k, a, c, s, bs, vs, m, o, ds⟩ := r
 simp only at h1 h2 h3 hk ⊢
 clear h
 have B : Hid (∀ o, Below w.heap.size w (w.alloc o)) := fun o => (Below.refl _ _).alloc (Nat.le_refl _) o
 rcases known_cases hk with rfl | rfl | rfl | rfl | rfl | rfl | rfl | rfl | rfl | rfl | rfl | rfl
 all_goals
  clear hk
  go_enter Try.func48, Try.ntmps48
  go_wp2
  go_ret
  refine ⟨ret_bool ?_, B.out _⟩
  rw [Bool.eq_iff_iff]
  simp [listA]
  try omega
set_option maxHeartbeats 1000000 in
theorem asked_rep (v : Value) (r : Rp) (c' : Int) (w : World) (h : IsRp w v r) :
  Calls Try.prog 54 #[v, .int .i64 c'] w fun e w' => e = .returned (.bool (askB r c')) ∧ Below w.heap.size w w' := by
 obtain ⟨ab, capb, av, capv, ad, capd, rfl, h1, h2, h3⟩ := h.slices
 obtain ⟨f, k, a, c, s, bs, vs, m, o, ds⟩ := r
 simp only at h1 h2 h3 ⊢
 clear h
 have B : Hid (∀ o, Below w.heap.size w (w.alloc o)) := fun o => (Below.refl _ _).alloc (Nat.le_refl _) o
 by_cases hk : k = 0
 ·
  subst hk
  by_cases h12 : f = 1 ∨ f = 2
  ·
   have e : askB ⟨f, 0, a, c, s, bs, vs, m, o, ds⟩ c' = ((bs.length : Int) == c') := by
    rw [Bool.eq_iff_iff]; simp [askB, h12]
   rw [e]
   clear e
   rcases h12 with rfl | rfl
   all_goals
    go_enter Try.func54, Try.ntmps54
    go_wp2
    go_ret
    exact ⟨rfl, B.out _⟩
  ·
   by_cases h34 : f = 3 ∨ f = 4 ∨ f = 23
   ·
    have e : askB ⟨f, 0, a, c, s, bs, vs, m, o, ds⟩ c' = ((vs.length : Int) == c') := by
     rw [Bool.eq_iff_iff]; simp [askB, h12, h34]
    rw [e]
    clear e h12
    rcases h34 with rfl | rfl | rfl
    all_goals
     go_enter Try.func54, Try.ntmps54
     go_wp2
     go_ret
     exact ⟨rfl, B.out _⟩
   ·
    have e : askB ⟨f, 0, a, c, s, bs, vs, m, o, ds⟩ c' = true := by
     simp [askB, h12, h34]
    rw [e]
    simp only [not_or] at h12 h34
    have t1 : (f == 1) = false := by simpa using h12.1
    have t2 : (f == 2) = false := by simpa using h12.2
    have t3 : (f == 3) = false := by simpa using h34.1
    have t4 : (f == 4) = false := by simpa using h34.2.1
    have t5 : (f == 23) = false := by simpa using h34.2.2
    clear e h12 h34
    go_enter Try.func54, Try.ntmps54
    go_wp2
    go_ret
    exact ⟨rfl, B.out _⟩
 ·
  have e : askB ⟨f, k, a, c, s, bs, vs, m, o, ds⟩ c' = true := by simp [askB, hk]
  rw [e]
  have t : (k != 0) = true := by simpa using hk
  clear e hk
  go_enter Try.func54, Try.ntmps54
  go_wp2
  go_ret
  exact ⟨rfl, B.out _⟩
def othersA (r : Rp) : Rp :=
 if r.fn = 1 ∨ r.fn = 2 then ⟨0, r.code, r.loc, r.cnt, r.sub, [], r.vals, r.land, r.lor, r.data⟩
 else if r.fn = 3 ∨ r.fn = 4 ∨ r.fn = 23 then ⟨0, r.code, r.loc, r.cnt, r.sub, r.bits, [], r.land, r.lor, r.data⟩
 else if r.fn = 5 then ⟨0, r.code, 0, r.cnt, r.sub, [], r.vals, r.land, r.lor, r.data⟩
 else if r.fn = 6 then ⟨0, r.code, 0, r.cnt, r.sub, r.bits, [], r.land, r.lor, r.data⟩
 else if r.fn = 8 then ⟨0, r.code, r.loc, r.cnt, 0, r.bits, [], r.land, r.lor, r.data⟩
 else if r.fn = 15 ∨ r.fn = 16 then ⟨0, r.code, 0, 0, r.sub, r.bits, r.vals, r.land, r.lor, r.data⟩
 else if r.fn = 17 then ⟨0, r.code, r.loc, r.cnt, r.sub, r.bits, r.vals, r.land, r.lor, []⟩
 else if r.fn = 22 then ⟨0, r.code, 0, r.cnt, r.sub, r.bits, r.vals, 0, 0, r.data⟩
 else ⟨0, r.code, r.loc, r.cnt, r.sub, r.bits, r.vals, r.land, r.lor, r.data⟩
theorem othersA_form (r : Rp) (hc : r.code = 0) (hk : knownB r.fn = true) : othersA r = zeroP ↔ formA r := by
 obtain ⟨f, k, a, c, s, bs, vs, m, o, ds⟩ := r
 simp only at hk hc
 subst hc
 rcases known_cases hk with rfl | rfl | rfl | rfl | rfl | rfl | rfl | rfl | rfl | rfl | rfl | rfl <;> simp [othersA, zeroP, formA, and_assoc]
set_option maxHeartbeats 1000000 in
theorem others_rep (v : Value) (r : Rp) (w : World) (h : IsRp w v r) (hk : knownB r.fn = true) :
  Calls Try.prog 46 #[v] w fun e w' => ∃ v', e = .returned v' ∧ IsRp w' v' (othersA r) ∧ Below w.heap.size w w' := by
 obtain ⟨f, k, a, c, s, bs, vs, m, o, ds⟩ := r
 obtain ⟨vb, vv, vd, rfl, hb, hv, hd⟩ := h
 obtain ⟨ab, capb, rfl, -⟩ := id hb
 obtain ⟨av, capv, rfl, -⟩ := id hv
 obtain ⟨ad, capd, rfl, -⟩ := id hd
 simp only at hb hv hd hk ⊢
 rcases known_cases hk with rfl | rfl | rfl | rfl | rfl | rfl | rfl | rfl | rfl | rfl | rfl | rfl
 all_goals
  clear hk
  go_enter Try.func46, Try.ntmps46
  go_wp2
 all_goals
  refine bodyPost_ret (v := _) (by simp [results, Try.results46, go_sem]; with_reducible rfl) rfl ?_
  have hB := fun o1 o2 => ((Below.refl w.heap.size w).alloc (Nat.le_refl _) o1).alloc (by simp) o2
  refine ⟨_, rfl, ?_, hB _ _⟩
  simp only [List.length_map] at hb hv hd
  simp [othersA]
  refine ⟨_, _, _, rfl, ?_, ?_, ?_⟩
  ·
   first | exact Row.nil _ | exact hb.below (hB _ _)
  ·
   first | exact Row.nil _ | exact hv.below (hB _ _)
  ·
   first | exact Row.nil _ | exact hd.below (hB _ _)
set_option maxHeartbeats 1000000 in
theorem echoed_rep (v : Value) (r : Rp) (w : World) (h : IsRp w v r) :
  Calls Try.prog 43 #[v] w fun e w' => ∃ v', e = .returned v' ∧ IsRq w' v' (echoQ r) ∧ Below w.heap.size w w' := by
 obtain ⟨f, k, a, c, s, bs, vs, m, o, ds⟩ := r
 obtain ⟨vb, vv, vd, rfl, hb, hv, hd⟩ := h
 obtain ⟨ab, capb, rfl, -⟩ := id hb
 obtain ⟨av, capv, rfl, -⟩ := id hv
 obtain ⟨ad, capd, rfl, -⟩ := id hd
 simp only at hb hv hd ⊢
 go_enter Try.func43, Try.ntmps43
 go_wp2
 refine bodyPost_ret (v := _) (by simp [results, Try.results43, go_sem]; with_reducible rfl) rfl ?_
 have hB := fun o1 o2 => ((Below.refl w.heap.size w).alloc (Nat.le_refl _) o1).alloc (by simp) o2
 refine ⟨_, rfl, ?_, hB _ _⟩
 simp only [List.length_map] at hb hv
 exact ⟨_, _, rfl, hb.below (hB _ _), hv.below (hB _ _)⟩
def NewP (base : Nat) (v : Value) : Prop := ∃ f k a c s vb vv m o vd, v = rpV f k a c s vb vv m o vd ∧ NewV base vb ∧ NewV base vv ∧ NewV base vd
set_option maxHeartbeats 1000000 in
theorem echo_rep (v : Value) (q : Rq) (w : World) (h : IsRq w v q) :
  Calls Try.prog 71 #[v] w fun e w' => ∃ v', e = .returned v' ∧ IsRp w' v' (echoP q) ∧ Below w.heap.size w w' ∧ ∀ base, NewQ base v → NewP base v' := by
 obtain ⟨f, a, c, p, s, bs, vs, m, o⟩ := q
 obtain ⟨vb, vv, rfl, hb, hv⟩ := h
 obtain ⟨ab, capb, rfl, -⟩ := id hb
 obtain ⟨av, capv, rfl, -⟩ := id hv
 simp only at hb hv ⊢
 go_enter Try.func71, Try.ntmps71
 go_wp2
 refine bodyPost_ret (v := _) (by simp [results, Try.results71, go_sem]; with_reducible rfl) rfl ?_
 have hB := fun o1 o2 => ((Below.refl w.heap.size w).alloc (Nat.le_refl _) o1).alloc (by simp) o2
 refine ⟨_, rfl, ?_, hB _ _, ?_⟩
 ·
  simp only [List.length_map] at hb hv
  exact ⟨_, _, _, rfl, hb.below (hB _ _), hv.below (hB _ _), Row.nil _⟩
 ·
  intro base hn
  obtain ⟨n1, n2⟩ := hn.parts
  simp only [List.length_map] at n1 n2
  exact ⟨_, _, _, _, _, _, _, _, _, _, rfl, n1, n2, NewV.none _ _ _⟩
set_option maxHeartbeats 400000 in
theorem known_rep (f : Int) (w : World) : Calls Try.prog 45 #[.int .i64 f] w fun e w' => e = .returned (.bool (knownB f)) ∧ Below w.heap.size w w' := by
 have C := hidden (right_pdu _ ⟨f, 0, 0, 0, 0, [], [], 0, 0⟩ w ⟨_, _, rfl, Row.nil _, Row.nil _⟩)
 have E : Hid ((rightE ⟨f, 0, 0, 0, 0, [], [], 0, 0⟩ != 15) = knownB f) := by
  show _ = _
  cases hk : knownB f
  ·
   simp [rightE, hk]
  ·
   rw [bne_iff_ne]
   unfold rightE
   rw [if_neg (by rw [hk]; simp)]
   split
   ·
    decide
   ·
    split
    ·
     decide
    ·
     split <;> decide
 generalize rightE ⟨f, 0, 0, 0, 0, [], [], 0, 0⟩ = R at *
 go_enter Try.func45, Try.ntmps45
 go_wp2_with fail
 refine C.out.mono ?_
 rintro e w1 ⟨rfl, B1⟩
 go_wp2
 go_ret
 exact ⟨ret_bool E.out, B1⟩
end Go.Proofs.Ytbajlhpmmmhkoaa
