/- Replies, and the blocks that they lead to. -/
import Derived.Test.YthiheimpmnihcaaA9
import Derived.Test.YthiheimpmnihcaaK6
namespace Go.Proofs.Ythiheimpmnihcaa
open Go.RowKit

theorem IsRp.dev {w w' : World} {v : Value} {r : Rp} {g : Nat} (h : IsRp w v r) (hn : ¬ occ g v) (hd : Dev w.heap.size g w w') : IsRp w' v r := by
  obtain ⟨vb, vv, vd, rfl, h1, h2, h3⟩ := h
  exact ⟨vb, vv, vd, rfl, h1.dev1 (fun h => hn ⟨vb, by simp [Value.cells], h⟩) hd, h2.dev1 (fun h => hn ⟨vv, by simp [Value.cells], h⟩) hd, h3.dev1 (fun h => hn ⟨vd, by simp [Value.cells], h⟩) hd⟩
theorem IsRp.ltv {w : World} {v : Value} {r : Rp} (h : IsRp w v r) : LtV v w := by
  obtain ⟨vb, vv, vd, rfl, h1, h2, h3⟩ := h
  rintro g ⟨c, hc, ho⟩
  simp only [Value.cells, List.mem_cons, List.not_mem_nil, or_false] at hc
  rcases hc with rfl | rfl | rfl | rfl | rfl | rfl | rfl | rfl | rfl | rfl
  all_goals first | exact h1.occ_lt ho | exact h2.occ_lt ho | exact h3.occ_lt ho | exact ho.elim
theorem IsRq.dev {w w' : World} {v : Value} {r : Rq} {g : Nat} (h : IsRq w v r) (hn : ¬ occ g v) (hd : Dev w.heap.size g w w') : IsRq w' v r := by
  obtain ⟨vb, vv, rfl, h1, h2⟩ := h
  exact ⟨vb, vv, rfl, h1.dev1 (fun h => hn ⟨vb, by simp [Value.cells], h⟩) hd, h2.dev1 (fun h => hn ⟨vv, by simp [Value.cells], h⟩) hd⟩
theorem IsRq.ltv {w : World} {v : Value} {r : Rq} (h : IsRq w v r) : LtV v w := by
  obtain ⟨vb, vv, rfl, h1, h2⟩ := h
  rintro g ⟨c, hc, ho⟩
  simp only [Value.cells, List.mem_cons, List.not_mem_nil, or_false] at hc
  rcases hc with rfl | rfl | rfl | rfl | rfl | rfl | rfl | rfl | rfl
  all_goals first | exact h1.occ_lt ho | exact h2.occ_lt ho | exact ho.elim
theorem FromQ.fresh {lo : Nat} {qv v : Value} {w0 w : World} {q : Rq} {r : Rp} (h : FromQ lo qv v) (hq : IsRq w0 qv q) (hr : IsRp w v r) : FreshV w0.heap.size lo v := by
  obtain ⟨x0, x1, x2, x3, x4, vb, vv, x7, x8, vd, z0, z1, z2, z3, z4, qb, qw, z7, z8, rfl, rfl, h1, h2, h3⟩ := h
  obtain ⟨vb', vv', vd', e, hb, hv, hd⟩ := hr
  simp only [rpV, Value.agg.injEq, Array.mk.injEq, List.cons.injEq, and_true] at e
  obtain ⟨rfl, rfl, rfl, rfl, rfl, rfl, rfl, rfl, rfl, rfl⟩ := e
  rintro g hg ⟨c, hc, ho⟩
  have old : ∀ v, v = qb ∨ v = qw → occ1 g v → False := by
    intro v hv ho
    have := hq.ltv g ⟨v, by rcases hv with rfl | rfl <;> simp [Value.cells], ho⟩
    omega
  have sl : ∀ {v xs}, Row w v xs → NewV lo v → occ1 g v → lo ≤ g := by
    intro v xs hr hn ho
    obtain ⟨a, cap, rfl, -⟩ := hr
    cases a with
    | none => exact ho.elim
    | some a => obtain ⟨_, rfl⟩ := ho; exact hn a _ _ rfl
  simp only [Value.cells, List.mem_cons, List.not_mem_nil, or_false] at hc
  rcases hc with rfl | rfl | rfl | rfl | rfl | rfl | rfl | rfl | rfl | rfl
  case inr.inr.inr.inr.inr.inl => rcases h1 with h1 | h1; exact sl hb h1 ho; exact (old _ (.inl h1) ho).elim
  case inr.inr.inr.inr.inr.inr.inl => rcases h2 with h2 | h2; exact sl hv h2 ho; exact (old _ (.inr h2) ho).elim
  case inr.inr.inr.inr.inr.inr.inr.inr.inr => exact sl hd h3 ho
  all_goals exact ho.elim

/-- a made reply -/
def MadeR (q : Rq) (v : Value) (w : World) : Prop := ∃ r, IsRp w v r ∧ r.fn = q.fn ∧ goodE r = 0 ∧ askB r q.cnt = true
theorem MadeR.ext {q : Rq} {v : Value} {w w' : World} (h : MadeR q v w) (hx : Ext w w') : MadeR q v w' := by
  obtain ⟨r, h1, h2⟩ := h
  exact ⟨r, h1.below hx, h2⟩
theorem MadeR.ltv {q : Rq} {v : Value} {w : World} (h : MadeR q v w) : LtV v w := by
  obtain ⟨r, h1, -⟩ := h
  exact h1.ltv

theorem made_take {q : Rq} {r : Rp} (hf : r.fn = q.fn) (hg : goodE r = 0) (ha : askB r q.cnt = true) (hk : knownB q.fn = true) : takeE (layA r) q.fn q.cnt = 0 ∧ takeR (layA r) q.fn q.cnt = r := by
  have hi : isA (layA r) q.cnt r := ⟨hg, rfl, ha⟩
  obtain ⟨-, f1, f2⟩ := fn_lay hi
  have hans : ansB (fnOf (layA r)) q.fn = true := by
    have := known_cases hk
    by_cases hc : r.code = 0
    · rw [(f2 hc).1, hf]; simp [ansB]; omega
    · rw [(f1 hc).1, hf]; simp [ansB]; omega
  exact ⟨takeE_is hans hi, takeR_is hans hi⟩
/-- replies with the same bytes are of one function, and refusals both or none -/
theorem isA_fn {b : List UInt8} {c d : Int} {s r : Rp} (hs : isA b c s) (hr : isA b d r) : s.fn = r.fn ∧ (s.code ≠ 0 → r.code ≠ 0) ∧ (r.code = 0 → s.code = 0) := by
  obtain ⟨-, s1, s2⟩ := fn_lay hs
  obtain ⟨-, r1, r2⟩ := fn_lay hr
  by_cases h1 : s.code = 0
  · obtain ⟨e1, k1⟩ := s2 h1
    have := known_cases k1
    by_cases h2 : r.code = 0
    · obtain ⟨e2, -⟩ := r2 h2
      exact ⟨by omega, fun h => absurd h1 h, fun _ => h1⟩
    · obtain ⟨e2, -⟩ := r1 h2
      have := good_code hr.1 h2
      omega
  · obtain ⟨e1, -⟩ := s1 h1
    have g1 := good_code hs.1 h1
    by_cases h2 : r.code = 0
    · obtain ⟨e2, k2⟩ := r2 h2
      have := known_cases k2
      omega
    · obtain ⟨e2, -⟩ := r1 h2
      exact ⟨by omega, fun _ => h2, fun h => absurd h h2⟩
theorem IsRq.cnt {w : World} {f a c p s : Int} {vb vv : Value} {m o : UInt16} {q : Rq} (h : IsRq w (rqV f a c p s vb vv m o) q) (d : Int) : IsRq w (rqV f a d p s vb vv m o) { q with cnt := d } := by
  obtain ⟨vb', vv', e, h1, h2⟩ := h
  simp only [rqV, Value.agg.injEq, Array.mk.injEq, List.cons.injEq, Value.int.injEq, true_and, and_true] at e
  obtain ⟨rfl, rfl, -, rfl, rfl, rfl, rfl, e1, e2⟩ := e
  have e1' : m = q.land := UInt16.toNat_inj.1 (by omega)
  have e2' : o = q.lor := UInt16.toNat_inj.1 (by omega)
  subst e1' e2'
  exact ⟨_, _, rfl, h1, h2⟩
theorem layA_same {q : Rq} {r s : Rp} (gr : goodE r = 0) (gs : goodE s = 0) (ar : askB r q.cnt = true) (as' : askB s q.cnt = true) : (layA r == layA s) = decide (r = s) := by
  by_cases h : r = s
  · subst h; simp
  · have : layA r ≠ layA s := fun e => h (isA_one (b := layA r) (c := q.cnt) ⟨gr, rfl, ar⟩ ⟨gs, e.symm, as'⟩)
    simp [h, this]
end Go.Proofs.Ythiheimpmnihcaa
