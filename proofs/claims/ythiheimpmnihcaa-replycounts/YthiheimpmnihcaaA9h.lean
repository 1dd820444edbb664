/- Contract of burgagelaw4.made. -/
import Derived.Test.YthiheimpmnihcaaA8
import Derived.Test.YthiheimpmnihcaaAR1
namespace Go.Proofs.Ythiheimpmnihcaa
open Go.RowKit

/-- a reply whose lists are new memory, or a request's -/
def FromQ (base : Nat) (qv v : Value) : Prop := ∃ x0 x1 x2 x3 x4 vb vv x7 x8 vd z0 z1 z2 z3 z4 qb qw z7 z8, v = .agg #[x0, x1, x2, x3, x4, vb, vv, x7, x8, vd] ∧ qv = .agg #[z0, z1, z2, z3, z4, qb, qw, z7, z8] ∧ (NewV base vb ∨ vb = qb) ∧ (NewV base vv ∨ vv = qw) ∧ NewV base vd

theorem echoP_good {q : Rq} (h : rightE q = 0) (hf : q.fn = 5 ∨ q.fn = 6 ∨ q.fn = 8 ∨ q.fn = 22) : goodE (echoP q) = 0 := by
  obtain ⟨hk, hform, ⟨n1, n2, n3, n4⟩, hl⟩ := right_parts h
  clear h
  obtain ⟨f, a, c, p, s, bs, vs, m, o⟩ := q
  simp only at hf hk n1 n2 n3 n4
  have z : numB 0 = true := rfl
  rcases hf with rfl | rfl | rfl | rfl
  all_goals
    clear hk
    simp [formP] at hform
    simp [listB] at hl
  · obtain ⟨rfl, rfl, rfl, rfl, rfl, rfl⟩ := hform
    exact goodE_0 rfl rfl (by simp [formA, echoP]) (by simp [echoP, n1, z]) (by simp [listA, echoP, hl])
  · obtain ⟨rfl, rfl, rfl, rfl, rfl, rfl⟩ := hform
    exact goodE_0 rfl rfl (by simp [formA, echoP]) (by simp [echoP, n1, z]) (by simp [listA, echoP, hl])
  · obtain ⟨rfl, rfl, rfl, rfl, rfl, rfl⟩ := hform
    exact goodE_0 rfl rfl (by simp [formA, echoP]) (by simp [echoP, n3, z]) (by simp [listA, echoP, hl])
  · obtain ⟨rfl, rfl, rfl, rfl, rfl⟩ := hform
    exact goodE_0 rfl rfl (by simp [formA, echoP]) (by simp [echoP, n1, z]) (by simp [listA, echoP])

end Go.Proofs.Ythiheimpmnihcaa
