/- Mathematics of burgagelaw7.SpanCells. -/
import Derived.Test.YtdclbknahialcaaZE
namespace Go.Proofs.Ytdclbknahialcaa
open Go.RowKit

def sumN : SL → Int
  | [] => 0
  | x :: r => x.2 + sumN r
theorem sumN_app : ∀ l k : SL, sumN (l ++ k) = sumN l + sumN k
  | [], k => by simp [sumN]
  | x :: r, k => by simp only [List.cons_append, sumN, sumN_app r k]; omega
theorem sumN_take {l : SL} {k : Nat} (hk : k < l.length) : sumN (l.take (k + 1)) = sumN (l.take k) + (l.getD k (0, 0)).2 := by
  rw [take_push hk, sumN_app]; simp [sumN]
def SmL (l : SL) : Prop := ∀ x ∈ l, 0 ≤ x.1 ∧ x.1 ≤ 15 ∧ 1 ≤ x.2 ∧ x.2 ≤ 8
theorem SmL.at {l : SL} (h : SmL l) {k : Nat} (hk : k < l.length) : 0 ≤ (l.getD k (0, 0)).1 ∧ (l.getD k (0, 0)).1 ≤ 15 ∧ 1 ≤ (l.getD k (0, 0)).2 ∧ (l.getD k (0, 0)).2 ≤ 8 := by
  rw [List.getD_eq_getElem?_getD, List.getElem?_eq_getElem hk]; exact h _ (List.getElem_mem hk)
theorem SmL.all {l : SL} (h : SmL l) : allB l = true := by
  unfold allB
  refine List.all_eq_true.2 (fun x hx => ?_)
  obtain ⟨h1, h2, h3, h4⟩ := h x hx
  exact tk_iff.2 ⟨h1, h3, by omega⟩
theorem SmL.ok {l : SL} (h : SmL l) : OkL l := fun x hx => by
  obtain ⟨h1, h2, h3, h4⟩ := h x hx
  unfold i64; omega
theorem SmL.push {l : SL} (h : SmL l) {p y : Int} (h1 : 0 ≤ p) (h2 : p ≤ 15) (h3 : 0 ≤ y) (h4 : y ≤ 7) : SmL (l ++ [(p, 1 + y)]) := by
  intro z hz
  rcases List.mem_append.1 hz with h' | h'
  · exact h z h'
  · simp only [List.mem_singleton] at h'
    subst h'
    simp only
    omega
/-- what the pieces of a cover are -/
def Chain (l ps : SL) (a : Int) : Prop := ∀ j, j < ps.length → (ps.getD j (0, 0)).1 = a + sumN (ps.take j) ∧ 1 ≤ (ps.getD j (0, 0)).2 ∧ ∃ x ∈ l, x.1 ≤ (ps.getD j (0, 0)).1 ∧ (ps.getD j (0, 0)).1 + (ps.getD j (0, 0)).2 ≤ x.1 + x.2
def anyAt (l : SL) (i : Int) : Bool := l.any (hasB · i)
theorem covF_facts (l : SL) : ∀ (f : Nat) (a n : Int), n.toNat ≤ f → match covF l f a n with
    | some ps => Chain l ps a ∧ (0 ≤ n → sumN ps = n) ∧ ∀ i, a ≤ i → i < a + n → anyAt l i = true
    | none => ∃ i, a ≤ i ∧ i < a + n ∧ anyAt l i = false
  | 0, a, n, h => by
    unfold covF
    exact ⟨fun j hj => by simp at hj, fun h0 => by simp only [sumN]; omega, fun i h1 h2 => by omega⟩
  | f + 1, a, n, h => by
    unfold covF
    by_cases h0 : n ≤ 0
    · rw [if_pos h0]
      exact ⟨fun j hj => by simp at hj, fun h1 => by simp only [sumN]; omega, fun i h1 h2 => by omega⟩
    · rw [if_neg h0]
      cases hf : fnd l a with
      | none =>
        refine ⟨a, Int.le_refl _, by omega, ?_⟩
        unfold fnd at hf
        unfold anyAt
        rw [List.find?_eq_none] at hf
        rw [List.any_eq_false]
        exact hf
      | some x =>
        obtain ⟨hx, hm⟩ := fnd_has hf
        have hp := pcN_pos hx (by omega : 0 < n)
        have hb := hasB_iff.1 hx
        have hend : a + pcN x a n ≤ x.1 + x.2 := by unfold pcN; omega
        have ih := covF_facts l f (a + pcN x a n) (n - pcN x a n) (by omega)
        have hit : ∀ i, a ≤ i → i < a + pcN x a n → anyAt l i = true := fun i h1 h2 => by
          unfold anyAt
          rw [List.any_eq_true]
          exact ⟨x, hm, hasB_iff.2 ⟨by omega, by omega⟩⟩
        simp only
        cases hc : covF l f (a + pcN x a n) (n - pcN x a n) with
        | none =>
          rw [hc] at ih
          obtain ⟨i, h1, h2, h3⟩ := ih
          exact ⟨i, by omega, by omega, h3⟩
        | some ps =>
          rw [hc] at ih
          obtain ⟨h1, h2, h3⟩ := ih
          simp only [Option.map_some]
          refine ⟨fun j hj => ?_, fun h4 => by simp only [sumN]; have := h2 (by omega); omega, fun i h4 h5 => ?_⟩
          · cases j with
            | zero => exact ⟨by simp [sumN], by simpa using hp.1, x, hm, by simpa using hb.1, by simpa using hend⟩
            | succ j =>
              obtain ⟨e1, e2, e3⟩ := h1 j (by simpa using hj)
              refine ⟨?_, by simpa using e2, by simpa using e3⟩
              simp only [List.getD_cons_succ, List.take_succ_cons, sumN]
              rw [e1]
              omega
          · by_cases h6 : i < a + pcN x a n
            · exact hit i h4 h6
            · exact h3 i (by omega) (by omega)
theorem cov_facts {l : SL} {a n : Int} (hl : SmL l) (ht : tk a n = true) : Chain l ((covR l a n).getD []) a ∧ ((covR l a n).isSome = true → sumN ((covR l a n).getD []) = n) ∧ ((covR l a n).isSome = true ↔ ∀ i, a ≤ i → i < a + n → anyAt l i = true) := by
  have h := covF_facts l n.toNat a n (Nat.le_refl _)
  have e : covR l a n = covF l n.toNat a n := by unfold covR cov; simp [ht, hl.all]
  obtain ⟨-, h1, -⟩ := tk_iff.1 ht
  rw [e]
  cases hc : covF l n.toNat a n with
  | none =>
    rw [hc] at h
    obtain ⟨i, h2, h3, h4⟩ := h
    refine ⟨fun j hj => by simp at hj, fun h => by simp at h, ?_⟩
    simp
    exact ⟨i, h2, h3, h4⟩
  | some ps =>
    rw [hc] at h
    obtain ⟨h2, h3, h4⟩ := h
    exact ⟨h2, fun _ => h3 (by omega), by simp only [Option.isSome_some, true_iff]; exact h4⟩
theorem sumN_pos {l ps : SL} {a : Int} (h : Chain l ps a) : ∀ j, j ≤ ps.length → 0 ≤ sumN (ps.take j)
  | 0, _ => by simp [sumN]
  | j + 1, hj => by
    rw [sumN_take (by omega)]
    have := sumN_pos h j (by omega)
    have := (h j (by omega)).2.1
    omega
def anyIn (l : SL) (p q : Int) : Bool := l.any fun f => inB p q f.1 f.2
theorem chain_at {l ps : SL} {a : Int} (hl : SmL l) (h : Chain l ps a) (ha : 0 ≤ a) {j : Nat} (hj : j < ps.length) :
    (ps.getD j (0, 0)).1 = a + sumN (ps.take j) ∧ 0 ≤ (ps.getD j (0, 0)).1 ∧ 1 ≤ (ps.getD j (0, 0)).2 ∧ (ps.getD j (0, 0)).1 + (ps.getD j (0, 0)).2 ≤ 23 ∧ anyIn l (ps.getD j (0, 0)).1 (ps.getD j (0, 0)).2 = true := by
  obtain ⟨h1, h2, x, hx, h3, h4⟩ := h j hj
  have h5 := sumN_pos h j (by omega)
  obtain ⟨q1, q2, q3, q4⟩ := hl x hx
  refine ⟨h1, by omega, h2, by omega, ?_⟩
  unfold anyIn
  rw [List.any_eq_true]
  exact ⟨x, hx, (inB_iff (tk_iff.2 ⟨by omega, h2, by omega⟩) (tk_iff.2 ⟨q1, q3, by omega⟩)).2 ⟨h3, h4⟩⟩
theorem take_any {l : SL} {k : Nat} (hk : k < l.length) (f : Int × Int → Bool) : (l.take (k + 1)).any f = ((l.take k).any f || f (l.getD k (0, 0))) := by
  rw [take_push hk, List.any_append]; simp
end Go.Proofs.Ytdclbknahialcaa
