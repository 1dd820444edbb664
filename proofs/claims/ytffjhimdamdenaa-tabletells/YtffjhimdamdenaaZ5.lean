/- Covers: mathematics. -/
import Derived.Test.YtffjhimdamdenaaZ4
namespace Go.Proofs.Ytffjhimdamdenaa
open Go.RowKit

def hasB (x : Int × Int) (a : Int) : Bool := decide (x.1 ≤ a ∧ a < x.1 + x.2)
def fnd (l : SL) (a : Int) : Option (Int × Int) := l.find? (hasB · a)
def pcN (x : Int × Int) (a n : Int) : Int := min (x.1 + x.2) (a + n) - a
theorem hasB_iff {x : Int × Int} {a : Int} : hasB x a = true ↔ x.1 ≤ a ∧ a < x.1 + x.2 := by simp [hasB]
theorem hasB_f {x : Int × Int} {a : Int} : hasB x a = false ↔ ¬ (x.1 ≤ a ∧ a < x.1 + x.2) := by rw [← hasB_iff]; simp
theorem pcN_pos {x : Int × Int} {a n : Int} (h : hasB x a = true) (hn : 0 < n) : 1 ≤ pcN x a n ∧ pcN x a n ≤ n := by
  have := hasB_iff.1 h
  unfold pcN
  omega
theorem fnd_has {l : SL} {a : Int} {x : Int × Int} (h : fnd l a = some x) : hasB x a = true ∧ x ∈ l := ⟨by have := List.find?_some h; simpa using this, List.mem_of_find?_eq_some h⟩
theorem fnd_hit {l : SL} {a : Int} {k : Nat} (hk : k < l.length) (h0 : fnd (l.take k) a = none) (h : hasB (l.getD k (0, 0)) a = true) : fnd l a = some (l.getD k (0, 0)) := by
  have e : l = l.take k ++ l.getD k (0, 0) :: l.drop (k + 1) := by
    rw [List.getD_eq_getElem?_getD, List.getElem?_eq_getElem hk]
    simp
  unfold fnd at *
  generalize l.getD k (0, 0) = x at *
  rw [e, List.find?_append, h0]
  simp [h]
theorem fnd_miss {l : SL} {a : Int} {k : Nat} (hk : k < l.length) (h0 : fnd (l.take k) a = none) (h : hasB (l.getD k (0, 0)) a = false) : fnd (l.take (k + 1)) a = none := by
  unfold fnd at *
  rw [List.take_succ_eq_append_getElem hk, List.find?_append, h0]
  rw [List.getD_eq_getElem?_getD, List.getElem?_eq_getElem hk] at h
  simp at h ⊢
  exact h

def covF (l : SL) : Nat → Int → Int → Option SL
  | 0, _, _ => some []
  | f + 1, a, n => if n ≤ 0 then some [] else
      match fnd l a with
      | none => none
      | some x => (covF l f (a + pcN x a n) (n - pcN x a n)).map ((a, pcN x a n) :: ·)
theorem covF_stable (l : SL) : ∀ (f f' : Nat) (a n : Int), n.toNat ≤ f → n.toNat ≤ f' → covF l f a n = covF l f' a n
  | 0, 0, _, _, _, _ => rfl
  | 0, f' + 1, a, n, h, _ => by unfold covF; rw [if_pos (by omega)]
  | f + 1, 0, a, n, _, h => by unfold covF; rw [if_pos (by omega)]
  | f + 1, f' + 1, a, n, h, h' => by
    unfold covF
    by_cases h0 : n ≤ 0
    · rw [if_pos h0, if_pos h0]
    · rw [if_neg h0, if_neg h0]
      cases hf : fnd l a with
      | none => rfl
      | some x =>
        have := pcN_pos (fnd_has hf).1 (by omega : 0 < n)
        simp only
        rw [covF_stable l f f' (a + pcN x a n) (n - pcN x a n) (by omega) (by omega)]
def cov (l : SL) (a n : Int) : Option SL := covF l n.toNat a n
theorem cov_zero {l : SL} {a n : Int} (h : n ≤ 0) : cov l a n = some [] := by
  unfold cov
  have : n.toNat = 0 := by omega
  rw [this]; rfl
theorem cov_none {l : SL} {a n : Int} (h : 0 < n) (hf : fnd l a = none) : cov l a n = none := by
  unfold cov
  obtain ⟨m, hm⟩ : ∃ m, n.toNat = m + 1 := ⟨n.toNat - 1, by omega⟩
  rw [hm]; unfold covF
  rw [if_neg (by omega), hf]
theorem cov_some {l : SL} {a n : Int} {x : Int × Int} (h : 0 < n) (hf : fnd l a = some x) : cov l a n = (cov l (a + pcN x a n) (n - pcN x a n)).map ((a, pcN x a n) :: ·) := by
  unfold cov
  obtain ⟨m, hm⟩ : ∃ m, n.toNat = m + 1 := ⟨n.toNat - 1, by omega⟩
  have := pcN_pos (fnd_has hf).1 h
  rw [hm]; unfold covF
  rw [if_neg (by omega), hf]
  simp only
  rw [covF_stable l m (n - pcN x a n).toNat _ _ (by omega) (Nat.le_refl _)]
  cases (n - pcN x a n).toNat <;> rfl
def covR (l : SL) (a n : Int) : Option SL := if tk a n && allB l then cov l a n else none
theorem allB_mem {l : SL} (h : allB l = true) {x : Int × Int} (hx : x ∈ l) : tk x.1 x.2 = true := by
  unfold allB at h
  exact List.all_eq_true.1 h x hx
theorem allB_at {l : SL} (h : allB l = true) {k : Nat} (hk : k < l.length) : tk (l.getD k (0, 0)).1 (l.getD k (0, 0)).2 = true := by
  rw [List.getD_eq_getElem?_getD, List.getElem?_eq_getElem hk]; exact allB_mem h (List.getElem_mem hk)
theorem meet_piece {x y a n : Int} (h1 : tk x y = true) (h2 : tk a n = true) (h : hasB (x, y) a = true) : meetE x y a n = true ∧ meetA x y a n = a ∧ meetN x y a n = pcN (x, y) a n := by
  have := hasB_iff.1 h
  obtain ⟨q1, q2, q3⟩ := tk_iff.1 h2
  obtain ⟨q4, q5, q6⟩ := tk_iff.1 h1
  simp only at this
  have e : meetE x y a n = true := by simp [meetE, h1, h2]; omega
  refine ⟨e, ?_, ?_⟩
  · unfold meetA; rw [if_pos e]; omega
  · unfold meetN; rw [if_pos e]; unfold pcN; simp only; omega
theorem meet_miss {x y a n : Int} (h1 : tk x y = true) (h2 : tk a n = true) (h : hasB (x, y) a = false) : meetE x y a n = false ∨ (meetE x y a n = true ∧ meetA x y a n ≠ a) := by
  cases e : meetE x y a n
  · exact .inl rfl
  · refine .inr ⟨rfl, ?_⟩
    unfold meetA; rw [if_pos e]
    have := hasB_f.1 h
    simp only at this
    simp only [meetE, h1, h2, Bool.true_and, decide_eq_true_eq] at e
    intro hh
    apply this
    omega
end Go.Proofs.Ytffjhimdamdenaa
