/- Lists of spans in memory; span.allTaken. -/
import Derived.Test.YtffjhimdamdenaaZ3
import Derived.Maps.AppendAt
namespace Go.Proofs.Ytffjhimdamdenaa
open Go.RowKit

abbrev SL := List (Int × Int)
def scs (l : SL) : List Value := l.flatMap fun x => [.int .i64 x.1, .int .i64 x.2]
theorem scs_len (l : SL) : (scs l).length = l.length * 2 := by
  induction l with
  | nil => rfl
  | cons x r ih => simp [scs] at ih ⊢; omega
theorem scs_app (l k : SL) : scs (l ++ k) = scs l ++ scs k := by simp [scs]
theorem scs_get : ∀ (l : SL) (i : Nat), i < l.length → (scs l)[i * 2]? = some (.int .i64 (l.getD i (0, 0)).1) ∧ (scs l)[i * 2 + 1]? = some (.int .i64 (l.getD i (0, 0)).2)
  | [], i, h => by simp at h
  | x :: r, 0, _ => by simp [scs]
  | x :: r, i + 1, h => by
    have := scs_get r i (by simpa using h)
    rw [show (i + 1) * 2 = i * 2 + 1 + 1 by omega]
    simpa [scs] using this
/-- v is a slice of the spans l -/
def Sps (w : World) (v : Value) (l : SL) : Prop :=
  ∃ a cap, v = .slice a l.length cap ∧ l.length ≤ cap ∧ cap ≤ maxLen ∧
    (l = [] ∨ ∃ b off, a = some ⟨b, off, none⟩ ∧ ∀ i, i < l.length → w.cell? ⟨b, off + i * 2, none⟩ = some (.int .i64 (l.getD i (0, 0)).1) ∧ w.cell? ⟨b, off + i * 2 + 1, none⟩ = some (.int .i64 (l.getD i (0, 0)).2))
theorem Sps.ext {w w' : World} {v : Value} {l : SL} (h : Sps w v l) (hb : Below w.heap.size w w') : Sps w' v l := by
  obtain ⟨a, cap, rfl, h1, h2, h3⟩ := h
  refine ⟨a, cap, rfl, h1, h2, ?_⟩
  rcases h3 with h3 | ⟨b, off, rfl, hc⟩
  · exact .inl h3
  · refine .inr ⟨b, off, rfl, fun i hi => ?_⟩
    obtain ⟨q1, q2⟩ := hc i hi
    have hlt := lt_of_cell q1
    rw [hb.cell (p := ⟨b, off + i * 2, none⟩) hlt, hb.cell (p := ⟨b, off + i * 2 + 1, none⟩) hlt]
    exact ⟨q1, q2⟩
theorem Sps.nil (w : World) : Sps w (.slice none 0 0) [] := ⟨none, 0, rfl, Nat.le_refl _, Nat.zero_le _, .inl rfl⟩
theorem Sps.drew {w : World} {v : Value} {l : SL} (h : Sps w v l) : Sps w.drew v l := h.ext (Below.refl _ _).drew
theorem Sps.take {w : World} {a : Option Addr} {n cap : Nat} {l : SL} (h : Sps w (.slice a n cap) l) (k : Nat) (hk : k ≤ n) : Sps w (.slice a k cap) (l.take k) := by
  obtain ⟨a', cap', e, h1, h2, h3⟩ := h
  simp only [Value.slice.injEq] at e
  obtain ⟨rfl, rfl, rfl⟩ := e
  have hl : (l.take k).length = k := by simp; omega
  refine ⟨a, cap, by rw [hl], by omega, h2, ?_⟩
  rcases h3 with rfl | ⟨b, off, rfl, hc⟩
  · exact .inl (by simp)
  · refine .inr ⟨b, off, rfl, fun i hi => ?_⟩
    have hik : i < k := by omega
    have e : (l.take k).getD i (0, 0) = l.getD i (0, 0) := by simp [List.getD_eq_getElem?_getD, hik]
    rw [e]
    exact hc i (by omega)
theorem Sps.of_owns {w : World} {base : Nat} {t : TypeId} {v : Value} {n : Nat} {l : SL} (h : w.ownsRow base t 2 v n (scs l)) : Sps w v l := by
  have hn : l.length = n := by have := h.1; rw [scs_len] at this; omega
  rcases id h.2 with ⟨rfl, rfl⟩ | ⟨g, cap, cur, rfl, hb, hg, hle, hm, hs, ht⟩
  · have : l = [] := List.eq_nil_of_length_eq_zero hn
    subst this
    exact Sps.nil w
  · refine ⟨some ⟨g, 0, none⟩, cap, by rw [hn], by omega, hm, .inr ⟨g, 0, rfl, fun i hi => ?_⟩⟩
    obtain ⟨q1, q2⟩ := scs_get l i hi
    have r1 := h.cellAt (i * 2) (by omega)
    have r2 := h.cellAt (i * 2 + 1) (by omega)
    rw [q1] at r1
    rw [q2] at r2
    exact ⟨by simpa using r1, by simpa using r2⟩
theorem Sps.at {w : World} {a : Option Addr} {n cap : Nat} {l : SL} (h : Sps w (.slice a n cap) l) : n = l.length ∧ n ≤ cap ∧ cap ≤ maxLen ∧
    ∀ i, i < n → ∃ b off, a = some ⟨b, off, none⟩ ∧ ∀ j, j < n → w.cell? ⟨b, off + j * 2, none⟩ = some (.int .i64 (l.getD j (0, 0)).1) ∧ w.cell? ⟨b, off + j * 2 + 1, none⟩ = some (.int .i64 (l.getD j (0, 0)).2) := by
  obtain ⟨a', cap', e, h1, h2, h3⟩ := h
  simp only [Value.slice.injEq] at e
  obtain ⟨rfl, rfl, rfl⟩ := e
  refine ⟨rfl, h1, h2, fun i hi => ?_⟩
  rcases h3 with rfl | ⟨b, off, rfl, hc⟩
  · simp at hi
  · exact ⟨b, off, rfl, hc⟩
def OkL (l : SL) : Prop := ∀ x ∈ l, i64 x.1 ∧ i64 x.2
theorem OkL.at {l : SL} (h : OkL l) {i : Nat} (hi : i < l.length) : i64 (l.getD i (0, 0)).1 ∧ i64 (l.getD i (0, 0)).2 := by
  rw [List.getD_eq_getElem?_getD, List.getElem?_eq_getElem hi]; exact h _ (List.getElem_mem hi)
theorem OkL.take {l : SL} (h : OkL l) (k : Nat) : OkL (l.take k) := fun x hx => h x (List.mem_of_mem_take hx)

def allB (l : SL) : Bool := l.all fun x => tk x.1 x.2
theorem take_all {l : SL} {k : Nat} (hk : k < l.length) : allB (l.take (k + 1)) = (allB (l.take k) && tk (l.getD k (0, 0)).1 (l.getD k (0, 0)).2) := by
  unfold allB
  rw [List.take_succ_eq_append_getElem hk, List.all_append]
  simp [List.getD_eq_getElem?_getD, List.getElem?_eq_getElem hk]
theorem all_bad {l : SL} {k : Nat} (hk : k < l.length) (h : tk (l.getD k (0, 0)).1 (l.getD k (0, 0)).2 = false) : allB l = false := by
  unfold allB
  rw [List.all_eq_false]
  refine ⟨l[k], List.getElem_mem hk, ?_⟩
  rw [List.getD_eq_getElem?_getD, List.getElem?_eq_getElem hk] at h
  simp at h ⊢
  exact h

end Go.Proofs.Ytffjhimdamdenaa
