/- Which blocks a value leads to; values that have no new block in common; memory in which one block has changed. -/
import Derived.Test.YtaoimlcgifihiaaK5
import Derived.Test.YtaoimlcgifihiaaT1
namespace Go.Proofs.Ytaoimlcgifihiaa
open Go.RowKit

abbrev ptrV (g : Nat) : Value := .pointer (some ⟨g, 0, none⟩)
/-- block g is where a value of one cell leads to -/
def occ1 (g : Nat) : Value → Prop
  | .pointer (some a) => a.block = g
  | .slice (some a) n _ => 0 < n ∧ a.block = g
  | _ => False
def occ (g : Nat) (v : Value) : Prop := ∃ c ∈ v.cells.toList, occ1 g c
/-- no block from base on is where both lead to -/
def RelO (base : Nat) (u v : Value) : Prop := ∀ g, base ≤ g → occ g u → occ g v → False
theorem RelO.symm {base : Nat} (u v : Value) (h : RelO base u v) : RelO base v u := fun g hg h1 h2 => h g hg h2 h1
def FreshV (base lo : Nat) (v : Value) : Prop := ∀ g, base ≤ g → occ g v → lo ≤ g
def LtV (v : Value) (w : World) : Prop := ∀ g, occ g v → g < w.heap.size
theorem RelO.of {base : Nat} {u v : Value} {w : World} (hv : FreshV base w.heap.size v) (hu : LtV u w) : RelO base v u := fun g hg h1 h2 => by
  have := hv g hg h1
  have := hu g h2
  omega

theorem occ_ptr {g k : Nat} (h : occ g (ptrV k)) : g = k := by
  obtain ⟨c, hc, h1⟩ := h
  simp only [Value.cells, List.mem_singleton] at hc
  subst hc
  exact h1.symm
theorem occ_ptr_self (g : Nat) : occ g (ptrV g) := ⟨ptrV g, by simp [Value.cells], rfl⟩
theorem LtV.ptr {w : World} {g : Nat} (h : g < w.heap.size) : LtV (ptrV g) w := fun k hk => by rw [occ_ptr hk]; exact h
theorem FreshV.ptr {base lo g : Nat} (h : lo ≤ g) : FreshV base lo (ptrV g) := fun k _ hk => by rw [occ_ptr hk]; exact h

theorem Row.occ_lt {w : World} {v : Value} {xs : List Value} (h : Row w v xs) {g : Nat} (ho : occ1 g v) : g < w.heap.size := by
  obtain ⟨a, cap, rfl, h1, h2, h3, h4⟩ := h
  cases a with
  | none => exact ho.elim
  | some a =>
    obtain ⟨hn, rfl⟩ := ho
    rcases h4 with rfl | ⟨b, off, e, hc⟩
    · simp at hn
    · cases e
      have := hc 0 hn
      rw [List.getElem?_eq_getElem hn] at this
      exact lt_of_cell this
theorem Row.dev1 {w w' : World} {v : Value} {xs : List Value} {g : Nat} (h : Row w v xs) (hn : ¬ occ1 g v) (hd : Dev w.heap.size g w w') : Row w' v xs := by
  obtain ⟨a, cap, rfl, h1, h2, h3, h4⟩ := id h
  refine h.dev ?_ hd
  by_cases h0 : xs = []
  · exact .inl h0
  · right
    intro a' n' c' e
    simp only [Value.slice.injEq] at e
    obtain ⟨rfl, rfl, rfl⟩ := e
    have hp : 0 < xs.length := List.length_pos_iff.2 h0
    have hne : ¬ a'.block = g := fun e => hn ⟨hp, e⟩
    exact ⟨h.occ_lt ⟨hp, rfl⟩, hne⟩
theorem Dev.set (B g o : Nat) (w : World) (v : Value) : Dev B g w (w.setCell ⟨g, o, none⟩ v) :=
  ⟨rfl, rfl, rfl, by simp [World.setCell], fun k _ hk => by simp [World.setCell, Array.getElem?_modify, Ne.symm hk]⟩
theorem Dev.sets {B g o : Nat} {a w : World} (h : Dev B g a w) (v : Value) : Dev B g a (w.setCell ⟨g, o, none⟩ v) := h.trans (Dev.set B g o w v)
theorem Dev.belowOf {B B' g : Nat} {a w : World} (h : Dev B g a w) (hb : B' ≤ B) (hg : B' ≤ g) : Below B' a w := h.below hb hg

/-- v points to a block of its own, at least base, with those cells -/
def NewBox (base : Nat) (t : TypeId) (xs : List Value) (v : Value) (w : World) : Prop := ∃ g, v = ptrV g ∧ base ≤ g ∧ Blk w g t xs
theorem NewBox.ext {base : Nat} {t : TypeId} {xs : List Value} {v : Value} {w w' : World} (h : NewBox base t xs v w) (hx : Ext w w') : NewBox base t xs v w' := by
  obtain ⟨g, e, h1, h2⟩ := h
  exact ⟨g, e, h1, h2.below hx h2.lt⟩
theorem NewBox.ltv {base : Nat} {t : TypeId} {xs : List Value} {v : Value} {w : World} (h : NewBox base t xs v w) : LtV v w := by
  obtain ⟨g, rfl, h1, h2⟩ := h
  exact LtV.ptr h2.lt
end Go.Proofs.Ytaoimlcgifihiaa
