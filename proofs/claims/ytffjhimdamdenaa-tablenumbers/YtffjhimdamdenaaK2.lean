/- A region that draws its order, walked in one order: readers as soon as they may come, movers (calls, new blocks) one by one. A reader yields one value in every world in which what was there is as it was. Over any program. -/
import Derived.OrdersHeld
import Derived.Tactics2
import Derived.Test.YtffjhimdamdenaaK0
namespace Go.Proofs.Ytffjhimdamdenaa
open Go.RowKit

/-- the laws that lay a value in its slot -/
theorem PuA {α : Type} (l : List α) (i : Nat) (a : α) : l.toArray.setIfInBounds i a = (l.set i a).toArray := List.setIfInBounds_toArray l i a
theorem PuB {α : Type} {a b : α} {l : List α} : (a :: l).set 0 b = b :: l := List.set_cons_zero
theorem PuC {α : Type} {a b : α} {l : List α} {n : Nat} : (a :: l).set (n + 1) b = a :: l.set n b := List.set_cons_succ

abbrev Ext (w w' : World) : Prop := Below w.heap.size w w'
theorem Ext.refl (w : World) : Ext w w := Below.refl _ _
theorem Ext.trans {a b c : World} (h : Ext a b) (k : Ext b c) : Ext a c := Below.trans h (k.mono h.size)

section
variable {P : Program} {ops : Array Oper} {Q : Exit → Act → World → Prop} {md : Region.Mode}

theorem held_mono {S S' : World → Prop} (hS : ∀ w, S' w → S w) : ∀ (n : Nat) (listed : Array Bool) (a : Act) (w : World), wpAnyH P md ops Q S' n listed a w → wpAnyH P md ops Q S n listed a w
  | 0, _, _, _, h => h
  | n + 1, _, _, _, h => ⟨h.1, fun i hi => wpOp_mono (fun a' w' h' => ⟨hS _ h'.1, held_mono hS n _ a' w' h'.2⟩) (h.2 i hi)⟩

/-- the walk in the one order: true marks a reader; s: the world at the last look into memory, all of which must stay -/
def wpPi (P : Program) (ops : Array Oper) (Q : Exit → Act → World → Prop) : List (Nat × Bool) → World → Act → World → Prop
  | [], _, a, w => Q .normal a w
  | (i, true) :: r, s, a, w => ∃ o v s', ops[i]? = some o ∧ Ext s s' ∧ Ext s' w ∧ YieldsIf P ops (Ext s') o v a ∧ wpPi P ops Q r s' (a.put o.dst v) w
  | (i, false) :: r, s, a, w => wpOp P ops Q i (fun a' w' => Ext s w' ∧ wpPi P ops Q r s a' w') a w

/-- may the region be walked in this order? -/
def piOk (md : Region.Mode) (ops : Array Oper) : List (Nat × Bool) → Array Bool → Bool
  | [], listed => (Region.ready md ops listed).isEmpty
  | (i, true) :: r, listed => Region.free md ops listed i && (Region.ready md ops listed).contains i && piOk md ops r (listed.setIfInBounds i true)
  | (i, false) :: r, listed => (Region.ready md ops listed == [i]) && piOk md ops r (listed.setIfInBounds i true)

theorem held_pi (hs : Region.noSelect ops = true) (hQ : ∀ c a w d v, Q (.panic c) (Act.put a d v) w → Q (.panic c) a w) :
    ∀ (pi : List (Nat × Bool)) (listed : Array Bool) (s : World) (a : Act) (w : World) (n : Nat), n = pi.length → piOk md ops pi listed = true → Ext s w → wpPi P ops Q pi s a w → wpAnyH P md ops Q (Ext s) n listed a w
  | [], listed, s, a, w, n, hn, hc, _, h => by
    subst hn
    exact ⟨by simpa [piOk] using hc, h⟩
  | (i, true) :: r, listed, s, a, w, n, hn, hc, _, h => by
    subst hn
    simp only [piOk, Bool.and_eq_true] at hc
    obtain ⟨o, v, s', hi, h1, h2, hy, hr⟩ := h
    exact held_mono (fun u hu => Ext.trans h1 hu) _ _ _ _ (wpAnyH_first hi (Region.noSelect_spec hs) (fun c a w => hQ c a w o.dst v) r.length listed a w (Region.free_spec hi hc.1.1) (by simpa using hc.1.2) hy h2 (held_pi hs hQ r _ _ _ _ _ rfl hc.2 h2 hr))
  | (i, false) :: r, listed, s, a, w, n, hn, hc, _, h => by
    subst hn
    simp only [piOk, Bool.and_eq_true, beq_iff_eq] at hc
    refine ⟨fun h0 => (by rw [hc.1] at h0; cases h0), fun j hj => ?_⟩
    rw [hc.1] at hj
    obtain rfl : j = i := by simpa using hj
    exact wpOp_mono (fun a' w' h' => ⟨h'.1, held_pi hs hQ r _ _ _ _ _ rfl hc.2 h'.1 h'.2⟩) h

theorem wp_region_pi {id : Nat} {a : Act} {w : World} (pi : List (Nat × Bool)) (hm : P.follows .mixedOrders = true) (hs : Region.noSelect ops = true) (hc : (piOk .any ops pi (Array.replicate ops.size false) && (pi.length == ops.size)) = true)
    (hQ : ∀ c a w d v, Q (.panic c) (Act.put a d v) w → Q (.panic c) a w) (h : wpPi P ops Q pi w.drew a w.drew) : (Code.region id ops true).wp P Q a w := by
  simp only [Bool.and_eq_true, beq_iff_eq] at hc
  exact wp_region_held (S := Ext w.drew) hm (held_pi hs hQ pi _ _ a _ _ hc.2.symm hc.1 (Ext.refl _) h)

theorem pi_nil {s : World} {a : Act} {w : World} (h : Q .normal a w) : wpPi P ops Q [] s a w := h
section
variable {i : Nat} {r : List (Nat × Bool)} {s w : World} {a : Act} {dst : Option Tmp} {op : Op} {ty : TypeId} {pos : String} {after : Array Edge} {guard : Option (Nat × Bool)} {v : Value}
/-- what yields in whatever world -/
theorem pi_pure (hx : Ext s w) (hi : ops[i]? = some ⟨dst, op, ty, pos, after, guard⟩) (hw : Region.wanted ⟨dst, op, ty, pos, after, guard⟩ (yielded ops a.tmps) = true)
    (hv : ∀ w', (execOp a.eval ⟨dst, op, ty, pos, after, guard⟩).run P w' = .ok (.value v) w') (h : wpPi P ops Q r s (a.put dst v) w) : wpPi P ops Q ((i, true) :: r) s a w := ⟨_, v, s, hi, Ext.refl s, hx, .inl ⟨hw, fun w' _ => hv w'⟩, h⟩
/-- what looks into memory -/
theorem pi_read (hx : Ext s w) (hi : ops[i]? = some ⟨dst, op, ty, pos, after, guard⟩) (hw : Region.wanted ⟨dst, op, ty, pos, after, guard⟩ (yielded ops a.tmps) = true)
    (hv : ∀ w', Ext w w' → (execOp a.eval ⟨dst, op, ty, pos, after, guard⟩).run P w' = .ok (.value v) w') (h : wpPi P ops Q r w (a.put dst v) w) : wpPi P ops Q ((i, true) :: r) s a w := ⟨_, v, w, hi, hx, Ext.refl w, .inl ⟨hw, hv⟩, h⟩
theorem pi_skip (hx : Ext s w) (hi : ops[i]? = some ⟨dst, op, ty, pos, after, guard⟩) (hw : Region.wanted ⟨dst, op, ty, pos, after, guard⟩ (yielded ops a.tmps) = false)
    (h : wpPi P ops Q r s (a.put dst undef) w) : wpPi P ops Q ((i, true) :: r) s a w := ⟨_, undef, s, hi, Ext.refl s, hx, .inr ⟨hw, rfl⟩, h⟩
theorem pi_move (hi : ops[i]? = some ⟨dst, op, ty, pos, after, guard⟩) (hw : Region.wanted ⟨dst, op, ty, pos, after, guard⟩ (yielded ops a.tmps) = true)
    (h : ∀ K : Act → World → Prop, Hid (∀ a' w', Ext s w' → wpPi P ops Q r s a' w' → K a' w') → Oper.wp P ⟨dst, op, ty, pos, after, guard⟩ a w K Q) : wpPi P ops Q ((i, false) :: r) s a w := by
  show wpOp _ _ _ _ _ _ _
  unfold wpOp
  simp only [hi, hw, if_true]
  exact .inl (h _ (fun a' w' h1 h2 => ⟨h1, h2⟩))
theorem pi_pass (hx : Ext s w) (hi : ops[i]? = some ⟨dst, op, ty, pos, after, guard⟩) (hw : Region.wanted ⟨dst, op, ty, pos, after, guard⟩ (yielded ops a.tmps) = false)
    (h : wpPi P ops Q r s (a.put dst undef) w) : wpPi P ops Q ((i, false) :: r) s a w := by
  show wpOp _ _ _ _ _ _ _
  unfold wpOp
  simp only [hi, hw]
  exact ⟨hx, h⟩
/-- the same, what is reckoned left to the walk -/
theorem pi_P (hx : Ext s w) (hi : ops[i]? = some ⟨dst, op, ty, pos, after, guard⟩) {a' : Act} (h : wpPi P ops Q r s a' w) (hw : Region.wanted ⟨dst, op, ty, pos, after, guard⟩ (yielded ops a.tmps) = true := by kernel_rfl)
    (hv : ∀ w', (execOp a.eval ⟨dst, op, ty, pos, after, guard⟩).run P w' = .ok (.value v) w' := by intro w'; go_simp; with_reducible rfl) (ha : a.put dst v = a' := by (try simp only [Act.put, PuA, PuB, PuC]); exact rfl) : wpPi P ops Q ((i, true) :: r) s a w := pi_pure hx hi hw hv (ha ▸ h)
theorem pi_R (hx : Ext s w) (hi : ops[i]? = some ⟨dst, op, ty, pos, after, guard⟩) (hv : ∀ w', Ext w w' → (execOp a.eval ⟨dst, op, ty, pos, after, guard⟩).run P w' = .ok (.value v) w') {a' : Act} (h : wpPi P ops Q r w a' w)
    (hw : Region.wanted ⟨dst, op, ty, pos, after, guard⟩ (yielded ops a.tmps) = true := by kernel_rfl) (ha : a.put dst v = a' := by (try simp only [Act.put, PuA, PuB, PuC]); exact rfl) : wpPi P ops Q ((i, true) :: r) s a w := pi_read hx hi hw hv (ha ▸ h)
theorem pi_S (hx : Ext s w) (hi : ops[i]? = some ⟨dst, op, ty, pos, after, guard⟩) {a' : Act} (h : wpPi P ops Q r s a' w) (hw : Region.wanted ⟨dst, op, ty, pos, after, guard⟩ (yielded ops a.tmps) = false := by kernel_rfl)
    (ha : a.put dst undef = a' := by (try simp only [Act.put, PuA, PuB, PuC]); exact rfl) : wpPi P ops Q ((i, true) :: r) s a w := pi_skip hx hi hw (ha ▸ h)
end
end
end Go.Proofs.Ytffjhimdamdenaa
