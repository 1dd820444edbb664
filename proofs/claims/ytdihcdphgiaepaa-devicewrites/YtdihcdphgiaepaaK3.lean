/- A region that draws its order, walked step by step: what reads is taken as soon as it may come, under a condition S on the world that every later step must keep; what moves is branched over. Over any program. -/
import Derived.OrdersHeld
import Derived.Test.YtdihcdphgiaepaaK2
namespace Go.Proofs.Ytdihcdphgiaepaa
open Go.RowKit

section
variable {P : Program} {ops : Array Oper} {Q : Exit → Act → World → Prop} {S : World → Prop} {n : Nat} {listed : Array Bool} {i : Nat} {a : Act} {w : World}
  {dst : Option Tmp} {op : Op} {ty : TypeId} {pos : String} {after : Array Edge} {guard : Option (Nat × Bool)} {v : Value}

/-- the beginning -/
theorem h_begin {id : Nat} (k : Nat) (hk : ops.size = k) (hm : P.follows .mixedOrders = true) (h : wpAnyH P .any ops Q (fun _ => True) k (Array.replicate k false) a w.drew) : (Code.region id ops true).wp P Q a w := by
  subst hk
  exact wp_region_held hm h

theorem h_pure (hS : S w) (hs : Region.noSelect ops = true) (hQ : ∀ c a w d v, Q (.panic c) (Act.put a d v) w → Q (.panic c) a w) (i : Nat) (hi : ops[i]? = some ⟨dst, op, ty, pos, after, guard⟩)
    (hc : (Region.free .any ops listed i && (Region.ready .any ops listed).contains i) = true) (hw : Region.wanted ⟨dst, op, ty, pos, after, guard⟩ (yielded ops a.tmps) = true)
    (hv : ∀ w', (execOp a.eval ⟨dst, op, ty, pos, after, guard⟩).run P w' = .ok (.value v) w') (h : wpAnyH P .any ops Q S n (listed.setIfInBounds i true) (a.put dst v) w) : wpAnyH P .any ops Q S (n + 1) listed a w := by
  simp only [Bool.and_eq_true] at hc
  exact wpAnyH_take hi hs hc.1 hc.2 (fun c a w => hQ c a w _ _) (.inl ⟨hw, fun w' _ => hv w'⟩) hS h

theorem h_skip (hS : S w) (hs : Region.noSelect ops = true) (hQ : ∀ c a w d v, Q (.panic c) (Act.put a d v) w → Q (.panic c) a w) (i : Nat) (hi : ops[i]? = some ⟨dst, op, ty, pos, after, guard⟩)
    (hc : (Region.free .any ops listed i && (Region.ready .any ops listed).contains i) = true) (hw : Region.wanted ⟨dst, op, ty, pos, after, guard⟩ (yielded ops a.tmps) = false)
    (h : wpAnyH P .any ops Q S n (listed.setIfInBounds i true) (a.put dst undef) w) : wpAnyH P .any ops Q S (n + 1) listed a w := by
  simp only [Bool.and_eq_true] at hc
  exact wpAnyH_take hi hs hc.1 hc.2 (fun c a w => hQ c a w _ _) (.inr ⟨hw, rfl⟩) hS h

theorem h_read (S' : World → Prop) (hS : ∀ w', S' w' → S w') (hS' : S' w) (hs : Region.noSelect ops = true) (hQ : ∀ c a w d v, Q (.panic c) (Act.put a d v) w → Q (.panic c) a w) (i : Nat) (hi : ops[i]? = some ⟨dst, op, ty, pos, after, guard⟩)
    (hc : (Region.free .any ops listed i && (Region.ready .any ops listed).contains i) = true) (hw : Region.wanted ⟨dst, op, ty, pos, after, guard⟩ (yielded ops a.tmps) = true)
    (hv : ∀ w', S' w' → (execOp a.eval ⟨dst, op, ty, pos, after, guard⟩).run P w' = .ok (.value v) w') (h : wpAnyH P .any ops Q S' n (listed.setIfInBounds i true) (a.put dst v) w) : wpAnyH P .any ops Q S (n + 1) listed a w := by
  simp only [Bool.and_eq_true] at hc
  exact held_mono hS _ _ _ _ (wpAnyH_take hi hs hc.1 hc.2 (fun c a w => hQ c a w _ _) (.inl ⟨hw, hv⟩) hS' h)

theorem h_op (i : Nat) (hi : ops[i]? = some ⟨dst, op, ty, pos, after, guard⟩) (hw : Region.wanted ⟨dst, op, ty, pos, after, guard⟩ (yielded ops a.tmps) = true)
    (h : ∀ K : Act → World → Prop, Hid (∀ a' w', S w' → wpAnyH P .any ops Q S n (listed.setIfInBounds i true) a' w' → K a' w') → Oper.wp P ⟨dst, op, ty, pos, after, guard⟩ a w K Q) :
    wpOp P ops Q i (fun a' w' => S w' ∧ wpAnyH P .any ops Q S n (listed.setIfInBounds i true) a' w') a w := by
  unfold wpOp
  simp only [hi, hw, if_true]
  exact .inl (h _ (fun a' w' h1 h2 => ⟨h1, h2⟩))

theorem h_move (i : Nat) (hr : Region.ready .any ops listed = [i]) (h : wpOp P ops Q i (fun a' w' => S w' ∧ wpAnyH P .any ops Q S n (listed.setIfInBounds i true) a' w') a w) : wpAnyH P .any ops Q S (n + 1) listed a w :=
  wpAnyH_all hr (by simp) (fun j hj => by simp only [List.mem_singleton] at hj; subst hj; exact h)
theorem h_move2 (i j : Nat) (hr : Region.ready .any ops listed = [i, j]) (h : wpOp P ops Q i (fun a' w' => S w' ∧ wpAnyH P .any ops Q S n (listed.setIfInBounds i true) a' w') a w)
    (h2 : wpOp P ops Q j (fun a' w' => S w' ∧ wpAnyH P .any ops Q S n (listed.setIfInBounds j true) a' w') a w) : wpAnyH P .any ops Q S (n + 1) listed a w :=
  wpAnyH_all hr (by simp) (fun k hk => by
    simp only [List.mem_cons, List.not_mem_nil, or_false] at hk
    rcases hk with rfl | rfl
    · exact h
    · exact h2)
theorem h_move3 (i j l : Nat) (hr : Region.ready .any ops listed = [i, j, l]) (h : wpOp P ops Q i (fun a' w' => S w' ∧ wpAnyH P .any ops Q S n (listed.setIfInBounds i true) a' w') a w)
    (h2 : wpOp P ops Q j (fun a' w' => S w' ∧ wpAnyH P .any ops Q S n (listed.setIfInBounds j true) a' w') a w)
    (h3 : wpOp P ops Q l (fun a' w' => S w' ∧ wpAnyH P .any ops Q S n (listed.setIfInBounds l true) a' w') a w) : wpAnyH P .any ops Q S (n + 1) listed a w :=
  wpAnyH_all hr (by simp) (fun k hk => by
    simp only [List.mem_cons, List.not_mem_nil, or_false] at hk
    rcases hk with rfl | rfl | rfl
    · exact h
    · exact h2
    · exact h3)
theorem h_done (hr : Region.ready .any ops listed = []) (h : Q .normal a w) : wpAnyH P .any ops Q S n listed a w := wpAnyH_done hr h n
/-- the same, what is reckoned left to the walk -/
theorem h_P (hS : S w) (i : Nat) (hi : ops[i]? = some ⟨dst, op, ty, pos, after, guard⟩) {a' : Act} (h : wpAnyH P .any ops Q S n (listed.setIfInBounds i true) a' w) (hs : Region.noSelect ops = true := by kernel_rfl) (hQ : ∀ c a w d v, Q (.panic c) (Act.put a d v) w → Q (.panic c) a w := by intro _ _ _ d _ h; cases d <;> exact h)
    (hc : (Region.free .any ops listed i && (Region.ready .any ops listed).contains i) = true := by kernel_rfl) (hw : Region.wanted ⟨dst, op, ty, pos, after, guard⟩ (yielded ops a.tmps) = true := by kernel_rfl)
    (hv : ∀ w', (execOp a.eval ⟨dst, op, ty, pos, after, guard⟩).run P w' = .ok (.value v) w' := by intro w'; go_simp; with_reducible rfl) (ha : a.put dst v = a' := by (try simp only [Act.put, PuA, PuB, PuC]); exact rfl) : wpAnyH P .any ops Q S (n + 1) listed a w := h_pure hS hs hQ i hi hc hw hv (ha ▸ h)
theorem h_R (S' : World → Prop) (hS : ∀ w', S' w' → S w') (hS' : S' w) (i : Nat) (hi : ops[i]? = some ⟨dst, op, ty, pos, after, guard⟩) (hv : ∀ w', S' w' → (execOp a.eval ⟨dst, op, ty, pos, after, guard⟩).run P w' = .ok (.value v) w')
    {a' : Act} (h : wpAnyH P .any ops Q S' n (listed.setIfInBounds i true) a' w) (hs : Region.noSelect ops = true := by kernel_rfl) (hQ : ∀ c a w d v, Q (.panic c) (Act.put a d v) w → Q (.panic c) a w := by intro _ _ _ d _ h; cases d <;> exact h)
    (hc : (Region.free .any ops listed i && (Region.ready .any ops listed).contains i) = true := by kernel_rfl) (hw : Region.wanted ⟨dst, op, ty, pos, after, guard⟩ (yielded ops a.tmps) = true := by kernel_rfl)
    (ha : a.put dst v = a' := by (try simp only [Act.put, PuA, PuB, PuC]); exact rfl) : wpAnyH P .any ops Q S (n + 1) listed a w := h_read S' hS hS' hs hQ i hi hc hw hv (ha ▸ h)
end
end Go.Proofs.Ytdihcdphgiaepaa
