/- A region that draws its order, walked step by step: a reader is taken as soon as it may come, under a condition on the world that every later step must keep that does not wait for the reader; what waits for it frees the condition. Over any program. -/
import Derived.OrdersHeld
import Derived.Test.YtffjhimdamdenaaK2
namespace Go.Proofs.Ytffjhimdamdenaa
open Go.RowKit

/-- does operation j wait for operation i? -/
def waitsFor (ops : Array Oper) (j i : Nat) : Bool := match ops[j]? with
  | some o => o.after.any fun e => Region.binds .any e && e.on == i
  | none => false
abbrev Cond := Nat × (World → Prop)
def keepC (ops : Array Oper) (j : Nat) (C : List Cond) : List Cond := C.filter fun p => !waitsFor ops j p.1
def allC : List Cond → World → Prop
  | [], _ => True
  | p :: r, w => p.2 w ∧ allC r w

section
variable {P : Program} {ops : Array Oper} {Q : Exit → Act → World → Prop}

def wpC (P : Program) (ops : Array Oper) (Q : Exit → Act → World → Prop) : Nat → Array Bool → List Cond → Act → World → Prop
  | 0, listed, _, a, w => Region.ready .any ops listed = [] ∧ Q .normal a w
  | n + 1, listed, C, a, w => (Region.ready .any ops listed = [] → Q .normal a w) ∧
    ∀ j ∈ Region.ready .any ops listed, wpOp P ops Q j (fun a' w' => allC (keepC ops j C) w' ∧ wpC P ops Q n (listed.setIfInBounds j true) (keepC ops j C) a' w') a w

theorem wpAny_of_C : ∀ (n : Nat) (listed : Array Bool) (C : List Cond) (a : Act) (w : World), wpC P ops Q n listed C a w → wpAny P .any ops Q n listed a w
  | 0, _, _, _, _, h => h
  | n + 1, _, _, _, _, h => ⟨h.1, fun i hi => wpOp_mono (fun a' w' h' => wpAny_of_C n _ _ a' w' h'.2) (h.2 i hi)⟩

theorem allC_sub {C C' : List Cond} (hs : C'.Sublist C) {w : World} (h : allC C w) : allC C' w := by
  induction hs with
  | slnil => exact h
  | cons p _ ih => exact ih h.2
  | cons_cons p _ ih => exact ⟨h.1, ih h.2⟩

theorem wpC_sub : ∀ (n : Nat) (listed : Array Bool) (C C' : List Cond) (a : Act) (w : World), C'.Sublist C → wpC P ops Q n listed C a w → wpC P ops Q n listed C' a w
  | 0, _, _, _, _, _, _, h => h
  | n + 1, _, _, _, _, _, hs, h => ⟨h.1, fun i hi => wpOp_mono (fun a' w' h' => ⟨allC_sub (hs.filter _) h'.1, wpC_sub n _ _ _ a' w' (hs.filter _) h'.2⟩) (h.2 i hi)⟩

theorem wpC_first {i : Nat} {oi : Oper} {v : Value} {R : World → Prop} (hi : ops[i]? = some oi) (hsel : ∀ (j : Nat) (o : Oper) cs b, ops[j]? = some o → o.op ≠ .select cs b)
    (hQ : ∀ c a w, Q (.panic c) (a.put oi.dst v) w → Q (.panic c) a w) :
    ∀ (fuel : Nat) (listed : Array Bool) (C : List Cond) (a : Act) (w : World),
      (∀ j oj, ops[j]? = some oj → j ≠ i → listed.getD j true = false → (∀ e ∈ oj.after, Region.binds .any e = true → e.on ≠ i) → oi.apart ops oj = true) →
      i ∈ Region.ready .any ops listed → YieldsIf P ops R oi v a → R w → allC C w →
      wpC P ops Q fuel (listed.setIfInBounds i true) ((i, R) :: C) (a.put oi.dst v) w → wpC P ops Q (fuel + 1) listed C a w := by
  intro fuel
  have own : ∀ (fuel : Nat) (listed : Array Bool) (C : List Cond) (a : Act) (w : World), allC C w → wpC P ops Q fuel (listed.setIfInBounds i true) ((i, R) :: C) (a.put oi.dst v) w →
      allC (keepC ops i C) w ∧ wpC P ops Q fuel (listed.setIfInBounds i true) (keepC ops i C) (a.put oi.dst v) w := fun fuel listed C a w hC H =>
    ⟨allC_sub List.filter_sublist hC, wpC_sub fuel _ _ _ _ _ (List.filter_sublist.trans (List.sublist_cons_self _ _)) H⟩
  induction fuel with
  | zero =>
    intro listed C a w _ hr hy hS hC H
    refine ⟨fun h => (by rw [h] at hr; cases hr), fun j hj => ?_⟩
    by_cases hji : j = i
    · subst hji; exact hy.wpOp hi hS (own 0 listed C a w hC H)
    · have := ready_mono hj hji
      rw [H.1] at this
      cases this
  | succ fuel ih =>
    intro listed C a w hfree hr hy hS hC H
    refine ⟨fun h => (by rw [h] at hr; cases hr), fun j hj => ?_⟩
    by_cases hji : j = i
    · subst hji; exact hy.wpOp hi hS (own _ listed C a w hC H)
    · have h1 := H.2 j (ready_mono hj hji)
      obtain ⟨hjun, oj, hoj, hall⟩ := mem_ready.1 hj
      have hnot : ∀ e ∈ oj.after, Region.binds .any e = true → e.on ≠ i := fun e he hb heq => by
        have h1 := hall e he hb
        have h0 := (mem_ready.1 hr).1
        rw [heq] at h1
        rcases Nat.lt_or_ge i listed.size with h' | h'
        · simp [h'] at h0 h1; rw [h0] at h1; cases h1
        · simp [Array.getElem?_eq_none h'] at h1
      have hwait : waitsFor ops j i = false := by
        unfold waitsFor
        rw [hoj]
        simp only
        rw [Bool.eq_false_iff]
        intro hc
        obtain ⟨k, hk, h2⟩ := Array.any_eq_true.1 hc
        simp only [Bool.and_eq_true, beq_iff_eq] at h2
        exact hnot _ (Array.getElem_mem hk) h2.1 h2.2
      have hkeep : keepC ops j ((i, R) :: C) = (i, R) :: keepC ops j C := by
        unfold keepC
        rw [List.filter_cons_of_pos (by simp [hwait])]
      rw [hkeep] at h1
      have h2 := wpOp_putIf hoj (hfree j oj hoj hji hjun hnot) (fun cs b => hsel i oi cs b hi) (fun cs b => hsel j oj cs b hoj) hQ hy h1
      have hfree' : ∀ k ok, ops[k]? = some ok → k ≠ i → (listed.setIfInBounds j true).getD k true = false →
          (∀ e ∈ ok.after, Region.binds .any e = true → e.on ≠ i) → oi.apart ops ok = true := fun k ok hk hki hun hno => by
        refine hfree k ok hk hki ?_ hno
        by_cases hjk : j = k
        · subst hjk; exact hjun
        · rw [getD_set_ne true hjk] at hun; exact hun
      refine wpOp_mono (fun a' w' h3 => ⟨h3.2.1.2, ih (listed.setIfInBounds j true) _ a' w' hfree' (ready_mono hr (Ne.symm hji)) h3.1 h3.2.1.1 h3.2.1.2 ?_⟩) h2
      rw [Array.setIfInBounds_comm _ _ hji]
      exact h3.2.2

theorem allC_true {D C : List Cond} (hD : ∀ p ∈ D, ∀ w, p.2 w) {w : World} (h : allC C w) : allC (D ++ C) w := by
  induction D with
  | nil => exact h
  | cons p r ih => exact ⟨hD p (by simp) w, ih (fun q hq => hD q (by simp [hq]))⟩
theorem keepC_true {D : List Cond} (hD : ∀ p ∈ D, ∀ w, p.2 w) (j : Nat) : ∀ p ∈ keepC ops j D, ∀ w, p.2 w := fun p hp => hD p (List.mem_filter.1 hp).1
theorem wpC_true : ∀ (n : Nat) (listed : Array Bool) (D C : List Cond) (a : Act) (w : World), (∀ p ∈ D, ∀ w, p.2 w) → wpC P ops Q n listed C a w → wpC P ops Q n listed (D ++ C) a w
  | 0, _, _, _, _, _, _, h => h
  | n + 1, _, D, C, _, _, hD, h => ⟨h.1, fun j hj => wpOp_mono (fun a' w' h' => by
      have e : keepC ops j (D ++ C) = keepC ops j D ++ keepC ops j C := List.filter_append ..
      rw [e]
      exact ⟨allC_true (keepC_true hD j) h'.1, wpC_true n _ _ _ a' w' (keepC_true hD j) h'.2⟩) (h.2 j hj)⟩

variable {n : Nat} {listed : Array Bool} {C : List Cond} {a : Act} {w : World}
  {dst : Option Tmp} {op : Op} {ty : TypeId} {pos : String} {after : Array Edge} {guard : Option (Nat × Bool)} {v : Value}

theorem c_begin {id : Nat} (k : Nat) (hk : ops.size = k) (hm : P.follows .mixedOrders = true) (h : wpC P ops Q k (Array.replicate k false) [] a w.drew) : (Code.region id ops true).wp P Q a w := by
  subst hk
  exact wp_region_any hm (wpAny_of_C _ _ _ _ _ h)

theorem c_pure (hC : allC C w) (hs : Region.noSelect ops = true) (hQ : ∀ c a w d v, Q (.panic c) (Act.put a d v) w → Q (.panic c) a w) (i : Nat) (hi : ops[i]? = some ⟨dst, op, ty, pos, after, guard⟩)
    (hc : (Region.free .any ops listed i && (Region.ready .any ops listed).contains i) = true) (hw : Region.wanted ⟨dst, op, ty, pos, after, guard⟩ (yielded ops a.tmps) = true)
    (hv : ∀ w', (execOp a.eval ⟨dst, op, ty, pos, after, guard⟩).run P w' = .ok (.value v) w') (h : wpC P ops Q n (listed.setIfInBounds i true) C (a.put dst v) w) : wpC P ops Q (n + 1) listed C a w := by
  simp only [Bool.and_eq_true] at hc
  exact wpC_first (R := fun _ => True) hi (Region.noSelect_spec hs) (fun c a w => hQ c a w _ _) n listed C a w (Region.free_spec hi hc.1) (by simpa using hc.2) (.inl ⟨hw, fun w' _ => hv w'⟩) trivial hC
    (wpC_true n _ [(i, fun _ => True)] C _ _ (by simp) h)

theorem c_skip (hC : allC C w) (hs : Region.noSelect ops = true) (hQ : ∀ c a w d v, Q (.panic c) (Act.put a d v) w → Q (.panic c) a w) (i : Nat) (hi : ops[i]? = some ⟨dst, op, ty, pos, after, guard⟩)
    (hc : (Region.free .any ops listed i && (Region.ready .any ops listed).contains i) = true) (hw : Region.wanted ⟨dst, op, ty, pos, after, guard⟩ (yielded ops a.tmps) = false)
    (h : wpC P ops Q n (listed.setIfInBounds i true) C (a.put dst undef) w) : wpC P ops Q (n + 1) listed C a w := by
  simp only [Bool.and_eq_true] at hc
  exact wpC_first (R := fun _ => True) hi (Region.noSelect_spec hs) (fun c a w => hQ c a w _ _) n listed C a w (Region.free_spec hi hc.1) (by simpa using hc.2) (.inr ⟨hw, rfl⟩) trivial hC
    (wpC_true n _ [(i, fun _ => True)] C _ _ (by simp) h)

/-- a reader, under the condition R -/
theorem c_read (R : World → Prop) (hR : R w) (hC : allC C w) (hs : Region.noSelect ops = true) (hQ : ∀ c a w d v, Q (.panic c) (Act.put a d v) w → Q (.panic c) a w) (i : Nat) (hi : ops[i]? = some ⟨dst, op, ty, pos, after, guard⟩)
    (hc : (Region.free .any ops listed i && (Region.ready .any ops listed).contains i) = true) (hw : Region.wanted ⟨dst, op, ty, pos, after, guard⟩ (yielded ops a.tmps) = true)
    (hv : ∀ w', R w' → (execOp a.eval ⟨dst, op, ty, pos, after, guard⟩).run P w' = .ok (.value v) w') (h : wpC P ops Q n (listed.setIfInBounds i true) ((i, R) :: C) (a.put dst v) w) : wpC P ops Q (n + 1) listed C a w := by
  simp only [Bool.and_eq_true] at hc
  exact wpC_first hi (Region.noSelect_spec hs) (fun c a w => hQ c a w _ _) n listed C a w (Region.free_spec hi hc.1) (by simpa using hc.2) (.inl ⟨hw, hv⟩) hR hC h

theorem c_op (j : Nat) (C' : List Cond) (hk : keepC ops j C = C') (hi : ops[j]? = some ⟨dst, op, ty, pos, after, guard⟩) (hw : Region.wanted ⟨dst, op, ty, pos, after, guard⟩ (yielded ops a.tmps) = true)
    (h : ∀ K : Act → World → Prop, Hid (∀ a' w', allC C' w' → wpC P ops Q n (listed.setIfInBounds j true) C' a' w' → K a' w') → Oper.wp P ⟨dst, op, ty, pos, after, guard⟩ a w K Q) :
    wpOp P ops Q j (fun a' w' => allC (keepC ops j C) w' ∧ wpC P ops Q n (listed.setIfInBounds j true) (keepC ops j C) a' w') a w := by
  rw [hk]
  unfold wpOp
  simp only [hi, hw, if_true]
  exact .inl (h _ (fun a' w' h1 h2 => ⟨h1, h2⟩))

theorem c_all {rs : List Nat} (hr : Region.ready .any ops listed = rs) (hne : rs ≠ [])
    (h : ∀ j ∈ rs, wpOp P ops Q j (fun a' w' => allC (keepC ops j C) w' ∧ wpC P ops Q n (listed.setIfInBounds j true) (keepC ops j C) a' w') a w) : wpC P ops Q (n + 1) listed C a w :=
  ⟨fun h0 => absurd (hr ▸ h0) hne, hr ▸ h⟩
theorem c_move (j : Nat) (hr : Region.ready .any ops listed = [j]) (h : wpOp P ops Q j (fun a' w' => allC (keepC ops j C) w' ∧ wpC P ops Q n (listed.setIfInBounds j true) (keepC ops j C) a' w') a w) : wpC P ops Q (n + 1) listed C a w :=
  c_all hr (by simp) (fun k hk => by simp only [List.mem_singleton] at hk; subst hk; exact h)
theorem c_move2 (i j : Nat) (hr : Region.ready .any ops listed = [i, j]) (h : wpOp P ops Q i (fun a' w' => allC (keepC ops i C) w' ∧ wpC P ops Q n (listed.setIfInBounds i true) (keepC ops i C) a' w') a w)
    (h2 : wpOp P ops Q j (fun a' w' => allC (keepC ops j C) w' ∧ wpC P ops Q n (listed.setIfInBounds j true) (keepC ops j C) a' w') a w) : wpC P ops Q (n + 1) listed C a w :=
  c_all hr (by simp) (fun k hk => by
    simp only [List.mem_cons, List.not_mem_nil, or_false] at hk
    rcases hk with rfl | rfl
    · exact h
    · exact h2)
theorem c_done (hr : Region.ready .any ops listed = []) (h : Q .normal a w) : wpC P ops Q n listed C a w := by
  cases n with
  | zero => exact ⟨hr, h⟩
  | succ n => exact ⟨fun _ => h, by rw [hr]; simp⟩
/-- the same, what is reckoned left to the walk -/
theorem c_P (hC : allC C w) (i : Nat) (hi : ops[i]? = some ⟨dst, op, ty, pos, after, guard⟩) {a' : Act} (h : wpC P ops Q n (listed.setIfInBounds i true) C a' w) (hs : Region.noSelect ops = true := by kernel_rfl) (hQ : ∀ c a w d v, Q (.panic c) (Act.put a d v) w → Q (.panic c) a w := by intro _ _ _ d _ h; cases d <;> exact h)
    (hc : (Region.free .any ops listed i && (Region.ready .any ops listed).contains i) = true := by kernel_rfl) (hw : Region.wanted ⟨dst, op, ty, pos, after, guard⟩ (yielded ops a.tmps) = true := by kernel_rfl)
    (hv : ∀ w', (execOp a.eval ⟨dst, op, ty, pos, after, guard⟩).run P w' = .ok (.value v) w' := by intro w'; go_simp; with_reducible rfl) (ha : a.put dst v = a' := by (try simp only [Act.put, PuA, PuB, PuC]); exact rfl) : wpC P ops Q (n + 1) listed C a w := c_pure hC hs hQ i hi hc hw hv (ha ▸ h)
theorem c_R (R : World → Prop) (hR : R w) (hC : allC C w) (i : Nat) (hi : ops[i]? = some ⟨dst, op, ty, pos, after, guard⟩) (hv : ∀ w', R w' → (execOp a.eval ⟨dst, op, ty, pos, after, guard⟩).run P w' = .ok (.value v) w')
    {a' : Act} (h : wpC P ops Q n (listed.setIfInBounds i true) ((i, R) :: C) a' w) (hs : Region.noSelect ops = true := by kernel_rfl) (hQ : ∀ c a w d v, Q (.panic c) (Act.put a d v) w → Q (.panic c) a w := by intro _ _ _ d _ h; cases d <;> exact h)
    (hc : (Region.free .any ops listed i && (Region.ready .any ops listed).contains i) = true := by kernel_rfl) (hw : Region.wanted ⟨dst, op, ty, pos, after, guard⟩ (yielded ops a.tmps) = true := by kernel_rfl)
    (ha : a.put dst v = a' := by (try simp only [Act.put, PuA, PuB, PuC]); exact rfl) : wpC P ops Q (n + 1) listed C a w := c_read R hR hC hs hQ i hi hc hw hv (ha ▸ h)
end
end Go.Proofs.Ytffjhimdamdenaa
