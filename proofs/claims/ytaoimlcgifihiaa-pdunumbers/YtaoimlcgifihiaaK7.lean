/- A region in its written order, walked operation by operation: guards are decided by the kernel. Over any program. -/
import Derived.Orders
import Derived.Tactics
import Derived.Test.YtaoimlcgifihiaaK2
namespace Go.Proofs.Ytaoimlcgifihiaa
open Go.RowKit
section
variable {P : Program} {ops : Array Oper} {Q : Exit → Act → World → Prop} {i n : Nat} {a : Act} {w : World}
  {dst : Option Tmp} {op : Op} {ty : TypeId} {pos : String} {after : Array Edge} {guard : Option (Nat × Bool)} {v : Value}

/-- n operations from number i on -/
def wpFrom (P : Program) (ops : Array Oper) (Q : Exit → Act → World → Prop) (i n : Nat) (a : Act) (w : World) : Prop := wpOps P ops Q (List.range' i n) a w

theorem f_begin {id : Nat} (n : Nat) (hn : ops.size = n) (h : wpFrom P ops Q 0 n a w) : (Code.region id ops false).wp P Q a w := by
  subst hn
  refine wp_region ?_
  rw [List.range_eq_range']
  exact h
theorem f_val (hi : ops[i]? = some ⟨dst, op, ty, pos, after, guard⟩) (hw : Region.wanted ⟨dst, op, ty, pos, after, guard⟩ (yielded ops a.tmps) = true)
    (hv : (execOp a.eval ⟨dst, op, ty, pos, after, guard⟩).run P w = .ok (.value v) w) (h : wpFrom P ops Q (i + 1) n (a.put dst v) w) : wpFrom P ops Q i (n + 1) a w := by
  unfold wpFrom
  rw [List.range'_succ, wpOps_cons]
  unfold wpOp
  simp only [hi, hw, if_true]
  refine .inl ?_
  unfold Oper.wp
  rw [hv]
  exact h
theorem f_skip (hi : ops[i]? = some ⟨dst, op, ty, pos, after, guard⟩) (hw : Region.wanted ⟨dst, op, ty, pos, after, guard⟩ (yielded ops a.tmps) = false)
    (h : wpFrom P ops Q (i + 1) n (a.put dst undef) w) : wpFrom P ops Q i (n + 1) a w := by
  unfold wpFrom
  rw [List.range'_succ, wpOps_cons]
  unfold wpOp
  simp only [hi, hw]
  exact h
theorem f_move (hi : ops[i]? = some ⟨dst, op, ty, pos, after, guard⟩) (hw : Region.wanted ⟨dst, op, ty, pos, after, guard⟩ (yielded ops a.tmps) = true)
    (h : ∀ K : Act → World → Prop, Hid (∀ a' w', wpFrom P ops Q (i + 1) n a' w' → K a' w') → Oper.wp P ⟨dst, op, ty, pos, after, guard⟩ a w K Q) : wpFrom P ops Q i (n + 1) a w := by
  unfold wpFrom
  rw [List.range'_succ, wpOps_cons]
  unfold wpOp
  simp only [hi, hw, if_true]
  exact .inl (h _ (fun a' w' h => h))
theorem f_done (h : Q .normal a w) : wpFrom P ops Q i 0 a w := h

/-- the same over the list of operations, which grows shorter at each step; the whole stands behind O -/
theorem l_begin {id : Nat} {l : List Oper} (h : ∀ O, Hid (O = l.toArray) → wpList P O Q l a w) : (Code.region id l.toArray false).wp P Q a w := wp_region_lit (h _ rfl)
theorem l_val {rest : List Oper} (hw : Region.wanted ⟨dst, op, ty, pos, after, guard⟩ (yielded ops a.tmps) = true)
    (hv : (execOp a.eval ⟨dst, op, ty, pos, after, guard⟩).run P w = .ok (.value v) w) (h : wpList P ops Q rest (a.put dst v) w) : wpList P ops Q (⟨dst, op, ty, pos, after, guard⟩ :: rest) a w := by
  unfold wpList
  rw [if_pos hw]
  refine .inl ?_
  unfold Oper.wp
  rw [hv]
  exact h
theorem l_skip {rest : List Oper} (hw : Region.wanted ⟨dst, op, ty, pos, after, guard⟩ (yielded ops a.tmps) = false)
    (h : wpList P ops Q rest (a.put dst undef) w) : wpList P ops Q (⟨dst, op, ty, pos, after, guard⟩ :: rest) a w := by
  unfold wpList
  rw [if_neg (by rw [hw]; simp)]
  exact h
theorem l_move {rest : List Oper} (hw : Region.wanted ⟨dst, op, ty, pos, after, guard⟩ (yielded ops a.tmps) = true)
    (h : ∀ K : Act → World → Prop, Hid (∀ a' w', wpList P ops Q rest a' w' → K a' w') → Oper.wp P ⟨dst, op, ty, pos, after, guard⟩ a w K Q) : wpList P ops Q (⟨dst, op, ty, pos, after, guard⟩ :: rest) a w := by
  unfold wpList
  rw [if_pos hw]
  exact .inl (h _ (fun a' w' h => h))
theorem l_done (h : Q .normal a w) : wpList P ops Q [] a w := h
end
end Go.Proofs.Ytaoimlcgifihiaa
