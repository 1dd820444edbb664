/- Contract of the document's own Map. -/
import Derived.Test.YtffjhimdamdenaaWF
namespace Go.Proofs.Ytffjhimdamdenaa
open Go.RowKit

theorem wp_pushL {w : World} {o : Oper} {a : Act} {K : Act → World → Prop} {Q : Exit → Act → World → Prop} (s x : Operand) (T t : TypeId)
    (ho : o.op = .call { callee := .builtin .append, args := #[s, x], argTypes := #[T, T] })
    (base k by_ : Nat) (z : Value) (ht : Try.prog.underlying T = some (.slice t)) (hi : (Try.prog.info? t).map (fun i => (i.zero, i.size, i.bytes)) = some (some z, k, by_)) (hz : z.cells.size = k) (hk : 0 < k)
    {v : Value} {m : Nat} {xs : List Value} (hsv : a.eval s = v) (hown : w.ownsRow base t k v m xs) (g c : Nat) (cs : List Value) (hxv : a.eval x = .slice (some ⟨g, 0, none⟩) 1 c) (hs : Blk w g t cs) (hcs : cs.length = k) (h1 : ∀ u ∈ cs, u.oneCell' = true)
    (h63 : (m + 1) * by_ ≤ 140737488355328) (hm : m + 1 ≤ maxLen) (hbase : base ≤ w.heap.size)
    (h : ∀ v' w', w'.ownsRow base t k v' (m + 1) (xs ++ cs) → w.grownBy w' v.ownBlock → (v'.ownBlock = v.ownBlock ∨ v'.ownBlock = some w.heap.size) → K (a.put o.dst v') w') : o.wp Try.prog a w K Q := by
  obtain ⟨i, hi, hz1, hsz, hby⟩ := info_parts hi
  obtain ⟨v', w', hr, h2, h3, -, h5⟩ := run_append_own_at (P := Try.prog) w base T o.type t i z k by_ ht hi hz1 hsz hby hz hk v m xs hown ⟨g, 0, none⟩ 1 c cs (by omega) (fun j y hj => by
    have hadd : ∀ j, (⟨g, 0, none⟩ : Addr).add j = ⟨g, j, none⟩ := fun j => by unfold Addr.add; split <;> simp_all
    rw [hadd, hs.cell, hj]) h1 (by omega) (by omega) hbase
  unfold Oper.wp
  simp [execOp, ho, resolve, invoke, builtin, hsv, hxv, hr, Result.andThen]
  exact h v' w' h2 h3 h5
theorem one_sf {a n : Int} : ∀ u ∈ [Value.int .i64 a, Value.int .i64 n], u.oneCell' = true := by
  intro u hu; simp at hu; rcases hu with rfl | rfl <;> rfl
theorem Blk.grownL {w w' : World} {g : Nat} {e : TypeId} {xs : List Value} {row : Option Nat} (h : Blk w g e xs) (hg : w.grownBy w' row) (hne : row ≠ Option.some g) : Blk w' g e xs := (hg.block g h.lt (fun e => hne e.symm)).trans h
theorem BxW.grownL {w w' : World} {g : Nat} {s v p n : Int} {row : Option Nat} (h : BxW w g s v p n) (hg : w.grownBy w' row) (hne : row ≠ some g) : BxW w' g s v p n := Blk.grownL h hg hne
def NE (u v : Value) : Prop := ∀ k, u.ownBlock = some k → v.ownBlock ≠ some k
theorem NE.right {u v : Value} (h : NE u v) : v.ownBlock = none ∨ v.ownBlock ≠ u.ownBlock := by
  cases e : v.ownBlock with
  | none => exact .inl rfl
  | some k => exact .inr (fun e2 => h k e2.symm e)
theorem NE.left {u v : Value} (h : NE u v) : u.ownBlock = none ∨ u.ownBlock ≠ v.ownBlock := by
  cases e : u.ownBlock with
  | none => exact .inl rfl
  | some k => exact .inr (fun e2 => h k e e2.symm)
theorem NE.step1 {u u' v : Value} {g : Nat} (h : NE u v) (ob : u'.ownBlock = u.ownBlock ∨ u'.ownBlock = some g) (hl : ∀ k, v.ownBlock = some k → k < g) : NE u' v := by
  intro k hk hv
  rcases ob with ob | ob
  · exact h k (ob ▸ hk) hv
  · rw [ob] at hk; cases hk; exact absurd (hl _ hv) (Nat.lt_irrefl _)
theorem NE.step2 {u v v' : Value} {g : Nat} (h : NE u v) (ob : v'.ownBlock = v.ownBlock ∨ v'.ownBlock = some g) (hl : ∀ k, u.ownBlock = some k → k < g) : NE u v' := by
  intro k hk hv
  rcases ob with ob | ob
  · exact h k hk (ob ▸ hv)
  · rw [ob] at hv; cases hv; exact absurd (hl _ hk) (Nat.lt_irrefl _)
theorem sel_snoc {l : WL} {k : Nat} {x : WN} (hx : l[k]? = some x) (sp : Int) : sel sp (l.take (k + 1)) = sel sp (l.take k) ++ (if wR x && decide (x.1 = sp) then [x] else []) := by
  unfold sel
  rw [filter_snoc hx, List.filter_append]
  congr 1
  cases wR x <;> simp [List.filter_cons]
theorem push_virt {w : World} {base : Nat} {v' : Value} {l : WL} {s v p n : Int} (h : w.ownsRow base 85 2 v' (l.length + 1) (scs (virt l) ++ [.int .i64 v, .int .i64 n])) : w.ownsRow base 85 2 v' (l ++ [(s, v, p, n)]).length (scs (virt (l ++ [(s, v, p, n)]))) := by
  rw [List.length_append]
  simpa [scs, virt] using h
theorem sel_len (sp : Int) (l : WL) : (sel sp l).length ≤ l.length := Nat.le_trans (List.length_filter_le _ _) (List.length_filter_le _ _)

end Go.Proofs.Ytffjhimdamdenaa
