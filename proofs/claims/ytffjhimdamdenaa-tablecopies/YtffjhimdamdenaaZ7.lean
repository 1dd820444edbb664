/- Contract of span.Cover. -/
import Derived.Test.YtffjhimdamdenaaZ6
namespace Go.Proofs.Ytffjhimdamdenaa
open Go.RowKit

theorem Bx.grown {w w' : World} {g : Nat} {t : TypeId} {a n : Int} {row : Option Nat} (h : Bx w g t a n) (hg : w.grownBy w' row) (hne : row ≠ some g) : Bx w' g t a n :=
  (hg.block g h.lt (fun e => hne e.symm)).trans h
theorem owns_set2 {w : World} {base s : Nat} {e : TypeId} {v u : Value} {n : Nat} {xs : List Value} (h : w.ownsRow base e s v n xs) (g o : Nat) (hg : v.ownBlock ≠ some g) : (w.setCell ⟨g, o, none⟩ u).ownsRow base e s v n xs := by
  refine h.kept (w' := w.setCell ⟨g, o, none⟩ u) (row := some g) ⟨rfl, rfl, rfl, by simp, fun k hk hne => ?_⟩ (.inr hg)
  simp only [World.setCell, Array.getElem?_modify]
  rw [if_neg (fun e => hne (by rw [e]))]
theorem owns_belowS {w w' : World} {base s : Nat} {e : TypeId} {v : Value} {n : Nat} {xs : List Value} (h : w.ownsRow base e s v n xs) (hb : Below w.heap.size w w') : w'.ownsRow base e s v n xs :=
  h.kept (w' := w') (row := none) ⟨hb.os, hb.tape, hb.output, hb.size, fun k hk _ => hb.block k hk⟩ (by cases v.ownBlock <;> simp)
theorem owns_nilS (w : World) (base : Nat) (t : TypeId) : w.ownsRow base t 2 (.slice none 0 0) 0 (scs []) := ⟨rfl, .inl ⟨rfl, rfl⟩⟩
theorem info_sp : (Try.prog.info? 79).map (fun i => (i.zero, i.size, i.bytes)) = some (some (spV 0 0), 2, 16) := by kernel_rfl
theorem info_rsp : (Try.prog.info? 85).map (fun i => (i.zero, i.size, i.bytes)) = some (some (spV 0 0), 2, 16) := by kernel_rfl
/-- append of one span that has just been laid -/
theorem wpList_pushS {w : World} {ops : Array Oper} {rest : List Oper} {o : Oper} {a : Act} {Q : Exit → Act → World → Prop} (hgd : o.guard = none) (s x : Operand) (T t : TypeId)
    (ho : o.op = .call { callee := .builtin .append, args := #[s, x], argTypes := #[T, T] })
    (base : Nat) (ht : Try.prog.underlying T = some (.slice t)) (hi : (Try.prog.info? t).map (fun i => (i.zero, i.size, i.bytes)) = some (some (spV 0 0), 2, 16))
    {v : Value} {l : SL} (hsv : a.eval s = v) (hown : w.ownsRow base t 2 v l.length (scs l)) (g c : Nat) (p q : Int) (hxv : a.eval x = .slice (some ⟨g, 0, none⟩) 1 c) (hs : Bx w g t p q)
    (h63 : l.length ≤ 1000000000000) (hbase : base ≤ w.heap.size)
    (h : ∀ v' w', w'.ownsRow base t 2 v' (l ++ [(p, q)]).length (scs (l ++ [(p, q)])) → w.grownBy w' v.ownBlock → (v'.ownBlock = v.ownBlock ∨ v'.ownBlock = some w.heap.size) → wpList Try.prog ops Q rest (a.put o.dst v') w') : wpList Try.prog ops Q (o :: rest) a w := by
  obtain ⟨i, hi, hz, hsz, hby⟩ := info_parts hi
  refine wpList_append_own_at (P := Try.prog) w hgd s x T ho base t i _ 2 16 ht hi hz hsz hby rfl (by decide) v l.length _ hsv hown ⟨g, 0, none⟩ 1 c [.int .i64 p, .int .i64 q] hxv rfl (fun j y hj => ?_) (by simp [Value.oneCell']) (by unfold maxLen; omega) (by omega) hbase (fun v' w' q1 q2 _ q4 => h v' w' ?_ q2 q4)
  · obtain ⟨r1, r2⟩ := hs.cells2
    have hadd : ∀ j, (⟨g, 0, none⟩ : Addr).add j = ⟨g, j, none⟩ := fun j => by unfold Addr.add; split <;> simp_all
    rw [hadd]
    match j with
    | 0 => simp at hj; subst hj; exact r1
    | 1 => simp at hj; subst hj; exact r2
    | j + 2 => simp at hj
  · rw [List.length_append, scs_app]
    exact q1
def cntP (w : World) : Value → Nat
  | .pointer (some p) => match w.cell? ⟨p.block, 1, none⟩ with
    | some (.int _ n) => n.toNat
    | _ => 0
  | _ => 0
theorem cntP_of {w : World} {g : Nat} {t : TypeId} {a n : Int} (h : Bx w g t a n) : cntP w (.pointer (some ⟨g, 0, none⟩)) = n.toNat := by
  unfold cntP
  simp only [h.cells2.2]

end Go.Proofs.Ytffjhimdamdenaa
