/- A list of asks of one's own: one more. -/
import Derived.Test.YtaabjgdomookkaaYC
import Derived.Maps.AppendAt
namespace Go.Proofs.Ytaabjgdomookkaa
open Go.RowKit

abbrev zA : Value := .agg #[.int .i64 0, .int .i64 0, .int .i64 0, .int .i64 0, .slice none 0 0, .slice none 0 0]
theorem info_ask : (Try.prog.info? tA).map (fun i => (i.zero, i.size, i.bytes)) = some (some zA, 6, 80) := by kernel_rfl
/-- append of one ask that has just been laid -/
theorem wpList_pushA {w : World} {ops : Array Oper} {rest : List Oper} {o : Oper} {a : Act} {Q : Exit → Act → World → Prop} (hgd : o.guard = none) (s x : Operand)
    (ho : o.op = .call { callee := .builtin .append, args := #[s, x], argTypes := #[22, 22] })
    (base : Nat) {v : Value} {m : Nat} {xs : List Value} (hsv : a.eval s = v) (hown : w.ownsRow base tA 6 v m xs) (g c : Nat) (cs : List Value) (hxv : a.eval x = .slice (some ⟨g, 0, none⟩) 1 c) (hs : Blk w g tA cs) (hcs : cs.length = 6) (h1 : ∀ u ∈ cs, u.oneCell' = true)
    (h63 : (m + 1) * 80 ≤ 140737488355328) (hbase : base ≤ w.heap.size)
    (h : ∀ v' w', w'.ownsRow base tA 6 v' (m + 1) (xs ++ cs) → w.grownBy w' v.ownBlock → (v'.ownBlock = v.ownBlock ∨ v'.ownBlock = some w.heap.size) → wpList Try.prog ops Q rest (a.put o.dst v') w') : wpList Try.prog ops Q (o :: rest) a w := by
  obtain ⟨i, hi, hz, hsz, hby⟩ := info_parts info_ask
  refine wpList_append_own_at (P := Try.prog) w hgd s x 22 ho base tA i _ 6 80 Try.underlying22 hi hz hsz hby rfl (by decide) v m _ hsv hown ⟨g, 0, none⟩ 1 c cs hxv (by omega) (fun j y hj => ?_) h1 (by unfold maxLen; omega) (by omega) hbase (fun v' w' q1 q2 _ q4 => h v' w' q1 q2 q4)
  have hadd : ∀ j, (⟨g, 0, none⟩ : Addr).add j = ⟨g, j, none⟩ := fun j => by unfold Addr.add; split <;> simp_all
  rw [hadd, hs.cell, hj]

/-- a row that lies beside v -/
def Apt (w : World) (v vb : Value) (xs : List Value) : Prop := Row w vb xs ∧ (xs ≠ [] → ∀ k, vb.ownBlock = some k → v.ownBlock ≠ some k)
theorem Row.ltv {w : World} {v : Value} {xs : List Value} (h : Row w v xs) (h0 : xs ≠ []) {k : Nat} (hk : v.ownBlock = some k) : k < w.heap.size := by
  obtain ⟨a, cap, rfl, -, -, -, h3⟩ := h
  rcases h3 with h3 | ⟨b, off, rfl, hc⟩
  · exact absurd h3 h0
  · simp only [Value.ownBlock, Option.some.injEq] at hk
    subst hk
    have hp : 0 < xs.length := List.length_pos_iff.2 h0
    have := hc 0 hp
    rw [List.getElem?_eq_getElem hp] at this
    exact lt_of_cell this
theorem Row.empty {w w' : World} {v : Value} (h : Row w v []) : Row w' v [] := by
  obtain ⟨a, cap, e, h1, h2, h3, -⟩ := h
  exact ⟨a, cap, e, h1, h2, h3, .inl rfl⟩
theorem Apt.ext {w w' : World} {v vb : Value} {xs : List Value} (h : Apt w v vb xs) (hb : Below w.heap.size w w') : Apt w' v vb xs := ⟨h.1.below hb, h.2⟩
theorem Apt.grown {w w' : World} {v v' vb : Value} {xs : List Value} (h : Apt w v vb xs) (hg : w.grownBy w' v.ownBlock) (hv : v'.ownBlock = v.ownBlock ∨ v'.ownBlock = some w.heap.size) : Apt w' v' vb xs := by
  obtain ⟨h1, h2⟩ := h
  by_cases h0 : xs = []
  · subst h0
    exact ⟨h1.empty, fun h => absurd rfl h⟩
  · refine ⟨h1.kp (F := fun k => some k = v.ownBlock) ⟨hg.os, hg.tape, hg.output, hg.size, fun k q1 q2 => hg.block k q1 q2⟩ (fun k hk e => h2 h0 k hk e.symm), fun _ k hk => ?_⟩
    rcases hv with hv | hv
    · rw [hv]; exact h2 h0 k hk
    · rw [hv]
      intro e
      have := h1.ltv h0 hk
      cases e
      omega
/-- six cells that are an ask -/
def AskL (w : World) (v : Value) (c : Nat → Option Value) : Prop := ∃ kd sp a n vb vv, ∃ bs : List Bool, ∃ us : List UInt16, (i64 kd ∧ i64 sp ∧ i64 a ∧ i64 n) ∧
  (c 0 = some (.int .i64 kd) ∧ c 1 = some (.int .i64 sp) ∧ c 2 = some (.int .i64 a) ∧ c 3 = some (.int .i64 n) ∧ c 4 = some vb ∧ c 5 = some vv) ∧ Apt w v vb (bs.map Value.bool) ∧ Apt w v vv (us.map wV)
/-- v is a list of m asks, of one's own -/
def OAsks (w : World) (base : Nat) (v : Value) (m : Nat) : Prop := ∃ xs, w.ownsRow base tA 6 v m xs ∧ ∀ i, i < m → AskL w v (fun j => xs[i * 6 + j]?)
theorem OAsks.nil (w : World) (base : Nat) : OAsks w base (.slice none 0 0) 0 := ⟨[], ⟨rfl, .inl ⟨rfl, rfl⟩⟩, fun i hi => by omega⟩
theorem owns_belowS {w w' : World} {base s : Nat} {e : TypeId} {v : Value} {n : Nat} {xs : List Value} (h : w.ownsRow base e s v n xs) (hb : Below w.heap.size w w') : w'.ownsRow base e s v n xs :=
  h.kept (w' := w') (row := none) ⟨hb.os, hb.tape, hb.output, hb.size, fun k hk _ => hb.block k hk⟩ (by cases v.ownBlock <;> simp)
theorem OAsks.ext {w w' : World} {base m : Nat} {v : Value} (h : OAsks w base v m) (hb : Below w.heap.size w w') : OAsks w' base v m := by
  obtain ⟨xs, h1, h2⟩ := h
  refine ⟨xs, owns_belowS h1 hb, fun i hi => ?_⟩
  obtain ⟨kd, sp, a, n, vb, vv, bs, us, q, r, s, t⟩ := h2 i hi
  exact ⟨kd, sp, a, n, vb, vv, bs, us, q, r, s.ext hb, t.ext hb⟩
theorem OAsks.push {w w' : World} {base m : Nat} {v v' : Value} {xs cs : List Value} (h1 : w.ownsRow base tA 6 v m xs) (h2 : ∀ i, i < m → AskL w v (fun j => xs[i * 6 + j]?)) (hc : AskL w v (fun j => cs[j]?)) (_ : cs.length = 6) (ho : w'.ownsRow base tA 6 v' (m + 1) (xs ++ cs)) (hg : w.grownBy w' v.ownBlock)
    (hv : v'.ownBlock = v.ownBlock ∨ v'.ownBlock = some w.heap.size) : OAsks w' base v' (m + 1) := by
  have hl : xs.length = m * 6 := h1.1
  refine ⟨xs ++ cs, ho, fun i hi => ?_⟩
  by_cases hlt : i < m
  · obtain ⟨kd, sp, a, n, vb, vv, bs, us, q, ⟨r0, r1, r2, r3, r4, r5⟩, s, t⟩ := h2 i hlt
    have e : ∀ j, j < 6 → (xs ++ cs)[i * 6 + j]? = xs[i * 6 + j]? := fun j hj => List.getElem?_append_left (by omega)
    exact ⟨kd, sp, a, n, vb, vv, bs, us, q, ⟨(e 0 (by omega)).trans r0, (e 1 (by omega)).trans r1, (e 2 (by omega)).trans r2, (e 3 (by omega)).trans r3, (e 4 (by omega)).trans r4, (e 5 (by omega)).trans r5⟩, s.grown hg hv, t.grown hg hv⟩
  · have : i = m := by omega
    subst this
    obtain ⟨kd, sp, a, n, vb, vv, bs, us, q, ⟨r0, r1, r2, r3, r4, r5⟩, s, t⟩ := hc
    have e : ∀ j, (xs ++ cs)[i * 6 + j]? = cs[j]? := fun j => by rw [List.getElem?_append_right (by omega), hl]; congr 1; omega
    exact ⟨kd, sp, a, n, vb, vv, bs, us, q, ⟨(e 0).trans r0, (e 1).trans r1, (e 2).trans r2, (e 3).trans r3, (e 4).trans r4, (e 5).trans r5⟩, s.grown hg hv, t.grown hg hv⟩
theorem OAsks.asks {w : World} {base m : Nat} {v : Value} (h : OAsks w base v m) : Asks w v m := by
  obtain ⟨xs, h1, h2⟩ := h
  rcases id h1.2 with ⟨rfl, rfl⟩ | ⟨g, cap, cur, rfl, hb, hg, hle, hm, hs, ht⟩
  · exact Asks.nil w
  · refine ⟨_, cap, rfl, hle, hm, fun i hi => ⟨g, 0, rfl, fun j hj => ?_⟩⟩
    obtain ⟨kd, sp, a, n, vb, vv, bs, us, q, ⟨r0, r1, r2, r3, r4, r5⟩, s, t⟩ := h2 j hj
    have e : ∀ k, k < 6 → w.cell? ⟨g, 0 + j * 6 + k, none⟩ = xs[j * 6 + k]? := fun k hk => by
      have := h1.cellAt (j * 6 + k) (by omega)
      rw [Nat.zero_add]
      exact this
    exact ⟨kd, sp, a, n, vb, vv, bs, us, q, ⟨(e 0 (by omega)).trans r0, (e 1 (by omega)).trans r1, (e 2 (by omega)).trans r2, (e 3 (by omega)).trans r3, (e 4 (by omega)).trans r4, (e 5 (by omega)).trans r5⟩, s.1, t.1⟩

end Go.Proofs.Ytaabjgdomookkaa
