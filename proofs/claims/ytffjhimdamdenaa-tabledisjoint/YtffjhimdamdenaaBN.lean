/- An own list of tenants, one of which is being turned. -/
import Derived.Test.YtffjhimdamdenaaBM
import Derived.Test.YtffjhimdamdenaaBK
namespace Go.Proofs.Ytffjhimdamdenaa
open Go.RowKit

theorem maskN (a : Int) (k : Nat) (hk : k < 62) (M : Int) (hM : M = ((2 ^ k - 1 : Nat) : Int)) : ∃ x : Nat, bits .and .i64 a M = (x : Int) ∧ (x : Int) ≤ M := by
  subst hM
  have h0 := Int.emod_nonneg a (show ((2 ^ k : Nat) : Int) ≠ 0 by have := Nat.two_pow_pos k; omega)
  have := Int.emod_lt_of_pos a (show (0 : Int) < ((2 ^ k : Nat) : Int) by have := Nat.two_pow_pos k; omega)
  have := Nat.two_pow_pos k
  refine ⟨(a % ((2 ^ k : Nat) : Int)).toNat, ?_, by omega⟩
  rw [i64_and_mask a k hk]
  omega
/-- lists of tenants that are not long, of numbers of Go -/
def OkTb (b : Nat) (l : List Tn) : Prop := (∀ x ∈ l, OkN x ∧ x.ws.length ≤ b ∧ x.ss.length ≤ b) ∧ l.length ≤ b
theorem OkTb.okTs {b : Nat} {l : List Tn} (h : OkTb b l) (hb : b ≤ 1000) : OkTs l := by
  refine ⟨fun x hx => ?_, Nat.le_trans h.2 hb⟩
  obtain ⟨n, h1, h2⟩ := h.1 x hx
  exact ⟨n.u, n.f, n.q, n.ws, n.ss, Nat.le_trans h1 hb, Nat.le_trans h2 hb⟩
theorem OkTb.mono {b c : Nat} {l : List Tn} (h : OkTb b l) (hb : b ≤ c) : OkTb c l := ⟨fun x hx => ⟨(h.1 x hx).1, Nat.le_trans (h.1 x hx).2.1 hb, Nat.le_trans (h.1 x hx).2.2 hb⟩, Nat.le_trans h.2 hb⟩
theorem OkTb.set {b : Nat} {l : List Tn} (h : OkTb b l) (k : Nat) {y : Tn} (hy : OkN y ∧ y.ws.length ≤ b + 1 ∧ y.ss.length ≤ b + 1) : OkTb (b + 1) (l.set k y) := by
  refine ⟨fun x hx => ?_, by rw [List.length_set]; have := h.2; omega⟩
  rcases List.mem_or_eq_of_mem_set hx with hx | rfl
  · obtain ⟨n, h1, h2⟩ := h.1 x hx
    exact ⟨n, by omega, by omega⟩
  · exact hy
theorem tcs_re : ∀ {es : List TE} {k : Nat} {e e' : TE}, es[k]? = some e → tf e' = tf e → tcs (es.set k e') = tcs es
  | [], k, e, e', h, _ => by simp at h
  | a :: r, 0, e, e', h, ht => by
    simp only [List.getElem?_cons_zero, Option.some.injEq] at h
    subst h
    simp [tcs, ht]
  | a :: r, k + 1, e, e', h, ht => by
    have := tcs_re (es := r) (by simpa using h) ht
    simp only [tcs] at this ⊢
    simp [this]

/-- the k-th of es is being turned; all others lie in memory that was there -/
structure OdT (w wr : World) (k : Nat) (es : List TE) (v : Value) (e : TE) : Prop where
  ot : wr.ownsRow (w.heap.size + 1 + 1) 43 5 v es.length (tcs es)
  hk : es[k]? = some e
  el : ∀ (j : Nat) (d : TE), j ≠ k → es[j]? = some d → Wns w d.2.1 d.1.ws ∧ Sts w d.2.2 d.1.ss
  bb : Below w.heap.size w wr
theorem OdT.ext {w wr w' : World} {k : Nat} {es : List TE} {v : Value} {e : TE} (h : OdT w wr k es v e) (hb : Below wr.heap.size wr w') : OdT w w' k es v e := ⟨owns_belowS h.ot hb, h.hk, h.el, below_then h.bb hb⟩
theorem OdT.set {w wr : World} {k g n c j : Nat} {es : List TE} {e : TE} {u : Value} (e' : TE) (h : OdT w wr k es (.slice (some ⟨g, 0, none⟩) n c) e) (hj : j < 5) (he : tf e' = (tf e).set j u) : OdT w (wr.setCell ⟨g, k * 5 + j, none⟩ u) k (es.set k e') (.slice (some ⟨g, 0, none⟩) n c) e' := by
  have hn : es.length = n := by have h1 := h.ot.1; have h2 := h.ot.2; rw [tcs_len] at h1; rcases h2 with ⟨h2, -⟩ | ⟨g', cap, cur, h2, -⟩ <;> (simp at h2) <;> omega
  have hg := (h.ot.lt g rfl).1
  have q := h.ot
  rw [hn] at q
  have q := (q.stored (k * 5 + j) u).1
  rw [show (tcs es).set (k * 5 + j) u = tcs (es.set k e') from flatMap_set tf_len hj he es k h.hk] at q
  refine ⟨by rw [List.length_set, hn]; exact q, List.getElem?_set_self (lt_of_get h.hk), fun i d hi hd => ?_, h.bb.setCell (p := ⟨g, k * 5 + j, none⟩) (show w.heap.size ≤ g by omega) u⟩
  rw [List.getElem?_set_ne (fun h => hi h.symm)] at hd
  exact h.el i d hi hd
theorem OdT.len {w wr : World} {k g n c : Nat} {es : List TE} {e : TE} (h : OdT w wr k es (.slice (some ⟨g, 0, none⟩) n c) e) : es.length = n := by
  have h1 := h.ot.1
  have h2 := h.ot.2
  rw [tcs_len] at h1
  rcases h2 with ⟨h2, -⟩ | ⟨g', cap, cur, h2, -⟩ <;> (simp at h2) <;> omega
theorem OdT.at {w wr : World} {k g n c : Nat} {es : List TE} {e : TE} (h : OdT w wr k es (.slice (some ⟨g, 0, none⟩) n c) e) :
    wr.cell? ⟨g, k * 5, none⟩ = some (.int .i64 e.1.u) ∧ wr.cell? ⟨g, k * 5 + 1, none⟩ = some (.int .u32 e.1.f) ∧ wr.cell? ⟨g, k * 5 + 2, none⟩ = some (.int .i64 e.1.q) ∧ wr.cell? ⟨g, k * 5 + 3, none⟩ = some e.2.1 ∧ wr.cell? ⟨g, k * 5 + 4, none⟩ = some e.2.2 ∧ wr.frozen? ⟨g, k * 5, none⟩ = false ∧ (∀ j, wr.frozen? ⟨g, k * 5 + j, none⟩ = false) := by
  have q := h.ot
  rw [h.len] at q
  exact ten_at q h.hk
theorem OdT.re {w wr : World} {k : Nat} {es : List TE} {v : Value} {e : TE} (e' : TE) (h : OdT w wr k es v e) (he : tf e' = tf e) : OdT w wr k (es.set k e') v e' := by
  refine ⟨by rw [List.length_set, tcs_re h.hk he]; exact h.ot, List.getElem?_set_self (lt_of_get h.hk), fun i d hi hd => ?_, h.bb⟩
  rw [List.getElem?_set_ne (fun h => hi h.symm)] at hd
  exact h.el i d hi hd
theorem OdT.put {w wr : World} {k : Nat} {es : List TE} {v : Value} {e : TE} (h : OdT w wr k es v e) (g o : Nat) (u : Value) (hg : w.heap.size ≤ g) (hv : v.ownBlock ≠ some g) : OdT w (wr.setCell ⟨g, o, none⟩ u) k es v e := ⟨owns_set2 h.ot g o hv, h.hk, h.el, h.bb.setCell (p := ⟨g, o, none⟩) hg u⟩
theorem OdT.grown {w wr w' : World} {k : Nat} {es : List TE} {v : Value} {e : TE} {row : Option Nat} (h : OdT w wr k es v e) (gr : wr.grownBy w' row) (hv : ∀ g, v.ownBlock = some g → row ≠ some g) (hr : ∀ g, row = some g → w.heap.size ≤ g) : OdT w w' k es v e := by
  refine ⟨h.ot.kept gr ?_, h.hk, h.el, h.bb.grown gr h.bb.size hr⟩
  cases hb : v.ownBlock with
  | none => exact .inl rfl
  | some g => exact .inr (fun e => hv g hb e.symm)
theorem OdT.tns {w wr : World} {k N M : Nat} {es : List TE} {v : Value} {e : TE} (h : OdT w wr k es v e) (ow : wr.ownsRow N 45 4 e.2.1 e.1.ws.length (e.1.ws.flatMap wf)) (os : wr.ownsRow M 48 2 e.2.2 e.1.ss.length (e.1.ss.flatMap sf)) : Tns wr v (es.map (·.1)) := by
  refine ⟨es, rfl, Lsf.of_owns tf_len (by decide) h.ot, fun d hd => ?_⟩
  obtain ⟨j, hj⟩ := List.getElem?_of_mem hd
  by_cases e1 : j = k
  · subst e1
    have := h.hk
    rw [hj] at this
    cases this
    exact ⟨Lsf.of_owns wf_len (by decide) ow, Lsf.of_owns sf_len (by decide) os⟩
  · obtain ⟨q1, q2⟩ := h.el j d e1 hj
    exact ⟨q1.ext h.bb, q2.ext h.bb⟩
theorem OdT.ne {w wr : World} {k N s n : Nat} {es : List TE} {v u : Value} {e : TE} {t : TypeId} {xs : List Value} (h : OdT w wr k es v e) (ho : wr.ownsRow N t s u n xs) (ht : t ≠ 43) : ∀ g, v.ownBlock = some g → u.ownBlock ≠ some g := owns_ne h.ot ho (fun e => ht e.symm)
/-- the cells of a list of windows of one's own -/
theorem win_at {w : World} {N g cap n : Nat} {l : WL} (h : w.ownsRow N 45 4 (.slice (some ⟨g, 0, none⟩) n cap) n (l.flatMap wf)) {k : Nat} {s v p c : Int} (he : l[k]? = some (s, v, p, c)) :
    w.cell? ⟨g, k * 4, none⟩ = some (.int .i64 s) ∧ w.cell? ⟨g, k * 4 + 1, none⟩ = some (.int .i64 v) ∧ w.cell? ⟨g, k * 4 + 2, none⟩ = some (.int .i64 p) ∧ w.cell? ⟨g, k * 4 + 3, none⟩ = some (.int .i64 c) ∧ w.frozen? ⟨g, k * 4, none⟩ = false ∧ (∀ j, w.frozen? ⟨g, k * 4 + j, none⟩ = false) := by
  have hl := h.1
  rw [flatMap_len wf_len] at hl
  have hk : k < l.length := lt_of_get he
  have c : ∀ j, j < 4 → w.cell? ⟨g, k * 4 + j, none⟩ = (wf (s, v, p, c))[j]? := fun j hj => by
    rw [h.cellAt _ (by omega)]
    obtain ⟨u, hu⟩ := getx (l := wf (s, v, p, c)) (i := j) (by rw [wf_len]; exact hj)
    rw [hu]
    exact flatMap_get wf_len l k _ he j u hu
  exact ⟨c 0 (by decide), c 1 (by decide), c 2 (by decide), c 3 (by decide), h.frozenAt _, fun j => h.frozenAt _⟩
theorem slo_at {w : World} {N g cap n : Nat} {l : SL} (h : w.ownsRow N 48 2 (.slice (some ⟨g, 0, none⟩) n cap) n (l.flatMap sf)) {k : Nat} {p c : Int} (he : l[k]? = some (p, c)) :
    w.cell? ⟨g, k * 2, none⟩ = some (.int .i64 p) ∧ w.cell? ⟨g, k * 2 + 1, none⟩ = some (.int .i64 c) ∧ w.frozen? ⟨g, k * 2, none⟩ = false ∧ (∀ j, w.frozen? ⟨g, k * 2 + j, none⟩ = false) := by
  have hl := h.1
  rw [flatMap_len sf_len] at hl
  have hk : k < l.length := lt_of_get he
  have c : ∀ j, j < 2 → w.cell? ⟨g, k * 2 + j, none⟩ = (sf (p, c))[j]? := fun j hj => by
    rw [h.cellAt _ (by omega)]
    obtain ⟨u, hu⟩ := getx (l := sf (p, c)) (i := j) (by rw [sf_len]; exact hj)
    rw [hu]
    exact flatMap_get sf_len l k _ he j u hu
  exact ⟨c 0 (by decide), c 1 (by decide), h.frozenAt _, fun j => h.frozenAt _⟩
/-- a cell of a record of an own list is stored -/
theorem rec_set {α : Type} {s : Nat} {f : α → List Value} (hf : ∀ x, (f x).length = s) {w : World} {N g n c k j : Nat} {t : TypeId} {l : List α} {x : α} {u : Value} (y : α) (h : w.ownsRow N t s (.slice (some ⟨g, 0, none⟩) n c) n (l.flatMap f)) (hx : l[k]? = some x) (hj : j < s) (hy : f y = (f x).set j u) : (w.setCell ⟨g, k * s + j, none⟩ u).ownsRow N t s (.slice (some ⟨g, 0, none⟩) n c) n ((l.set k y).flatMap f) := by
  have q := (h.stored (k * s + j) u).1
  rw [flatMap_set hf hj hy l k hx] at q
  exact q
theorem OkW.put {l : WL} (h : OkW l) (k : Nat) {s v p n : Int} (hq : i64 s ∧ i64 v ∧ i64 p ∧ i64 n) : OkW (l.set k (s, v, p, n)) := fun x hx => by
  rcases List.mem_or_eq_of_mem_set hx with hx | rfl
  · exact h x hx
  · exact hq
theorem OkL.put {l : SL} (h : OkL l) (k : Nat) {p n : Int} (hq : i64 p ∧ i64 n) : OkL (l.set k (p, n)) := fun x hx => by
  rcases List.mem_or_eq_of_mem_set hx with hx | rfl
  · exact h x hx
  · exact hq

end Go.Proofs.Ytffjhimdamdenaa
