/- Two copies of a table in their boxes while one of them is being turned. -/
import Derived.Test.YtffjhimdamdenaaBV0
namespace Go.Proofs.Ytffjhimdamdenaa
open Go.RowKit

/-- the boxes of the table and its copies; tenant k of the first copy is xt -/
structure TV (w4 w : World) (g7 g8 g9 : Nat) (fr : Int) (vx vy vz : Value) (esz : List TE) (By Hy Bz Hz k n : Nat) (vw vs : Value) (xt : Tn) : Prop where
  y7 : BxA w g7 fr vx
  y8 : BxA w g8 fr vy
  y9 : BxA w g9 fr vz
  cy : ∃ es : List TE, es.length = n ∧ es[k]? = some (xt, vw, vs) ∧ CY w4 w By Hy vy es
  cz : CY w4 w Bz Hz vz esz
section
variable {w4 w : World} {g7 g8 g9 By Hy Bz Hz k n gt ky : Nat} {fr : Int} {vx vy vz vw vs : Value} {esz : List TE} {xt : Tn}
theorem TV.ext {w' : World} (h : TV w4 w g7 g8 g9 fr vx vy vz esz By Hy Bz Hz k n vw vs xt) (hb : Below w.heap.size w w') : TV w4 w' g7 g8 g9 fr vx vy vz esz By Hy Bz Hz k n vw vs xt := by
  obtain ⟨es, e1, e2, e3⟩ := h.cy
  exact ⟨h.y7.ext hb, h.y8.ext hb, h.y9.ext hb, ⟨es, e1, e2, e3.ext hb⟩, h.cz.ext hb⟩
theorem TV.bb (h : TV w4 w g7 g8 g9 fr vx vy vz esz By Hy Bz Hz k n vw vs xt) : Ext w4 w := h.cz.bb
theorem TV.ten (h : TV w4 w g7 g8 g9 fr vx (.slice (some ⟨gt, 0, none⟩) n ky) vz esz By Hy Bz Hz k n vw vs xt) :
    w.cell? ⟨gt, k * 5, none⟩ = some (.int .i64 xt.u) ∧ w.cell? ⟨gt, k * 5 + 1, none⟩ = some (.int .u32 xt.f) ∧ w.cell? ⟨gt, k * 5 + 2, none⟩ = some (.int .i64 xt.q) ∧ w.cell? ⟨gt, k * 5 + 3, none⟩ = some vw ∧ w.cell? ⟨gt, k * 5 + 4, none⟩ = some vs := by
  obtain ⟨es, rfl, e2, e3⟩ := h.cy
  obtain ⟨c0, c1, c2, c3, c4, -⟩ := ten_at e3.ot e2
  exact ⟨c0, c1, c2, c3, c4⟩
theorem TV.tns (h : TV w4 w g7 g8 g9 fr vx vy vz esz By Hy Bz Hz k n vw vs xt) : ∃ l : List Tn, l[k]? = some xt ∧ Tns w vy l ∧ Wns w vw xt.ws ∧ Sts w vs xt.ss := by
  obtain ⟨es, e1, e2, e3⟩ := h.cy
  obtain ⟨h1, h2⟩ := e3.ou.own k _ (lt_of_get e2) e2
  exact ⟨es.map (·.1), by rw [List.getElem?_map, e2]; rfl, e3.tns, Lsf.of_owns wf_len (by decide) h1, Lsf.of_owns sf_len (by decide) h2⟩
theorem TV.ow (h : TV w4 w g7 g8 g9 fr vx vy vz esz By Hy Bz Hz k n vw vs xt) : w.ownsRow By 45 4 vw xt.ws.length (xt.ws.flatMap wf) ∧ w.ownsRow By 48 2 vs xt.ss.length (xt.ss.flatMap sf) := by
  obtain ⟨es, -, e2, e3⟩ := h.cy
  exact e3.ou.own k _ (lt_of_get e2) e2
theorem TV.win {m gw c i : Nat} {s v p q : Int} (h : TV w4 w g7 g8 g9 fr vx vy vz esz By Hy Bz Hz k n (.slice (some ⟨gw, 0, none⟩) m c) vs xt) (e : xt.ws.length = m) (hq : xt.ws[i]? = some (s, v, p, q)) :
    w.cell? ⟨gw, i * 4 + 2, none⟩ = some (.int .i64 p) ∧ w.frozen? ⟨gw, i * 4 + 2, none⟩ = false := by
  subst e
  obtain ⟨-, -, c2, -, -, c5⟩ := win_at h.ow.1 hq
  exact ⟨c2, c5 2⟩
theorem TV.slo {m gw c i : Nat} {p q : Int} (h : TV w4 w g7 g8 g9 fr vx vy vz esz By Hy Bz Hz k n vw (.slice (some ⟨gw, 0, none⟩) m c) xt) (e : xt.ss.length = m) (hq : xt.ss[i]? = some (p, q)) :
    w.cell? ⟨gw, i * 2, none⟩ = some (.int .i64 p) ∧ w.frozen? ⟨gw, i * 2, none⟩ = false := by
  subst e
  obtain ⟨c0, -, c2, -⟩ := slo_at h.ow.2 hq
  exact ⟨c0, c2⟩
theorem TV.putW {m gw c i : Nat} {s v p q : Int} (a : Int) (h : TV w4 w g7 g8 g9 fr vx vy vz esz By Hy Bz Hz k n (.slice (some ⟨gw, 0, none⟩) m c) vs xt) (e : xt.ws.length = m) (hq : xt.ws[i]? = some (s, v, p, q)) (hyz : Hy ≤ Bz) :
    TV w4 (w.setCell ⟨gw, i * 4 + 2, none⟩ (.int .i64 a)) g7 g8 g9 fr vx vy vz esz By Hy Bz Hz k n (.slice (some ⟨gw, 0, none⟩) m c) vs { xt with ws := xt.ws.set i (s, v, a, q) } := by
  subst e
  have hg := (h.ow.1.lt gw rfl).1
  obtain ⟨es, e1, e2, e3⟩ := h.cy
  obtain ⟨c1, c2, c3⟩ := e3.putW (u := .int .i64 a) (s, v, a, q) e2 hq (j := 2) (by decide) rfl
  have hlo := e3.lo
  exact ⟨c2 _ _ _ h.y7 (by decide), c2 _ _ _ h.y8 (by decide), c2 _ _ _ h.y9 (by decide), ⟨_, by rw [List.length_set]; exact e1, List.getElem?_set_self (lt_of_get e2), c1⟩, h.cz.low (by omega) (by omega) _ _⟩
theorem TV.putS {m gw c i : Nat} {p q : Int} (a : Int) (h : TV w4 w g7 g8 g9 fr vx vy vz esz By Hy Bz Hz k n vw (.slice (some ⟨gw, 0, none⟩) m c) xt) (e : xt.ss.length = m) (hq : xt.ss[i]? = some (p, q)) (hyz : Hy ≤ Bz) :
    TV w4 (w.setCell ⟨gw, i * 2, none⟩ (.int .i64 a)) g7 g8 g9 fr vx vy vz esz By Hy Bz Hz k n vw (.slice (some ⟨gw, 0, none⟩) m c) { xt with ss := xt.ss.set i (a, q) } := by
  subst e
  have hg := (h.ow.2.lt gw rfl).1
  obtain ⟨es, e1, e2, e3⟩ := h.cy
  obtain ⟨c1, c2, c3⟩ := e3.putS (u := .int .i64 a) (a, q) e2 hq (j := 0) (by decide) rfl
  have hlo := e3.lo
  exact ⟨c2 _ _ _ h.y7 (by decide), c2 _ _ _ h.y8 (by decide), c2 _ _ _ h.y9 (by decide), ⟨_, by rw [List.length_set]; exact e1, List.getElem?_set_self (lt_of_get e2), c1⟩, h.cz.low (by omega) (by omega) _ _⟩
end

/-- the first j of the slots of s have moved up by one -/
def Mv (s t : SL) (j : Nat) : Prop := t.length = s.length ∧ ∀ (i : Nat) (q : Int × Int), s[i]? = some q → t[i]? = some (if i < j then (q.1 + 1, q.2) else q)
theorem Mv.zero (s : SL) : Mv s s 0 := ⟨rfl, fun i q h => by simpa using h⟩
theorem Mv.at {s t : SL} {j : Nat} (h : Mv s t j) {p q : Int} (hq : s[j]? = some (p, q)) : t[j]? = some (p, q) := by
  have := h.2 j _ hq
  simpa using this
theorem Mv.step {s t : SL} {j : Nat} (h : Mv s t j) {p q : Int} (hq : s[j]? = some (p, q)) : Mv s (t.set j (p + 1, q)) (j + 1) := by
  refine ⟨by rw [List.length_set]; exact h.1, fun i z hz => ?_⟩
  by_cases e : j = i
  · subst e
    rw [hq] at hz
    cases hz
    rw [List.getElem?_set_self (by rw [h.1]; exact lt_of_get hq)]
    simp
  · rw [List.getElem?_set_ne e, h.2 i z hz]
    by_cases h1 : i < j
    · rw [if_pos h1, if_pos (by omega)]
    · rw [if_neg h1, if_neg (by omega)]
theorem Mv.ne {s t : SL} (h : Mv s t s.length) (h0 : 0 < s.length) : t ≠ s := fun e => by
  subst e
  obtain ⟨⟨p, q⟩, hx⟩ := getx h0
  have := h.2 0 _ hx
  rw [if_pos h0, hx] at this
  simp at this
  omega

end Go.Proofs.Ytffjhimdamdenaa
