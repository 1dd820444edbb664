/- Copies of a table, side by side, one of which is being turned. -/
import Derived.Test.YtffjhimdamdenaaBS
namespace Go.Proofs.Ytffjhimdamdenaa
open Go.RowKit

/-- a table's own copy: its list lies at B or above, its tenants' lists too, all below H -/
structure CY (w0 w : World) (B H : Nat) (v : Value) (es : List TE) : Prop where
  ot : w.ownsRow B 43 5 v es.length (tcs es)
  ou : OwnU B es.length w es
  lo : w0.heap.size ≤ B
  hi : ∀ (j : Nat) (e : TE), es[j]? = some e → (∀ q, e.2.1.ownBlock = some q → q < H) ∧ (∀ q, e.2.2.ownBlock = some q → q < H)
  hv : ∀ q, v.ownBlock = some q → q < H
  bb : Below w0.heap.size w0 w
theorem CY.made {w0 w w' : World} {v : Value} {es : List TE} (h : Ext w0 w) (ot : w'.ownsRow w.heap.size 43 5 v es.length (tcs es)) (ou : OwnU w.heap.size es.length w' es) (bb : Below w.heap.size w w') : CY w0 w' w.heap.size w'.heap.size v es :=
  ⟨ot, ou, h.size, fun _ _ he => ou.lt (lt_of_get he) he, fun q hq => (ot.lt q hq).2, below_then h bb⟩
theorem CY.ext {w0 w w' : World} {B H : Nat} {v : Value} {es : List TE} (h : CY w0 w B H v es) (hb : Below w.heap.size w w') : CY w0 w' B H v es := ⟨owns_belowS h.ot hb, h.ou.ext hb, h.lo, h.hi, h.hv, below_then h.bb hb⟩
theorem CY.tns {w0 w : World} {B H : Nat} {v : Value} {es : List TE} (h : CY w0 w B H v es) : Tns w v (es.map (·.1)) := h.ou.tns h.ot
theorem OwnU.put2 {N k g o : Nat} {w : World} {es : List TE} (h : OwnU N k w es) (u : Value) (hn : ∀ (j : Nat) (e : TE), j < k → es[j]? = some e → e.2.1.ownBlock ≠ some g ∧ e.2.2.ownBlock ≠ some g) : OwnU N k (w.setCell ⟨g, o, none⟩ u) es :=
  ⟨fun j e hj he => ⟨owns_set2 (h.own j e hj he).1 g o (hn j e hj he).1, owns_set2 (h.own j e hj he).2 g o (hn j e hj he).2⟩, h.sep⟩
/-- a store below -/
theorem CY.low {w0 w : World} {B H g : Nat} {v : Value} {es : List TE} (h : CY w0 w B H v es) (hg : g < B) (h0 : w0.heap.size ≤ g) (o : Nat) (u : Value) : CY w0 (w.setCell ⟨g, o, none⟩ u) B H v es :=
  ⟨owns_set2 h.ot g o (fun e => by have := (h.ot.lt _ e).1; omega), h.ou.put2 u (fun j e hj he => ⟨fun q => by have := ((h.ou.own j e hj he).1.lt _ q).1; omega, fun q => by have := ((h.ou.own j e hj he).2.lt _ q).1; omega⟩), h.lo, h.hi, h.hv, h.bb.setCell (p := ⟨g, o, none⟩) h0 u⟩
theorem blk_ne {w : World} {N s n g : Nat} {e t : TypeId} {v : Value} {cs xs : List Value} (hb : Blk w g t cs) (ho : w.ownsRow N e s v n xs) (hne : t ≠ e) : v.ownBlock ≠ some g := fun hv => by
  obtain ⟨c, z, h1⟩ := Lib.ownsRow_kind ho g hv
  unfold Blk at hb
  rw [h1] at hb
  simp at hb
  exact hne hb.2.1.symm
/-- a store into a box of a table -/
theorem CY.box {w0 w : World} {B H g : Nat} {v : Value} {es : List TE} {cs : List Value} (h : CY w0 w B H v es) (hb : Blk w g 24 cs) (h0 : w0.heap.size ≤ g) (o : Nat) (u : Value) : CY w0 (w.setCell ⟨g, o, none⟩ u) B H v es :=
  ⟨owns_set2 h.ot g o (blk_ne hb h.ot (by decide)), h.ou.put2 u (fun j e hj he => ⟨blk_ne hb (h.ou.own j e hj he).1 (by decide), blk_ne hb (h.ou.own j e hj he).2 (by decide)⟩), h.lo, h.hi, h.hv, h.bb.setCell (p := ⟨g, o, none⟩) h0 u⟩
theorem set_back {es : List TE} {k i : Nat} {e e' a : TE} (hk : es[k]? = some e) (h2 : e'.2 = e.2) (h : (es.set k e')[i]? = some a) : ∃ a', es[i]? = some a' ∧ a'.2 = a.2 := by
  by_cases h1 : k = i
  · subst h1
    rw [List.getElem?_set_self (lt_of_get hk)] at h
    cases h
    exact ⟨e, hk, h2.symm⟩
  · rw [List.getElem?_set_ne h1] at h
    exact ⟨a, h, rfl⟩
theorem CY.putW {w0 w : World} {B H k g n c i j : Nat} {v vo : Value} {es : List TE} {x : Tn} {q : WN} {u : Value} (y : WN) (h : CY w0 w B H v es) (hk : es[k]? = some (x, .slice (some ⟨g, 0, none⟩) n c, vo)) (hx : x.ws[i]? = some q) (hj : j < 4) (hy : wf y = (wf q).set j u) :
    CY w0 (w.setCell ⟨g, i * 4 + j, none⟩ u) B H v (es.set k ({ x with ws := x.ws.set i y }, .slice (some ⟨g, 0, none⟩) n c, vo)) ∧ (∀ t cs g', Blk w g' t cs → t ≠ 45 → Blk (w.setCell ⟨g, i * 4 + j, none⟩ u) g' t cs) ∧ g < H := by
  have hkl := lt_of_get hk
  have own := h.ou.own k _ hkl hk
  have oa := own.1
  have ob := own.2
  simp only at oa ob
  have hn : n = x.ws.length := by
    rcases oa.2 with ⟨e, -⟩ | ⟨g', cap, cur, e, -⟩
    · simp at e
    · simp only [Value.slice.injEq] at e; exact e.2.1
  subst hn
  have hg := (oa.lt g rfl).1
  have hi2 := (h.hi k _ hk).1 g rfl
  refine ⟨⟨?_, ⟨?_, ?_⟩, h.lo, ?_, h.hv, h.bb.setCell (p := ⟨g, i * 4 + j, none⟩) (Nat.le_trans h.lo hg) u⟩, fun t cs g' hb ht => hb.set_neW (fun e => by subst e; exact blk_ne hb oa ht rfl) _ _, hi2⟩
  · have o := owns_set2 (u := u) h.ot g (i * 4 + j) (fun e => owns_ne h.ot oa (by decide) g e rfl)
    rw [List.length_set, tcs_re (e' := ({ x with ws := x.ws.set i y }, .slice (some ⟨g, 0, none⟩) x.ws.length c, vo)) hk rfl]
    exact o
  · intro m d hm hd
    rw [List.length_set] at hm
    by_cases e1 : k = m
    · subst e1
      rw [List.getElem?_set_self hkl] at hd
      cases hd
      have r1 : (w.setCell ⟨g, i * 4 + j, none⟩ u).ownsRow B 45 4 (.slice (some ⟨g, 0, none⟩) x.ws.length c) (x.ws.set i y).length ((x.ws.set i y).flatMap wf) := by
        rw [List.length_set]
        exact rec_set wf_len y oa hx hj hy
      have r2 := owns_set2 (u := u) ob g (i * 4 + j) (owns_ne oa ob (by decide) g rfl)
      exact ⟨r1, r2⟩
    · rw [List.getElem?_set_ne e1] at hd
      have od := h.ou.own m d hm hd
      have n1 : d.2.1.ownBlock ≠ some g := by
        by_cases lt : k < m
        · exact (h.ou.sep k m _ _ lt hm hk hd).1 g rfl
        · exact fun e => (h.ou.sep m k _ _ (by omega) hkl hd hk).1 g e rfl
      have r1 := owns_set2 (u := u) od.1 g (i * 4 + j) n1
      have r2 := owns_set2 (u := u) od.2 g (i * 4 + j) (owns_ne oa od.2 (by decide) g rfl)
      exact ⟨r1, r2⟩
  · intro m1 m2 d1 d2 hm hm2 h1 h2
    rw [List.length_set] at hm2
    obtain ⟨d1', g1, e1⟩ := set_back (e' := ({ x with ws := x.ws.set i y }, .slice (some ⟨g, 0, none⟩) x.ws.length c, vo)) hk rfl h1
    obtain ⟨d2', g2, e2⟩ := set_back (e' := ({ x with ws := x.ws.set i y }, .slice (some ⟨g, 0, none⟩) x.ws.length c, vo)) hk rfl h2
    have := h.ou.sep m1 m2 d1' d2' hm hm2 g1 g2
    rw [e1, e2] at this
    exact this
  · intro m d hd
    obtain ⟨d', g1, e1⟩ := set_back (e' := ({ x with ws := x.ws.set i y }, .slice (some ⟨g, 0, none⟩) x.ws.length c, vo)) hk rfl hd
    have := h.hi m d' g1
    rw [e1] at this
    exact this
theorem CY.putS {w0 w : World} {B H k g n c i j : Nat} {v vo : Value} {es : List TE} {x : Tn} {q : Int × Int} {u : Value} (y : Int × Int) (h : CY w0 w B H v es) (hk : es[k]? = some (x, vo, .slice (some ⟨g, 0, none⟩) n c)) (hx : x.ss[i]? = some q) (hj : j < 2) (hy : sf y = (sf q).set j u) :
    CY w0 (w.setCell ⟨g, i * 2 + j, none⟩ u) B H v (es.set k ({ x with ss := x.ss.set i y }, vo, .slice (some ⟨g, 0, none⟩) n c)) ∧ (∀ t cs g', Blk w g' t cs → t ≠ 48 → Blk (w.setCell ⟨g, i * 2 + j, none⟩ u) g' t cs) ∧ g < H := by
  have hkl := lt_of_get hk
  have own := h.ou.own k _ hkl hk
  have oa := own.2
  have ob := own.1
  simp only at oa ob
  have hn : n = x.ss.length := by
    rcases oa.2 with ⟨e, -⟩ | ⟨g', cap, cur, e, -⟩
    · simp at e
    · simp only [Value.slice.injEq] at e; exact e.2.1
  subst hn
  have hg := (oa.lt g rfl).1
  have hi2 := (h.hi k _ hk).2 g rfl
  refine ⟨⟨?_, ⟨?_, ?_⟩, h.lo, ?_, h.hv, h.bb.setCell (p := ⟨g, i * 2 + j, none⟩) (Nat.le_trans h.lo hg) u⟩, fun t cs g' hb ht => hb.set_neW (fun e => by subst e; exact blk_ne hb oa ht rfl) _ _, hi2⟩
  · have o := owns_set2 (u := u) h.ot g (i * 2 + j) (fun e => owns_ne h.ot oa (by decide) g e rfl)
    rw [List.length_set, tcs_re (e' := ({ x with ss := x.ss.set i y }, vo, .slice (some ⟨g, 0, none⟩) x.ss.length c)) hk rfl]
    exact o
  · intro m d hm hd
    rw [List.length_set] at hm
    by_cases e1 : k = m
    · subst e1
      rw [List.getElem?_set_self hkl] at hd
      cases hd
      have r1 : (w.setCell ⟨g, i * 2 + j, none⟩ u).ownsRow B 48 2 (.slice (some ⟨g, 0, none⟩) x.ss.length c) (x.ss.set i y).length ((x.ss.set i y).flatMap sf) := by
        rw [List.length_set]
        exact rec_set sf_len y oa hx hj hy
      have r2 := owns_set2 (u := u) ob g (i * 2 + j) (owns_ne oa ob (by decide) g rfl)
      exact ⟨r2, r1⟩
    · rw [List.getElem?_set_ne e1] at hd
      have od := h.ou.own m d hm hd
      have n1 : d.2.2.ownBlock ≠ some g := by
        by_cases lt : k < m
        · exact (h.ou.sep k m _ _ lt hm hk hd).2 g rfl
        · exact fun e => (h.ou.sep m k _ _ (by omega) hkl hd hk).2 g e rfl
      have r1 := owns_set2 (u := u) od.2 g (i * 2 + j) n1
      have r2 := owns_set2 (u := u) od.1 g (i * 2 + j) (owns_ne oa od.1 (by decide) g rfl)
      exact ⟨r2, r1⟩
  · intro m1 m2 d1 d2 hm hm2 h1 h2
    rw [List.length_set] at hm2
    obtain ⟨d1', g1, e1⟩ := set_back (e' := ({ x with ss := x.ss.set i y }, vo, .slice (some ⟨g, 0, none⟩) x.ss.length c)) hk rfl h1
    obtain ⟨d2', g2, e2⟩ := set_back (e' := ({ x with ss := x.ss.set i y }, vo, .slice (some ⟨g, 0, none⟩) x.ss.length c)) hk rfl h2
    have := h.ou.sep m1 m2 d1' d2' hm hm2 g1 g2
    rw [e1, e2] at this
    exact this
  · intro m d hd
    obtain ⟨d', g1, e1⟩ := set_back (e' := ({ x with ss := x.ss.set i y }, vo, .slice (some ⟨g, 0, none⟩) x.ss.length c)) hk rfl hd
    have := h.hi m d' g1
    rw [e1] at this
    exact this
/-- both copies made: what is known -/
def Cop (w4 : World) (g7 : Nat) (frx : Int) (vx : Value) (lx : List Tn) (z8 z9 : Value) (w : World) : Prop :=
  ∃ (g8 g9 : Nat) (vy vz : Value) (esy esz : List TE) (By Hy Bz Hz : Nat), z8 = .pointer (some ⟨g8, 0, none⟩) ∧ z9 = .pointer (some ⟨g9, 0, none⟩) ∧ w4.heap.size ≤ g8 ∧ w4.heap.size ≤ g9 ∧ g8 ≠ g9 ∧ BxA w g7 frx vx ∧ BxA w g8 frx vy ∧ BxA w g9 frx vz ∧ esy.map (·.1) = lx ∧ esz.map (·.1) = lx ∧ CY w4 w By Hy vy esy ∧ CY w4 w Bz Hz vz esz ∧ Hy ≤ Bz
theorem Cop.of {w4 w : World} {g7 g8 g9 By Hy Bz Hz : Nat} {frx : Int} {vx vy vz : Value} {lx : List Tn} {esy esz : List TE} (T8 : Blk w g8 24 [.int .i64 0, .slice none 0 0]) (T9 : Blk w g9 24 [.int .i64 0, .slice none 0 0]) (y1 : BxA w g7 frx vx) (h7 : g7 < w4.heap.size) (h8 : w4.heap.size ≤ g8) (h9 : w4.heap.size ≤ g9) (h89 : g8 ≠ g9)
    (my : esy.map (·.1) = lx) (mz : esz.map (·.1) = lx) (cy : CY w4 w By Hy vy esy) (cz : CY w4 w Bz Hz vz esz) (hyz : Hy ≤ Bz) :
    Cop w4 g7 frx vx lx (.pointer (some ⟨g8, 0, none⟩)) (.pointer (some ⟨g9, 0, none⟩)) ((((w.setCell ⟨g8, 0, none⟩ (.int .i64 frx)).setCell ⟨g8, 1, none⟩ vy).setCell ⟨g9, 0, none⟩ (.int .i64 frx)).setCell ⟨g9, 1, none⟩ vz) := by
  have a1 := T8.set 0 (.int .i64 frx)
  have a2 : BxA _ g8 frx vy := a1.set 1 vy
  have b1 := T9.set_neW h89 0 (.int .i64 frx)
  have b2 := b1.set_neW h89 1 vy
  have b3 := b2.set 0 (.int .i64 frx)
  have b4 : BxA _ g9 frx vz := b3.set 1 vz
  have a3 : BxA _ g8 frx vy := Blk.set_neW (Blk.set_neW a2 (fun e => h89 e.symm) 0 (.int .i64 frx)) (fun e => h89 e.symm) 1 vz
  have c1 : BxA _ g7 frx vx := Blk.set_neW (Blk.set_neW (Blk.set_neW (Blk.set_neW y1 (show g8 ≠ g7 by omega) 0 (.int .i64 frx)) (show g8 ≠ g7 by omega) 1 vy) (show g9 ≠ g7 by omega) 0 (.int .i64 frx)) (show g9 ≠ g7 by omega) 1 vz
  have k : ∀ {B H : Nat} {v : Value} {es : List TE}, CY w4 w B H v es → CY w4 ((((w.setCell ⟨g8, 0, none⟩ (.int .i64 frx)).setCell ⟨g8, 1, none⟩ vy).setCell ⟨g9, 0, none⟩ (.int .i64 frx)).setCell ⟨g9, 1, none⟩ vz) B H v es := fun h =>
    (((h.box T8 h8 0 (.int .i64 frx)).box a1 h8 1 vy).box b2 h9 0 (.int .i64 frx)).box b3 h9 1 vz
  exact ⟨g8, g9, vy, vz, esy, esz, By, Hy, Bz, Hz, rfl, rfl, h8, h9, h89, c1, a3, b4, my, mz, k cy, k cz, hyz⟩

end Go.Proofs.Ytffjhimdamdenaa
