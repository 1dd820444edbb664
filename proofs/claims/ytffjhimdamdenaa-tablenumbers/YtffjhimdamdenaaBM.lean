/- Contract of table.Copy. -/
import Derived.Test.YtffjhimdamdenaaBF
import Derived.Test.YtffjhimdamdenaaBC
import Derived.Lib.OwnKind
namespace Go.Proofs.Ytffjhimdamdenaa
open Go.RowKit

theorem flatMap_set {α : Type} {k : Nat} {f : α → List Value} (hf : ∀ x, (f x).length = k) {x y : α} {j : Nat} {u : Value} (hj : j < k) (hy : f y = (f x).set j u) : ∀ (l : List α) (i : Nat), l[i]? = some x → (l.flatMap f).set (i * k + j) u = (l.set i y).flatMap f
  | [], i, h => by simp at h
  | a :: r, 0, h => by
    simp only [List.getElem?_cons_zero, Option.some.injEq] at h
    subst h
    simp only [List.flatMap_cons, List.set_cons_zero, Nat.zero_mul, Nat.zero_add, hy]
    rw [List.set_append_left _ _ (by rw [hf]; exact hj)]
  | a :: r, i + 1, h => by
    simp only [List.getElem?_cons_succ] at h
    simp only [List.flatMap_cons, List.set_cons_succ]
    have e : (i + 1) * k + j - k = i * k + j := by rw [Nat.add_mul]; omega
    rw [List.set_append_right _ _ (by rw [hf, Nat.add_mul]; omega), hf, e, flatMap_set hf hj hy r i h]
theorem owns_ne {w : World} {N M s t n m : Nat} {e f : TypeId} {v u : Value} {xs ys : List Value} (h : w.ownsRow N e s v n xs) (k : w.ownsRow M f t u m ys) (hef : e ≠ f) : ∀ g, v.ownBlock = some g → u.ownBlock ≠ some g := by
  intro g hg hu
  obtain ⟨c, z, h1⟩ := Lib.ownsRow_kind h g hg
  obtain ⟨d, y, h2⟩ := Lib.ownsRow_kind k g hu
  rw [h1] at h2
  simp at h2
  exact hef h2.2.1
theorem owns_le {w : World} {base base' size n : Nat} {e : TypeId} {v : Value} {xs : List Value} (h : w.ownsRow base e size v n xs) (hb : base' ≤ base) : w.ownsRow base' e size v n xs := by
  obtain ⟨h1, h2⟩ := h
  refine ⟨h1, ?_⟩
  rcases h2 with h2 | ⟨g, cap, cur, hv, hg, r⟩
  · exact .inl h2
  · exact .inr ⟨g, cap, cur, hv, Nat.le_trans hb hg, r⟩
theorem owns_form {w : World} {base size n : Nat} {e : TypeId} {v : Value} {xs : List Value} (h : w.ownsRow base e size v n xs) (hn : 0 < n) : ∃ g cap, v = .slice (some ⟨g, 0, none⟩) n cap := by
  rcases h.2 with ⟨-, h0⟩ | ⟨g, cap, cur, rfl, -⟩
  · omega
  · exact ⟨g, cap, rfl⟩
theorem owns_put {w : World} {N s n _m g o : Nat} {e : TypeId} {v : Value} {xs : List Value} (h : w.ownsRow N e s v n xs) (hg : v.ownBlock ≠ some g) (u : Value) : (w.setCell ⟨g, o, none⟩ u).ownsRow N e s v n xs := owns_set2 h g o hg

/-- the first k of es have lists of their own, no two of them one -/
structure OwnU (N k : Nat) (w : World) (es : List TE) : Prop where
  own : ∀ (j : Nat) (e : TE), j < k → es[j]? = some e → w.ownsRow N 45 4 e.2.1 e.1.ws.length (e.1.ws.flatMap wf) ∧ w.ownsRow N 48 2 e.2.2 e.1.ss.length (e.1.ss.flatMap sf)
  sep : ∀ (i j : Nat) (a b : TE), i < j → j < k → es[i]? = some a → es[j]? = some b → (∀ q, a.2.1.ownBlock = some q → b.2.1.ownBlock ≠ some q) ∧ (∀ q, a.2.2.ownBlock = some q → b.2.2.ownBlock ≠ some q)
theorem OwnU.zero (N : Nat) (w : World) (es : List TE) : OwnU N 0 w es := ⟨fun _j _e h => absurd h (Nat.not_lt_zero _), fun _i _j _a _b _ h => absurd h (Nat.not_lt_zero _)⟩
theorem OwnU.ext {N k : Nat} {w w' : World} {es : List TE} (h : OwnU N k w es) (hb : Below w.heap.size w w') : OwnU N k w' es := ⟨fun j e hj he => ⟨owns_belowS (h.own j e hj he).1 hb, owns_belowS (h.own j e hj he).2 hb⟩, h.sep⟩
/-- a store into a block of tenants -/
theorem OwnU.put {N k M n g o : Nat} {w : World} {es : List TE} {v : Value} {xs : List Value} (h : OwnU N k w es) (ht : w.ownsRow M 43 5 v n xs) (hg : v.ownBlock = some g) (u : Value) : OwnU N k (w.setCell ⟨g, o, none⟩ u) es :=
  ⟨fun j e hj he => ⟨owns_set2 (h.own j e hj he).1 g o (fun q => owns_ne ht (h.own j e hj he).1 (by decide) g hg q), owns_set2 (h.own j e hj he).2 g o (fun q => owns_ne ht (h.own j e hj he).2 (by decide) g hg q)⟩, h.sep⟩
theorem OwnU.push {N k M S : Nat} {w : World} {es : List TE} {x : Tn} {vw vs : Value} (h : OwnU N k w es) (hk : k < es.length) (hN : N ≤ M) (hw : w.ownsRow M 45 4 vw x.ws.length (x.ws.flatMap wf)) (hs : w.ownsRow S 48 2 vs x.ss.length (x.ss.flatMap sf)) (hM : M ≤ S)
    (lt : ∀ (j : Nat) (e : TE), j < k → es[j]? = some e → (∀ q, e.2.1.ownBlock = some q → q < M) ∧ (∀ q, e.2.2.ownBlock = some q → q < S)) : OwnU N (k + 1) w (es.set k (x, vw, vs)) := by
  refine ⟨fun j e hj he => ?_, fun i j a b hij hj ha hb => ?_⟩
  · by_cases e1 : j = k
    · subst e1
      rw [List.getElem?_set_self hk] at he
      cases he
      exact ⟨owns_le hw hN, owns_le hs (Nat.le_trans hN hM)⟩
    · rw [List.getElem?_set_ne (fun h => e1 h.symm)] at he
      exact h.own j e (by omega) he
  · rw [List.getElem?_set_ne (by omega)] at ha
    by_cases e1 : j = k
    · subst e1
      rw [List.getElem?_set_self hk] at hb
      cases hb
      obtain ⟨l1, l2⟩ := lt i a hij ha
      exact ⟨fun q hq hq2 => by have := l1 q hq; have := (hw.lt q hq2).1; omega, fun q hq hq2 => by have := l2 q hq; have := (hs.lt q hq2).1; omega⟩
    · rw [List.getElem?_set_ne (fun h => e1 h.symm)] at hb
      exact h.sep i j a b hij (by omega) ha hb
theorem OwnU.lt {N k : Nat} {w : World} {es : List TE} (h : OwnU N k w es) {j : Nat} {e : TE} (hj : j < k) (he : es[j]? = some e) : (∀ q, e.2.1.ownBlock = some q → q < w.heap.size) ∧ (∀ q, e.2.2.ownBlock = some q → q < w.heap.size) :=
  ⟨fun q hq => ((h.own j e hj he).1.lt q hq).2, fun q hq => ((h.own j e hj he).2.lt q hq).2⟩
/-- stores into a block of another kind -/
theorem OwnU.set2 {N k : Nat} {w : World} {es : List TE} (h : OwnU N k w es) (g_ : Nat) (o : Nat) (u : Value) (o2 : Nat) (u2 : Value) {t : TypeId} {cs : List Value} (hb : Blk w g_ t cs) (ht : t ≠ 45 ∧ t ≠ 48) : OwnU N k ((w.setCell ⟨g_, o, none⟩ u).setCell ⟨g_, o2, none⟩ u2) es := by
  have ne : ∀ {M s n : Nat} {e : TypeId} {v : Value} {xs : List Value}, w.ownsRow M e s v n xs → t ≠ e → v.ownBlock ≠ some g_ := fun hr hne hv => by
    obtain ⟨c, z, h1⟩ := Lib.ownsRow_kind hr g_ hv
    unfold Blk at hb
    rw [h1] at hb
    simp at hb
    exact hne hb.2.1.symm
  exact ⟨fun j e hj he => ⟨owns_set2 (owns_set2 (h.own j e hj he).1 g_ o (ne (h.own j e hj he).1 ht.1)) g_ o2 (ne (h.own j e hj he).1 ht.1), owns_set2 (owns_set2 (h.own j e hj he).2 g_ o (ne (h.own j e hj he).2 ht.2)) g_ o2 (ne (h.own j e hj he).2 ht.2)⟩, h.sep⟩
theorem map_set_same {es : List TE} {k : Nat} {x : Tn} {a b c d : Value} (h : es[k]? = some (x, a, b)) : (es.set k (x, c, d)).map (·.1) = es.map (·.1) := by
  refine List.ext_getElem? fun i => ?_
  rw [List.getElem?_map, List.getElem?_map]
  by_cases e : k = i
  · subst e
    rw [List.getElem?_set_self (lt_of_get h), h]
    rfl
  · rw [List.getElem?_set_ne e]
/-- the cells of a tenant of an own list -/
theorem ten_at {w : World} {N g cap n : Nat} {es : List TE} (h : w.ownsRow N 43 5 (.slice (some ⟨g, 0, none⟩) n cap) n (tcs es)) {k : Nat} {e : TE} (he : es[k]? = some e) :
    w.cell? ⟨g, k * 5, none⟩ = some (.int .i64 e.1.u) ∧ w.cell? ⟨g, k * 5 + 1, none⟩ = some (.int .u32 e.1.f) ∧ w.cell? ⟨g, k * 5 + 2, none⟩ = some (.int .i64 e.1.q) ∧ w.cell? ⟨g, k * 5 + 3, none⟩ = some e.2.1 ∧ w.cell? ⟨g, k * 5 + 4, none⟩ = some e.2.2 ∧ w.frozen? ⟨g, k * 5, none⟩ = false ∧ (∀ j, w.frozen? ⟨g, k * 5 + j, none⟩ = false) := by
  have hl := h.1
  rw [tcs_len] at hl
  have hk : k < es.length := lt_of_get he
  have c : ∀ j, j < 5 → w.cell? ⟨g, k * 5 + j, none⟩ = (tf e)[j]? := fun j hj => by
    rw [h.cellAt _ (by omega)]
    obtain ⟨u, hu⟩ := getx (l := tf e) (i := j) (by rw [tf_len]; exact hj)
    rw [hu]
    exact flatMap_get tf_len es k _ he j u hu
  exact ⟨c 0 (by decide), c 1 (by decide), c 2 (by decide), c 3 (by decide), c 4 (by decide), h.frozenAt _, fun j => h.frozenAt _⟩

set_option maxHeartbeats 8000000 in
theorem copy_any (fr : Int) (v : Value) (es0 : List TE) (w : World) (hT : Lsf 5 tf w v es0) (hE : ∀ e ∈ es0, Wns w e.2.1 e.1.ws ∧ Sts w e.2.2 e.1.ss) (hn : es0.length ≤ 1000) (hok : ∀ e ∈ es0, e.1.ws.length ≤ 1000000 ∧ e.1.ss.length ≤ 1000000) :
    Calls Try.prog 16 #[taV fr v] w fun e w' => ∃ vt, e = .returned (taV fr vt) ∧ ∃ es : List TE, es.map (·.1) = es0.map (·.1) ∧ w'.ownsRow w.heap.size 43 5 vt es.length (tcs es) ∧ OwnU w.heap.size es.length w' es ∧ Below w.heap.size w w' := by
  have HT := hidden hT
  have HE := hidden hE
  have HK := hidden hok
  have ON := hidden (one_tcs hE)
  have HN := hidden hn
  obtain ⟨a, n, cap, rfl⟩ := Lsf.isl hT
  obtain ⟨rfl, hc, hm, -⟩ := hT.at
  unfold maxLen at hm
  have x1 := BxA.new w fr (.slice a es0.length cap)
  have E1 := (Below.refl w.heap.size w).alloc (Nat.le_refl _) (boxA fr (.slice a es0.length cap))
  have x2 := Blk.new (w.alloc (boxA fr (.slice a es0.length cap))) 24 [.int .i64 0, .slice none 0 0]
  have E2 := (E1.alloc E1.size (.cells #[.int .i64 0, .slice none 0 0] 24))
  replace x1 := x1.alloc (.cells #[.int .i64 0, .slice none 0 0] 24)
  simp only [World.size_alloc] at x2
  have M := hidden (cloneT _ es0 _ (HT.out.ext E2) ON.out (by omega))
  clear hT hE hok hn
  obtain ⟨c0, c1⟩ := x1.cells
  go_enter Try.func16, Try.ntmps16
  go_wp2_with fail
  refine M.out.mono ?_
  rintro e w1 ⟨v', rfl, OT, B1⟩
  simp only [World.size_alloc] at OT
  replace x1 := x1.ext B1
  replace x2 := x2.below B1 x2.lt
  replace E2 := below_then E2 B1
  clear c0 c1 M B1 E1
  obtain ⟨c0, c1⟩ := x1.cells
  have f1 : w1.frozen? ⟨w.heap.size, 1, none⟩ = false := Blk.frozen x1 1
  obtain ⟨ta, tn, tc, rfl⟩ := owns_slice OT
  go_wp2
  have y1 : BxA (w1.setCell ⟨w.heap.size, 1, none⟩ (.slice ta tn tc)) w.heap.size fr (.slice ta tn tc) := Blk.set x1 1 (.slice ta tn tc)
  have y2 := x2.set_neW (g := w.heap.size) (by omega) 1 (.slice ta tn tc)
  have ot : (w1.setCell ⟨w.heap.size, 1, none⟩ (.slice ta tn tc)).ownsRow (w.heap.size + 1 + 1) 43 5 (.slice ta tn tc) es0.length (tcs es0) := owns_set2 OT _ 1 (fun e => by have := (OT.lt _ e).1; omega)
  have bb := E2.setCell (p := ⟨w.heap.size, 1, none⟩) (Nat.le_refl _) (.slice ta tn tc)
  clear x1 x2 OT E2 c0 c1 f1
  obtain ⟨c0, c1⟩ := y1.cells
  obtain ⟨rfl, mc⟩ : tn = es0.length ∧ tc ≤ 9223372036854775807 := by
    rcases ot.2 with ⟨e, e2⟩ | ⟨g, cap, cur, e, -, -, h1, h2, -⟩
    · cases e; exact ⟨e2.symm, Nat.zero_le _⟩
    · cases e; exact ⟨rfl, h2⟩
  generalize w1.setCell ⟨w.heap.size, 1, none⟩ (.slice ta es0.length tc) = w2 at *
  go_wp2
  clear c0 c1
  go_loopw [12] (fun i wr => ∃ (k : Nat) (es : List TE), k ≤ es0.length ∧ i = .int .i64 k ∧ Hid (es.map (·.1) = es0.map (·.1)) ∧ Hid (∀ j, k ≤ j → es[j]? = es0[j]?) ∧ Hid (OwnU w.heap.size k wr es) ∧ wr.ownsRow (w.heap.size + 1 + 1) 43 5 (.slice ta es0.length tc) es0.length (tcs es) ∧ BxA wr w.heap.size fr (.slice ta es0.length tc) ∧ Blk wr (w.heap.size + 1) 24 [.int .i64 0, .slice none 0 0] ∧ Below w.heap.size w wr) (fun i _ => es0.length - (intOf i).toNat)
  case atStart => exact ⟨0, es0, Nat.zero_le _, rfl, hidden rfl, hidden (fun _ _ => rfl), hidden (OwnU.zero _ _ _), ot, y1, y2, bb⟩
  case round =>
    clear y1 y2 ot bb
    obtain ⟨k, es, hk, rfl, HM, HR, HU, ot, y1, y2, bb⟩ := hrel
    have hlen : es.length = es0.length := by have h := congrArg List.length HM.out; simpa using h
    have HLEN := hidden hlen
    clear hlen
    by_cases hlt : k < es0.length
    · obtain ⟨⟨x, vw, vs⟩, hx⟩ := getx hlt
      have hx2 : es[k]? = some (x, vw, vs) := by rw [HR.out k (Nat.le_refl _)]; exact hx
      obtain ⟨hw, hs⟩ := HE.out _ (List.mem_of_getElem? hx)
      obtain ⟨lw, ls⟩ := HK.out _ (List.mem_of_getElem? hx)
      obtain ⟨gT, cT, eT⟩ := owns_form ot (by omega)
      simp only [Value.slice.injEq, true_and] at eT
      obtain ⟨rfl, rfl⟩ := eT
      obtain ⟨c0, c1, c2, c3, c4, g0, f0⟩ := ten_at ot hx2
      have hlt' : (k : Int) < (es0.length : Int) := by omega
      obtain ⟨a1, l1, k1, rfl⟩ := Lsf.isl hw
      obtain ⟨a2, l2, k2, rfl⟩ := Lsf.isl hs
      have x9 := BxT.new wr x (.slice a1 l1 k1) (.slice a2 l2 k2)
      have E9 := (Below.refl wr.heap.size wr).alloc (Nat.le_refl _) (boxT x (.slice a1 l1 k1) (.slice a2 l2 k2))
      have HX := hidden hx2
      have KW := hidden hw
      have KS := hidden hs
      simp only at lw ls
      clear hx hx2 hw hs
      go_wp2
      refine c_begin 9 rfl (by kernel_rfl) ?_
      replace HU := hidden (HU.out.ext E9)
      have hg9 : gT < wr.heap.size := (ot.lt gT rfl).2
      have hgN : w.heap.size + 1 + 1 ≤ gT := (ot.lt gT rfl).1
      replace ot := owns_belowS ot E9
      replace y1 := y1.ext E9
      replace y2 := y2.below E9 y2.lt
      replace bb := below_then bb E9
      clear c0 c1 c2 c3 c4 g0 f0 E9
      generalize wr.heap.size = g9 at *
      generalize wr.alloc (boxT x (.slice a1 l1 k1) (.slice a2 l2 k2)) = w3 at *
      replace x9 := x9.drew
      replace HU := hidden (HU.out.ext (Below.refl _ _).drew)
      replace ot : w3.drew.ownsRow (w.heap.size + 1 + 1) 43 5 (.slice (some ⟨gT, 0, none⟩) es0.length tc) es0.length (tcs es) := ot
      replace y1 := y1.drew
      replace y2 := y2.drew
      replace bb := bb.drew
      generalize w3.drew = w4 at *
      have xx := Ext.refl w4
      have hz0 : w.heap.size ≤ w4.heap.size := bb.size
      refine c_P trivial 0 rfl ?_
      refine c_R (fun w' => Ext w4 w') xx trivial 1 rfl (fun w' hw' => by obtain ⟨q0, q1⟩ := (y1.ext hw').cells; go_simp; with_reducible rfl) ?_
      refine c_P ⟨xx, trivial⟩ 2 rfl ?_
      refine c_P ⟨xx, trivial⟩ 3 rfl ?_
      refine c_R (fun w' => Ext w4 w') xx ⟨xx, trivial⟩ 4 rfl (fun w' hw' => by obtain ⟨q0, q1, q2, q3, q4⟩ := (x9.ext hw').cells; go_simp; with_reducible rfl) ?_
      refine c_move 5 (by kernel_rfl) (c_op 5 [(1, fun w' => Ext w4 w')] (by kernel_rfl) rfl (by kernel_rfl) (fun K hK => ?_))
      go_wp2_with fail
      refine (cloneW _ x.ws w4 (KW.out.ext bb) (one_wcs _) lw).mono ?_
      rintro e w4b ⟨v1, rfl, ov1, B5⟩
      go_simp
      refine hK.out _ _ ⟨B5, trivial⟩ ?_
      try simp only [Act.put, List.setIfInBounds_toArray, List.set_cons_zero, List.set_cons_succ]
      clear hK K
      refine c_R (fun _ => True) trivial ⟨B5, trivial⟩ 6 rfl (fun w' _ => by go_simp; first | with_reducible rfl | (rw [if_pos (by omega)])) ?_
      have HLv1 := hidden (fun j e hj he => (HU.out.lt (j := j) (e := e) hj he))
      replace HU := hidden (HU.out.ext B5)
      replace ot := owns_belowS ot B5
      replace y1 := y1.ext B5
      replace y2 := y2.below B5 y2.lt
      replace x9 := x9.ext B5
      replace bb := below_then bb B5
      have hzv1 := B5.size
      obtain ⟨pv1, nv1, mv1, rfl⟩ := owns_slice ov1
      obtain ⟨c0, c1, c2, c3, c4, g0, f0⟩ := ten_at ot HX.out
      have f3 := f0 3
      refine c_P ⟨trivial, B5, trivial⟩ 7 rfl ?_
      refine c_move 8 (by kernel_rfl) (c_op 8 [(6, fun _ => True)] (by kernel_rfl) rfl (by kernel_rfl) (fun K hK => ?_))
      go_simp
      refine hK.out _ _ ⟨trivial, trivial⟩ ?_
      try simp only [Act.put, List.setIfInBounds_toArray, List.set_cons_zero, List.set_cons_succ]
      clear hK K
      replace HU := hidden (HU.out.put (o := k * 5 + 3) ot rfl (.slice pv1 nv1 mv1))
      have oq := (ot.stored (k * 5 + 3) (.slice pv1 nv1 mv1)).1
      rw [show (tcs es).set (k * 5 + 3) (.slice pv1 nv1 mv1) = tcs (es.set k (x, .slice pv1 nv1 mv1, .slice a2 l2 k2)) from flatMap_set tf_len (by decide) rfl _ k HX.out] at oq
      replace ov1 := owns_set2 (u := .slice pv1 nv1 mv1) ov1 gT (k * 5 + 3) (fun e => owns_ne ov1 ot (by decide) gT e rfl)
      replace y1 : BxA _ w.heap.size fr _ := Blk.set_neW (g := gT) y1 (by omega) (k * 5 + 3) (.slice pv1 nv1 mv1)
      replace y2 := Blk.set_neW (g := gT) y2 (by omega) (k * 5 + 3) (.slice pv1 nv1 mv1)
      replace x9 : BxT _ g9 x (.slice a1 l1 k1) (.slice a2 l2 k2) := Blk.set_neW (g := gT) x9 (by omega) (k * 5 + 3) (.slice pv1 nv1 mv1)
      replace bb := bb.setCell (p := ⟨gT, k * 5 + 3, none⟩) (show w.heap.size ≤ gT by omega) (.slice pv1 nv1 mv1)
      have hsv1 : w4b.heap.size = (w4b.setCell ⟨gT, k * 5 + 3, none⟩ (.slice pv1 nv1 mv1)).heap.size := by simp [World.setCell]
      clear ot c0 c1 c2 c3 c4 g0 f0 f3 B5 xx
      refine c_done (by kernel_rfl) ?_
      generalize w4b.setCell ⟨gT, k * 5 + 3, none⟩ (.slice pv1 nv1 mv1) = w4c at *
      have ot := oq
      clear oq
      have hlk : k < es.length := lt_of_get HX.out
      have HX1 : Hid ((es.set k (x, .slice pv1 nv1 mv1, .slice a2 l2 k2))[k]? = some (x, .slice pv1 nv1 mv1, .slice a2 l2 k2)) := hidden (List.getElem?_set_self hlk)
      go_wp2
      refine c_begin 9 rfl (by kernel_rfl) ?_
      replace x9 := x9.drew
      replace HU := hidden (HU.out.ext (Below.refl _ _).drew)
      replace ot := owns_belowS ot (Below.refl _ _).drew
      replace ov1 := owns_belowS ov1 (Below.refl _ _).drew
      replace y1 := y1.drew
      replace y2 := y2.drew
      replace bb := bb.drew
      have hsd : w4c.heap.size = w4c.drew.heap.size := rfl
      generalize w4c.drew = w8 at *
      have xx := Ext.refl w8
      refine c_P trivial 0 rfl ?_
      refine c_R (fun w' => Ext w8 w') xx trivial 1 rfl (fun w' hw' => by obtain ⟨q0, q1⟩ := (y1.ext hw').cells; go_simp; with_reducible rfl) ?_
      refine c_P ⟨xx, trivial⟩ 2 rfl ?_
      refine c_P ⟨xx, trivial⟩ 3 rfl ?_
      refine c_R (fun w' => Ext w8 w') xx ⟨xx, trivial⟩ 4 rfl (fun w' hw' => by obtain ⟨q0, q1, q2, q3, q4⟩ := (x9.ext hw').cells; go_simp; with_reducible rfl) ?_
      refine c_move 5 (by kernel_rfl) (c_op 5 [(1, fun w' => Ext w8 w')] (by kernel_rfl) rfl (by kernel_rfl) (fun K hK => ?_))
      go_wp2_with fail
      refine (cloneS _ x.ss w8 (KS.out.ext bb) (one_scs _) ls).mono ?_
      rintro e w8b ⟨v2, rfl, ov2, B5⟩
      go_simp
      refine hK.out _ _ ⟨B5, trivial⟩ ?_
      try simp only [Act.put, List.setIfInBounds_toArray, List.set_cons_zero, List.set_cons_succ]
      clear hK K
      refine c_R (fun _ => True) trivial ⟨B5, trivial⟩ 6 rfl (fun w' _ => by go_simp; first | with_reducible rfl | (rw [if_pos (by omega)])) ?_
      have HLv2 := hidden (fun j e hj he => (HU.out.lt (j := j) (e := e) hj he))
      replace HU := hidden (HU.out.ext B5)
      replace ot := owns_belowS ot B5
      replace y1 := y1.ext B5
      replace y2 := y2.below B5 y2.lt
      replace x9 := x9.ext B5
      replace bb := below_then bb B5
      have hzv2 := B5.size
      replace ov1 := owns_belowS ov1 B5
      obtain ⟨pv2, nv2, mv2, rfl⟩ := owns_slice ov2
      obtain ⟨c0, c1, c2, c3, c4, g0, f0⟩ := ten_at ot HX1.out
      have f4 := f0 4
      refine c_P ⟨trivial, B5, trivial⟩ 7 rfl ?_
      refine c_move 8 (by kernel_rfl) (c_op 8 [(6, fun _ => True)] (by kernel_rfl) rfl (by kernel_rfl) (fun K hK => ?_))
      go_simp
      refine hK.out _ _ ⟨trivial, trivial⟩ ?_
      try simp only [Act.put, List.setIfInBounds_toArray, List.set_cons_zero, List.set_cons_succ]
      clear hK K
      replace HU := hidden (HU.out.put (o := k * 5 + 4) ot rfl (.slice pv2 nv2 mv2))
      have oq := (ot.stored (k * 5 + 4) (.slice pv2 nv2 mv2)).1
      rw [show (tcs (es.set k (x, .slice pv1 nv1 mv1, .slice a2 l2 k2))).set (k * 5 + 4) (.slice pv2 nv2 mv2) = tcs ((es.set k (x, .slice pv1 nv1 mv1, .slice a2 l2 k2)).set k (x, .slice pv1 nv1 mv1, .slice pv2 nv2 mv2)) from flatMap_set tf_len (by decide) rfl _ k HX1.out] at oq
      replace ov2 := owns_set2 (u := .slice pv2 nv2 mv2) ov2 gT (k * 5 + 4) (fun e => owns_ne ov2 ot (by decide) gT e rfl)
      replace ov1 := owns_set2 (u := .slice pv2 nv2 mv2) ov1 gT (k * 5 + 4) (fun e => owns_ne ov1 ot (by decide) gT e rfl)
      replace y1 : BxA _ w.heap.size fr _ := Blk.set_neW (g := gT) y1 (by omega) (k * 5 + 4) (.slice pv2 nv2 mv2)
      replace y2 := Blk.set_neW (g := gT) y2 (by omega) (k * 5 + 4) (.slice pv2 nv2 mv2)
      replace x9 : BxT _ g9 x (.slice a1 l1 k1) (.slice a2 l2 k2) := Blk.set_neW (g := gT) x9 (by omega) (k * 5 + 4) (.slice pv2 nv2 mv2)
      replace bb := bb.setCell (p := ⟨gT, k * 5 + 4, none⟩) (show w.heap.size ≤ gT by omega) (.slice pv2 nv2 mv2)
      have hsv2 : w8b.heap.size = (w8b.setCell ⟨gT, k * 5 + 4, none⟩ (.slice pv2 nv2 mv2)).heap.size := by simp [World.setCell]
      clear ot c0 c1 c2 c3 c4 g0 f0 f4 B5 xx
      refine c_done (by kernel_rfl) ?_
      generalize w8b.setCell ⟨gT, k * 5 + 4, none⟩ (.slice pv2 nv2 mv2) = w8c at *
      rw [List.set_set] at oq
      have HU2 := hidden (HU.out.push (M := w4.heap.size) (S := w8.heap.size) hlk hz0 ov1 ov2 (by omega) (fun j e hj he => ⟨(HLv1.out j e hj he).1, (HLv2.out j e hj he).2⟩))
      go_wp2
      go_roundw
      case rel => exact ⟨k + 1, _, by omega, by go_num, hidden (by rw [map_set_same HX.out]; exact HM.out), hidden (fun j hj => by rw [List.getElem?_set_ne (by omega)]; exact HR.out j (by omega)), HU2, oq, y1, y2, bb⟩
      case measure => simp [intOf]; omega
    · have ek : k = es0.length := by omega
      have HU2 : Hid (OwnU w.heap.size es.length wr es) := hidden (by rw [HLEN.out, ← ek]; exact HU.out)
      clear HU ek
      obtain ⟨c0, c1⟩ := y1.cells
      have d0 := y2.cell 0
      have d1 := y2.cell 1
      simp only [List.getElem?_cons_succ, List.getElem?_cons_zero] at d0 d1
      have e0 := y2.frozen 0
      have e1 := y2.frozen 1
      go_wp2
      have y3 := (y2.set 0 (.int .i64 fr)).set 1 (.slice ta es0.length tc)
      have ot2 := owns_set2 (u := .slice ta es0.length tc) (owns_set2 (u := .int .i64 fr) ot (w.heap.size + 1) 0 (fun e => by have := (ot.lt _ e).1; omega)) (w.heap.size + 1) 1 (fun e => by have := (ot.lt _ e).1; omega)
      have HU3 := HU2.out.set2 (w.heap.size + 1) 0 (.int .i64 fr) 1 (.slice ta es0.length tc) y2 (by decide)
      have b3 := (bb.setCell (p := ⟨w.heap.size + 1, 0, none⟩) (show w.heap.size ≤ w.heap.size + 1 by omega) (.int .i64 fr)).setCell (p := ⟨w.heap.size + 1, 1, none⟩) (show w.heap.size ≤ w.heap.size + 1 by omega) (.slice ta es0.length tc)
      generalize ((wr.setCell ⟨w.heap.size + 1, 0, none⟩ (.int .i64 fr)).setCell ⟨w.heap.size + 1, 1, none⟩ (.slice ta es0.length tc)) = wZ at *
      clear c0 c1 d0 d1 e0 e1
      have q0 := y3.cell 0
      have q1 := y3.cell 1
      simp at q0 q1
      refine bodyPost_ret (v := _) (by simp [results, Try.results16, go_sem, q0, q1]; with_reducible rfl) rfl ?_
      exact ⟨_, rfl, es, HM.out, by rw [HLEN.out]; exact owns_le ot2 (by omega), HU3, b3⟩

end Go.Proofs.Ytffjhimdamdenaa
