/- Which tables a tape makes: they are right. -/
import Derived.Test.YtffjhimdamdenaaBA
namespace Go.Proofs.Ytffjhimdamdenaa
open Go.RowKit

theorem bits_u32 (op : BinOp) (x y : Int) : 0 ≤ bits op .u32 x y ∧ bits op .u32 x y < 4294967296 := by
  unfold bits
  split <;> (simp only [IntKind.wrap, IntKind.signed, IntKind.bits]; simp; omega)
theorem meetE_no {a n b m : Int} (h : b + m ≤ a) : meetE a n b m = false := by
  cases e : meetE a n b m
  · rfl
  · simp only [meetE, Bool.and_eq_true, decide_eq_true_eq] at e
    exfalso
    have := (tk_iff.1 e.1.1)
    have := (tk_iff.1 e.1.2)
    omega
theorem GW.wr {t : Nat} {ws : WL} (h : GW t ws) (ht : t ≤ 3) : ∀ x ∈ ws, wR x = true := fun x hx => by
  obtain ⟨q1, q2, q3, q4, q5, q6, q7, q8⟩ := h.ok x hx
  obtain ⟨s, v, p, n⟩ := x
  simp only at q1 q2 q3 q4 q5 q6 q7 q8
  exact wR_iff.2 (by omega)
theorem GW.okw {t : Nat} {ws : WL} (h : GW t ws) (ht : t ≤ 3) : OkW ws := fun x hx => by
  have := wR_all (h.wr ht x hx)
  unfold i64
  omega
theorem GW.own {t : Nat} {ws : WL} (h : GW t ws) : ownB ws = true := by
  refine decide_eq_true ?_
  refine (h.ord.filter wR).imp ?_
  intro y x hh
  unfold clashB
  by_cases e : x.1 = y.1
  · have := hh e.symm
    rw [meetE_no this.2, meetE_no this.1]
    simp
  · simp [e]
theorem GW.apart {t s : Nat} {a b : WL} (ha : GW t a) (hb : GW s b) (h : s < t) : meetsB a b = false := by
  unfold meetsB
  rw [List.any_eq_false]
  intro x hx
  rw [Bool.not_eq_true, List.any_eq_false]
  intro y hy
  rw [Bool.not_eq_true]
  have h1 := ha.ok x (List.mem_filter.1 hx).1
  have h2 := hb.ok y (List.mem_filter.1 hy).1
  unfold touchB
  rw [meetE_no (by omega)]
  simp

/-- a tenant that a tape makes -/
structure GT (j : Nat) (x : Tn) : Prop where
  u : 1 ≤ x.u ∧ x.u ≤ 6
  f : 0 ≤ x.f ∧ x.f < 4294967296
  q : 1 ≤ x.q ∧ x.q ≤ 4
  ws : GW (j : Int) x.ws
  sl : 1 ≤ x.ss.length ∧ x.ss.length ≤ 2
/-- slots one behind the other -/
def Bh (a b : Int × Int) : Prop := a.1 + a.2 ≤ b.1
structure SlT (t : Int) (ss : SL) : Prop where
  ok : ∀ s ∈ ss, 0 ≤ s.1 ∧ 72 ≤ s.2 ∧ s.2 ≤ 80 ∧ s.1 + s.2 ≤ t
  ord : ss.Pairwise Bh
theorem SlT.nil (t : Int) : SlT t [] := ⟨fun s hs => (by cases hs), List.Pairwise.nil⟩
theorem SlT.mono {t u : Int} {ss : SL} (h : SlT t ss) (hu : t ≤ u) : SlT u ss := ⟨fun s hs => by have := h.ok s hs; omega, h.ord⟩
theorem SlT.push {t u p n : Int} {ss : SL} (h : SlT t ss) (h0 : 0 ≤ p) (hp : t ≤ p) (hn : 72 ≤ n ∧ n ≤ 80) (hu : p + n ≤ u) : SlT u (ss ++ [(p, n)]) := by
  refine ⟨fun s hs => ?_, ?_⟩
  · rcases List.mem_append.1 hs with hs | hs
    · have := h.ok s hs; omega
    · simp only [List.mem_singleton] at hs; subst hs; simp only; omega
  · rw [List.pairwise_append]
    refine ⟨h.ord, by simp, fun a ha b hb => ?_⟩
    simp only [List.mem_singleton] at hb
    subst hb
    have := h.ok a ha
    show a.1 + a.2 ≤ p
    omega
structure TabOK (fr : Int) (l : List Tn) : Prop where
  len : 1 ≤ l.length ∧ l.length ≤ 4
  ten : ∀ (j : Nat) (x : Tn), l[j]? = some x → GT j x
  sl : SlT fr (l.flatMap (·.ss))
  fr : fr ≤ 2000
/-- what has been made so far -/
structure TabS (t : Int) (l : List Tn) : Prop where
  ten : ∀ (j : Nat) (x : Tn), l[j]? = some x → GT j x
  sl : SlT t (l.flatMap (·.ss))
theorem TabS.nil (t : Int) : TabS t [] := ⟨fun j x h => by simp at h, SlT.nil t⟩
theorem TabS.push {t u : Int} {l : List Tn} {x : Tn} (h : TabS t l) (hx : GT l.length x) (hs : SlT u (l.flatMap (·.ss) ++ x.ss)) : TabS u (l ++ [x]) := by
  refine ⟨fun j y hj => ?_, by simpa using hs⟩
  by_cases e : j < l.length
  · rw [List.getElem?_append_left e] at hj
    exact h.ten j y hj
  · rw [List.getElem?_append_right (by omega)] at hj
    have : j - l.length = 0 := by
      have := lt_of_get hj
      simp at this; omega
    rw [this] at hj
    simp at hj
    subst hj
    have : j = l.length := by omega
    subst this
    exact hx
theorem TabS.ok {t fr : Int} {l : List Tn} (h : TabS t l) (hl : 1 ≤ l.length ∧ l.length ≤ 4) (ht : t ≤ fr) (hf : fr ≤ 2000) : TabOK fr l := ⟨hl, h.ten, h.sl.mono ht, hf⟩
theorem TabOK.okTs {fr : Int} {l : List Tn} (h : TabOK fr l) : OkTs l := by
  refine ⟨fun x hx => ?_, by have := h.len; omega⟩
  obtain ⟨j, hj⟩ := List.getElem?_of_mem hx
  have g := h.ten j x hj
  have lt := lt_of_get hj
  have hl := h.len
  have hu := g.u
  have hq := g.q
  have hs := g.sl
  have hw := g.ws.len
  refine ⟨by unfold i64; omega, g.f, by unfold i64; omega, g.ws.okw (by omega), fun s hs => ?_, by omega, by omega⟩
  have hm := h.sl.ok s (List.mem_flatMap.2 ⟨x, hx, hs⟩)
  have hf := h.fr
  unfold i64; omega
theorem TabOK.parts {fr : Int} {l : List Tn} (h : TabOK fr l) {k : Nat} {x : Tn} (hx : l[k]? = some x) : (∀ y ∈ l.take k, ∀ a ∈ y.ss, ∀ b ∈ x.ss, Bh a b) ∧ x.ss.Pairwise Bh := by
  have e : l = l.take k ++ [x] ++ l.drop (k + 1) := by rw [<- take_snoc hx, List.take_append_drop]
  have o := h.sl.ord
  rw [e, List.flatMap_append, List.flatMap_append, List.pairwise_append, List.pairwise_append] at o
  obtain ⟨⟨-, o2, o3⟩, -, -⟩ := o
  simp only [List.flatMap_cons, List.flatMap_nil, List.append_nil] at o2 o3
  exact ⟨fun y hy a ha b hb => o3 a (List.mem_flatMap.2 ⟨y, hy, ha⟩) b hb, o2⟩
theorem mE_no {a b : Int × Int} (h : Bh a b) : mE b a = false := meetE_no h
theorem TabOK.hit {fr : Int} {l : List Tn} (h : TabOK fr l) {k : Nat} {x : Tn} (hx : l[k]? = some x) {i : Nat} {s : Int × Int} (hs : x.ss[i]? = some s) : hitB x.ss (l.take k) i s = false := by
  obtain ⟨h1, h2⟩ := h.parts hx
  unfold hitB
  rw [Bool.or_eq_false_iff]
  refine ⟨?_, ?_⟩
  · rw [List.any_eq_false]
    intro a ha
    rw [Bool.not_eq_true]
    have e : x.ss = x.ss.take i ++ [s] ++ x.ss.drop (i + 1) := by rw [<- take_snoc hs, List.take_append_drop]
    rw [e, List.pairwise_append, List.pairwise_append] at h2
    exact mE_no (h2.1.2.2 a ha s (by simp))
  · rw [List.any_eq_false]
    intro y hy
    rw [Bool.not_eq_true, List.any_eq_false]
    intro a ha
    rw [Bool.not_eq_true]
    exact mE_no (h1 y hy a ha s (List.mem_of_getElem? hs))
theorem TabOK.tenI {fr : Int} {l : List Tn} (h : TabOK fr l) (i : Nat) : tenI fr l i = 0 := by
  unfold Go.Proofs.Ytffjhimdamdenaa.tenI
  cases hx : l[i]? with
  | none => rfl
  | some x =>
    have g := h.ten i x hx
    have lt := lt_of_get hx
    have hl := h.len
    have hu := g.u
    have hq := g.q
    have hs := g.sl
    have hw := g.ws.len
    have a1 : inB2 x.u 247 = true := by simp [inB2]; omega
    have a2 : inB2 x.q 6 = true := by simp [inB2]; omega
    have a3 : inB2 x.ss.length 3 = true := by simp [inB2]; omega
    have a4 : wsB x.ws = true := by
      unfold wsB
      rw [g.ws.own, Bool.and_true, List.all_eq_true]
      exact g.ws.wr (by omega)
    have a5 : slB x.ss fr = true := by
      unfold slB
      rw [List.all_eq_true]
      intro s hs
      have := h.sl.ok s (List.mem_flatMap.2 ⟨x, List.mem_of_getElem? hx, hs⟩)
      rw [Bool.and_eq_true, decide_eq_true_eq]
      exact ⟨by omega, okR_t (by omega)⟩
    have a6 : aloneE x fr = 0 := by
      unfold aloneE
      rw [a1, a2, a3, a4, a5]
      simp; omega
    show tenE fr (l.take i) x = 0
    unfold tenE
    rw [if_pos a6]
    unfold besideE
    have b1 : ((l.take i).any fun y => meetsB x.ws y.ws) = false := by
      rw [List.any_eq_false]
      intro y hy
      rw [Bool.not_eq_true]
      obtain ⟨j, hj⟩ := List.getElem?_of_mem hy
      have hji : j < i := by
        have := lt_of_get hj
        simp at this; omega
      rw [List.getElem?_take_of_lt hji] at hj
      exact g.ws.apart (h.ten j y hj).ws hji
    have b2 : hitsB x.ss (l.take i) x.ss.length = false := by
      unfold hitsB
      rw [List.any_eq_false]
      intro k _
      rw [Bool.not_eq_true]
      cases hk : x.ss[k]? with
      | none => rfl
      | some s => exact h.hit hx hk
    rw [b1, b2]
    simp
theorem TabOK.where_ {fr : Int} {l : List Tn} (h : TabOK fr l) : whereE fr l = (0, -1) := by
  have hl := h.len
  have hf := h.fr
  have h1 : 72 ≤ fr := by
    obtain ⟨x, hx⟩ := getx (show 0 < l.length by omega)
    have g := (h.ten 0 x hx).sl
    obtain ⟨s, hs⟩ := getx (show 0 < x.ss.length by omega)
    have := h.sl.ok s (List.mem_flatMap.2 ⟨x, List.mem_of_getElem? hx, List.mem_of_getElem? hs⟩)
    omega
  have a1 : inB2 fr 2000 = true := by simp [inB2]; omega
  have a2 : inB2 l.length 4 = true := by simp [inB2]; omega
  unfold whereE
  rw [a1, a2]
  have e : firstE fr l l.length = none := by
    unfold firstE
    rw [List.find?_eq_none]
    intro i _
    simp [h.tenI i]
  rw [e]
  simp

/-- tenants of one's own, their lists of one's own, none in the list's own block -/
def Ow (N : Nat) (w : World) (vt v : Value) : Prop := ∀ k, v.ownBlock = some k → N ≤ k ∧ k < w.heap.size ∧ vt.ownBlock ≠ some k
def OX (N : Nat) (w : World) (vt : Value) (es : List TE) : Prop := w.ownsRow N 43 5 vt es.length (tcs es) ∧ ∀ e ∈ es, Wns w e.2.1 e.1.ws ∧ Sts w e.2.2 e.1.ss ∧ Ow N w vt e.2.1 ∧ Ow N w vt e.2.2
theorem OX.nil (N : Nat) (w : World) : OX N w (.slice none 0 0) [] := ⟨⟨rfl, .inl ⟨rfl, rfl⟩⟩, fun e he => by cases he⟩
theorem Lsf.keep {α : Type} {k : Nat} {f : α → List Value} {w w' : World} {v : Value} {l : List α} (h : Lsf k f w v l) (hb : ∀ b, v.ownBlock = some b → b < w.heap.size → w'.heap[b]? = w.heap[b]?) : Lsf k f w' v l := by
  obtain ⟨a, cap, rfl, h1, h2, h5, h3⟩ := h
  refine ⟨a, cap, rfl, h1, h2, h5, ?_⟩
  rcases h3 with h3 | ⟨b, off, rfl, hc⟩
  · exact .inl h3
  · refine .inr ⟨b, off, rfl, fun i x hx j u hu => ?_⟩
    have q := hc i x hx j u hu
    rw [← q]
    exact World.cell?_of_block (a := ⟨b, off + i * k + j, none⟩) (hb b rfl (lt_of_cell q))
theorem OX.keep {N : Nat} {w w' : World} {vt : Value} {es : List TE} (h : OX N w vt es) (hs : w.heap.size ≤ w'.heap.size) (hb : ∀ k, N ≤ k → k < w.heap.size → w'.heap[k]? = w.heap[k]?) : OX N w' vt es := by
  obtain ⟨h1, h2⟩ := h
  refine ⟨⟨h1.1, ?_⟩, fun e he => ?_⟩
  · rcases h1.2 with h3 | ⟨g', cap, cur, rfl, hb', hg', rest⟩
    · exact .inl h3
    · exact .inr ⟨g', cap, cur, rfl, hb', (hb g' hb' (Array.getElem?_eq_some_iff.1 hg').1).trans hg', rest⟩
  · obtain ⟨q1, q2, q3, q4⟩ := h2 e he
    exact ⟨q1.keep (fun b hb1 hb2 => hb b (q3 b hb1).1 hb2), q2.keep (fun b hb1 hb2 => hb b (q4 b hb1).1 hb2), fun k hk => ⟨(q3 k hk).1, Nat.lt_of_lt_of_le (q3 k hk).2.1 hs, (q3 k hk).2.2⟩, fun k hk => ⟨(q4 k hk).1, Nat.lt_of_lt_of_le (q4 k hk).2.1 hs, (q4 k hk).2.2⟩⟩
theorem OX.ext {N : Nat} {w w' : World} {vt : Value} {es : List TE} (h : OX N w vt es) (hb : Below w.heap.size w w') : OX N w' vt es := h.keep hb.size (fun k _ hk => hb.block k hk)
theorem OX.dev {N B g : Nat} {w w' : World} {vt : Value} {es : List TE} (h : OX N w vt es) (hd : Dev B g w w') (hB : w.heap.size ≤ B) (hg : g < N) : OX N w' vt es := h.keep hd.size (fun k h1 h2 => hd.block k (by omega) (by omega))
theorem OX.set {N g o : Nat} {w : World} {vt : Value} {es : List TE} (h : OX N w vt es) (hg : g < N) (u : Value) : OX N (w.setCell ⟨g, o, none⟩ u) vt es := h.keep (by simp [World.setCell]) (fun k h1 h2 => by
  simp only [World.setCell, Array.getElem?_modify]
  rw [if_neg (by omega)])
theorem OX.push {N : Nat} {w w' : World} {vt vt' : Value} {es : List TE} (e : TE) (h : OX N w vt es) (hw : Wns w e.2.1 e.1.ws) (hs : Sts w e.2.2 e.1.ss) (k1 : Ow N w vt e.2.1) (k2 : Ow N w vt e.2.2)
    (ho : w'.ownsRow N 43 5 vt' (es.length + 1) (tcs es ++ tf e)) (gr : w.grownBy w' vt.ownBlock) (ob : vt'.ownBlock = vt.ownBlock ∨ vt'.ownBlock = some w.heap.size) : OX N w' vt' (es ++ [e]) := by
  have kk : ∀ v, Ow N w vt v → Ow N w' vt' v := by
    intro v q k hk
    refine ⟨(q k hk).1, Nat.lt_of_lt_of_le (q k hk).2.1 gr.size, ?_⟩
    rcases ob with ob | ob
    · rw [ob]; exact (q k hk).2.2
    · rw [ob]
      intro e
      have := (q k hk).2.1
      cases e
      omega
  have key : ∀ v, Ow N w vt v → ∀ b, v.ownBlock = some b → b < w.heap.size → w'.heap[b]? = w.heap[b]? := fun v q b hb1 hb2 => gr.block b hb2 (fun e => (q b hb1).2.2 e.symm)
  refine ⟨by rw [tcs_app]; simpa [tcs] using ho, fun d hd => ?_⟩
  rcases List.mem_append.1 hd with hd | hd
  · obtain ⟨q1, q2, q3, q4⟩ := h.2 d hd
    exact ⟨q1.keep (key _ q3), q2.keep (key _ q4), kk _ q3, kk _ q4⟩
  · simp only [List.mem_singleton] at hd
    subst hd
    exact ⟨hw.keep (key _ k1), hs.keep (key _ k2), kk _ k1, kk _ k2⟩
theorem OX.tns {N : Nat} {w : World} {vt : Value} {es : List TE} (h : OX N w vt es) : Tns w vt (es.map (·.1)) :=
  ⟨es, rfl, Lsf.of_owns tf_len (by decide) h.1, fun e he => ⟨(h.2 e he).1, (h.2 e he).2.1⟩⟩

end Go.Proofs.Ytffjhimdamdenaa
