/- What a table that may be has: cells and ticks apart; maps of cells and of ticks. -/
import Derived.Test.YtffjhimdamdenaaBS
import Derived.Maps.Own
import Derived.Maps.Views
import Derived.WideKeyPair
import Derived.DeepKeys4
namespace Go.Proofs.Ytffjhimdamdenaa
open Go.RowKit

def Dw (a b : WN) : Prop := a.1 = b.1 → a.2.2.1 + a.2.2.2 ≤ b.2.2.1 ∨ b.2.2.1 + b.2.2.2 ≤ a.2.2.1
def Ds (a b : Int × Int) : Prop := a.1 + a.2 ≤ b.1 ∨ b.1 + b.2 ≤ a.1
/-- what is known of a table that may be -/
structure RT (fr : Int) (l : List Tn) : Prop where
  frm : 1 ≤ fr ∧ fr ≤ 2000
  len : l.length ≤ 4
  ten : ∀ x ∈ l, x.ws.length ≤ 6 ∧ x.ss.length ≤ 3 ∧ (∀ y ∈ x.ws, wR y = true) ∧ (∀ s ∈ x.ss, 72 ≤ s.2 ∧ 0 ≤ s.1 ∧ s.1 + s.2 ≤ fr)
  pw : (l.flatMap (·.ws)).Pairwise Dw
  ps : (l.flatMap (·.ss)).Pairwise Ds
theorem inB2_iff {n m : Int} : inB2 n m = true ↔ 1 ≤ n ∧ n ≤ m := by simp [inB2]
theorem meet_apart {a n b m : Int} (h : meetE a n b m = false) (h1 : 0 ≤ a ∧ 1 ≤ n ∧ a + n ≤ 2147483648) (h2 : 0 ≤ b ∧ 1 ≤ m ∧ b + m ≤ 2147483648) : a + n ≤ b ∨ b + m ≤ a := by
  unfold meetE at h
  rw [tk_iff.2 h1, tk_iff.2 h2] at h
  simp only [Bool.true_and, decide_eq_false_iff_not] at h
  omega
theorem alone_zero {x : Tn} {fr : Int} (h : aloneE x fr = 0) : x.ws.length ≤ 6 ∧ inB2 x.ss.length 3 = true ∧ wsB x.ws = true ∧ slB x.ss fr = true := by
  unfold aloneE at h
  cases h1 : inB2 x.u 247
  · rw [h1] at h; simp at h
  cases h2 : inB2 x.q 6
  · rw [h1, h2] at h; simp at h
  by_cases h6 : 6 < x.ws.length
  · rw [h1, h2] at h; simp [h6] at h
  cases h3 : inB2 x.ss.length 3
  · rw [h1, h2, h3] at h; simp at h
  cases h4 : wsB x.ws
  · rw [h1, h2, h3, h4] at h; simp [h6] at h
  cases h5 : slB x.ss fr
  · rw [h1, h2, h3, h4, h5] at h; simp [h6] at h
  exact ⟨by omega, rfl, rfl, rfl⟩
theorem beside_zero {x : Tn} {ah : List Tn} (h : besideE x ah = 0) : (ah.any fun y => meetsB x.ws y.ws) = false ∧ hitsB x.ss ah x.ss.length = false := by
  unfold besideE at h
  cases h1 : ah.any fun y => meetsB x.ws y.ws
  · rw [h1] at h
    cases h2 : hitsB x.ss ah x.ss.length
    · exact ⟨rfl, rfl⟩
    · rw [h2] at h; simp at h
  · rw [h1] at h; simp at h
theorem ten_zero {fr : Int} {ah : List Tn} {x : Tn} (h : tenE fr ah x = 0) : aloneE x fr = 0 ∧ besideE x ah = 0 := by
  unfold tenE at h
  by_cases e : aloneE x fr = 0
  · rw [if_pos e] at h; exact ⟨e, h⟩
  · rw [if_neg e] at h; exact absurd h e
theorem where_zero {fr : Int} {l : List Tn} (h : (whereE fr l).1 = 0) : inB2 fr 2000 = true ∧ inB2 l.length 4 = true ∧ ∀ (i : Nat) (x : Tn), l[i]? = some x → tenE fr (l.take i) x = 0 := by
  unfold whereE at h
  cases h1 : inB2 fr 2000
  · rw [h1] at h; simp at h
  cases h2 : inB2 l.length 4
  · rw [h1, h2] at h; simp at h
  rw [h1, h2] at h
  cases h3 : firstE fr l l.length with
  | some i =>
    rw [h3] at h
    have := List.find?_some h3
    simp at this h
    exact absurd h this
  | none =>
    refine ⟨rfl, rfl, fun i x hx => ?_⟩
    unfold firstE at h3
    rw [List.find?_eq_none] at h3
    have := h3 i (List.mem_range.2 (lt_of_get hx))
    unfold tenI at this
    rw [hx] at this
    simpa using this
theorem RT.of {fr : Int} {l : List Tn} (h : (whereE fr l).1 = 0) : RT fr l := by
  obtain ⟨h1, h2, h3⟩ := where_zero h
  have f := inB2_iff.1 h1
  have n := inB2_iff.1 h2
  have al : ∀ (i : Nat) (x : Tn), l[i]? = some x → x.ws.length ≤ 6 ∧ x.ss.length ≤ 3 ∧ (∀ y ∈ x.ws, wR y = true) ∧ (∀ s ∈ x.ss, 72 ≤ s.2 ∧ 0 ≤ s.1 ∧ s.1 + s.2 ≤ fr) ∧ ownB x.ws = true := fun i x hx => by
    obtain ⟨a1, a2, a3, a4⟩ := alone_zero (ten_zero (h3 i x hx)).1
    have a2' := inB2_iff.1 a2
    unfold wsB at a3
    rw [Bool.and_eq_true, List.all_eq_true] at a3
    unfold slB at a4
    rw [List.all_eq_true] at a4
    refine ⟨a1, by omega, a3.1, fun s hs => ?_, a3.2⟩
    have := a4 s hs
    simp only [okR, Bool.and_eq_true, decide_eq_true_eq] at this
    omega
  have be := fun (i : Nat) (x : Tn) (hx : l[i]? = some x) => beside_zero (ten_zero (h3 i x hx)).2
  refine ⟨f, by omega, fun x hx => ?_, ?_, ?_⟩
  · obtain ⟨i, hi⟩ := List.getElem?_of_mem hx
    obtain ⟨a1, a2, a3, a4, -⟩ := al i x hi
    exact ⟨a1, a2, a3, a4⟩
  · rw [List.pairwise_flatMap]
    refine ⟨fun x hx => ?_, ?_⟩
    · obtain ⟨i, hi⟩ := List.getElem?_of_mem hx
      obtain ⟨-, -, a3, -, a5⟩ := al i x hi
      have o := of_decide_eq_true a5
      rw [List.filter_eq_self.2 a3] at o
      refine List.Pairwise.imp_of_mem ?_ o
      intro y z hy hz hc he
      unfold clashB at hc
      rw [decide_eq_true he.symm, Bool.true_and, Bool.or_eq_false_iff] at hc
      have q1 := wR_all (a3 y hy)
      have q2 := wR_all (a3 z hz)
      exact (meet_apart hc.1 (by omega) (by omega)).symm
    · rw [List.pairwise_iff_getElem]
      intro i j hi hj hij y hy z hz he
      have gi : l[i]? = some l[i] := List.getElem?_eq_getElem hi
      have gj : l[j]? = some l[j] := List.getElem?_eq_getElem hj
      have b := (be j _ gj).1
      rw [List.any_eq_false] at b
      have b := b l[i] (List.mem_of_getElem? (by rw [List.getElem?_take_of_lt hij]; exact gi))
      rw [Bool.not_eq_true] at b
      unfold meetsB at b
      rw [List.any_eq_false] at b
      have wz := (al j _ gj).2.2.1 z hz
      have wy := (al i _ gi).2.2.1 y hy
      have b := b z (List.mem_filter.2 ⟨hz, wz⟩)
      rw [Bool.not_eq_true, List.any_eq_false] at b
      have b := b y (List.mem_filter.2 ⟨hy, wy⟩)
      rw [Bool.not_eq_true] at b
      unfold touchB at b
      rw [decide_eq_true he.symm, Bool.true_and] at b
      have q1 := wR_all wy
      have q2 := wR_all wz
      exact (meet_apart b (by omega) (by omega)).symm
  · have hit : ∀ (j : Nat) (x : Tn), l[j]? = some x → ∀ (k : Nat) (s : Int × Int), x.ss[k]? = some s → hitB x.ss (l.take j) k s = false := fun j x hx k s hs => by
      have b := (be j x hx).2
      unfold hitsB at b
      rw [List.any_eq_false] at b
      have b := b k (List.mem_range.2 (lt_of_get hs))
      rw [hs] at b
      simpa using b
    rw [List.pairwise_flatMap]
    refine ⟨fun x hx => ?_, ?_⟩
    · obtain ⟨j, hj⟩ := List.getElem?_of_mem hx
      rw [List.pairwise_iff_getElem]
      intro a b ha hb hab
      have ga : x.ss[a]? = some x.ss[a] := List.getElem?_eq_getElem ha
      have gb : x.ss[b]? = some x.ss[b] := List.getElem?_eq_getElem hb
      have h := hit j x hj b _ gb
      unfold hitB at h
      rw [Bool.or_eq_false_iff, List.any_eq_false] at h
      have h := h.1 x.ss[a] (List.mem_of_getElem? (by rw [List.getElem?_take_of_lt hab]; exact ga))
      rw [Bool.not_eq_true] at h
      have q1 := (al j x hj).2.2.2.1 _ (List.mem_of_getElem? ga)
      have q2 := (al j x hj).2.2.2.1 _ (List.mem_of_getElem? gb)
      exact (meet_apart h (by omega) (by omega)).symm
    · rw [List.pairwise_iff_getElem]
      intro i j hi hj hij s hs t ht
      have gi : l[i]? = some l[i] := List.getElem?_eq_getElem hi
      have gj : l[j]? = some l[j] := List.getElem?_eq_getElem hj
      obtain ⟨k, hk⟩ := List.getElem?_of_mem ht
      have h := hit j _ gj k t hk
      unfold hitB at h
      rw [Bool.or_eq_false_iff, List.any_eq_false, List.any_eq_false] at h
      have h := h.2 l[i] (List.mem_of_getElem? (by rw [List.getElem?_take_of_lt hij]; exact gi))
      rw [Bool.not_eq_true, List.any_eq_false] at h
      have h := h s hs
      rw [Bool.not_eq_true] at h
      have q1 := (al i _ gi).2.2.2.1 _ hs
      have q2 := (al j _ gj).2.2.2.1 _ ht
      exact (meet_apart h (by omega) (by omega)).symm

/-- keys: cells by space and place, ticks by number -/
theorem laidT : laidOutB Try.prog = true := by kernel_rfl
theorem arrT : WideMaps.ArrKey Try.prog 46 3 2 := ⟨Try.underlying46, by kernel_rfl, by kernel_rfl, by kernel_rfl⟩
theorem keyedC : Maps.Keyed Try.prog 46 := Maps.Keyed.of_law (deep_law_laid laidT (m := 2) (by omega) (of_decide_eq_true (by kernel_rfl)) (by kernel_rfl) (by rw [Try.underlying46]))
theorem wfI {p : Int} (h : 0 ≤ p ∧ p < 1000000) : (Lit.int .i64 p).wf = true := by
  have e1 : IntKind.i64.min = -9223372036854775808 := by decide
  have e2 : IntKind.i64.max = 9223372036854775807 := by decide
  simp only [Lit.wf, Bool.and_eq_true, decide_eq_true_eq, e1, e2]
  omega
def kC (s p : Int) : Lit := .string (keyBytes [.int .i64 s, .int .i64 p])
theorem keyC {s p : Int} (hs : 0 ≤ s ∧ s < 1000000) (hp : 0 ≤ p ∧ p < 1000000) : keyOf Try.prog 46 (.agg #[.int .i64 s, .int .i64 p]) = some (kC s p) :=
  WideMaps.keyOf_pair arrT Try.underlying3 ⟨Try.prog.types.size - 1, by kernel_rfl⟩ (wfI hs) (wfI hp)
theorem kC_ne {s p t q : Int} (hs : 0 ≤ s ∧ s < 1000000) (hp : 0 ≤ p ∧ p < 1000000) (ht : 0 ≤ t ∧ t < 1000000) (hq : 0 ≤ q ∧ q < 1000000) (h : ¬ (s = t ∧ p = q)) : kC s p ≠ kC t q := fun e => by
  have h1 := keyC hs hp
  have h2 := keyC ht hq
  rw [← e] at h2
  have := keyedC.inj h1 h2
  simp only [Value.agg.injEq, Array.mk.injEq, List.cons.injEq, Value.int.injEq, true_and, and_true] at this
  exact h (by simpa using this)
abbrev z0 : DataW Unit := .lit (.int .i64 0)
/-- nothing yet of the cells of these windows -/
def ClW (D : DataW Unit) (r : WL) : Prop := ∀ y ∈ r, ∀ b, y.2.2.1 ≤ b → b < y.2.2.1 + y.2.2.2 → D.atKey (kC y.1 b) z0 = z0
def ClF (D : DataW Unit) (s a b : Int) : Prop := ∀ c, a ≤ c → c < b → D.atKey (kC s c) z0 = z0
def ClS (D : DataW Unit) (r : SL) : Prop := ∀ y ∈ r, ∀ b, y.1 ≤ b → b < y.1 + y.2 → D.atKey (.int .i64 b) z0 = z0
def ClG (D : DataW Unit) (a b : Int) : Prop := ∀ c, a ≤ c → c < b → D.atKey (.int .i64 c) z0 = z0
theorem ClW.nil (r : WL) : ClW (.map []) r := fun _ _ _ _ _ => rfl
theorem ClS.nil (r : SL) : ClS (.map []) r := fun _ _ _ _ _ => rfl
theorem ClW.head {D : DataW Unit} {s v p c : Int} {r : WL} (h : ClW D ((s, v, p, c) :: r)) : ClF D s p (p + c) ∧ ClW D r := ⟨fun b h1 h2 => h (s, v, p, c) List.mem_cons_self b h1 h2, fun y hy b h1 h2 => h y (List.mem_cons_of_mem _ hy) b h1 h2⟩
theorem ClS.head {D : DataW Unit} {a n : Int} {r : SL} (h : ClS D ((a, n) :: r)) : ClG D a (a + n) ∧ ClS D r := ⟨fun b h1 h2 => h (a, n) List.mem_cons_self b h1 h2, fun y hy b h1 h2 => h y (List.mem_cons_of_mem _ hy) b h1 h2⟩
theorem ClF.step {D : DataW Unit} {s a b : Int} {y : WN} {r : WL} (hF : ClF D s a b) (hW : ClW D r) (hy : y.1 = s) (ha : y.2.2.1 ≤ a) (hb : b = y.2.2.1 + y.2.2.2) (hab : a < b) (hwy : wR y = true) (hwr : ∀ z ∈ r, wR z = true) (hd : ∀ z ∈ r, Dw y z) (d : DataW Unit) : ClF (D.put (kC s a) d) s (a + 1) b ∧ ClW (D.put (kC s a) d) r := by
  have q1 := wR_all hwy
  refine ⟨fun c h1 h2 => ?_, fun z hz c h1 h2 => ?_⟩
  · rw [Maps.atKey_put_other (kC_ne (by omega) (by omega) (by omega) (by omega) (by omega))]
    exact hF c (by omega) h2
  · have q2 := wR_all (hwr z hz)
    have := hd z hz
    unfold Dw at this
    rw [Maps.atKey_put_other (kC_ne (by omega) (by omega) (by omega) (by omega) (by omega))]
    exact hW z hz c h1 h2
theorem ClG.step {D : DataW Unit} {a b : Int} {y : Int × Int} {r : SL} (hF : ClG D a b) (hW : ClS D r) (ha : y.1 ≤ a) (hb : b = y.1 + y.2) (hab : a < b) (hd : ∀ z ∈ r, Ds y z) (d : DataW Unit) : ClG (D.put (.int .i64 a) d) (a + 1) b ∧ ClS (D.put (.int .i64 a) d) r := by
  refine ⟨fun c h1 h2 => ?_, fun z hz c h1 h2 => ?_⟩
  · rw [Maps.atKey_put_other (by intro e; simp only [Lit.int.injEq, true_and] at e; omega)]
    exact hF c (by omega) h2
  · have := hd z hz
    unfold Ds at this
    rw [Maps.atKey_put_other (by intro e; simp only [Lit.int.injEq, true_and] at e; omega)]
    exact hW z hz c h1 h2
theorem drop_get {α : Type} {l : List α} {i : Nat} {x : α} (h : l[i]? = some x) : l.drop i = x :: l.drop (i + 1) := by
  have hl := lt_of_get h
  rw [List.drop_eq_getElem_cons hl]
  rw [List.getElem?_eq_getElem hl] at h
  cases h
  rfl
theorem RT.headW {fr : Int} {l : List Tn} (h : RT fr l) {i : Nat} {x : Tn} (hx : l[i]? = some x) {j : Nat} {y : WN} (hy : x.ws[j]? = some y) : ∀ z ∈ x.ws.drop (j + 1) ++ (l.drop (i + 1)).flatMap (·.ws), Dw y z := by
  have a1 : x.ws = x.ws.take j ++ y :: x.ws.drop (j + 1) := by rw [← drop_get hy, List.take_append_drop]
  have a2 : l = l.take i ++ x :: l.drop (i + 1) := by rw [← drop_get hx, List.take_append_drop]
  have p := h.pw
  rw [a2, List.flatMap_append, List.flatMap_cons, List.pairwise_append] at p
  have p := p.2.1
  rw [a1, List.append_assoc, List.pairwise_append, List.cons_append] at p
  exact (List.pairwise_cons.1 p.2.1).1
theorem RT.headS {fr : Int} {l : List Tn} (h : RT fr l) {i : Nat} {x : Tn} (hx : l[i]? = some x) {j : Nat} {y : Int × Int} (hy : x.ss[j]? = some y) : ∀ z ∈ x.ss.drop (j + 1) ++ (l.drop (i + 1)).flatMap (·.ss), Ds y z := by
  have a1 : x.ss = x.ss.take j ++ y :: x.ss.drop (j + 1) := by rw [← drop_get hy, List.take_append_drop]
  have a2 : l = l.take i ++ x :: l.drop (i + 1) := by rw [← drop_get hx, List.take_append_drop]
  have p := h.ps
  rw [a2, List.flatMap_append, List.flatMap_cons, List.pairwise_append] at p
  have p := p.2.1
  rw [a1, List.append_assoc, List.pairwise_append, List.cons_append] at p
  exact (List.pairwise_cons.1 p.2.1).1
theorem RT.restW {fr : Int} {l : List Tn} (h : RT fr l) {i : Nat} {x : Tn} (hx : l[i]? = some x) (j : Nat) : ∀ z ∈ x.ws.drop j ++ (l.drop (i + 1)).flatMap (·.ws), wR z = true := fun z hz => by
  rcases List.mem_append.1 hz with hz | hz
  · exact (h.ten x (List.mem_of_getElem? hx)).2.2.1 z (List.mem_of_mem_drop hz)
  · obtain ⟨y, hy, hz⟩ := List.mem_flatMap.1 hz
    exact (h.ten y (List.mem_of_mem_drop hy)).2.2.1 z hz

end Go.Proofs.Ytffjhimdamdenaa
