/- Windows: mathematics; lists of records in memory: windows, pieces. -/
import Derived.Test.YtffjhimdamdenaaZ7
import Derived.Test.YtffjhimdamdenaaZ8
namespace Go.Proofs.Ytffjhimdamdenaa
open Go.RowKit

/-- v is a list of records of k cells each -/
def Lsf {α : Type} (k : Nat) (f : α → List Value) (w : World) (v : Value) (l : List α) : Prop :=
  ∃ a cap, v = .slice a l.length cap ∧ l.length ≤ cap ∧ cap ≤ maxLen ∧ (a = none → cap = 0) ∧
    (l = [] ∨ ∃ b off, a = some ⟨b, off, none⟩ ∧ ∀ i x, l[i]? = some x → ∀ j u, (f x)[j]? = some u → w.cell? ⟨b, off + i * k + j, none⟩ = some u)
section
variable {α : Type} {k : Nat} {f : α → List Value}
theorem Lsf.ext {w w' : World} {v : Value} {l : List α} (h : Lsf k f w v l) (hb : Below w.heap.size w w') : Lsf k f w' v l := by
  obtain ⟨a, cap, rfl, h1, h2, h5, h3⟩ := h
  refine ⟨a, cap, rfl, h1, h2, h5, ?_⟩
  rcases h3 with h3 | ⟨b, off, rfl, hc⟩
  · exact .inl h3
  · refine .inr ⟨b, off, rfl, fun i x hx j u hu => ?_⟩
    have q := hc i x hx j u hu
    rw [hb.cell (p := ⟨b, off + i * k + j, none⟩) (lt_of_cell q)]
    exact q
theorem Lsf.nil (w : World) : Lsf k f w (.slice none 0 0) [] := ⟨none, 0, rfl, Nat.le_refl _, Nat.zero_le _, fun _ => rfl, .inl rfl⟩
theorem Lsf.drewN {w : World} {v : Value} {l : List α} (h : Lsf k f w v l) (n : Nat) : Lsf k f (w.drewN n) v l := h.ext (below_drewn0 _ _ _)
theorem Lsf.take {w : World} {a : Option Addr} {n cap : Nat} {l : List α} (h : Lsf k f w (.slice a n cap) l) (m : Nat) (hm : m ≤ n) : Lsf k f w (.slice a m cap) (l.take m) := by
  obtain ⟨a', cap', e, h1, h2, h5, h3⟩ := h
  simp only [Value.slice.injEq] at e
  obtain ⟨rfl, rfl, rfl⟩ := e
  have hl : (l.take m).length = m := by simp; omega
  refine ⟨a, cap, by rw [hl], by omega, h2, h5, ?_⟩
  rcases h3 with rfl | ⟨b, off, rfl, hc⟩
  · exact .inl (by simp)
  · refine .inr ⟨b, off, rfl, fun i x hx => hc i x ?_⟩
    rw [List.getElem?_take] at hx
    split at hx <;> simp_all
theorem flatMap_get (hk : ∀ x, (f x).length = k) : ∀ (l : List α) (i : Nat) (x : α), l[i]? = some x → ∀ j u, (f x)[j]? = some u → (l.flatMap f)[i * k + j]? = some u
  | [], i, x, h => by simp at h
  | y :: r, 0, x, h => by
    intro j u hu
    simp at h
    subst h
    have hj : j < (f y).length := (List.getElem?_eq_some_iff.1 hu).1
    rw [List.flatMap_cons, Nat.zero_mul, Nat.zero_add, List.getElem?_append_left hj]
    exact hu
  | y :: r, i + 1, x, h => by
    intro j u hu
    have := flatMap_get hk r i x (by simpa using h) j u hu
    rw [List.flatMap_cons, List.getElem?_append_right (by rw [hk, Nat.succ_mul]; omega), hk]
    rw [← this]
    congr 1
    rw [Nat.succ_mul]; omega
theorem flatMap_len (hk : ∀ x, (f x).length = k) (l : List α) : (l.flatMap f).length = l.length * k := by
  induction l with
  | nil => simp
  | cons x r ih => simp [ih, hk, Nat.succ_mul]; omega
theorem Lsf.of_owns (hk : ∀ x, (f x).length = k) (h0 : 0 < k) {w : World} {base : Nat} {t : TypeId} {v : Value} {n : Nat} {l : List α} (h : w.ownsRow base t k v n (l.flatMap f)) : Lsf k f w v l := by
  have hn : l.length = n := by
    have := h.1; rw [flatMap_len hk] at this
    exact Nat.eq_of_mul_eq_mul_right h0 this
  rcases id h.2 with ⟨rfl, rfl⟩ | ⟨g, cap, cur, rfl, hb, hg, hle, hm, hs, ht⟩
  · have : l = [] := List.eq_nil_of_length_eq_zero hn
    subst this
    exact Lsf.nil w
  · refine ⟨some ⟨g, 0, none⟩, cap, by rw [hn], by omega, hm, (fun h => by cases h), .inr ⟨g, 0, rfl, fun i x hx j u hu => ?_⟩⟩
    have hi : i < l.length := (List.getElem?_eq_some_iff.1 hx).1
    have hj : j < k := by rw [← hk x]; exact (List.getElem?_eq_some_iff.1 hu).1
    have r := h.cellAt (i * k + j) (by
      rw [← hn]
      have : (i + 1) * k ≤ l.length * k := Nat.mul_le_mul_right k hi
      rw [Nat.succ_mul] at this
      omega)
    rw [flatMap_get hk l i x hx j u hu] at r
    rw [Nat.zero_add]
    exact r
theorem Lsf.at {w : World} {a : Option Addr} {n cap : Nat} {l : List α} (h : Lsf k f w (.slice a n cap) l) : n = l.length ∧ n ≤ cap ∧ cap ≤ maxLen ∧
    ∀ i x, l[i]? = some x → ∃ b off, a = some ⟨b, off, none⟩ ∧ ∀ j u, (f x)[j]? = some u → w.cell? ⟨b, off + i * k + j, none⟩ = some u := by
  obtain ⟨a', cap', e, h1, h2, -, h3⟩ := h
  simp only [Value.slice.injEq] at e
  obtain ⟨rfl, rfl, rfl⟩ := e
  refine ⟨rfl, h1, h2, fun i x hx => ?_⟩
  rcases h3 with rfl | ⟨b, off, rfl, hc⟩
  · simp at hx
  · exact ⟨b, off, rfl, hc i x hx⟩
theorem Lsf.of_blk (_hk : ∀ x, (f x).length = k) {w : World} {g : Nat} {e : TypeId} {l : List α} (n : Nat) (hn : n = l.length) (hm : n ≤ maxLen) (xs : List Value) (hb : Blk w g e xs) (hx : ∀ i x, l[i]? = some x → ∀ j u, (f x)[j]? = some u → xs[i * k + j]? = some u) : Lsf k f w (.slice (some ⟨g, 0, none⟩) n n) l := by
  subst hn
  refine ⟨_, _, rfl, Nat.le_refl _, hm, (fun h => by cases h), .inr ⟨g, 0, rfl, fun i x h j u hu => ?_⟩⟩
  rw [Nat.zero_add, hb.cell]
  exact hx i x h j u hu
end
theorem getx {α : Type} {l : List α} {i : Nat} (h : i < l.length) : ∃ x, l[i]? = some x := ⟨l[i], List.getElem?_eq_getElem h⟩
theorem take_snoc {α : Type} {l : List α} {i : Nat} {x : α} (h : l[i]? = some x) : l.take (i + 1) = l.take i ++ [x] := by
  rw [List.take_add_one, h]; rfl
theorem lt_of_get {α : Type} {l : List α} {i : Nat} {x : α} (h : l[i]? = some x) : i < l.length := (List.getElem?_eq_some_iff.1 h).1

/-- a window: space, virtual, physical, count -/
abbrev WN := Int × Int × Int × Int
abbrev WL := List WN
def wf (x : WN) : List Value := [.int .i64 x.1, .int .i64 x.2.1, .int .i64 x.2.2.1, .int .i64 x.2.2.2]
abbrev wnV (s v p n : Int) : Value := .agg #[.int .i64 s, .int .i64 v, .int .i64 p, .int .i64 n]
theorem wf_len (x : WN) : (wf x).length = 4 := rfl
abbrev Wns (w : World) (v : Value) (l : WL) : Prop := Lsf 4 wf w v l
def wcs (l : WL) : List Value := l.flatMap wf
theorem wcs_len (l : WL) : (wcs l).length = l.length * 4 := flatMap_len wf_len l
theorem wcs_app (l m : WL) : wcs (l ++ m) = wcs l ++ wcs m := by simp [wcs]
theorem Lsf.wn {w : World} {a : Option Addr} {n cap : Nat} {l : WL} (h : Wns w (.slice a n cap) l) {i : Nat} {s v p c : Int} (hx : l[i]? = some (s, v, p, c)) : ∃ b off, a = some ⟨b, off, none⟩ ∧
    w.cell? ⟨b, off + i * 4, none⟩ = some (.int .i64 s) ∧ w.cell? ⟨b, off + i * 4 + 1, none⟩ = some (.int .i64 v) ∧ w.cell? ⟨b, off + i * 4 + 2, none⟩ = some (.int .i64 p) ∧ w.cell? ⟨b, off + i * 4 + 3, none⟩ = some (.int .i64 c) := by
  obtain ⟨-, -, -, h4⟩ := h.at
  obtain ⟨b, off, e, hc⟩ := h4 i _ hx
  exact ⟨b, off, e, hc 0 _ rfl, hc 1 _ rfl, hc 2 _ rfl, hc 3 _ rfl⟩
/-- a piece: at, physical, count -/
abbrev PN := Int × Int × Int
abbrev PL := List PN
def pf (x : PN) : List Value := [.int .i64 x.1, .int .i64 x.2.1, .int .i64 x.2.2]
theorem pf_len (x : PN) : (pf x).length = 3 := rfl
abbrev Pcs (w : World) (v : Value) (l : PL) : Prop := Lsf 3 pf w v l
def pcs (l : PL) : List Value := l.flatMap pf
theorem pcs_len (l : PL) : (pcs l).length = l.length * 3 := flatMap_len pf_len l
theorem pcs_app (l m : PL) : pcs (l ++ m) = pcs l ++ pcs m := by simp [pcs]
theorem Lsf.pn {w : World} {a : Option Addr} {n cap : Nat} {l : PL} (h : Pcs w (.slice a n cap) l) {i : Nat} {s p c : Int} (hx : l[i]? = some (s, p, c)) : ∃ b off, a = some ⟨b, off, none⟩ ∧
    w.cell? ⟨b, off + i * 3, none⟩ = some (.int .i64 s) ∧ w.cell? ⟨b, off + i * 3 + 1, none⟩ = some (.int .i64 p) ∧ w.cell? ⟨b, off + i * 3 + 2, none⟩ = some (.int .i64 c) := by
  obtain ⟨-, -, -, h4⟩ := h.at
  obtain ⟨b, off, e, hc⟩ := h4 i _ hx
  exact ⟨b, off, e, hc 0 _ rfl, hc 1 _ rfl, hc 2 _ rfl⟩

def OkW (l : WL) : Prop := ∀ x ∈ l, i64 x.1 ∧ i64 x.2.1 ∧ i64 x.2.2.1 ∧ i64 x.2.2.2
theorem OkW.at {l : WL} (h : OkW l) {i : Nat} {s v p c : Int} (hx : l[i]? = some (s, v, p, c)) : i64 s ∧ i64 v ∧ i64 p ∧ i64 c := h _ (List.mem_of_getElem? hx)
theorem OkW.filter {l : WL} (h : OkW l) (q : WN → Bool) : OkW (l.filter q) := fun x hx => h x (List.mem_filter.1 hx).1
theorem OkW.take {l : WL} (h : OkW l) (k : Nat) : OkW (l.take k) := fun x hx => h x (List.mem_of_mem_take hx)
theorem OkW.app {l m : WL} (h : OkW l) (k : OkW m) : OkW (l ++ m) := fun x hx => (List.mem_append.1 hx).elim (h x) (k x)
theorem OkW.nil : OkW [] := fun x hx => by cases hx

/-- Right of a window -/
def wR (x : WN) : Bool := decide (0 ≤ x.1) && decide (x.1 ≤ 3) && okR x.2.1 x.2.2.2 65536 && okR x.2.2.1 x.2.2.2 512
theorem wR_iff {s v p n : Int} : wR (s, v, p, n) = true ↔ 0 ≤ s ∧ s ≤ 3 ∧ 0 ≤ v ∧ 1 ≤ n ∧ v + n ≤ 65536 ∧ 0 ≤ p ∧ p + n ≤ 512 := by
  simp [wR, okR]; omega
theorem wR_all {x : WN} (h : wR x = true) : 0 ≤ x.1 ∧ x.1 ≤ 3 ∧ 0 ≤ x.2.1 ∧ 1 ≤ x.2.2.2 ∧ x.2.1 + x.2.2.2 ≤ 65536 ∧ 0 ≤ x.2.2.1 ∧ x.2.2.1 + x.2.2.2 ≤ 512 := wR_iff.1 h
abbrev vS (x : WN) : Int × Int := (x.2.1, x.2.2.2)
abbrev pS (x : WN) : Int × Int := (x.2.2.1, x.2.2.2)
def virt (l : WL) : SL := l.map vS
def sel (s : Int) (l : WL) : WL := (l.filter wR).filter fun x => decide (x.1 = s)
theorem sel_mem {s : Int} {l : WL} {x : WN} (h : x ∈ sel s l) : x ∈ l ∧ wR x = true ∧ x.1 = s := by
  obtain ⟨h1, h2⟩ := List.mem_filter.1 h
  obtain ⟨h3, h4⟩ := List.mem_filter.1 h1
  exact ⟨h3, h4, of_decide_eq_true h2⟩
theorem vS_tk {x : WN} (h : wR x = true) : tk x.2.1 x.2.2.2 = true := by
  have := wR_all h
  rw [tk_iff]; omega
theorem pS_tk {x : WN} (h : wR x = true) : tk x.2.2.1 x.2.2.2 = true := by
  have := wR_all h
  rw [tk_iff]; omega
theorem virt_ok {l : WL} (h : ∀ x ∈ l, wR x = true) : OkL (virt l) ∧ allB (virt l) = true := by
  refine ⟨fun y hy => ?_, ?_⟩
  · obtain ⟨x, hx, rfl⟩ := List.mem_map.1 hy
    exact tk_i64 (vS_tk (h x hx))
  · unfold allB
    rw [List.all_eq_true]
    intro y hy
    obtain ⟨x, hx, rfl⟩ := List.mem_map.1 hy
    exact vS_tk (h x hx)
/-- In of one cell -/
theorem in_has {a v n : Int} (h : tk v n = true) : inB a 1 v n = hasB (v, n) a := by
  obtain ⟨h1, h2, h3⟩ := tk_iff.1 h
  cases t : hasB (v, n) a
  · have h0 := hasB_f.1 t
    simp only at h0
    unfold inB
    cases e : meetE a 1 v n
    · rfl
    · simp only [Bool.true_and]
      have e' := e
      simp only [meetE, Bool.and_eq_true, decide_eq_true_eq] at e'
      exfalso; apply h0; omega
  · have h0 := hasB_iff.1 t
    simp only at h0
    have e : meetE a 1 v n = true := by
      simp only [meetE, h, Bool.and_true, Bool.and_eq_true, decide_eq_true_eq]
      exact ⟨tk_iff.2 (by omega), by omega⟩
    unfold inB
    rw [e]
    simp only [Bool.true_and, Bool.and_eq_true, beq_iff_eq]
    unfold meetA meetN
    rw [if_pos e, if_pos e]
    constructor <;> omega
def liesI (l : WL) (a : Int) : Int := match l.find? (fun x => hasB (vS x) a) with | some x => x.2.2.1 + (a - x.2.1) | none => 0
def lay (l : WL) (c : SL) : PL := c.map fun q => (q.1, liesI l q.1, q.2)
def mapE (l : WL) (s a n : Int) : Option PL := (covR (virt (sel s l)) a n).map (lay (sel s l))
def backO (l : WL) (s p : Int) : Option Int := ((sel s l).find? fun x => hasB (pS x) p).map fun x => x.2.1 + (p - x.2.2.1)
def touchB (x y : WN) : Bool := decide (x.1 = y.1) && meetE x.2.2.1 x.2.2.2 y.2.2.1 y.2.2.2
def clashB (x y : WN) : Bool := decide (x.1 = y.1) && (meetE x.2.2.1 x.2.2.2 y.2.2.1 y.2.2.2 || meetE x.2.1 x.2.2.2 y.2.1 y.2.2.2)
def meetsB (a b : WL) : Bool := (a.filter wR).any fun x => (b.filter wR).any (touchB x)
def ownB (l : WL) : Bool := decide ((l.filter wR).Pairwise fun y x => clashB x y = false)
theorem filter_snoc {α : Type} {l : List α} {i : Nat} {x : α} (h : l[i]? = some x) (q : α → Bool) : (l.take (i + 1)).filter q = (l.take i).filter q ++ (if q x then [x] else []) := by
  rw [take_snoc h, List.filter_append]
  congr 1
  cases e : q x <;> simp [e]
theorem filter_len {α : Type} (l : List α) (q : α → Bool) (k : Nat) : ((l.take k).filter q).length ≤ k := Nat.le_trans (List.length_filter_le _ _) (by simp; omega)

end Go.Proofs.Ytffjhimdamdenaa
