/- Lists of rows of bytes; opening arguments of such a kind, and rows of numbers of 64 bits. Over any program. -/
import Derived.Test.YtejcigeccmfeeaaK1
namespace Go.Proofs.Ytejcigeccmfeeaa
open Go.RowKit Go.ChangeShapes Go.WideShapes Go.ChangeAt Go.Deep

/-- a list of rows of bytes -/
def RowsB (w : World) (v : Value) (xss : List (List UInt8)) : Prop :=
  ∃ vs, Row w v vs ∧ vs.length = xss.length ∧ ∀ i, i < xss.length → ∃ u, vs[i]? = some u ∧ Row w u ((xss.getD i []).map bV)
theorem RowsB.ext {w w' : World} {v : Value} {xss : List (List UInt8)} (h : RowsB w v xss) (hb : Below w.heap.size w w') : RowsB w' v xss := by
  obtain ⟨vs, h1, h2, h3⟩ := h
  refine ⟨vs, h1.below hb, h2, fun i hi => ?_⟩
  obtain ⟨u, e, o⟩ := h3 i hi
  exact ⟨u, e, o.below hb⟩
/-- the slice, and what lies at each place -/
theorem RowsB.at {w : World} {v : Value} {xss : List (List UInt8)} (h : RowsB w v xss) : ∃ a cap, v = .slice a xss.length cap ∧ xss.length ≤ cap ∧ cap ≤ maxLen ∧
    ∀ i, i < xss.length → ∃ b off, a = some ⟨b, off, none⟩ ∧ ∀ j, j < xss.length → ∃ u, w.cell? ⟨b, off + j, none⟩ = some u ∧ Row w u ((xss.getD j []).map bV) := by
  obtain ⟨vs, ⟨a, cap, rfl, h1, h2, -, h4⟩, hl, h3⟩ := h
  rw [hl] at h1 h4 ⊢
  refine ⟨a, cap, rfl, h1, h2, fun i hi => ?_⟩
  rcases h4 with rfl | ⟨b, off, rfl, hc⟩
  · simp at hl; omega
  · refine ⟨b, off, rfl, fun j hj => ?_⟩
    obtain ⟨u, e, o⟩ := h3 j hj
    exact ⟨u, by rw [hc j hj, e], o⟩

theorem open_int64s {H : Type} {enc : TypeId × Value → H} {P : Program} {w : World} {base : Nat} {held : Bool} {t e : TypeId} {a : Option Addr} {len cap : Nat} {d : DataW H} {p : List MemPlace} (ht : P.underlying t = some (.slice e)) (he : P.underlying e = some (.int .i64)) (hc : P.cellsOf e = 1)
    (h : DataW.Trod enc P w base (fun _ => true) held t (.slice a len cap) d p) : ∃ xs : List Int, Row w (.slice a len cap) (xs.map (Value.int .i64)) ∧ lenIs d xs.length ∧ ∀ n ∈ xs, -9223372036854775808 ≤ n ∧ n ≤ 9223372036854775807 := by
  obtain ⟨zs, hr, hd, hw⟩ := open_row ht he hc h
  exact ⟨zs, hr, hd, fun n hn => bounds_i64 (hw n hn)⟩
theorem mem_getD {xs : List Int} {lo hi : Int} (h : ∀ n ∈ xs, lo ≤ n ∧ n ≤ hi) : ∀ i, i < xs.length → lo ≤ xs.getD i 0 ∧ xs.getD i 0 ≤ hi := fun i hi => by
  rw [List.getD_eq_getElem?_getD, List.getElem?_eq_getElem hi]; exact h _ (List.getElem_mem hi)

theorem open_rows8 {H : Type} {enc : TypeId × Value → H} {P : Program} {w : World} {base : Nat} {held : Bool} {t e q : TypeId} {a : Option Addr} {len cap : Nat} {d : DataW H} {p : List MemPlace} (ht : P.underlying t = some (.slice e)) (he : P.underlying e = some (.slice q)) (hq : P.underlying q = some (.int .u8)) (ce : P.cellsOf e = 1) (cq : P.cellsOf q = 1)
    (h : DataW.Trod enc P w base (fun _ => true) held t (.slice a len cap) d p) : ∃ xss : List (List UInt8), RowsB w (.slice a len cap) xss ∧ lenIs d xss.length := by
  obtain ⟨fuel, hf⟩ := h
  rcases open_slice1 ht ce hf with ⟨hcs, hx⟩ | ⟨a', len', cap', m, n, V, D, Pl, hcs, hb, hl, hm, hmm, hx0, hx⟩
  · simp [Value.cells] at hcs
    obtain ⟨rfl, rfl, rfl⟩ := hcs
    simp only [Prod.mk.injEq] at hx
    exact ⟨[], ⟨[], Row.nil w, rfl, fun i hi => by simp at hi⟩, .inl ⟨hx.1, rfl⟩⟩
  · simp [Value.cells] at hcs
    obtain ⟨rfl, rfl, rfl⟩ := hcs
    simp only [if_true] at hmm
    subst hmm
    have each : ∀ r, r < m → ∃ xs : List UInt8, Row w (V r) (xs.map bV) := by
      intro r hr
      have h2 := (hx r hr).2
      have hV : ∃ a l c, V r = .slice a l c := by
        rcases open_ints he hq cq h2 with ⟨hcs, -⟩ | ⟨x, l, c, zs, hcs, -⟩
        · exact ⟨none, 0, 0, by simpa using hcs⟩
        · exact ⟨some x, l, c, by simpa using hcs⟩
      obtain ⟨a2, l2, c2, e2⟩ := hV
      rw [e2] at h2 ⊢
      obtain ⟨xs, h3, -⟩ := open_u8s he hq cq ⟨n, h2⟩
      exact ⟨xs, h3⟩
    obtain ⟨y, hy⟩ := choose_lt each
    simp only [Prod.mk.injEq] at hx0
    have hV : Row w (.slice (some a') len m) ((List.range len).map V) := Row.of_cells hl hm (by simp) (fun i hi => by
      rw [(hx i (by omega)).1]; simp [hi])
    refine ⟨(List.range len).map y, ⟨(List.range len).map V, hV, by simp, fun i hi => ?_⟩, .inr ⟨_, _, hx0.1, by simp⟩⟩
    have hi' : i < len := by simpa using hi
    refine ⟨V i, by simp [hi'], ?_⟩
    have e : ((List.range len).map y).getD i [] = y i := by simp [List.getD_eq_getElem?_getD, hi']
    rw [e]
    exact hy i (by omega)

end Go.Proofs.Ytejcigeccmfeeaa
