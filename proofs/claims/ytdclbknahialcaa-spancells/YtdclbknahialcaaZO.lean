/- Opening a span, and a list of spans, that are arguments. -/
import Derived.Test.YtdclbknahialcaaZ4
import Derived.Lib.SmallJoins
import Derived.Deep.SlicePairs
namespace Go.Proofs.Ytdclbknahialcaa
open Go.RowKit Go.ChangeShapes Go.WideShapes Go.ChangeAt Go.Deep
open Go.Joins (open_agg2)

theorem open_span {H : Type} {enc : TypeId × Value → H} {w : World} {base b0 : Nat} {held : Bool} {v : Value} {d : DataW H} {p : List MemPlace} (hv : Value.okWide Try.prog w .any b0 24 v)
    (h : DataW.Trod enc Try.prog w base (fun _ => true) held 24 v d p) : ∃ a n : Int, v = spV a n ∧ i64 a ∧ i64 n := by
  obtain ⟨v0, v1, y0, y1, n, rfl, -, -, h0, h1⟩ := open_agg2 Try.underlying24 (by kernel_rfl) (by kernel_rfl) hv h
  obtain ⟨n0, e0, -, w0⟩ := DataW.trod_int Try.underlying3 h0
  obtain ⟨n1, e1, -, w1⟩ := DataW.trod_int Try.underlying3 h1
  simp only [List.cons.injEq, and_true] at e0 e1
  subst e0 e1
  exact ⟨n0, n1, rfl, bounds_i64 w0, bounds_i64 w1⟩

theorem open_spans {H : Type} {enc : TypeId × Value → H} {w : World} {base : Nat} {held : Bool} {d : DataW H} {p : List MemPlace}
    {a0 : Option Addr} {len0 cap0 : Nat} (h : DataW.Trod enc Try.prog w base (fun _ => true) held 27 (.slice a0 len0 cap0) d p) : ∃ l : SL, Sps w (.slice a0 len0 cap0) l ∧ OkL l := by
  obtain ⟨fuel, hf⟩ := h
  rcases open_slice_pairs Try.underlying27 Try.underlying24 (by kernel_rfl) rfl rfl (by kernel_rfl) (by kernel_rfl) hf with ⟨e, -⟩ | ⟨a, len, cap, m, n, V0, V1, D0, D1, P0, P1, e, hb, hl, hm, hmm, -, hx⟩
  · simp [Value.cells] at e
    obtain ⟨rfl, rfl, rfl⟩ := e
    exact ⟨[], Sps.nil w, fun x hx => by cases hx⟩
  · simp [Value.cells] at e
    obtain ⟨e1, e2, e3⟩ := e
    subst e1 e2 e3
    have hlm : len0 ≤ m := by rw [hmm]; split <;> omega
    have key : ∀ i, i < len0 → ∃ x : Int × Int, V0 i = .int .i64 x.1 ∧ V1 i = .int .i64 x.2 ∧ i64 x.1 ∧ i64 x.2 := by
      intro i hi
      obtain ⟨-, -, h0, h1⟩ := hx i (by omega)
      obtain ⟨n0, e0, -, w0⟩ := DataW.trod_int Try.underlying3 h0
      obtain ⟨n1, e1, -, w1⟩ := DataW.trod_int Try.underlying3 h1
      simp only [List.cons.injEq, and_true] at e0 e1
      exact ⟨(n0, n1), e0, e1, bounds_i64 w0, bounds_i64 w1⟩
    let f : Nat → Int × Int := fun i => if hi : i < len0 then (key i hi).choose else (0, 0)
    have hg : ∀ i, i < len0 → V0 i = .int .i64 (f i).1 ∧ V1 i = .int .i64 (f i).2 ∧ i64 (f i).1 ∧ i64 (f i).2 := by
      intro i hi
      have := (key i hi).choose_spec
      simp only [f, dif_pos hi]
      exact this
    have hlen : ((List.range len0).map f).length = len0 := by simp
    refine ⟨(List.range len0).map f, ⟨some a, cap0, by rw [hlen], by omega, hm, ?_⟩, ?_⟩
    · by_cases h0 : len0 = 0
      · subst h0; exact .inl rfl
      · right
        obtain ⟨b, off, nd⟩ := a
        have hn : nd = none := by
          obtain ⟨c0, -⟩ := hx 0 (by omega)
          simpa [Addr.add] using World.cell?_spot c0
        subst hn
        refine ⟨b, off, rfl, fun i hi => ?_⟩
        have hi' : i < len0 := by simpa using hi
        obtain ⟨c0, c1, -, -⟩ := hx i (by omega)
        obtain ⟨f0, f1, -, -⟩ := hg i hi'
        have ad : ∀ j, (⟨b, off, none⟩ : Addr).add j = ⟨b, off + j, none⟩ := fun j => by unfold Addr.add; split <;> simp_all
        rw [ad, f0] at c0
        rw [ad, f1] at c1
        have e : ((List.range len0).map f).getD i (0, 0) = f i := by simp [List.getD_eq_getElem?_getD, hi']
        rw [e]
        exact ⟨c0, by rw [Nat.add_assoc]; exact c1⟩
    · intro x hx'
      obtain ⟨i, hi, rfl⟩ := List.mem_map.1 hx'
      exact (hg i (by simpa using hi)).2.2

end Go.Proofs.Ytdclbknahialcaa
