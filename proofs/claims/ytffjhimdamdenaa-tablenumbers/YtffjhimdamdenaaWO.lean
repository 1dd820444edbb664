/- Opening an argument that is a list of windows. -/
import Derived.Test.YtffjhimdamdenaaWT
namespace Go.Proofs.Ytffjhimdamdenaa
open Go.RowKit Go.ChangeShapes Go.WideShapes Go.ChangeAt Go.Deep

theorem open_i64s {H : Type} {enc : TypeId × Value → H} {P : Program} {w : World} {base : Nat} {held : Bool} {t e : TypeId} {a : Option Addr} {len cap : Nat} {d : DataW H} {p : List MemPlace} (ht : P.underlying t = some (.slice e)) (he : P.underlying e = some (.int .i64)) (hc : P.cellsOf e = 1)
    (h : DataW.Trod enc P w base (fun _ => true) held t (.slice a len cap) d p) : ∃ xs : List Int, Row w (.slice a len cap) (xs.map iV) ∧ lenIs d xs.length ∧ ∀ n ∈ xs, -9223372036854775808 ≤ n ∧ n ≤ 9223372036854775807 := by
  obtain ⟨zs, hr, hd, hw⟩ := open_row ht he hc h
  exact ⟨zs, hr, hd, fun n hn => bounds_i64 (hw n hn)⟩
theorem array4 {α : Type} {cs : List α} (h : cs.length = 4) : ∃ c0 c1 c2 c3, cs = [c0, c1, c2, c3] := by
  match cs, h with
  | [c0, c1, c2, c3], _ => exact ⟨c0, c1, c2, c3, rfl⟩
theorem open_wns {H : Type} {enc : TypeId × Value → H} {w : World} {base : Nat} {held : Bool} {a : Option Addr} {len cap : Nat} {d : DataW H} {p : List MemPlace}
    (h : DataW.Trod enc Try.prog w base (fun _ => true) held 40 (.slice a len cap) d p) : ∃ l : WL, Wns w (.slice a len cap) l ∧ OkW l := by
  obtain ⟨fuel, hf⟩ := h
  have hC : Try.prog.cellsOf 45 = 4 := by kernel_rfl
  have k3 : Try.prog.cellsOf 3 = 1 := by kernel_rfl
  rcases open_slice Try.underlying40 hf with ⟨hcs, hx⟩ | ⟨a', len', cap', m, n, D, Pl, hcs, hb, hl, hm, hmm, hx0, hx⟩
  · simp [Value.cells] at hcs
    obtain ⟨rfl, rfl, rfl⟩ := hcs
    exact ⟨[], Lsf.nil w, OkW.nil⟩
  · simp [Value.cells] at hcs
    obtain ⟨rfl, rfl, rfl⟩ := hcs
    simp only [if_true] at hmm
    subst hmm
    obtain ⟨b, off, spot⟩ := a'
    have each : ∀ j, j < len → ∃ x : WN, (∀ i u, (wf x)[i]? = some u → w.cell? (((⟨b, off, spot⟩ : Addr).add (j * 4)).add i) = some u) ∧ i64 x.1 ∧ i64 x.2.1 ∧ i64 x.2.2.1 ∧ i64 x.2.2.2 := by
      intro j hj
      obtain ⟨cs, h1, h2⟩ := hx j (by omega)
      rw [hC] at h1
      obtain ⟨_, hlen, hcell⟩ := World.cells?_some h1
      obtain ⟨c0, c1, c2, c3, rfl⟩ := array4 hlen
      have q0 := hcell 0 (by omega)
      have q1 := hcell 1 (by omega)
      have q2 := hcell 2 (by omega)
      have q3 := hcell 3 (by omega)
      obtain ⟨xs, k, -, -, -, hl2, hy⟩ := DataW.trod_struct Try.underlying45 h2
      match xs, hl2 with
      | [y0, y1, y2, y3], _ =>
        have h0 := hy 0 _ rfl
        have h1 := hy 1 _ rfl
        have h2 := hy 2 _ rfl
        have h3 := hy 3 _ rfl
        simp [k3] at h0 h1 h2 h3
        obtain ⟨n0, e0, -, w0⟩ := DataW.trod_int Try.underlying3 h0
        obtain ⟨n1, e1, -, w1⟩ := DataW.trod_int Try.underlying3 h1
        obtain ⟨n2, e2, -, w2⟩ := DataW.trod_int Try.underlying3 h2
        obtain ⟨n3, e3, -, w3⟩ := DataW.trod_int Try.underlying3 h3
        simp only [List.cons.injEq, and_true] at e0 e1 e2 e3
        subst e0 e1 e2 e3
        refine ⟨(n0, n1, n2, n3), fun i u hu => ?_, bounds_i64 w0, bounds_i64 w1, bounds_i64 w2, bounds_i64 w3⟩
        match i, hu with
        | 0, hu => cases hu; simpa using q0
        | 1, hu => cases hu; simpa using q1
        | 2, hu => cases hu; simpa using q2
        | 3, hu => cases hu; simpa using q3
        | i + 4, hu => exact absurd hu (by simp [wf])
    let f : Nat → WN := fun i => if hi : i < len then (each i hi).choose else (0, 0, 0, 0)
    have hg : ∀ i, i < len → (∀ k u, (wf (f i))[k]? = some u → w.cell? (((⟨b, off, spot⟩ : Addr).add (i * 4)).add k) = some u) ∧ i64 (f i).1 ∧ i64 (f i).2.1 ∧ i64 (f i).2.2.1 ∧ i64 (f i).2.2.2 := by
      intro i hi
      have := (each i hi).choose_spec
      simp only [f, dif_pos hi]
      exact this
    have hlen : ((List.range len).map f).length = len := by simp
    refine ⟨(List.range len).map f, ⟨some ⟨b, off, spot⟩, m, by rw [hlen], by omega, hm, (fun h => by cases h), ?_⟩, ?_⟩
    · by_cases h0 : len = 0
      · subst h0; exact .inl rfl
      · right
        have hs : spot = none := by
          have := (hg 0 (by omega)).1 0 _ rfl
          have e := World.cell?_spot this
          simpa [Addr.add] using e
        subst hs
        refine ⟨b, off, rfl, fun i x hx j u hu => ?_⟩
        have hi : i < len := by have := (List.getElem?_eq_some_iff.1 hx).1; simpa using this
        have ex : f i = x := by simpa [hi] using hx
        subst ex
        have := (hg i hi).1 j u hu
        have ad : ∀ j k, ((⟨b, off, none⟩ : Addr).add j).add k = ⟨b, off + j + k, none⟩ := fun j k => by unfold Addr.add; split <;> split <;> simp_all
        rw [ad] at this
        exact this
    · intro x hx'
      obtain ⟨i, hi, rfl⟩ := List.mem_map.1 hx'
      exact (hg i (by simpa using hi)).2

end Go.Proofs.Ytffjhimdamdenaa
