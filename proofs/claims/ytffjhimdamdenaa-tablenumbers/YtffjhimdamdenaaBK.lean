/- Opening an argument that is a table. -/
import Derived.Test.YtffjhimdamdenaaBA
import Derived.Test.YtffjhimdamdenaaWO
namespace Go.Proofs.Ytffjhimdamdenaa
open Go.RowKit Go.ChangeShapes Go.WideShapes Go.ChangeAt Go.Deep

/-- a tenant whose numbers are numbers of Go -/
structure OkN (x : Tn) : Prop where
  u : i64 x.u
  f : 0 ≤ x.f ∧ x.f < 4294967296
  q : i64 x.q
  ws : OkW x.ws
  ss : OkL x.ss
def OkNs (l : List Tn) : Prop := ∀ x ∈ l, OkN x

theorem list2 {α : Type} {cs : List α} (h : cs.length = 2) : ∃ c0 c1, cs = [c0, c1] := by
  match cs, h with
  | [c0, c1], _ => exact ⟨c0, c1, rfl⟩
theorem list5 {α : Type} {cs : List α} (h : cs.length = 5) : ∃ c0 c1 c2 c3 c4, cs = [c0, c1, c2, c3, c4] := by
  match cs, h with
  | [c0, c1, c2, c3, c4], _ => exact ⟨c0, c1, c2, c3, c4, rfl⟩
theorem arr2 {α : Type} {cs : Array α} (h : cs.size = 2) : ∃ c0 c1, cs = #[c0, c1] := by
  obtain ⟨l⟩ := cs
  obtain ⟨c0, c1, rfl⟩ := list2 (cs := l) h
  exact ⟨c0, c1, rfl⟩
theorem bounds_u32n {n : Int} (h : (Lit.int .u32 n).wf = true) : 0 ≤ n ∧ n < 4294967296 := by
  simp [Lit.wf, IntKind.min, IntKind.max, IntKind.signed, IntKind.bits] at h
  omega

/-- lists of records: from each to all -/
theorem lsf_each {α : Type} {k : Nat} {f : α → List Value} (x0 : α) (hf : ∀ x, ∃ u, (f x)[0]? = some u) (R : α → Prop) {w : World} {b off : Nat} {spot : Option Nat} {len m : Nat} (hl : len ≤ m) (hm : m ≤ maxLen)
    (each : ∀ j, j < len → ∃ x : α, (∀ i u, (f x)[i]? = some u → w.cell? (((⟨b, off, spot⟩ : Addr).add (j * k)).add i) = some u) ∧ R x) : ∃ l : List α, Lsf k f w (.slice (some ⟨b, off, spot⟩) len m) l ∧ ∀ x ∈ l, R x := by
  let g : Nat → α := fun i => if hi : i < len then (each i hi).choose else x0
  have hg : ∀ i, i < len → (∀ j u, (f (g i))[j]? = some u → w.cell? (((⟨b, off, spot⟩ : Addr).add (i * k)).add j) = some u) ∧ R (g i) := by
    intro i hi
    have := (each i hi).choose_spec
    simp only [g, dif_pos hi]
    exact this
  have hlen : ((List.range len).map g).length = len := by simp
  refine ⟨(List.range len).map g, ⟨some ⟨b, off, spot⟩, m, by rw [hlen], by omega, hm, (fun h => by cases h), ?_⟩, ?_⟩
  · by_cases h0 : len = 0
    · subst h0; exact .inl rfl
    · right
      have hs : spot = none := by
        obtain ⟨u, hu⟩ := hf (g 0)
        have := (hg 0 (by omega)).1 0 u hu
        have e := World.cell?_spot this
        simpa [Addr.add] using e
      subst hs
      refine ⟨b, off, rfl, fun i x hx j u hu => ?_⟩
      have hi : i < len := by have := (List.getElem?_eq_some_iff.1 hx).1; simpa using this
      have ex : g i = x := by simpa [hi] using hx
      subst ex
      have := (hg i hi).1 j u hu
      have ad : ∀ j k, ((⟨b, off, none⟩ : Addr).add j).add k = ⟨b, off + j + k, none⟩ := fun j k => by unfold Addr.add; split <;> split <;> simp_all
      rw [ad] at this
      exact this
  · intro x hx'
    obtain ⟨i, hi, rfl⟩ := List.mem_map.1 hx'
    exact (hg i (by simpa using hi)).2

theorem open_sts {H : Type} {enc : TypeId × Value → H} {w : World} {base : Nat} {held : Bool} {a : Option Addr} {len cap : Nat} {d : DataW H} {p : List MemPlace}
    (h : DataW.Trod enc Try.prog w base (fun _ => true) held 41 (.slice a len cap) d p) : ∃ l : SL, Sts w (.slice a len cap) l ∧ OkL l := by
  obtain ⟨fuel, hf⟩ := h
  have hC : Try.prog.cellsOf 48 = 2 := by kernel_rfl
  have k3 : Try.prog.cellsOf 3 = 1 := by kernel_rfl
  rcases open_slice Try.underlying41 hf with ⟨hcs, hx⟩ | ⟨a', len', cap', m, n, D, Pl, hcs, hb, hl, hm, hmm, hx0, hx⟩
  · simp [Value.cells] at hcs
    obtain ⟨rfl, rfl, rfl⟩ := hcs
    exact ⟨[], Lsf.nil w, fun x hx => by cases hx⟩
  · simp [Value.cells] at hcs
    obtain ⟨rfl, rfl, rfl⟩ := hcs
    simp only [if_true] at hmm
    subst hmm
    obtain ⟨b, off, spot⟩ := a'
    refine lsf_each (k := 2) (f := sf) (0, 0) (fun x => ⟨_, rfl⟩) (fun x => i64 x.1 ∧ i64 x.2) (by omega) hm ?_
    intro j hj
    obtain ⟨cs, h1, h2⟩ := hx j (by omega)
    rw [hC] at h1
    obtain ⟨_, hlen, hcell⟩ := World.cells?_some h1
    obtain ⟨c0, c1, rfl⟩ := list2 hlen
    have q0 := hcell 0 (by omega)
    have q1 := hcell 1 (by omega)
    obtain ⟨xs, k, -, -, -, hl2, hy⟩ := DataW.trod_struct Try.underlying48 h2
    match xs, hl2 with
    | [y0, y1], _ =>
      have h0 := hy 0 _ rfl
      have h1 := hy 1 _ rfl
      simp [k3] at h0 h1
      obtain ⟨n0, e0, -, w0⟩ := DataW.trod_int Try.underlying3 h0
      obtain ⟨n1, e1, -, w1⟩ := DataW.trod_int Try.underlying3 h1
      simp only [List.cons.injEq, and_true] at e0 e1
      subst e0 e1
      refine ⟨(n0, n1), fun i u hu => ?_, bounds_i64 w0, bounds_i64 w1⟩
      match i, hu with
      | 0, hu => cases hu; simpa using q0
      | 1, hu => cases hu; simpa using q1
      | i + 2, hu => exact absurd hu (by simp [sf])

theorem slice_of {H : Type} {enc : TypeId × Value → H} {P : Program} {w : World} {base : Nat} {held : Bool} {t e : TypeId} {c : Value} {d : DataW H} {p : List MemPlace} {fuel : Nat} (ht : P.underlying t = some (.slice e))
    (h : DataW.trod enc P w base (fun _ => true) held fuel t [c] = some (d, p)) : ∃ a l k, c = .slice a l k := by
  rcases open_slice ht h with ⟨hcs, hx⟩ | ⟨a', len', cap', m, n, D, Pl, hcs, hb, hl, hm, hmm, hx0, hx⟩
  · exact ⟨none, 0, 0, by simpa using hcs⟩
  · exact ⟨some a', len', cap', by simpa using hcs⟩

set_option maxRecDepth 10000 in
theorem open_tns {H : Type} {enc : TypeId × Value → H} {w : World} {base : Nat} {held : Bool} {a : Option Addr} {len cap : Nat} {d : DataW H} {p : List MemPlace}
    (h : DataW.Trod enc Try.prog w base (fun _ => true) held 22 (.slice a len cap) d p) : ∃ l : List Tn, Tns w (.slice a len cap) l ∧ OkNs l := by
  obtain ⟨fuel, hf⟩ := h
  have hC : Try.prog.cellsOf 43 = 5 := by kernel_rfl
  have k3 : Try.prog.cellsOf 3 = 1 := by kernel_rfl
  have ku : Try.prog.cellsOf 39 = 1 := by kernel_rfl
  have kw : Try.prog.cellsOf 40 = 1 := by kernel_rfl
  have ks : Try.prog.cellsOf 41 = 1 := by kernel_rfl
  rcases open_slice Try.underlying22 hf with ⟨hcs, hx⟩ | ⟨a', len', cap', m, n, D, Pl, hcs, hb, hl, hm, hmm, hx0, hx⟩
  · simp [Value.cells] at hcs
    obtain ⟨rfl, rfl, rfl⟩ := hcs
    exact ⟨[], Tns.nil w, fun x hx => by cases hx⟩
  · simp [Value.cells] at hcs
    obtain ⟨rfl, rfl, rfl⟩ := hcs
    simp only [if_true] at hmm
    subst hmm
    obtain ⟨b, off, spot⟩ := a'
    have key : ∃ es : List TE, Lsf 5 tf w (.slice (some ⟨b, off, spot⟩) len m) es ∧ ∀ e ∈ es, OkN e.1 ∧ Wns w e.2.1 e.1.ws ∧ Sts w e.2.2 e.1.ss := by
      refine lsf_each (k := 5) (f := tf) (⟨0, 0, 0, [], []⟩, undef, undef) (fun x => ⟨_, rfl⟩) (fun e => OkN e.1 ∧ Wns w e.2.1 e.1.ws ∧ Sts w e.2.2 e.1.ss) (by omega) hm ?_
      intro j hj
      obtain ⟨cs, h1, h2⟩ := hx j (by omega)
      rw [hC] at h1
      obtain ⟨_, hlen, hcell⟩ := World.cells?_some h1
      obtain ⟨c0, c1, c2, c3, c4, rfl⟩ := list5 hlen
      have q0 := hcell 0 (by omega)
      have q1 := hcell 1 (by omega)
      have q2 := hcell 2 (by omega)
      have q3 := hcell 3 (by omega)
      have q4 := hcell 4 (by omega)
      obtain ⟨xs, k, -, -, -, hl2, hy⟩ := DataW.trod_struct Try.underlying43 h2
      match xs, hl2 with
      | [y0, y1, y2, y3, y4], _ =>
        have h0 := hy 0 _ rfl
        have h1 := hy 1 _ rfl
        have h2 := hy 2 _ rfl
        have h3 := hy 3 _ rfl
        have h4 := hy 4 _ rfl
        simp [k3, ku, kw, ks] at h0 h1 h2 h3 h4
        obtain ⟨n0, e0, -, w0⟩ := DataW.trod_int Try.underlying3 h0
        obtain ⟨n1, e1, -, w1⟩ := DataW.trod_int Try.underlying39 h1
        obtain ⟨n2, e2, -, w2⟩ := DataW.trod_int Try.underlying3 h2
        obtain ⟨a3, l3, p3, e3⟩ := slice_of Try.underlying40 h3
        obtain ⟨a4, l4, p4, e4⟩ := slice_of Try.underlying41 h4
        simp only [List.cons.injEq, and_true] at e0 e1 e2
        subst e0 e1 e2 e3 e4
        obtain ⟨ws, r3, o3⟩ := open_wns ⟨k, h3⟩
        obtain ⟨ss, r4, o4⟩ := open_sts ⟨k, h4⟩
        refine ⟨(⟨n0, n1, n2, ws, ss⟩, .slice a3 l3 p3, .slice a4 l4 p4), fun i u hu => ?_, ⟨bounds_i64 w0, bounds_u32n w1, bounds_i64 w2, o3, o4⟩, r3, r4⟩
        match i, hu with
        | 0, hu => cases hu; simpa using q0
        | 1, hu => cases hu; simpa using q1
        | 2, hu => cases hu; simpa using q2
        | 3, hu => cases hu; simpa using q3
        | 4, hu => cases hu; simpa using q4
        | i + 5, hu => exact absurd hu (by simp [tf])
    obtain ⟨es, h1, h2⟩ := key
    exact ⟨es.map (·.1), ⟨es, rfl, h1, fun e he => (h2 e he).2⟩, fun x hx => by obtain ⟨e, he, rfl⟩ := List.mem_map.1 hx; exact (h2 e he).1⟩

theorem open_tab {H : Type} {enc : TypeId × Value → H} {w : World} {base b0 : Nat} {held : Bool} {v : Value} {d : DataW H} {p : List MemPlace} (hv : Value.okWide Try.prog w .any b0 24 v)
    (h : DataW.Trod enc Try.prog w base (fun _ => true) held 24 v d p) : ∃ fr vt l, v = .agg #[.int .i64 fr, vt] ∧ i64 fr ∧ Tns w vt l ∧ OkNs l := by
  obtain ⟨cs, rfl, hsz⟩ := okWide_struct Try.underlying24 hv
  have hC : Try.prog.cellsOf 24 = 2 := by kernel_rfl
  have k3 : Try.prog.cellsOf 3 = 1 := by kernel_rfl
  have kt : Try.prog.cellsOf 22 = 1 := by kernel_rfl
  obtain ⟨c0, c1, rfl⟩ := arr2 (hsz.trans hC)
  obtain ⟨fuel, hf⟩ := h
  obtain ⟨xs, n, -, -, -, hl, hx⟩ := DataW.trod_struct Try.underlying24 hf
  match xs, hl with
  | [y0, y1], _ =>
    have h0 := hx 0 _ rfl
    have h1 := hx 1 _ rfl
    simp [Value.cells, k3, kt] at h0 h1
    obtain ⟨n0, e0, -, w0⟩ := DataW.trod_int Try.underlying3 h0
    obtain ⟨a1, l1, p1, e1⟩ := slice_of Try.underlying22 h1
    simp only [List.cons.injEq, and_true] at e0
    subst e0 e1
    obtain ⟨l, r, o⟩ := open_tns ⟨n, h1⟩
    exact ⟨n0, _, l, rfl, bounds_i64 w0, r, o⟩

end Go.Proofs.Ytffjhimdamdenaa
