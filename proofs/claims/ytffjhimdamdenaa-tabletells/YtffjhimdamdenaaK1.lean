/- Opening the arguments: a slice that came in, as a list. Over any program. -/
import Derived.Test.YtffjhimdamdenaaK0
import Derived.ProofKit
import Derived.OpenShut
import Derived.ShutString
import Derived.ChangeOld
import Derived.Deep.Grids
import Derived.SizedLaws
import Derived.JoinedCond
namespace Go.Proofs.Ytffjhimdamdenaa
open Go.RowKit Go.ChangeShapes Go.WideShapes Go.ChangeAt Go.Deep

abbrev bV (x : UInt8) : Value := .int .u8 (x.toNat : Int)
abbrev wV (x : UInt16) : Value := .int .u16 (x.toNat : Int)

/-- what a slice's datum holds -/
def lenIs {H : Type} (d : DataW H) (n : Nat) : Prop := (d = .nil ∧ n = 0) ∨ ∃ el sp, d = .slice el sp ∧ el.length = n

section
variable {H : Type} {enc : TypeId × Value → H} {P : Program} {w : World} {base : Nat} {held : Bool}

theorem Row.of_cells {a : Addr} {len cap : Nat} {xs : List Value} (hl : len ≤ cap) (hm : cap ≤ maxLen) (hx : xs.length = len) (hc : ∀ i, i < len → w.cell? (a.add i) = xs[i]?) : Row w (.slice (some a) len cap) xs := by
  subst hx
  refine ⟨some a, cap, rfl, hl, hm, (fun h => by cases h), ?_⟩
  by_cases h0 : xs = []
  · exact .inl h0
  · right
    obtain ⟨b, off, spot⟩ := a
    have hp : 0 < xs.length := List.length_pos_iff.2 h0
    have h1 := hc 0 hp
    rw [List.getElem?_eq_getElem hp] at h1
    have hspot : spot = none := by simpa [Addr.add] using World.cell?_spot h1
    subst hspot
    refine ⟨b, off, rfl, fun i hi => ?_⟩
    have hadd : (⟨b, off, none⟩ : Addr).add i = ⟨b, off + i, none⟩ := by unfold Addr.add; split <;> simp_all
    rw [← hadd]
    exact hc i hi

theorem open_row {t e : TypeId} {k : IntKind} {a : Option Addr} {len cap : Nat} {d : DataW H} {p : List MemPlace} (ht : P.underlying t = some (.slice e)) (he : P.underlying e = some (.int k)) (hc : P.cellsOf e = 1)
    (h : DataW.Trod enc P w base (fun _ => true) held t (.slice a len cap) d p) :
    ∃ zs : List Int, Row w (.slice a len cap) (zs.map (Value.int k)) ∧ lenIs d zs.length ∧ ∀ n ∈ zs, (Lit.int k n).wf = true := by
  obtain ⟨fuel, hf⟩ := h
  rcases open_ints ht he hc hf with ⟨hcs, hx⟩ | ⟨x, l, c, zs, hcs, _, hl, hm, hz, hx, hcell, hwz⟩
  · simp [Value.cells] at hcs
    obtain ⟨rfl, rfl, rfl⟩ := hcs
    simp only [Prod.mk.injEq] at hx
    exact ⟨[], Row.nil w, .inl ⟨hx.1, rfl⟩, by simp⟩
  · simp [Value.cells] at hcs
    obtain ⟨rfl, rfl, rfl⟩ := hcs
    simp only [Prod.mk.injEq] at hx
    simp only [if_true] at hz
    refine ⟨zs.take len, Row.of_cells hl hm (by simp; omega) (fun i hi => ?_), .inr ⟨_, _, hx.1, by simp [lits]⟩, fun n hn => hwz n (List.mem_of_mem_take hn)⟩
    rw [hcell i (by omega)]
    simp [hi, List.getD_eq_getElem?_getD, List.getElem?_eq_getElem (show i < zs.length by omega)]

theorem open_u8s {t e : TypeId} {a : Option Addr} {len cap : Nat} {d : DataW H} {p : List MemPlace} (ht : P.underlying t = some (.slice e)) (he : P.underlying e = some (.int .u8)) (hc : P.cellsOf e = 1)
    (h : DataW.Trod enc P w base (fun _ => true) held t (.slice a len cap) d p) : ∃ xs : List UInt8, Row w (.slice a len cap) (xs.map bV) ∧ lenIs d xs.length := by
  obtain ⟨zs, hr, hd, hw⟩ := open_row ht he hc h
  refine ⟨zs.map fun n => UInt8.ofNat n.toNat, ?_, by simpa using hd⟩
  have e : (zs.map fun n => UInt8.ofNat n.toNat).map bV = zs.map (Value.int .u8) := by
    rw [List.map_map]
    apply List.map_congr_left
    intro n hn
    have := bounds_u8 (hw n hn)
    simp only [Function.comp_apply, bV, UInt8.toNat_ofNat']
    congr 1
    omega
  rw [e]; exact hr

theorem open_u16s {t e : TypeId} {a : Option Addr} {len cap : Nat} {d : DataW H} {p : List MemPlace} (ht : P.underlying t = some (.slice e)) (he : P.underlying e = some (.int .u16)) (hc : P.cellsOf e = 1)
    (h : DataW.Trod enc P w base (fun _ => true) held t (.slice a len cap) d p) : ∃ xs : List UInt16, Row w (.slice a len cap) (xs.map wV) ∧ lenIs d xs.length := by
  obtain ⟨zs, hr, hd, hw⟩ := open_row ht he hc h
  refine ⟨zs.map fun n => UInt16.ofNat n.toNat, ?_, by simpa using hd⟩
  have e : (zs.map fun n => UInt16.ofNat n.toNat).map wV = zs.map (Value.int .u16) := by
    rw [List.map_map]
    apply List.map_congr_left
    intro n hn
    have := bounds_u16 (hw n hn)
    simp only [Function.comp_apply, wV, UInt16.toNat_ofNat']
    congr 1
    omega
  rw [e]; exact hr

theorem open_boolrow {t e : TypeId} {a : Option Addr} {len cap : Nat} {d : DataW H} {p : List MemPlace} (ht : P.underlying t = some (.slice e)) (he : P.underlying e = some .bool) (hc : P.cellsOf e = 1)
    (h : DataW.Trod enc P w base (fun _ => true) held t (.slice a len cap) d p) : ∃ xs : List Bool, Row w (.slice a len cap) (xs.map Value.bool) ∧ lenIs d xs.length := by
  obtain ⟨fuel, hf⟩ := h
  rcases open_bools ht he hc hf with ⟨hcs, hx⟩ | ⟨x, l, c, B, hcs, _, hl, hm, hx, hcell⟩
  · simp [Value.cells] at hcs
    obtain ⟨rfl, rfl, rfl⟩ := hcs
    simp only [Prod.mk.injEq] at hx
    exact ⟨[], Row.nil w, .inl ⟨hx.1, rfl⟩⟩
  · simp [Value.cells] at hcs
    obtain ⟨rfl, rfl, rfl⟩ := hcs
    simp only [Prod.mk.injEq] at hx
    refine ⟨(List.range len).map B, Row.of_cells hl hm (by simp) (fun i hi => ?_), .inr ⟨_, _, hx.1, by simp⟩⟩
    rw [hcell i (by omega)]
    simp [hi]

/-- the form's own reach, of a slice -/
theorem reach_slice {ts : List TypeId} {ds : List (DataW H)} (h : (DataW.weightsEach P ts ds).all (· ≤ reachBytes) = true) {j : Nat} {t e : TypeId} {d : DataW H} {n b : Nat} (ht : ts[j]? = some t) (hd : ds[j]? = some d) (hu : P.underlying t = some (.slice e)) (hl : lenIs d n) (hb : P.bytesOf e = b) :
    n * b ≤ 140737488351232 := by
  rcases hl with ⟨-, rfl⟩ | ⟨el, sp, rfl, rfl⟩
  · simp
  · have := sized_slice h ht hd hu
    rw [hb] at this
    have h2 : el.length * b ≤ (el.length + sp.length) * b := Nat.mul_le_mul_right _ (by omega)
    have h3 : reachBytes = 140737488351232 := by decide
    omega
end
end Go.Proofs.Ytffjhimdamdenaa
