/- Opening an argument that is a list of asks. -/
import Derived.Test.YtaabjgdomookkaaYE
namespace Go.Proofs.Ytaabjgdomookkaa
open Go.RowKit Go.ChangeShapes Go.WideShapes Go.ChangeAt Go.Deep

theorem array6 {α : Type} {cs : List α} (h : cs.length = 6) : ∃ c0 c1 c2 c3 c4 c5, cs = [c0, c1, c2, c3, c4, c5] := by
  match cs, h with
  | [c0, c1, c2, c3, c4, c5], _ => exact ⟨c0, c1, c2, c3, c4, c5, rfl⟩

theorem open_asks {H : Type} {enc : TypeId × Value → H} {w : World} {base : Nat} {held : Bool} {a : Option Addr} {len cap : Nat} {d : DataW H} {p : List MemPlace}
    (h : DataW.Trod enc Try.prog w base (fun _ => true) held 22 (.slice a len cap) d p) : Asks w (.slice a len cap) len ∧ lenIs d len := by
  obtain ⟨fuel, hf⟩ := h
  have hC : Try.prog.cellsOf tA = 6 := by kernel_rfl
  have k3 : Try.prog.cellsOf 3 = 1 := by kernel_rfl
  have kb : Try.prog.cellsOf 23 = 1 := by kernel_rfl
  have kw : Try.prog.cellsOf 25 = 1 := by kernel_rfl
  rcases open_slice Try.underlying22 hf with ⟨hcs, hx⟩ | ⟨a', len', cap', m, n, D, Pl, hcs, hb, hl, hm, hmm, hx0, hx⟩
  · simp [Value.cells] at hcs
    obtain ⟨rfl, rfl, rfl⟩ := hcs
    simp only [Prod.mk.injEq] at hx
    exact ⟨Asks.nil w, .inl ⟨hx.1, rfl⟩⟩
  · simp [Value.cells] at hcs
    obtain ⟨rfl, rfl, rfl⟩ := hcs
    simp only [if_true] at hmm
    subst hmm
    simp only [Prod.mk.injEq] at hx0
    obtain ⟨b, off, spot⟩ := a'
    refine ⟨⟨some ⟨b, off, spot⟩, m, rfl, hl, hm, fun i hi => ?_⟩, .inr ⟨_, _, hx0.1, by simp⟩⟩
    have hspot : spot = none := by
      obtain ⟨cs, h1, -⟩ := hx 0 (by omega)
      rw [hC] at h1
      obtain ⟨_, hlen, hcell⟩ := World.cells?_some h1
      obtain ⟨c0, c1, c2, c3, c4, c5, rfl⟩ := array6 hlen
      have q0 := hcell 0 (by omega)
      have e := World.cell?_spot (q0.trans (show _ = some c0 from rfl))
      simpa [Addr.add] using e
    subst hspot
    have each : ∀ j, j < len → IsAsk w b (off + j * 6) := by
      intro j hj
      obtain ⟨cs, h1, h2⟩ := hx j (by omega)
      rw [hC] at h1
      obtain ⟨_, hlen, hcell⟩ := World.cells?_some h1
      obtain ⟨c0, c1, c2, c3, c4, c5, rfl⟩ := array6 hlen
      have q0 := hcell 0 (by omega)
      have q1 := hcell 1 (by omega)
      have q2 := hcell 2 (by omega)
      have q3 := hcell 3 (by omega)
      have q4 := hcell 4 (by omega)
      have q5 := hcell 5 (by omega)
      have hadd : ∀ x y, ((⟨b, off, none⟩ : Addr).add x).add y = ⟨b, off + x + y, none⟩ := fun x y => by unfold Addr.add; split <;> split <;> simp_all
      rw [hadd] at q0 q1 q2 q3 q4 q5
      obtain ⟨xs, k, -, -, -, hl2, hy⟩ := DataW.trod_struct Try.underlying27 h2
      match xs, hl2 with
      | [y0, y1, y2, y3, y4, y5], _ =>
        have h0 := hy 0 _ rfl
        have h1 := hy 1 _ rfl
        have h2 := hy 2 _ rfl
        have h3 := hy 3 _ rfl
        have h4 := hy 4 _ rfl
        have h5 := hy 5 _ rfl
        simp [k3, kb, kw] at h0 h1 h2 h3 h4 h5
        obtain ⟨n0, e0, -, w0⟩ := DataW.trod_int Try.underlying3 h0
        obtain ⟨n1, e1, -, w1⟩ := DataW.trod_int Try.underlying3 h1
        obtain ⟨n2, e2, -, w2⟩ := DataW.trod_int Try.underlying3 h2
        obtain ⟨n3, e3, -, w3⟩ := DataW.trod_int Try.underlying3 h3
        simp only [List.cons.injEq, and_true] at e0 e1 e2 e3
        have hV4 : ∃ a l c, c4 = .slice a l c := by
          rcases open_bools Try.underlying23 Try.underlying4 (by kernel_rfl) h4 with ⟨hcs, -⟩ | ⟨x, l, c, B, hcs, -⟩
          · exact ⟨none, 0, 0, by simpa using hcs⟩
          · exact ⟨some x, l, c, by simpa using hcs⟩
        have hV5 : ∃ a l c, c5 = .slice a l c := by
          rcases open_ints Try.underlying25 Try.underlying24 (by kernel_rfl) h5 with ⟨hcs, -⟩ | ⟨x, l, c, zs, hcs, -⟩
          · exact ⟨none, 0, 0, by simpa using hcs⟩
          · exact ⟨some x, l, c, by simpa using hcs⟩
        obtain ⟨a4, l4, p4, e4⟩ := hV4
        obtain ⟨a5, l5, p5, e5⟩ := hV5
        subst e0 e1 e2 e3 e4 e5
        obtain ⟨bs, r4, -⟩ := open_boolrow Try.underlying23 Try.underlying4 (by kernel_rfl) ⟨k, h4⟩
        obtain ⟨vs, r5, -⟩ := open_u16s Try.underlying25 Try.underlying24 (by kernel_rfl) ⟨k, h5⟩
        exact ⟨n0, n1, n2, n3, _, _, bs, vs, ⟨bounds_i64 w0, bounds_i64 w1, bounds_i64 w2, bounds_i64 w3⟩, ⟨by simpa using q0, by simpa using q1, by simpa using q2, by simpa using q3, by simpa using q4, by simpa using q5⟩, r4, r5⟩
    exact ⟨b, off, rfl, fun j hj => each j hj⟩

end Go.Proofs.Ytaabjgdomookkaa
