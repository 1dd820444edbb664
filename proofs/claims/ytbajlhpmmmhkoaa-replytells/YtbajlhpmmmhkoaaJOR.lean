/- Opening an argument that is a reply, by value. -/
import Derived.Test.YtbajlhpmmmhkoaaJ44
import Derived.Test.YtbajlhpmmmhkoaaJ10
namespace Go.Proofs.Ytbajlhpmmmhkoaa
open Go.RowKit Go.ChangeShapes Go.WideShapes Go.ChangeAt Go.Deep
theorem array10 {α : Type} {cs : Array α} (h : cs.size = 10) : ∃ c0 c1 c2 c3 c4 c5 c6 c7 c8 c9, cs = #[c0, c1, c2, c3, c4, c5, c6, c7, c8, c9] := by
 obtain ⟨l⟩ := cs
 match l, h with
 | [c0, c1, c2, c3, c4, c5, c6, c7, c8, c9], _ => exact ⟨c0, c1, c2, c3, c4, c5, c6, c7, c8, c9, rfl⟩
theorem open_rep {H : Type} {enc : TypeId × Value → H} {w : World} {base b0 : Nat} {held : Bool} {v : Value} {d : DataW H} {p : List MemPlace} (hv : Value.okWide Try.prog w .any b0 35 v)
  (h : DataW.Trod enc Try.prog w base (fun _ => true) held 35 v d p) : ∃ r : Rp, IsRp w v r := by
 obtain ⟨cs, rfl, hsz⟩ := okWide_struct Try.underlying35 hv
 have hC : Try.prog.cellsOf 35 = 10 := by kernel_rfl
 have k3 : Try.prog.cellsOf 3 = 1 := by kernel_rfl
 have kb : Try.prog.cellsOf 22 = 1 := by kernel_rfl
 have kw : Try.prog.cellsOf 23 = 1 := by kernel_rfl
 have ku : Try.prog.cellsOf 24 = 1 := by kernel_rfl
 have kd : Try.prog.cellsOf 33 = 1 := by kernel_rfl
 obtain ⟨c0, c1, c2, c3, c4, c5, c6, c7, c8, c9, rfl⟩ := array10 (hsz.trans hC)
 obtain ⟨fuel, hf⟩ := h
 obtain ⟨xs, n, -, -, -, hl, hx⟩ := DataW.trod_struct Try.underlying35 hf
 match xs, hl with
 | [y0, y1, y2, y3, y4, y5, y6, y7, y8, y9], _ =>
  have h0 := hx 0 _ rfl
  have h1 := hx 1 _ rfl
  have h2 := hx 2 _ rfl
  have h3 := hx 3 _ rfl
  have h4 := hx 4 _ rfl
  have h5 := hx 5 _ rfl
  have h6 := hx 6 _ rfl
  have h7 := hx 7 _ rfl
  have h8 := hx 8 _ rfl
  have h9 := hx 9 _ rfl
  simp [Value.cells, k3, kb, kw, ku, kd] at h0 h1 h2 h3 h4 h5 h6 h7 h8 h9
  obtain ⟨n0, e0, -, -⟩ := DataW.trod_int Try.underlying3 h0
  obtain ⟨n1, e1, -, -⟩ := DataW.trod_int Try.underlying3 h1
  obtain ⟨n2, e2, -, -⟩ := DataW.trod_int Try.underlying3 h2
  obtain ⟨n3, e3, -, -⟩ := DataW.trod_int Try.underlying3 h3
  obtain ⟨n4, e4, -, -⟩ := DataW.trod_int Try.underlying3 h4
  obtain ⟨n7, e7, -, w7⟩ := DataW.trod_int Try.underlying24 h7
  obtain ⟨n8, e8, -, w8⟩ := DataW.trod_int Try.underlying24 h8
  simp only [List.cons.injEq, and_true] at e0 e1 e2 e3 e4 e7 e8
  have hV5 : ∃ a l c, c5 = .slice a l c := by
   rcases open_bools Try.underlying22 Try.underlying4 (by kernel_rfl) h5 with ⟨hcs, -⟩ | ⟨x, l, c, B, hcs, -⟩
   ·
    exact ⟨none, 0, 0, by simpa using hcs⟩
   ·
    exact ⟨some x, l, c, by simpa using hcs⟩
  have hV6 : ∃ a l c, c6 = .slice a l c := by
   rcases open_ints Try.underlying23 Try.underlying24 (by kernel_rfl) h6 with ⟨hcs, -⟩ | ⟨x, l, c, zs, hcs, -⟩
   ·
    exact ⟨none, 0, 0, by simpa using hcs⟩
   ·
    exact ⟨some x, l, c, by simpa using hcs⟩
  have hV9 : ∃ a l c, c9 = .slice a l c := by
   rcases open_ints Try.underlying33 Try.underlying5 (by kernel_rfl) h9 with ⟨hcs, -⟩ | ⟨x, l, c, zs, hcs, -⟩
   ·
    exact ⟨none, 0, 0, by simpa using hcs⟩
   ·
    exact ⟨some x, l, c, by simpa using hcs⟩
  obtain ⟨a5, l5, q5, e5⟩ := hV5
  obtain ⟨a6, l6, q6, e6⟩ := hV6
  obtain ⟨a9, l9, q9, e9⟩ := hV9
  subst e0 e1 e2 e3 e4 e5 e6 e7 e8 e9
  obtain ⟨bs, r5, -⟩ := open_boolrow Try.underlying22 Try.underlying4 (by kernel_rfl) ⟨n, h5⟩
  obtain ⟨vs, r6, -⟩ := open_u16s Try.underlying23 Try.underlying24 (by kernel_rfl) ⟨n, h6⟩
  obtain ⟨ds, r9, -⟩ := open_u8s Try.underlying33 Try.underlying5 (by kernel_rfl) ⟨n, h9⟩
  have b7 := bounds_u16 w7
  have b8 := bounds_u16 w8
  have z7 : ((UInt16.ofNat n7.toNat).toNat : Int) = n7 := by rw [UInt16.toNat_ofNat']; omega
  have z8 : ((UInt16.ofNat n8.toNat).toNat : Int) = n8 := by rw [UInt16.toNat_ofNat']; omega
  refine ⟨⟨n0, n1, n2, n3, n4, bs, vs, UInt16.ofNat n7.toNat, UInt16.ofNat n8.toNat, ds⟩, ⟨_, _, _, ?_, r5, r6, r9⟩⟩
  simp only [rpV, wV, z7, z8]
end Go.Proofs.Ytbajlhpmmmhkoaa
