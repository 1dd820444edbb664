/- Contract of pdu.Bytes, by function. -/
import Derived.Test.YtdihcdphgiaepaaZZ10
namespace Go.Proofs.Ytdihcdphgiaepaa
open Go.RowKit
structure Box (w : World) (g : Nat) (f a c p s : Int) (vb vv : Value) (m o : UInt16) : Prop where
 lt : g < w.heap.size
 c0 : w.cell? ⟨g, 0, none⟩ = some (.int .i64 f)
 c1 : w.cell? ⟨g, 1, none⟩ = some (.int .i64 a)
 c2 : w.cell? ⟨g, 2, none⟩ = some (.int .i64 c)
 c3 : w.cell? ⟨g, 3, none⟩ = some (.int .i64 p)
 c4 : w.cell? ⟨g, 4, none⟩ = some (.int .i64 s)
 c5 : w.cell? ⟨g, 5, none⟩ = some vb
 c6 : w.cell? ⟨g, 6, none⟩ = some vv
 c7 : w.cell? ⟨g, 7, none⟩ = some (.int .u16 m.toNat)
 c8 : w.cell? ⟨g, 8, none⟩ = some (.int .u16 o.toNat)
theorem Box.below {w w' : World} {g : Nat} {f a c p s : Int} {vb vv : Value} {m o : UInt16} (h : Box w g f a c p s vb vv m o) {B : Nat} (hb : Below B w w') (hg : g < B) : Box w' g f a c p s vb vv m o := by
 have e : ∀ i, w'.cell? ⟨g, i, none⟩ = w.cell? ⟨g, i, none⟩ := fun i => hb.cell (p := ⟨g, i, none⟩) hg
 exact ⟨Nat.lt_of_lt_of_le h.lt hb.size, (e 0).trans h.c0, (e 1).trans h.c1, (e 2).trans h.c2, (e 3).trans h.c3, (e 4).trans h.c4, (e 5).trans h.c5, (e 6).trans h.c6, (e 7).trans h.c7, (e 8).trans h.c8⟩
theorem Box.ext {w w' : World} {g : Nat} {f a c p s : Int} {vb vv : Value} {m o : UInt16} (h : Box w g f a c p s vb vv m o) (hb : Below w.heap.size w w') : Box w' g f a c p s vb vv m o := h.below hb h.lt
theorem Box.new (w : World) (f a c p s : Int) (vb vv : Value) (m o : UInt16) (t : TypeId) : Box (w.alloc (.cells #[.int .i64 f, .int .i64 a, .int .i64 c, .int .i64 p, .int .i64 s, vb, vv, .int .u16 m.toNat, .int .u16 o.toNat] t)) w.heap.size f a c p s vb vv m o := by
 have X := Blk.new w t [.int .i64 f, .int .i64 a, .int .i64 c, .int .i64 p, .int .i64 s, vb, vv, .int .u16 m.toNat, .int .u16 o.toNat]
 exact ⟨by simp, X.cell 0, X.cell 1, X.cell 2, X.cell 3, X.cell 4, X.cell 5, X.cell 6, X.cell 7, X.cell 8⟩
def bytesR (q : Rq) : List UInt8 := if rightE q = 0 then bytesQ q else []
theorem bytesR_0 {q : Rq} (h : rightE q = 0) : bytesR q = bytesQ q := by simp [bytesR, h]
theorem bytesR_no {q : Rq} (h : rightE q ≠ 0) : bytesR q = [] := by simp [bytesR, h]
end Go.Proofs.Ytdihcdphgiaepaa
