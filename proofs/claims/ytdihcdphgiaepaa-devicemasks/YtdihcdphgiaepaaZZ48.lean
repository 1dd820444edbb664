/- Small laws for what stands by a device. -/
import Derived.Test.YtdihcdphgiaepaaZZ46
import Derived.Test.YtdihcdphgiaepaaZZ47
namespace Go.Proofs.Ytdihcdphgiaepaa
open Go.RowKit
theorem nw_off {B g lo hi : Nat} {v : Value} (h : NwV B v) (hg : g < B) (hh : hi ≤ B) : Off (Gd g lo hi) v := fun k hk x => by
 have := h k hk
 rcases x with x | x
 ·
  omega
 ·
  have := x.2; omega
theorem bw_gd {W w w' : World} {g lo hi : Nat} (hb : Below W.heap.size W w) (k : Kp (Gd g lo hi) w w') (h : W.heap.size ≤ lo ∧ hi ≤ g ∧ W.heap.size ≤ g) : Below W.heap.size W w' :=
 hb.trans (k.below _ hb.size (fun i x => by
  rcases x with x | x
  ·
   omega
  ·
   have := x.1; omega))
theorem RowF.nil (F : Nat → Prop) (w : World) : RowF F w (.slice none 0 0) [] := ⟨Row.nil w, fun h => absurd rfl h⟩
end Go.Proofs.Ytdihcdphgiaepaa
