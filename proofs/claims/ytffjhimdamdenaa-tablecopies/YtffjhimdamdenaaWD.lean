/- Contracts of window.Map and Back. -/
import Derived.Test.YtffjhimdamdenaaWC
namespace Go.Proofs.Ytffjhimdamdenaa
open Go.RowKit

theorem find_sel {l : WL} {q : WN → Bool} {k : Nat} {x : WN} (hx : l[k]? = some x) (h0 : (l.take k).find? q = none) (h : q x = true) : l.find? q = some x := by
  have e : l = l.take (k + 1) ++ l.drop (k + 1) := (List.take_append_drop _ _).symm
  rw [e, List.find?_append, take_snoc hx, List.find?_append, h0]
  simp [h]
theorem find_snoc {l : WL} {q : WN → Bool} {k : Nat} {x : WN} (hx : l[k]? = some x) (h0 : (l.take k).find? q = none) (h : q x = false) : (l.take (k + 1)).find? q = none := by
  rw [take_snoc hx, List.find?_append, h0]
  simp [h]

end Go.Proofs.Ytffjhimdamdenaa
