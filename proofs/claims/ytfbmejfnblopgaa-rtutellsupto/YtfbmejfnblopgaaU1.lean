/- What the bound of an upto statement gives: a slice's length. -/
import Derived.Test.YtfbmejfnblopgaaRows
import Derived.Test.YtfbmejfnblopgaaK1
namespace Go.Proofs.Ytfbmejfnblopgaa

theorem bulk_all {H : Type} (l : List (DataW H)) : l.length ≤ Rows.uptoBulkAll l := by
  induction l with
  | nil => simp [Rows.uptoBulkAll]
  | cons x r ih =>
    have h1 : 1 ≤ Rows.uptoBulk x := by
      cases x with
      | lit l => cases l <;> simp [Rows.uptoBulk]
      | nil => simp [Rows.uptoBulk]
      | ptr d => simp [Rows.uptoBulk]
      | slice elems spare => simp [Rows.uptoBulk]
      | agg parts => simp [Rows.uptoBulk]
      | iface t d => simp [Rows.uptoBulk]
      | map entries => simp [Rows.uptoBulk]
      | held h => simp [Rows.uptoBulk]
    simp only [Rows.uptoBulkAll, List.length_cons]
    omega

theorem bulk_len {H : Type} {d : DataW H} {n : Nat} (h : lenIs d n) : n ≤ Rows.uptoBulk d := by
  rcases h with ⟨-, rfl⟩ | ⟨el, sp, rfl, rfl⟩
  · omega
  · have := bulk_all el
    simp only [Rows.uptoBulk]
    omega

end Go.Proofs.Ytfbmejfnblopgaa
