/- Contracts of burgagebook.Same of spans that are the same, and of burgagelaw7.known. -/
import Derived.Test.YtdclbknahialcaaZA
namespace Go.Proofs.Ytdclbknahialcaa
open Go.RowKit

set_option maxHeartbeats 2000000 in
theorem same_list (v u : Value) (l : SL) (w : World) (hv : Sps w v l) (hu : Sps w u l) :
    Calls Try.prog 18 #[v, u] w fun e w' => e = .returned (.bool true) ∧ Below w.heap.size w w' := by
  obtain ⟨av, cap, rfl, -⟩ := id hv
  obtain ⟨au, cap2, rfl, -⟩ := id hu
  obtain ⟨-, hc, hm, -⟩ := hv.at
  obtain ⟨-, hc2, hm2, -⟩ := hu.at
  unfold maxLen at hm hm2
  go_enter Try.func18, Try.ntmps18
  go_wp2
  go_loopw [5] (fun i wr => ∃ k : Nat, k ≤ l.length ∧ i = .int .i64 k ∧ Below w.heap.size w wr) (fun i _ => l.length - (intOf i).toNat)
  case atStart => exact ⟨0, Nat.zero_le _, rfl, Below.refl _ _⟩
  case round =>
    obtain ⟨j, hj, rfl, h3⟩ := hrel
    by_cases hlt : j < l.length
    · obtain ⟨-, -, -, hcell⟩ := (hv.ext h3).at
      obtain ⟨b, off, rfl, hcl⟩ := hcell j hlt
      obtain ⟨c0, c1⟩ := hcl j hlt
      clear hcl hcell
      obtain ⟨-, -, -, hcell⟩ := (hu.ext h3).at
      obtain ⟨b2, off2, rfl, hcl⟩ := hcell j hlt
      obtain ⟨e0, e1⟩ := hcl j hlt
      clear hcl hcell
      have hlt' : (j : Int) < (l.length : Int) := by omega
      generalize (l.getD j (0, 0)).1 = x at *
      generalize (l.getD j (0, 0)).2 = y at *
      go_wp2
      go_quiet (fail)
      go_wp2
      go_roundw
      case rel => exact ⟨j + 1, by omega, by go_num, below_drewn h3 _⟩
      case measure => simp [intOf]; omega
    · go_wp2
      go_ret
      exact ⟨rfl, h3⟩

theorem kn1 : meetA 0 4 2 4 = 2 ∧ meetN 0 4 2 4 = 2 ∧ meetE 0 4 2 4 = true := by decide
theorem kn2 : meetA 0 2 2 4 = 0 ∧ meetN 0 2 2 4 = 0 ∧ meetE 0 2 2 4 = false := by decide
theorem kn3 : covR [(4, 4), (0, 5)] 2 5 = some [(2, 3), (5, 2)] := by decide
theorem kn4 : covR [] 0 1 = none := by decide
theorem kn5 : inB 2 2 2 2 = true := by decide
theorem kn6 : okR 2 2 4 = true ∧ okR 2 2 3 = false ∧ okR 9223372036854775807 9223372036854775807 9223372036854775807 = false := by decide
theorem sps_lit (w : World) (t : TypeId) (l : SL) (n : Nat) (hn : n = l.length) (hm : n ≤ 1000) : Sps (w.alloc (.cells (scs l).toArray t)) (.slice (some ⟨w.heap.size, 0, none⟩) n n) l := by
  subst hn
  refine ⟨_, _, rfl, Nat.le_refl _, by unfold maxLen; omega, .inr ⟨_, 0, rfl, fun i hi => ?_⟩⟩
  obtain ⟨q1, q2⟩ := scs_get l i hi
  have hb : Blk (w.alloc (.cells (scs l).toArray t)) w.heap.size t (scs l) := Blk.new w t (scs l)
  rw [Nat.zero_add, hb.cell, hb.cell]
  exact ⟨q1, q2⟩

end Go.Proofs.Ytdclbknahialcaa
