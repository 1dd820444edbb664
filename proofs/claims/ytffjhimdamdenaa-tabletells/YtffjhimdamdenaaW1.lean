/- The contract of burgagebook's Within. -/
import Derived.Test.YtffjhimdamdenaaG1
namespace Go.Proofs.Ytffjhimdamdenaa
open Go.RowKit

set_option maxHeartbeats 400000 in
theorem within_any (n lo hi : Int) (w : World) (hn : -9223372036854775808 ≤ n ∧ n ≤ 9223372036854775807) (h0 : -1000000000000000000 ≤ lo) (h1 : hi ≤ 1000000000000000000) (h2 : lo ≤ hi) :
    Calls Try.prog 17 #[.int .i64 n, .int .i64 lo, .int .i64 hi] w fun e w' => (∃ m, e = .returned (.int .i64 m) ∧ lo ≤ m ∧ m ≤ hi) ∧ w = w' := by
  obtain ⟨hn1, hn2⟩ := hn
  by_cases g1 : lo ≤ n ∧ n ≤ hi
  · obtain ⟨g1, g2⟩ := g1
    go_enter Try.func17, Try.ntmps17
    go_wp2
    go_ret
    exact ⟨⟨n, rfl, g1, g2⟩, rfl⟩
  · have d0 : 0 < hi - lo + 1 := by omega
    have b1 := Int.tmod_lt_of_pos n d0
    have b2 := Int.lt_tmod_of_pos n d0
    have hg : (lo ≤ n ∧ hi < n) ∨ n < lo := by omega
    generalize hq : n.tmod (hi - lo + 1) = q at *
    have HQ : Hid (n.tmod (hi - lo + 1) = q) := hq
    clear g1
    have hq0 : ((hi - lo + 1 : Int) == 0) = false := by simp; omega
    by_cases hneg : q < 0
    · rcases hg with ⟨g1, g2⟩ | g1
      all_goals
        go_enter Try.func17, Try.ntmps17
        go_wp2
        go_ret
        exact ⟨⟨_, rfl, by omega, by omega⟩, rfl⟩
    · rcases hg with ⟨g1, g2⟩ | g1
      all_goals
        go_enter Try.func17, Try.ntmps17
        go_wp2
        go_ret
        exact ⟨⟨_, rfl, by omega, by omega⟩, rfl⟩

end Go.Proofs.Ytffjhimdamdenaa
