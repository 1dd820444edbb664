/- Contract of burgagelaw7.known. -/
import Derived.Test.YtdclbknahialcaaZB
namespace Go.Proofs.Ytdclbknahialcaa
open Go.RowKit

theorem okl_nil : OkL [] := fun x h => by cases h
theorem okl_k : OkL [(4, 4), (0, 5)] := by
  intro x hx
  simp at hx
  rcases hx with rfl | rfl <;> (unfold i64; omega)

set_option maxHeartbeats 4000000 in
theorem known_any (w : World) :
    Calls Try.prog 9 #[] w fun e w' => e = .returned (.bool true) ∧ Below w.heap.size w w' := by
  have C1 := hidden (fun w => meet_any 0 4 2 4 w (by unfold i64; omega) (by unfold i64; omega))
  rw [kn1.1, kn1.2.1, kn1.2.2] at C1
  have C2 := hidden (fun w => meet_any 0 2 2 4 w (by unfold i64; omega) (by unfold i64; omega))
  rw [kn2.1, kn2.2.1, kn2.2.2] at C2
  have C3 := hidden (fun v w h => cover_any v [(4, 4), (0, 5)] 2 5 w h okl_k (by unfold i64; omega))
  rw [kn3] at C3
  simp only [Option.isSome_some, Option.getD_some] at C3
  have C4 := hidden (fun w => cover_any _ [] 0 1 w (Sps.nil w) okl_nil (by unfold i64; omega))
  rw [kn4] at C4
  simp only [Option.isSome_none, Option.getD_none] at C4
  have C5 := hidden (fun w => in_any 2 2 2 2 w (by unfold i64; omega) (by unfold i64; omega))
  rw [kn5] at C5
  have C6 := hidden (fun w => right_any 2 2 4 w (by unfold i64; omega) (by unfold i64; omega))
  rw [kn6.1] at C6
  have C7 := hidden (fun w => right_any 2 2 3 w (by unfold i64; omega) (by unfold i64; omega))
  rw [kn6.2.1] at C7
  have C8 := hidden (fun w => right_any 9223372036854775807 9223372036854775807 9223372036854775807 w (by unfold i64; omega) (by unfold i64; omega))
  rw [kn6.2.2] at C8
  go_enter Try.func9, Try.ntmps9
  go_wp2_with fail
  refine (C1.out _).mono ?_
  rintro e w1 ⟨rfl, B0⟩
  have bx := Bx.new w1 24 2 2
  replace B0 := B0.alloc B0.size (.cells #[.int .i64 2, .int .i64 2] 24)
  go_wp2_with fail
  refine (C2.out _).mono ?_
  rintro e w2 ⟨rfl, B2⟩
  replace bx := bx.ext B2
  replace B0 := below_then B0 B2
  have E2 := (Below.refl w2.heap.size w2).alloc (Nat.le_refl _) (.cells #[.int .i64 0, .int .i64 0] 24)
  replace bx := bx.ext E2
  replace B0 := below_then B0 E2
  have SL1 := hidden (sps_lit (w2.alloc (.cells #[.int .i64 0, .int .i64 0] 24)) 24 [(4, 4), (0, 5)] 2 rfl (by decide))
  have E3 := (Below.refl (w2.alloc (.cells #[.int .i64 0, .int .i64 0] 24)).heap.size _).alloc (Nat.le_refl _) (.cells #[.int .i64 4, .int .i64 4, .int .i64 0, .int .i64 5] 24)
  replace bx := bx.ext E3
  replace B0 := below_then B0 E3
  clear E2 E3 B2
  go_wp2_with fail
  refine (C3.out _ _ ?sl).mono ?_
  case sl => simpa [scs] using SL1.out
  rintro e w3 ⟨v3, rfl, own3, B3⟩
  replace bx := bx.ext B3
  replace B0 := below_then B0 B3
  have sp := Sps.of_owns own3
  clear own3 B3 SL1
  go_wp2_with fail
  refine (C4.out _).mono ?_
  rintro e w4 ⟨v4, rfl, -, B4⟩
  replace bx := bx.ext B4
  replace B0 := below_then B0 B4
  replace sp := sp.ext B4
  clear B4
  obtain ⟨c1, c2⟩ := bx.cells2
  have SL2 := hidden (sps_lit w4 24 [(2, 3), (5, 2)] 2 rfl (by decide))
  have E4 := (Below.refl w4.heap.size w4).alloc (Nat.le_refl _) (.cells #[.int .i64 2, .int .i64 3, .int .i64 5, .int .i64 2] 24)
  go_wp2_with fail
  refine (same_list _ _ [(2, 3), (5, 2)] _ (sp.ext E4) ?sm).mono ?_
  case sm => simpa [scs] using SL2.out
  rintro e w5 ⟨rfl, B5⟩
  replace bx := (bx.ext E4).ext B5
  replace B0 := below_then (below_then B0 E4) B5
  clear c1 c2 E4 B5 sp SL2
  obtain ⟨c1, c2⟩ := bx.cells2
  go_wp2_with fail
  refine (C5.out _).mono ?_
  rintro e w6 ⟨rfl, B5⟩
  replace bx := bx.ext B5
  replace B0 := below_then B0 B5
  clear c1 c2 B5
  obtain ⟨c1, c2⟩ := bx.cells2
  go_wp2_with fail
  refine (C6.out _).mono ?_
  rintro e w7 ⟨rfl, B5⟩
  replace bx := bx.ext B5
  replace B0 := below_then B0 B5
  clear c1 c2 B5
  obtain ⟨c1, c2⟩ := bx.cells2
  go_wp2_with fail
  refine (C7.out _).mono ?_
  rintro e w8 ⟨rfl, B5⟩
  replace B0 := below_then B0 B5
  clear c1 c2 B5
  go_wp2_with fail
  refine (C8.out _).mono ?_
  rintro e w9 ⟨rfl, B5⟩
  replace B0 := below_then B0 B5
  go_wp2
  go_ret
  exact ⟨rfl, B0⟩

end Go.Proofs.Ytdclbknahialcaa
