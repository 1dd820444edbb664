/- Contracts of the statements' own helpers: known, same. -/
import Derived.Test.YtgoiokbeohbdnaaL0
namespace Go.Proofs.Ytgoiokbeohbdnaa
open Go.RowKit

set_option maxHeartbeats 2000000 in
theorem known_any (w : World) : Calls Try.prog 9 #[] w fun e w' => e = .returned (.bool true) ∧ Below w.heap.size w w' := by
  go_enter Try.func9, Try.ntmps9
  go_wp2_with fail
  refine (get_b _ [9, 1, 2] 1 _ 258 true (by decide) (row_new w [.int .u8 9, .int .u8 1, .int .u8 2] 5 3 rfl (by decide)) (by decide) (by decide)).mono ?_
  rintro e w1 ⟨rfl, hb1⟩
  replace hb1 := below_step (Below.refl _ _) hb1
  go_wp2_with fail
  refine (get_b _ [9] 0 _ 0 false (by decide) (row_new w1 [.int .u8 9] 5 1 rfl (by decide)) (by decide) (by decide)).mono ?_
  rintro e w2 ⟨rfl, hb2⟩
  replace hb2 := below_step hb1 hb2
  clear hb1
  go_wp2_with fail
  refine (open_b _ [5] 3 _ [true, false, true] true (by decide) (row_new w2 [.int .u8 5] 5 1 rfl (by decide)) (by decide) (by decide) (by decide)).mono ?_
  rintro e w3 ⟨vl, rfl, hl, hb3⟩
  replace hb3 := below_step hb2 hb3
  clear hb2
  go_wp2_with fail
  refine (open_b _ [15] 3 _ [] false (by decide) (row_new w3 [.int .u8 15] 5 1 rfl (by decide)) (by decide) (by decide) (by decide)).mono ?_
  rintro e w4 ⟨_, rfl, -, hb4⟩
  have hl4 := hl.below (below_step (Below.refl _ _) hb4)
  replace hb4 := below_step hb3 hb4
  clear hb3 hl
  go_wp2_with fail
  refine (words_b _ [1, 2] _ [258] true (row_new w4 [.int .u8 1, .int .u8 2] 5 2 rfl (by decide)) (by decide) (by decide) (by decide)).mono ?_
  rintro e w5 ⟨vw, rfl, hw5, hb5⟩
  have hl5 := hl4.below (below_step (Below.refl _ _) hb5)
  replace hb5 := below_step hb4 hb5
  clear hb4 hl4
  go_wp2_with fail
  refine (words_b _ [1] _ [] false (row_new w5 [.int .u8 1] 5 1 rfl (by decide)) (by decide) (by decide) (by decide)).mono ?_
  rintro e w6 ⟨_, rfl, -, hb6⟩
  have hl6 := hl5.below (below_step (Below.refl _ _) hb6)
  have hw6 := hw5.below (below_step (Below.refl _ _) hb6)
  replace hb6 := below_step hb5 hb6
  clear hb5 hl5 hw5
  go_wp2_with fail
  refine (put_any _ [7] 66051 _ (by decide) (row_new w6 [.int .u8 7] 5 1 rfl (by decide)) (by decide)).mono ?_
  rintro e w7 ⟨v7, rfl, hr7, hb7⟩
  have hl7 := hl6.below (below_step (Below.refl _ _) hb7)
  have hw7 := hw6.below (below_step (Below.refl _ _) hb7)
  replace hb7 := below_step hb6 hb7
  clear hb6 hl6 hw6
  have hc7 := conv_row (P := Try.prog) hr7 24 9 5 Try.underlying24 Try.underlying5 Try.underlying9
  rw [show ([7] ++ [hiB (wOf 66051), loB (wOf 66051)] : List UInt8) = [7, 2, 3] by decide] at hc7
  go_wp2_with fail
  refine (pack_any _ [true, false, true] _ (row_new w7 [.bool true, .bool false, .bool true] 4 3 rfl (by decide)) (by decide)).mono ?_
  rintro e w8 ⟨v8, rfl, hr8, hb8⟩
  have hl8 := hl7.below (below_step (Below.refl _ _) hb8)
  have hw8 := hw7.below (below_step (Below.refl _ _) hb8)
  replace hb8 := below_step hb7 hb8
  clear hb7 hl7 hw7 hr7 hc7
  have hc8 := conv_row (P := Try.prog) hr8 24 9 5 Try.underlying24 Try.underlying5 Try.underlying9
  rw [show packL [true, false, true] = [5] by decide] at hc8
  go_wp2_with fail
  refine (same_bool _ _ [true, false, true] [true, false, true] _ (hl8.below ((Below.refl _ _).alloc (Nat.le_refl _) _)) (row_new w8 [.bool true, .bool false, .bool true] 4 3 rfl (by decide))).mono ?_
  rintro e w9 ⟨rfl, hb9⟩
  have hw9 := hw8.below (below_step (Below.refl _ _) hb9)
  replace hb9 := below_step hb8 hb9
  clear hb8 hl8 hw8 hr8 hc8
  obtain ⟨b, off, cap, rfl, cx⟩ := row_one hw9
  go_wp2_with fail
  refine (bytes_any _ [258] _ hw9 (by decide)).mono ?_
  rintro e w10 ⟨v10, rfl, hr10, hb10⟩
  have hc10 := conv_row (P := Try.prog) hr10 24 9 5 Try.underlying24 Try.underlying5 Try.underlying9
  rw [show bytesL [258] = [1, 2] by decide] at hc10
  go_wp2
  go_ret
  exact ⟨rfl, below_then hb9 hb10⟩

end Go.Proofs.Ytgoiokbeohbdnaa
