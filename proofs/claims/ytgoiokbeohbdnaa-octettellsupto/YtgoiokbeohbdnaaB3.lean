/- OctetTells: numbers, bits, words are laid out as the document says. The walk. -/
import Derived.Test.YtgoiokbeohbdnaaL1
import Derived.Test.YtgoiokbeohbdnaaL2
namespace Go.Proofs.Ytgoiokbeohbdnaa
open Go.RowKit

set_option maxHeartbeats 2000000 in
theorem tells_walk (v vl vw : Value) (bs : List UInt8) (n at' : Int) (l : List Bool) (ws : List UInt16) (w : World) (hn : -9223372036854775808 ≤ n ∧ n ≤ 9223372036854775807) (ha : -9223372036854775808 ≤ at' ∧ at' ≤ 9223372036854775807)
    (hv : Row w v (bs.map bV)) (hl : Row w vl (l.map Value.bool)) (hw : Row w vw (ws.map wV)) (r1 : bs.length ≤ 1048576) (r2 : l.length ≤ 1048576) (r3 : ws.length ≤ 1048576) :
    Calls Try.prog 4 #[v, .int .i64 n, .int .i64 at', vl, vw] w fun e w' => e = .returned (.bool true) ∧ Below w.heap.size w w' := by
  obtain ⟨a, cap, rfl, -⟩ := id hv
  obtain ⟨a2, cap2, rfl, -⟩ := id hl
  simp only [List.length_map] at hv hl ⊢
  have m7 : bits BinOp.and IntKind.i64 n 7 = n % 8 := by simpa using i64_and_mask n 3 (by decide)
  have m15 : bits BinOp.and IntKind.i64 at' 15 = at' % 16 := by simpa using i64_and_mask at' 4 (by decide)
  go_enter Try.func4, Try.ntmps4
  go_wp2_with fail
  refine (same_any _ _ _ bs n at' l ws _ hn ha hv hl hw (by omega) (by omega) (by omega)).mono ?_
  rintro e w1 ⟨rfl, hb1⟩
  go_wp2_with fail
  refine (same_any _ _ _ bs _ _ l ws _ ?_ ?_ (hv.below hb1) (hl.below hb1) (hw.below hb1) (by omega) (by omega) (by omega)).mono ?_
  · omega
  · omega
  rintro e w2 ⟨rfl, hb2⟩
  replace hb2 := below_then hb1 hb2
  clear hb1
  go_wp2_with fail
  refine (rpack_any _ l _ (hl.below hb2) (by omega)).mono ?_
  rintro e w3 ⟨v3, rfl, hr3, hb3⟩
  replace hb3 := below_then hb2 hb3
  clear hb2
  go_wp2_with fail
  refine (same_any _ _ _ (packL l) _ _ l ws _ (by omega) (by omega) hr3 (hl.below hb3) (hw.below hb3) (by rw [packL_len]; omega) (by omega) (by omega)).mono ?_
  rintro e w4 ⟨rfl, hb4⟩
  replace hb4 := below_then hb3 hb4
  clear hb3
  go_wp2_with fail
  refine (known_any _).mono ?_
  rintro e w5 ⟨rfl, hb5⟩
  go_wp2
  go_ret
  exact ⟨rfl, below_then hb4 hb5⟩

end Go.Proofs.Ytgoiokbeohbdnaa
