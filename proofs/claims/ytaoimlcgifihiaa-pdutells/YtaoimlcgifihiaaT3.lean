/- The statements' own helper: known. -/
import Derived.Test.YtaoimlcgifihiaaS8b
namespace Go.Proofs.Ytaoimlcgifihiaa
open Go.RowKit

def kq1 : Rq := ⟨23, 3, 6, 14, 0, [], [255, 1], 0, 0⟩
def kq2 : Rq := ⟨5, 172, 0, 0, 0, [true], [], 0, 0⟩
def kb1 : List UInt8 := [23, 0, 3, 0, 6, 0, 14, 0, 2, 4, 0, 255, 0, 1]
def kb2 : List UInt8 := [5, 0, 172, 255, 0]
theorem k_r1 : rightE kq1 = 0 := by decide +kernel
theorem k_r2 : rightE kq2 = 0 := by decide +kernel
theorem k_b1 : bytesQ kq1 = kb1 := by decide +kernel
theorem k_b2 : bytesQ kq2 = kb2 := by decide +kernel
theorem k_is : isQ kb1 kq1 := ⟨k_r1, k_b1⟩
theorem k_e3 : readE [1, 0, 0, 0] = 12 := readE_form (by decide) (by decide +kernel) (noP (fun h => absurd h.2 (by decide +kernel)))
theorem k_q3 : readQ [1, 0, 0, 0] = zeroQ := readQ_no (noP (fun h => absurd h.2 (by decide +kernel)))
theorem k_e2 : readE [7] = 15 := readE_fn (by decide) (by decide +kernel)
theorem k_q2 : readQ [7] = zeroQ := readQ_fn (by decide +kernel)
theorem k_c1 : countsB kq1 = true := by decide +kernel
theorem k_c2 : countsB ⟨1, 0, 0, 0, 0, [], [], 0, 0⟩ = false := by decide +kernel
theorem k_c3 : countsB zeroQ = false := by decide +kernel
theorem k_r4 : rightE ⟨17, 1, 0, 0, 0, [], [], 0, 0⟩ = 12 := by decide +kernel
theorem row_bytes (w : World) (xs : List UInt8) (C : Array Value) (hC : C = (xs.map bV).toArray) (n : Nat) (hn : n = xs.length) (h : n ≤ 1000) (g : Nat) (hg : g = w.heap.size) : Row (w.alloc (.cells C 5)) (.slice (some ⟨g, 0, none⟩) n n) (xs.map bV) := by
  subst hC hg; exact row_new w (xs.map bV) 5 n (by simpa using hn) (by unfold maxLen; omega)

set_option maxRecDepth 100000 in
set_option maxHeartbeats 4000000 in
theorem known_law (w : World) : Calls Try.prog 14 #[] w fun e w' => e = .returned (.bool true) ∧ Below w.heap.size w w' := by
  have R0 := row_new w [wV 255, wV 1] 24 2 rfl (by decide)
  have B0 := ((Below.refl w.heap.size w).alloc (Nat.le_refl _) (.cells #[.int .u16 255, .int .u16 1] 24)).alloc (by simp) (.cells #[.int .i64 23, .int .i64 3, .int .i64 6, .int .i64 14, .int .i64 0, .slice none 0 0, .slice (some ⟨w.heap.size, 0, none⟩) 2 2, .int .u16 0, .int .u16 0] 26)
  have X1 := Box.new (w.alloc (.cells #[.int .u16 255, .int .u16 1] 24)) 23 3 6 14 0 (.slice none 0 0) (.slice (some ⟨w.heap.size, 0, none⟩) 2 2) 0 0 26
  have Q1 : IsRq ((w.alloc (.cells #[.int .u16 255, .int .u16 1] 24)).alloc (.cells #[.int .i64 23, .int .i64 3, .int .i64 6, .int .i64 14, .int .i64 0, .slice none 0 0, .slice (some ⟨w.heap.size, 0, none⟩) 2 2, .int .u16 0, .int .u16 0] 26)) (rqV 23 3 6 14 0 (.slice none 0 0) (.slice (some ⟨w.heap.size, 0, none⟩) 2 2) 0 0) kq1 :=
    ⟨_, _, rfl, Row.nil _, R0.below ((Below.refl _ _).alloc (Nat.le_refl _) _)⟩
  simp only [World.size_alloc] at X1
  have HX1 := hidden X1
  have HQ1 := hidden Q1
  clear X1 Q1 R0
  go_enter Try.func14, Try.ntmps14
  go_wp2_with fail
  refine (bytes_pdu _ kq1 _ HQ1.out).mono ?_
  rintro e w1 ⟨v1, rfl, hr1, B1⟩
  rw [k_r1]
  rw [bytesR_0 k_r1, k_b1] at hr1
  replace HX1 := hidden (HX1.out.ext B1)
  replace HQ1 := hidden (HQ1.out.below B1)
  replace B1 := below_then B0 B1
  clear B0
  go_wp2_with fail
  refine (read_pdu _ kb1 _ hr1).mono ?_
  rintro e w2 ⟨v2, rfl, q2, B2⟩
  rw [readE_is k_is]
  rw [readQ_is k_is] at q2
  replace hr1 := hr1.below B2
  replace HX1 := hidden (HX1.out.ext B2)
  replace HQ1 := hidden (HQ1.out.below B2)
  replace B2 := below_then B1 B2
  clear B1
  obtain ⟨ab, capb, av, capv, rfl, -, -⟩ := q2.slices
  have XR := hidden (Box.new w2 kq1.fn kq1.loc kq1.cnt kq1.wat kq1.sub (.slice ab kq1.bits.length capb) (.slice av kq1.vals.length capv) kq1.land kq1.lor 26)
  have QR := hidden (fun o => q2.below ((Below.refl w2.heap.size w2).alloc (Nat.le_refl _) o))
  have B3 := B2.alloc B2.size (.cells #[.int .i64 kq1.fn, .int .i64 kq1.loc, .int .i64 kq1.cnt, .int .i64 kq1.wat, .int .i64 kq1.sub, .slice ab kq1.bits.length capb, .slice av kq1.vals.length capv, .int .u16 kq1.land.toNat, .int .u16 kq1.lor.toNat] 26)
  have E3 := (Below.refl w2.heap.size w2).alloc (Nat.le_refl _) (.cells #[.int .i64 kq1.fn, .int .i64 kq1.loc, .int .i64 kq1.cnt, .int .i64 kq1.wat, .int .i64 kq1.sub, .slice ab kq1.bits.length capb, .slice av kq1.vals.length capv, .int .u16 kq1.land.toNat, .int .u16 kq1.lor.toNat] 26)
  replace hr1 := hr1.below E3
  replace HX1 := hidden (HX1.out.ext E3)
  replace HQ1 := hidden (HQ1.out.below E3)
  replace QR := hidden (QR.out (.cells #[.int .i64 kq1.fn, .int .i64 kq1.loc, .int .i64 kq1.cnt, .int .i64 kq1.wat, .int .i64 kq1.sub, .slice ab kq1.bits.length capb, .slice av kq1.vals.length capv, .int .u16 kq1.land.toNat, .int .u16 kq1.lor.toNat] 26))
  clear q2 B2 E3
  go_wp2_with fail
  refine (read_pdu _ [] _ (Row.nil _)).mono ?_
  rintro e c4 ⟨u4, rfl, q4, E4⟩
  rw [readE_short]
  rw [readQ_short] at q4
  replace hr1 := hr1.below E4
  replace HX1 := hidden (HX1.out.ext E4)
  replace HQ1 := hidden (HQ1.out.below E4)
  replace XR := hidden (XR.out.ext E4)
  replace QR := hidden (QR.out.below E4)
  replace B3 := below_then B3 E4
  obtain ⟨xb4, xcb4, xv4, xcv4, rfl, -, -⟩ := q4.slices
  clear q4 E4
  have F4 := (Below.refl c4.heap.size c4).alloc (Nat.le_refl _) (.cells #[.int .i64 zeroQ.fn, .int .i64 zeroQ.loc, .int .i64 zeroQ.cnt, .int .i64 zeroQ.wat, .int .i64 zeroQ.sub, .slice xb4 zeroQ.bits.length xcb4, .slice xv4 zeroQ.vals.length xcv4, .int .u16 zeroQ.land.toNat, .int .u16 zeroQ.lor.toNat] 26)
  replace hr1 := hr1.below F4
  replace HX1 := hidden (HX1.out.ext F4)
  replace HQ1 := hidden (HQ1.out.below F4)
  replace XR := hidden (XR.out.ext F4)
  replace QR := hidden (QR.out.below F4)
  replace B3 := below_then B3 F4
  clear F4
  go_wp2_with fail
  have G5 := (Below.refl (c4.alloc (.cells #[.int .i64 zeroQ.fn, .int .i64 zeroQ.loc, .int .i64 zeroQ.cnt, .int .i64 zeroQ.wat, .int .i64 zeroQ.sub, .slice xb4 zeroQ.bits.length xcb4, .slice xv4 zeroQ.vals.length xcv4, .int .u16 zeroQ.land.toNat, .int .u16 zeroQ.lor.toNat] 26)).heap.size (c4.alloc (.cells #[.int .i64 zeroQ.fn, .int .i64 zeroQ.loc, .int .i64 zeroQ.cnt, .int .i64 zeroQ.wat, .int .i64 zeroQ.sub, .slice xb4 zeroQ.bits.length xcb4, .slice xv4 zeroQ.vals.length xcv4, .int .u16 zeroQ.land.toNat, .int .u16 zeroQ.lor.toNat] 26))).alloc (Nat.le_refl _) (.cells #[.int .u8 7] 5)
  replace hr1 := hr1.below G5
  replace HX1 := hidden (HX1.out.ext G5)
  replace HQ1 := hidden (HQ1.out.below G5)
  replace XR := hidden (XR.out.ext G5)
  replace QR := hidden (QR.out.below G5)
  replace B3 := below_then B3 G5
  clear G5
  refine (read_pdu _ [7] _ (row_bytes (c4.alloc (.cells #[.int .i64 zeroQ.fn, .int .i64 zeroQ.loc, .int .i64 zeroQ.cnt, .int .i64 zeroQ.wat, .int .i64 zeroQ.sub, .slice xb4 zeroQ.bits.length xcb4, .slice xv4 zeroQ.vals.length xcv4, .int .u16 zeroQ.land.toNat, .int .u16 zeroQ.lor.toNat] 26)) [7] #[.int .u8 7] rfl 1 rfl (by decide) (c4.heap.size + 1) (by simp))).mono ?_
  rintro e c5 ⟨u5, rfl, q5, E5⟩
  rw [k_e2]
  rw [k_q2] at q5
  replace hr1 := hr1.below E5
  replace HX1 := hidden (HX1.out.ext E5)
  replace HQ1 := hidden (HQ1.out.below E5)
  replace XR := hidden (XR.out.ext E5)
  replace QR := hidden (QR.out.below E5)
  replace B3 := below_then B3 E5
  obtain ⟨xb5, xcb5, xv5, xcv5, rfl, -, -⟩ := q5.slices
  clear q5 E5
  have F5 := (Below.refl c5.heap.size c5).alloc (Nat.le_refl _) (.cells #[.int .i64 zeroQ.fn, .int .i64 zeroQ.loc, .int .i64 zeroQ.cnt, .int .i64 zeroQ.wat, .int .i64 zeroQ.sub, .slice xb5 zeroQ.bits.length xcb5, .slice xv5 zeroQ.vals.length xcv5, .int .u16 zeroQ.land.toNat, .int .u16 zeroQ.lor.toNat] 26)
  replace hr1 := hr1.below F5
  replace HX1 := hidden (HX1.out.ext F5)
  replace HQ1 := hidden (HQ1.out.below F5)
  replace XR := hidden (XR.out.ext F5)
  replace QR := hidden (QR.out.below F5)
  replace B3 := below_then B3 F5
  clear F5
  go_wp2_with fail
  have G6 := (Below.refl (c5.alloc (.cells #[.int .i64 zeroQ.fn, .int .i64 zeroQ.loc, .int .i64 zeroQ.cnt, .int .i64 zeroQ.wat, .int .i64 zeroQ.sub, .slice xb5 zeroQ.bits.length xcb5, .slice xv5 zeroQ.vals.length xcv5, .int .u16 zeroQ.land.toNat, .int .u16 zeroQ.lor.toNat] 26)).heap.size (c5.alloc (.cells #[.int .i64 zeroQ.fn, .int .i64 zeroQ.loc, .int .i64 zeroQ.cnt, .int .i64 zeroQ.wat, .int .i64 zeroQ.sub, .slice xb5 zeroQ.bits.length xcb5, .slice xv5 zeroQ.vals.length xcv5, .int .u16 zeroQ.land.toNat, .int .u16 zeroQ.lor.toNat] 26))).alloc (Nat.le_refl _) (.cells #[.int .u8 1, .int .u8 0, .int .u8 0, .int .u8 0] 5)
  replace hr1 := hr1.below G6
  replace HX1 := hidden (HX1.out.ext G6)
  replace HQ1 := hidden (HQ1.out.below G6)
  replace XR := hidden (XR.out.ext G6)
  replace QR := hidden (QR.out.below G6)
  replace B3 := below_then B3 G6
  clear G6
  refine (read_pdu _ [1, 0, 0, 0] _ (row_bytes (c5.alloc (.cells #[.int .i64 zeroQ.fn, .int .i64 zeroQ.loc, .int .i64 zeroQ.cnt, .int .i64 zeroQ.wat, .int .i64 zeroQ.sub, .slice xb5 zeroQ.bits.length xcb5, .slice xv5 zeroQ.vals.length xcv5, .int .u16 zeroQ.land.toNat, .int .u16 zeroQ.lor.toNat] 26)) [1, 0, 0, 0] #[.int .u8 1, .int .u8 0, .int .u8 0, .int .u8 0] rfl 4 rfl (by decide) (c5.heap.size + 1) (by simp))).mono ?_
  rintro e c6 ⟨u6, rfl, q6, E6⟩
  rw [k_e3]
  rw [k_q3] at q6
  replace hr1 := hr1.below E6
  replace HX1 := hidden (HX1.out.ext E6)
  replace HQ1 := hidden (HQ1.out.below E6)
  replace XR := hidden (XR.out.ext E6)
  replace QR := hidden (QR.out.below E6)
  replace B3 := below_then B3 E6
  obtain ⟨xb6, xcb6, xv6, xcv6, rfl, -, -⟩ := q6.slices
  clear q6 E6
  have F6 := (Below.refl c6.heap.size c6).alloc (Nat.le_refl _) (.cells #[.int .i64 zeroQ.fn, .int .i64 zeroQ.loc, .int .i64 zeroQ.cnt, .int .i64 zeroQ.wat, .int .i64 zeroQ.sub, .slice xb6 zeroQ.bits.length xcb6, .slice xv6 zeroQ.vals.length xcv6, .int .u16 zeroQ.land.toNat, .int .u16 zeroQ.lor.toNat] 26)
  replace hr1 := hr1.below F6
  replace HX1 := hidden (HX1.out.ext F6)
  replace HQ1 := hidden (HQ1.out.below F6)
  replace XR := hidden (XR.out.ext F6)
  replace QR := hidden (QR.out.below F6)
  replace B3 := below_then B3 F6
  clear F6
  go_wp2_with fail
  have G7 := (Below.refl (c6.alloc (.cells #[.int .i64 zeroQ.fn, .int .i64 zeroQ.loc, .int .i64 zeroQ.cnt, .int .i64 zeroQ.wat, .int .i64 zeroQ.sub, .slice xb6 zeroQ.bits.length xcb6, .slice xv6 zeroQ.vals.length xcv6, .int .u16 zeroQ.land.toNat, .int .u16 zeroQ.lor.toNat] 26)).heap.size (c6.alloc (.cells #[.int .i64 zeroQ.fn, .int .i64 zeroQ.loc, .int .i64 zeroQ.cnt, .int .i64 zeroQ.wat, .int .i64 zeroQ.sub, .slice xb6 zeroQ.bits.length xcb6, .slice xv6 zeroQ.vals.length xcv6, .int .u16 zeroQ.land.toNat, .int .u16 zeroQ.lor.toNat] 26))).alloc (Nat.le_refl _) (.cells #[.bool true] 4)
  replace hr1 := hr1.below G7
  replace HX1 := hidden (HX1.out.ext G7)
  replace HQ1 := hidden (HQ1.out.below G7)
  replace XR := hidden (XR.out.ext G7)
  replace QR := hidden (QR.out.below G7)
  replace B3 := below_then B3 G7
  clear G7
  refine (bytes_pdu _ kq2 _ ⟨_, _, rfl, row_one_b (c6.alloc (.cells #[.int .i64 zeroQ.fn, .int .i64 zeroQ.loc, .int .i64 zeroQ.cnt, .int .i64 zeroQ.wat, .int .i64 zeroQ.sub, .slice xb6 zeroQ.bits.length xcb6, .slice xv6 zeroQ.vals.length xcv6, .int .u16 zeroQ.land.toNat, .int .u16 zeroQ.lor.toNat] 26)) true (c6.heap.size + 1) (by simp), Row.nil _⟩).mono ?_
  rintro e c7 ⟨v7, rfl, hr7, E7⟩
  rw [k_r2]
  rw [bytesR_0 k_r2, k_b2] at hr7
  replace hr1 := hr1.below E7
  replace HX1 := hidden (HX1.out.ext E7)
  replace HQ1 := hidden (HQ1.out.below E7)
  replace XR := hidden (XR.out.ext E7)
  replace QR := hidden (QR.out.below E7)
  replace B3 := below_then B3 E7
  clear E7
  have hc1 := conv_row (P := Try.prog) hr1 34 9 5 Try.underlying34 Try.underlying5 Try.underlying9
  have s1 : ((⟨kb1.toArray⟩ : ByteArray) == ⟨#[23, 0, 3, 0, 6, 0, 14, 0, 2, 4, 0, 255, 0, 1]⟩) = true := by decide +kernel
  obtain ⟨lt1, x0, x1, x2, x3, x4, x5, x6, x7, x8⟩ := HX1.out
  obtain ⟨lt2, y0, y1, y2, y3, y4, y5, y6, y7, y8⟩ := XR.out
  go_wp2_with fail
  clear lt1 x0 x1 x2 x3 x4 x5 x6 x7 x8 lt2 y0 y1 y2 y3 y4 y5 y6 y7 y8 hc1 s1
  refine (rsame_any _ _ kq1 kq1 _ HQ1.out QR.out).mono ?_
  rintro e c8 ⟨rfl, E8⟩
  rw [show decide (kq1 = kq1) = true by simp]
  replace hr7 := hr7.below E8
  replace HX1 := hidden (HX1.out.ext E8)
  replace HQ1 := hidden (HQ1.out.below E8)
  replace B3 := below_then B3 E8
  clear E8 XR QR hr1
  have hc7 := conv_row (P := Try.prog) hr7 34 9 5 Try.underlying34 Try.underlying5 Try.underlying9
  have s7 : ((⟨kb2.toArray⟩ : ByteArray) == ⟨#[5, 0, 172, 255, 0]⟩) = true := by decide +kernel
  obtain ⟨lt1, x0, x1, x2, x3, x4, x5, x6, x7, x8⟩ := HX1.out
  go_wp2_with fail
  clear lt1 x0 x1 x2 x3 x4 x5 x6 x7 x8 hc7 s7
  refine (counts_pdu _ kq1 _ HQ1.out).mono ?_
  rintro e c9 ⟨rfl, E9⟩
  rw [k_c1]
  replace B3 := below_then B3 E9
  clear E9 HX1 HQ1 hr7
  go_wp2_with fail
  refine (counts_pdu _ ⟨1, 0, 0, 0, 0, [], [], 0, 0⟩ _ ⟨_, _, rfl, Row.nil _, Row.nil _⟩).mono ?_
  rintro e c10 ⟨rfl, E10⟩
  rw [k_c2]
  replace B3 := below_then B3 E10
  clear E10
  go_wp2_with fail
  refine (counts_pdu _ zeroQ _ (zero_is _)).mono ?_
  rintro e c11 ⟨rfl, E11⟩
  rw [k_c3]
  replace B3 := below_then B3 E11
  clear E11
  go_wp2_with fail
  refine (right_pdu _ ⟨17, 1, 0, 0, 0, [], [], 0, 0⟩ _ ⟨_, _, rfl, Row.nil _, Row.nil _⟩).mono ?_
  rintro e c12 ⟨rfl, E12⟩
  rw [k_r4]
  replace B3 := below_then B3 E12
  clear E12
  go_wp2
  go_ret
  exact ⟨rfl, B3⟩

end Go.Proofs.Ytaoimlcgifihiaa
