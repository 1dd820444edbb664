/- Contracts of reply's small functions. -/
import Derived.Test.YtdihcdphgiaepaaA0
import Derived.Test.YtdihcdphgiaepaaS4
import Derived.Test.YtdihcdphgiaepaaS5
import Derived.Test.YtdihcdphgiaepaaS7
namespace Go.Proofs.Ytdihcdphgiaepaa
open Go.RowKit

abbrev rpV (f k a c s : Int) (vb vv : Value) (m o : UInt16) (vd : Value) : Value := .agg #[.int .i64 f, .int .i64 k, .int .i64 a, .int .i64 c, .int .i64 s, vb, vv, wV m, wV o, vd]
/-- v is the reply r -/
def IsRp (w : World) (v : Value) (r : Rp) : Prop := ∃ vb vv vd, v = rpV r.fn r.code r.loc r.cnt r.sub vb vv r.land r.lor vd ∧ Row w vb (r.bits.map Value.bool) ∧ Row w vv (r.vals.map wV) ∧ Row w vd (r.data.map bV)
theorem IsRp.below {w w' : World} {v : Value} {r : Rp} (h : IsRp w v r) (hb : Below w.heap.size w w') : IsRp w' v r := by
  obtain ⟨vb, vv, vd, rfl, h1, h2, h3⟩ := h
  exact ⟨vb, vv, vd, rfl, h1.below hb, h2.below hb, h3.below hb⟩
theorem zero_rp (w : World) : IsRp w (rpV 0 0 0 0 0 (.slice none 0 0) (.slice none 0 0) 0 0 (.slice none 0 0)) zeroP := ⟨_, _, _, rfl, Row.nil w, Row.nil w, Row.nil w⟩
theorem ref_rp (w : World) (f k : Int) : IsRp w (rpV f k 0 0 0 (.slice none 0 0) (.slice none 0 0) 0 0 (.slice none 0 0)) (refP f k) := ⟨_, _, _, rfl, Row.nil w, Row.nil w, Row.nil w⟩
theorem IsRp.slices {w : World} {v : Value} {q : Rp} (h : IsRp w v q) : ∃ ab capb av capv ad capd, v = rpV q.fn q.code q.loc q.cnt q.sub (.slice ab q.bits.length capb) (.slice av q.vals.length capv) q.land q.lor (.slice ad q.data.length capd) ∧ q.bits.length ≤ 9223372036854775807 ∧ q.vals.length ≤ 9223372036854775807 ∧ q.data.length ≤ 9223372036854775807 := by
  obtain ⟨vb, vv, vd, rfl, hb, hv, hd⟩ := h
  obtain ⟨ab, capb, rfl, h1, h2, -⟩ := hb
  obtain ⟨av, capv, rfl, h3, h4, -⟩ := hv
  obtain ⟨ad, capd, rfl, h5, h6, -⟩ := hd
  simp only [List.length_map] at h1 h3 h5 ⊢
  unfold maxLen at h2 h4 h6
  exact ⟨ab, capb, av, capv, ad, capd, rfl, by omega, by omega, by omega⟩

theorem number_rep (n : Int) (w : World) : Calls Try.prog 81 #[.int .i64 n] w fun e w' => e = .returned (.bool (numB n)) ∧ w = w' := by
  by_cases h1 : 0 ≤ n
  · by_cases h2 : n ≤ 65535
    · have hb : numB n = true := by simp [numB]; omega
      rw [hb]
      go_enter Try.func81, Try.ntmps81
      go_wp2
      go_ret
      exact ⟨rfl, rfl⟩
    · have hb : numB n = false := by simp [numB]; omega
      rw [hb]
      go_enter Try.func81, Try.ntmps81
      go_wp2
      go_ret
      exact ⟨rfl, rfl⟩
  · have hb : numB n = false := by simp [numB]; omega
    rw [hb]
    go_enter Try.func81, Try.ntmps81
    go_wp2
    go_ret
    exact ⟨rfl, rfl⟩

set_option maxHeartbeats 1000000 in
/-- counted: a row, how many bytes follow, and these -/
theorem counted_rep (u v : Value) (xs ys : List UInt8) (w : World) (hu : Row w u (xs.map bV)) (hv : Row w v (ys.map bV)) (h1 : xs.length ≤ 100000) (h2 : ys.length ≤ 100000) :
    Calls Try.prog 61 #[u, v] w fun e w' => ∃ v', e = .returned v' ∧ Row w' v' ((xs ++ cntL ys).map bV) ∧ Below w.heap.size w w' := by
  obtain ⟨a, cap, rfl, -⟩ := id hu
  obtain ⟨a2, cap2, rfl, -⟩ := id hv
  simp only [List.length_map] at hu hv ⊢
  have W0 := hidden (fun o1 o2 => ((Below.refl w.heap.size w).alloc (Nat.le_refl _) o1).alloc (by simp) o2)
  have ef : flatTo [xs, [UInt8.ofNat ys.length], ys] 3 = xs ++ cntL ys := by simp [flatTo, cntL]
  have EF := hidden ef
  clear ef
  have e8 : ((UInt8.ofNat ys.length).toNat : Int) = (ys.length : Int) % 256 := by rw [UInt8.toNat_ofNat']; omega
  have E8 := hidden e8
  clear e8
  have R1 := hidden (row_new w [.int .u8 ((ys.length : Int) % 256)] 5 1 rfl (by decide))
  go_enter Try.func61, Try.ntmps61
  go_wp2_with fail
  have C := concat_any (w.heap.size + 1) [.slice a xs.length cap, .slice (some ⟨w.heap.size, 0, none⟩) 1 1, .slice a2 ys.length cap2] [xs, [UInt8.ofNat ys.length], ys]
    ((w.alloc (.cells #[.int .u8 ((ys.length : Int) % 256)] 5)).alloc (.cells #[.slice a xs.length cap, .slice (some ⟨w.heap.size, 0, none⟩) 1 1, .slice a2 ys.length cap2] 28)) (by simpa using Blk.new (w.alloc (.cells #[.int .u8 ((ys.length : Int) % 256)] 5)) 28 [.slice a xs.length cap, .slice (some ⟨w.heap.size, 0, none⟩) 1 1, .slice a2 ys.length cap2]) rfl ?q1 ?q2 ?q3 (by simp)
  case q1 =>
    intro i hi
    match i, hi with
    | 0, _ => exact ⟨_, rfl, hu.below (W0.out _ _)⟩
    | 1, _ =>
      refine ⟨_, rfl, ?_⟩
      have : ([UInt8.ofNat ys.length].map bV) = [.int .u8 ((ys.length : Int) % 256)] := by simp only [List.map_cons, List.map_nil, bV, E8.out]
      show Row _ _ ([UInt8.ofNat ys.length].map bV)
      rw [this]
      exact R1.out.below ((Below.refl _ _).alloc (Nat.le_refl _) _)
    | 2, _ => exact ⟨_, rfl, hv.below (W0.out _ _)⟩
  case q2 => rw [show [xs, [UInt8.ofNat ys.length], ys].length = 3 from rfl, EF.out]; simp [cntL]; omega
  case q3 => rw [show [xs, [UInt8.ofNat ys.length], ys].length = 3 from rfl, EF.out]; simp [cntL]; omega
  refine C.mono ?_
  rintro e w2 ⟨v2, rfl, hr2, B2⟩
  rw [show [xs, [UInt8.ofNat ys.length], ys].length = 3 from rfl, EF.out] at hr2
  replace B2 := below_then (W0.out _ _) B2
  go_wp2
  go_ret
  exact ⟨_, rfl, hr2, B2⟩

theorem and127 (n : Int) : bits BinOp.and IntKind.i64 n 127 = n % 128 := by simpa using i64_and_mask n 7 (by decide)
theorem and255 (n : Int) : bits BinOp.and IntKind.i64 n 255 = n % 256 := by simpa using i64_and_mask n 8 (by decide)

set_option maxHeartbeats 400000 in
theorem refuse_rep (f k : Int) (w : World) : Calls Try.prog 28 #[.int .i64 f, .int .i64 k] w fun e w' => e = .returned (rpV (f % 128) (k % 256) 0 0 0 (.slice none 0 0) (.slice none 0 0) 0 0 (.slice none 0 0)) ∧ Below w.heap.size w w' := by
  have a1 := and127 f
  have a2 := and255 k
  go_enter Try.func28, Try.ntmps28
  go_wp2
  refine bodyPost_ret (v := _) (by simp [results, Try.results28, go_sem]; with_reducible rfl) rfl ?_
  exact ⟨rfl, (Below.refl _ _).alloc (Nat.le_refl _) _⟩

end Go.Proofs.Ytdihcdphgiaepaa
