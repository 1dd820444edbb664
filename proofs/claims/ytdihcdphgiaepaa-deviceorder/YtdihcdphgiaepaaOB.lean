/- Contracts of octet.Put, Bytes, Words. -/
import Derived.Test.YtdihcdphgiaepaaOA
namespace Go.Proofs.Ytdihcdphgiaepaa
open Go.RowKit

theorem info_u16 : (Try.prog.info? 24).map (fun i => (i.zero, i.size, i.bytes)) = some (some (.int .u16 0), 1, 2) := by kernel_rfl
set_option maxHeartbeats 400000 in
theorem put_any (v : Value) (bs : List UInt8) (n : Int) (w : World) (_hn : -9223372036854775808 ≤ n ∧ n ≤ 9223372036854775807) (hv : Row w v (bs.map bV)) (hr : bs.length ≤ 140737488351232) :
    Calls Try.prog 64 #[v, .int .i64 n] w fun e w' => ∃ v', e = .returned v' ∧ Row w' v' ((bs ++ [hiB (wOf n), loB (wOf n)]).map bV) ∧ Below w.heap.size w w' := by
  obtain ⟨a, cap, rfl, -⟩ := id hv
  obtain ⟨hl, hc, hm, -⟩ := hv.at
  simp only [List.length_map] at hl hc hv ⊢
  have hmk := mk_zer 28 5 (.int .u8 0) 1 Try.underlying28 info_u8 rfl ((bs.length : Int) + 2) (bs.length + 2) (by omega) (by omega) (by omega)
  have hb0 : Below w.heap.size w (w.alloc (.cells (zer (bs.length + 2) (.int .u8 0)) 5)) := (Below.refl _ _).alloc (Nat.le_refl _) _
  have hg0 := zer_blk w (bs.length + 2) (.int .u8 0) 5
  obtain ⟨w1, hrun, hg1, hb1⟩ := copy_run (P := Try.prog) hb0 28 28 3 5 Try.underlying28 (by kernel_rfl) w.heap.size 0 (bs.length + 2) (bs.length + 2) a bs.length cap _ _ hg0 (Nat.le_refl _) (bs.map bV) (hv.below hb0) (one_bytes bs) (by simp)
  have hg3 : Blk w1 w.heap.size 5 (bs.map bV ++ [.int .u8 0, .int .u8 0]) := by
    have e : splice (List.replicate (bs.length + 2) (Value.int .u8 0)) 0 ((bs.map bV).take (bs.length + 2)) = bs.map bV ++ [.int .u8 0, .int .u8 0] := by
      rw [List.take_of_length_le (by simp)]
      simp [splice, List.drop_replicate]
    rw [← e]; exact hg1
  clear hg1 hg0 hb0 hv
  go_enter Try.func64, Try.ntmps64
  go_wp2_with fail
  refine (lay_blk w.heap.size (bs.length + 2) (bs.length + 2) _ _ bs.length (wOf n) w1 _ _ hg3 (by simp) rfl (by rw [wOf_nat, IntKind.wrap_u16]) (by omega) (by unfold maxLen; omega)).mono ?_
  rintro e w2 ⟨rfl, hg4, hb4⟩
  go_wp2
  go_ret
  have e2 : ((bs.map bV ++ [Value.int .u8 0, .int .u8 0]).set bs.length (bV (hiB (wOf n)))).set (bs.length + 1) (bV (loB (wOf n))) = (bs ++ [hiB (wOf n), loB (wOf n)]).map bV := by
    simp
  rw [e2] at hg4
  refine ⟨_, rfl, ?_, ?_⟩
  · have := hg4.row (bs.length + 2) (by simp) (by unfold maxLen; omega)
    simpa using this
  · exact hb1.trans hb4

theorem bytes_step (l : List UInt16) (k : Nat) (h : k < l.length) :
    (((bytesL (l.take k)).map bV ++ List.replicate (2 * (l.length - k)) (Value.int .u8 0)).set (2 * k) (bV (hiB (l.getD k 0)))).set (2 * k + 1) (bV (loB (l.getD k 0))) =
      (bytesL (l.take (k + 1))).map bV ++ List.replicate (2 * (l.length - (k + 1))) (Value.int .u8 0) := by
  have e1 : (bytesL (l.take k)).length = 2 * k := by rw [bytesL_len, List.length_take]; omega
  have e2 : 2 * (l.length - k) = 2 * (l.length - (k + 1)) + 1 + 1 := by omega
  rw [bytesL_take_succ l k h, e2, List.replicate_succ, List.replicate_succ]
  have e3 : l.getD k 0 = l[k] := by simp [h]
  rw [e3]
  simp [e1]

set_option maxHeartbeats 400000 in
theorem bytes_any (v : Value) (l : List UInt16) (w : World) (hv : Row w v (l.map wV)) (hr : l.length * 2 ≤ 140737488351232) :
    Calls Try.prog 63 #[v] w fun e w' => ∃ v', e = .returned v' ∧ Row w' v' ((bytesL l).map bV) ∧ Below w.heap.size w w' := by
  obtain ⟨a, cap, rfl, -⟩ := id hv
  obtain ⟨hl, hc, hm, -⟩ := hv.at
  simp only [List.length_map] at hl hc hv ⊢
  have hmk := mk_zer 28 5 (.int .u8 0) 1 Try.underlying28 info_u8 rfl (2 * (l.length : Int)) (2 * l.length) (by omega) (by omega) (by omega)
  have hb0 : Below w.heap.size w (w.alloc (.cells (zer (2 * l.length) (.int .u8 0)) 5)) := (Below.refl _ _).alloc (Nat.le_refl _) _
  have hg0 := zer_blk w (2 * l.length) (.int .u8 0) 5
  go_enter Try.func63, Try.ntmps63
  go_wp2_with fail
  go_loopw [12] (fun i wr => ∃ k : Nat, k ≤ l.length ∧ i = .int .i64 k ∧ Blk wr w.heap.size 5 ((bytesL (l.take k)).map bV ++ List.replicate (2 * (l.length - k)) (.int .u8 0)) ∧ Below w.heap.size w wr) (fun i _ => l.length - (intOf i).toNat)
  case atStart => exact ⟨0, Nat.zero_le _, rfl, by simpa [bytesL] using hg0, hb0⟩
  case round =>
    obtain ⟨k, hk, rfl, hg, hb⟩ := hrel
    clear hmk hb0 hg0
    by_cases hlt : k < l.length
    · obtain ⟨-, -, -, hcell⟩ := (hv.below hb).at
      obtain ⟨b, off, rfl, hcl⟩ := hcell k 0 hlt
      have cx := hcl k hlt
      clear hcl hcell hv
      have S : Hid _ := bytes_step l k hlt
      generalize l.getD k 0 = x at *
      go_wp2_with fail
      refine (lay_blk w.heap.size (2 * l.length) (2 * l.length) _ _ (2 * k) x wr _ _ hg (by simp [bytesL_len]; omega) (by omega) rfl (by omega) (by unfold maxLen; omega)).mono ?_
      rintro e w2 ⟨rfl, hg4, hb4⟩
      rw [S.out] at hg4
      clear S hg
      go_wp2
      go_roundw
      case rel => exact ⟨k + 1, by omega, by go_num, hg4, hb.trans hb4⟩
      case measure => simp [intOf]; omega
    · have : k = l.length := by omega
      subst this
      go_wp2
      go_ret
      simp at hg
      refine ⟨_, rfl, ?_, hb⟩
      have := hg.row (2 * l.length) (by simp [bytesL_len]) (by unfold maxLen; omega)
      simpa [bytesL_len] using this

end Go.Proofs.Ytdihcdphgiaepaa
