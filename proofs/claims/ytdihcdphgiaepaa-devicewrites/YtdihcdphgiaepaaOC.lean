/- Contracts of octet.Words, Pack. -/
import Derived.Test.YtdihcdphgiaepaaOB
import Derived.RegionTactic
import Derived.BigRegion
namespace Go.Proofs.Ytdihcdphgiaepaa
open Go.RowKit

/-- the words of b, none of an odd length -/
def wordsR (bs : List UInt8) : List UInt16 := if bs.length % 2 = 0 then wordsL bs else []

theorem words_step (bs : List UInt8) (k : Nat) (h : k < bs.length / 2) :
    (((wordsL bs).take k).map wV ++ List.replicate (bs.length / 2 - k) (Value.int .u16 0)).set k (wV (mkW (bs.getD (2 * k) 0) (bs.getD (2 * k + 1) 0))) =
      ((wordsL bs).take (k + 1)).map wV ++ List.replicate (bs.length / 2 - (k + 1)) (Value.int .u16 0) := by
  have hl := wordsL_len bs
  have e1 : (((wordsL bs).take k).map wV).length = k := by simp; omega
  have e2 : bs.length / 2 - k = (bs.length / 2 - (k + 1)) + 1 := by omega
  have e3 : (wordsL bs)[k]'(by omega) = mkW (bs.getD (2 * k) 0) (bs.getD (2 * k + 1) 0) := by
    simp only [wordsL_eq, List.getElem_map, List.getElem_range]
  rw [List.take_succ_eq_append_getElem (by omega), e3, e2, List.replicate_succ, List.set_append]
  rw [e1]
  simp

set_option maxHeartbeats 400000 in
theorem words_any (v : Value) (bs : List UInt8) (w : World) (hv : Row w v (bs.map bV)) (hr : bs.length ≤ 140737488351232) :
    Calls Try.prog 73 #[v] w fun e w' => ∃ v', e = .returned (.tuple #[v', .bool (bs.length % 2 == 0)]) ∧ Row w' v' ((wordsR bs).map wV) ∧ Below w.heap.size w w' ∧ NewV w.heap.size v' := by
  obtain ⟨a, cap, rfl, -⟩ := id hv
  obtain ⟨hl, hc, hm, -⟩ := hv.at
  simp only [List.length_map] at hl hc hv ⊢
  unfold wordsR
  by_cases hodd : bs.length % 2 = 0
  · rw [if_pos hodd, beq_iff_eq.2 hodd]
    have ht : ((bs.length : Int) % 2 != 0) = false := by simp; omega
    have HO : Hid (bs.length % 2 = 0) := hodd
    clear hodd
    have hmk := mk_zer 22 24 (.int .u16 0) 2 Try.underlying22 info_u16 rfl ((bs.length : Int) / 2) (bs.length / 2) (by omega) (by omega) (by omega)
    have hb0 : Below w.heap.size w (w.alloc (.cells (zer (bs.length / 2) (.int .u16 0)) 24)) := (Below.refl _ _).alloc (Nat.le_refl _) _
    have hg0 := zer_blk w (bs.length / 2) (.int .u16 0) 24
    go_enter Try.func73, Try.ntmps73
    go_wp2_with fail
    go_loopw [16] (fun i wr => ∃ k : Nat, k ≤ bs.length / 2 ∧ i = .int .i64 k ∧ Blk wr w.heap.size 24 (((wordsL bs).take k).map wV ++ List.replicate (bs.length / 2 - k) (.int .u16 0)) ∧ Below w.heap.size w wr) (fun i _ => bs.length / 2 - (intOf i).toNat)
    case atStart => exact ⟨0, Nat.zero_le _, rfl, by simpa using hg0, hb0⟩
    case round =>
      obtain ⟨k, hk, rfl, hg, hb⟩ := hrel
      clear hmk hb0 hg0
      by_cases hlt : k < bs.length / 2
      · obtain ⟨-, -, -, hcell⟩ := (hv.below hb).at
        obtain ⟨b, off, rfl, hcl⟩ := hcell (2 * k) 0 (by omega)
        have c0 := hcl (2 * k) (by omega)
        have c1 := hcl (2 * k + 1) (by omega)
        clear hcl hcell hv
        have S : Hid _ := words_step bs k hlt
        generalize bs.getD (2 * k) 0 = x at *
        generalize bs.getD (2 * k + 1) 0 = y at *
        obtain ⟨u, cu⟩ := hg.some k (by simp [wordsL_len]; omega)
        have fu := hg.frozen k
        have hlt' : (k : Int) < ((bs.length / 2 : Nat) : Int) := by omega
        go_wp2_with (go_at_call 89; refine (number_any b off _ _ _ (2 * k) x y _ (by omega) (by omega) (by unfold maxLen; omega) c0 c1).mono ?_; rintro e w' ⟨rfl, nq, rfl⟩)
        go_roundw
        case rel =>
          have hg4 := (hg.drewN nq).set k (wV (mkW x y))
          rw [S.out] at hg4
          refine ⟨k + 1, by omega, by go_num, hg4, ?_⟩
          exact (below_drewn hb nq).setCell (p := ⟨w.heap.size, k, none⟩) (Nat.le_refl _) _
        case measure => simp [intOf]; omega
      · have : k = bs.length / 2 := by omega
        subst this
        go_wp2
        go_ret2
        refine ⟨_, rfl, ?_, hb, NewV.some _ _ _ _ _ (Nat.le_refl _)⟩
        rw [List.take_of_length_le (by rw [wordsL_len]; omega), Nat.sub_self] at hg
        simp at hg
        have := hg.row (bs.length / 2) (by simp [wordsL_len]) (by unfold maxLen; omega)
        simpa [wordsL_len] using this
  · have hb : (bs.length % 2 == 0) = false := by simpa using hodd
    rw [if_neg hodd, hb]
    have ht : ((bs.length : Int) % 2 != 0) = true := by simp; omega
    clear hodd hb hv
    go_enter Try.func73, Try.ntmps73
    go_wp2
    go_ret2
    exact ⟨_, rfl, Row.nil _, Below.refl _ _, NewV.none _ _ _⟩

theorem pack_step (l : List Bool) (n k : Nat) (hk : k < l.length) (_hn : k / 8 < n) :
    ((List.range n).map fun j => bV (packB (l.take (k + 1)) j)) = if l[k] then ((List.range n).map fun j => bV (packB (l.take k) j)).set (k / 8) (.int .u8 (((packB (l.take k) (k / 8)).toNat ||| 2 ^ (k % 8) : Nat) : Int)) else ((List.range n).map fun j => bV (packB (l.take k) j)) := by
  apply List.ext_getElem
  · split <;> simp
  · intro i h1 h2
    have hs := packB_step l k i hk
    split
    · rename_i hx
      rw [List.getElem_set]
      simp only [List.getElem_map, List.getElem_range, bV, hs]
      by_cases hi : k / 8 = i
      · subst hi; simp [hx]
      · rw [if_neg hi, if_neg (by intro h; exact hi h.1.symm)]
    · rename_i hx
      simp only [List.getElem_map, List.getElem_range, bV, hs]
      rw [if_neg (by intro h; exact hx h.2)]

theorem or_bit (y : UInt8) (k : Nat) : bits BinOp.or IntKind.u8 (y.toNat : Int) ((2 : Int) ^ (k % 8) % 256) = ((y.toNat ||| 2 ^ (k % 8) : Nat) : Int) := by
  have h := pow8 (k % 8) (by omega)
  rw [h.1, u8_or_nat _ _ y.toNat_lt h.2]

set_option maxHeartbeats 400000 in
theorem pack_any (v : Value) (l : List Bool) (w : World) (hv : Row w v (l.map Value.bool)) (hr : l.length ≤ 140737488351232) :
    Calls Try.prog 62 #[v] w fun e w' => ∃ v', e = .returned v' ∧ Row w' v' ((packL l).map bV) ∧ Below w.heap.size w w' := by
  obtain ⟨a, cap, rfl, -⟩ := id hv
  obtain ⟨hl, hc, hm, -⟩ := hv.at
  simp only [List.length_map] at hl hc hv ⊢
  have hmk := mk_zer 28 5 (.int .u8 0) 1 Try.underlying28 info_u8 rfl (((l.length : Int) + 7) / 8) ((l.length + 7) / 8) (by omega) (by omega) (by omega)
  have hb0 : Below w.heap.size w (w.alloc (.cells (zer ((l.length + 7) / 8) (.int .u8 0)) 5)) := (Below.refl _ _).alloc (Nat.le_refl _) _
  have hg0 := zer_blk w ((l.length + 7) / 8) (.int .u8 0) 5
  go_enter Try.func62, Try.ntmps62
  go_wp2_with (go_at_call 84; refine (size_any _ _ (by omega) (by omega)).mono ?_; rintro e w' ⟨rfl, rfl⟩)
  go_loopw [12] (fun i wr => ∃ k : Nat, k ≤ l.length ∧ i = .int .i64 k ∧ Blk wr w.heap.size 5 ((List.range ((l.length + 7) / 8)).map fun j => bV (packB (l.take k) j)) ∧ Below w.heap.size w wr) (fun i _ => l.length - (intOf i).toNat)
  case atStart =>
    refine ⟨0, Nat.zero_le _, rfl, ?_, hb0⟩
    have e : ((List.range ((l.length + 7) / 8)).map fun j => bV (packB (l.take 0) j)) = List.replicate ((l.length + 7) / 8) (.int .u8 0) := by
      apply List.ext_getElem
      · simp
      · intro i h1 h2
        simp [bV, packB_nat, ofBits]
    rw [e]; exact hg0
  case round =>
    obtain ⟨k, hk, rfl, hg, hb⟩ := hrel
    clear hmk hb0 hg0
    by_cases hlt : k < l.length
    · obtain ⟨-, -, -, hcell⟩ := (hv.below hb).at
      obtain ⟨b, off, rfl, hcl⟩ := hcell k false hlt
      have c0 := hcl k hlt
      clear hcl hcell hv
      have S : Hid _ := pack_step l ((l.length + 7) / 8) k hlt (by omega)
      have ex : l.getD k false = l[k] := by simp [hlt]
      rw [ex] at c0
      clear ex
      generalize l[k] = x at *
      have hsz : (k / 8 : Nat) < ((List.range ((l.length + 7) / 8)).map fun j => bV (packB (l.take k) j)).length := by simp; omega
      have cu := hg.cell (k / 8)
      rw [List.getElem?_eq_getElem hsz] at cu
      simp only [List.getElem_map, List.getElem_range] at cu
      have fu := hg.frozen (k / 8)
      generalize packB (l.take k) (k / 8) = y at *
      have hy := y.toNat_lt
      have hlt' : (k : Int) / 8 < (((l.length + 7) / 8 : Nat) : Int) := by omega
      cases x
      · go_wp2
        go_roundw
        case rel =>
          have S' := S.out
          rw [if_neg (by simp)] at S'
          exact ⟨k + 1, by omega, by go_num, by rw [S']; exact hg, hb⟩
        case measure => simp [intOf]; omega
      · go_wp2
        go_region
        go_wp2
        go_roundw
        case rel =>
          have S' := S.out
          rw [if_pos trivial] at S'
          refine ⟨k + 1, by omega, by go_num, ?_, ?_⟩
          · rw [or_bit, S']
            exact (hg.set (k / 8) _).drew
          · exact (hb.setCell (p := ⟨w.heap.size, k / 8, none⟩) (Nat.le_refl _) _).drew
        case measure => simp [intOf]; omega
    · have : k = l.length := by omega
      subst this
      go_wp2
      go_ret
      refine ⟨_, rfl, ?_, hb⟩
      rw [List.take_length] at hg
      have e : ((List.range ((l.length + 7) / 8)).map fun j => bV (packB l j)) = (packL l).map bV := by simp [packL]
      rw [e] at hg
      have := hg.row ((l.length + 7) / 8) (by simp [packL_len]) (by unfold maxLen; omega)
      simpa [packL_len] using this

end Go.Proofs.Ytdihcdphgiaepaa
