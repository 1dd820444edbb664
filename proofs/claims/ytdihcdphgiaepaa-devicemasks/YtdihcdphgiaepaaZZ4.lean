/- Contracts of octet.blank, Open. -/
import Derived.RegionTactic
import Derived.BigRegion
import Derived.Test.YtdihcdphgiaepaaZZ3
namespace Go.Proofs.Ytdihcdphgiaepaa
open Go.RowKit
def wordsR (bs : List UInt8) : List UInt16 := if bs.length % 2 = 0 then wordsL bs else []
theorem words_step (bs : List UInt8) (k : Nat) (h : k < bs.length / 2) :
  (((wordsL bs).take k).map wV ++ List.replicate (bs.length / 2 - k) (Value.int .u16 0)).set k (wV (mkW (bs.getD (2 * k) 0) (bs.getD (2 * k + 1) 0))) =
   ((wordsL bs).take (k + 1)).map wV ++ List.replicate (bs.length / 2 - (k + 1)) (Value.int .u16 0) := by
 have hl := wordsL_len bs
 have e1 : (((wordsL bs).take k).map wV).length = k := by simp; omega
 have e2 : bs.length / 2 - k = (bs.length / 2 - (k + 1)) + 1 := by omega
 have e3 : (wordsL bs)[k]'(by omega) = mkW (bs.getD (2 * k) 0) (bs.getD (2 * k + 1) 0) := by
  simp only [wordsL_eq, List.getElem_map, List.getElem_range]
 rw [List.take_succ_eq_append_getElem (by omega), e3, e2, List.replicate_succ, List.set_append]
 rw [e1]
 simp
set_option maxHeartbeats 400000 in
theorem words_any (v : Value) (bs : List UInt8) (w : World) (hv : Row w v (bs.map bV)) (hr : bs.length ≤ 140737488351232) :
  Calls Try.prog 73 #[v] w fun e w' => ∃ v', e = .returned (.tuple #[v', .bool (bs.length % 2 == 0)]) ∧ Row w' v' ((wordsR bs).map wV) ∧ Below w.heap.size w w' ∧ NewV w.heap.size v' := by
 obtain ⟨a, cap, rfl, -⟩ := id hv
 obtain ⟨hl, hc, hm, -⟩ := hv.at
 simp only [List.length_map] at hl hc hv ⊢
 unfold wordsR
 by_cases hodd : bs.length % 2 = 0
 ·
  rw [if_pos hodd, beq_iff_eq.2 hodd]
  have ht : ((bs.length : Int) % 2 != 0) = false := by simp; omega
  have HO : Hid (bs.length % 2 = 0) := hodd
  clear hodd
  have hmk := mk_zer 22 24 (.int .u16 0) 2 Try.underlying22 info_u16 rfl ((bs.length : Int) / 2) (bs.length / 2) (by omega) (by omega) (by omega)
  have hb0 : Below w.heap.size w (w.alloc (.cells (zer (bs.length / 2) (.int .u16 0)) 24)) := (Below.refl _ _).alloc (Nat.le_refl _) _
  have hg0 := zer_blk w (bs.length / 2) (.int .u16 0) 24
  go_enter Try.func73, Try.ntmps73
  go_wp2_with fail
  go_loopw [16] (fun i wr => ∃ k : Nat, k ≤ bs.length / 2 ∧ i = .int .i64 k ∧ Blk wr w.heap.size 24 (((wordsL bs).take k).map wV ++ List.replicate (bs.length / 2 - k) (.int .u16 0)) ∧ Below w.heap.size w wr) (fun i _ => bs.length / 2 - (intOf i).toNat)
  case atStart => exact ⟨0, Nat.zero_le _, rfl, by simpa using hg0, hb0⟩
  case round =>
   obtain ⟨k, hk, rfl, hg, hb⟩ := hrel
   clear hmk hb0 hg0
   by_cases hlt : k < bs.length / 2
   ·
    obtain ⟨-, -, -, hcell⟩ := (hv.below hb).at
    obtain ⟨b, off, rfl, hcl⟩ := hcell (2 * k) 0 (by omega)
    have c0 := hcl (2 * k) (by omega)
    have c1 := hcl (2 * k + 1) (by omega)
    clear hcl hcell hv
    have S : Hid _ := words_step bs k hlt
    generalize bs.getD (2 * k) 0 = x at *
    generalize bs.getD (2 * k + 1) 0 = y at *
    obtain ⟨u, cu⟩ := hg.some k (by simp [wordsL_len]; omega)
    have fu := hg.frozen k
    have hlt' : (k : Int) < ((bs.length / 2 : Nat) : Int) := by omega
    go_wp2_with (go_at_call 89; refine (number_any b off _ _ _ (2 * k) x y _ (by omega) (by omega) (by unfold maxLen; omega) c0 c1).mono ?_; rintro e w' ⟨rfl, nq, rfl⟩)
    go_roundw
    case rel =>
     have hg4 := (hg.drewN nq).set k (wV (mkW x y))
     rw [S.out] at hg4
     refine ⟨k + 1, by omega, by go_num, hg4, ?_⟩
     exact (below_drewn hb nq).setCell (p := ⟨w.heap.size, k, none⟩) (Nat.le_refl _) _
    case measure => simp [intOf]; omega
   ·
    have : k = bs.length / 2 := by omega
    subst this
    go_wp2
    go_ret2
    refine ⟨_, rfl, ?_, hb, NewV.some _ _ _ _ _ (Nat.le_refl _)⟩
    rw [List.take_of_length_le (by rw [wordsL_len]; omega), Nat.sub_self] at hg
    simp at hg
    have := hg.row (bs.length / 2) (by simp [wordsL_len]) (by unfold maxLen; omega)
    simpa [wordsL_len] using this
 ·
  have hb : (bs.length % 2 == 0) = false := by simpa using hodd
  rw [if_neg hodd, hb]
  have ht : ((bs.length : Int) % 2 != 0) = true := by simp; omega
  clear hodd hb hv
  go_enter Try.func73, Try.ntmps73
  go_wp2
  go_ret2
  exact ⟨_, rfl, Row.nil _, Below.refl _ _, NewV.none _ _ _⟩
theorem pack_step (l : List Bool) (n k : Nat) (hk : k < l.length) (_hn : k / 8 < n) :
  ((List.range n).map fun j => bV (packB (l.take (k + 1)) j)) = if l[k] then ((List.range n).map fun j => bV (packB (l.take k) j)).set (k / 8) (.int .u8 (((packB (l.take k) (k / 8)).toNat ||| 2 ^ (k % 8) : Nat) : Int)) else ((List.range n).map fun j => bV (packB (l.take k) j)) := by
 apply List.ext_getElem
 ·
  split <;> simp
 ·
  intro i h1 h2
  have hs := packB_step l k i hk
  split
  ·
   rename_i hx
   rw [List.getElem_set]
   simp only [List.getElem_map, List.getElem_range, bV, hs]
   by_cases hi : k / 8 = i
   ·
    subst hi; simp [hx]
   ·
    rw [if_neg hi, if_neg (by intro h; exact hi h.1.symm)]
  ·
   rename_i hx
   simp only [List.getElem_map, List.getElem_range, bV, hs]
   rw [if_neg (by intro h; exact hx h.2)]
theorem or_bit (y : UInt8) (k : Nat) : bits BinOp.or IntKind.u8 (y.toNat : Int) ((2 : Int) ^ (k % 8) % 256) = ((y.toNat ||| 2 ^ (k % 8) : Nat) : Int) := by
 have h := pow8 (k % 8) (by omega)
 rw [h.1, u8_or_nat _ _ y.toNat_lt h.2]
set_option maxHeartbeats 400000 in
theorem pack_any (v : Value) (l : List Bool) (w : World) (hv : Row w v (l.map Value.bool)) (hr : l.length ≤ 140737488351232) :
  Calls Try.prog 62 #[v] w fun e w' => ∃ v', e = .returned v' ∧ Row w' v' ((packL l).map bV) ∧ Below w.heap.size w w' := by
 obtain ⟨a, cap, rfl, -⟩ := id hv
 obtain ⟨hl, hc, hm, -⟩ := hv.at
 simp only [List.length_map] at hl hc hv ⊢
 have hmk := mk_zer 28 5 (.int .u8 0) 1 Try.underlying28 info_u8 rfl (((l.length : Int) + 7) / 8) ((l.length + 7) / 8) (by omega) (by omega) (by omega)
 have hb0 : Below w.heap.size w (w.alloc (.cells (zer ((l.length + 7) / 8) (.int .u8 0)) 5)) := (Below.refl _ _).alloc (Nat.le_refl _) _
 have hg0 := zer_blk w ((l.length + 7) / 8) (.int .u8 0) 5
 go_enter Try.func62, Try.ntmps62
 go_wp2_with (go_at_call 84; refine (size_any _ _ (by omega) (by omega)).mono ?_; rintro e w' ⟨rfl, rfl⟩)
 go_loopw [12] (fun i wr => ∃ k : Nat, k ≤ l.length ∧ i = .int .i64 k ∧ Blk wr w.heap.size 5 ((List.range ((l.length + 7) / 8)).map fun j => bV (packB (l.take k) j)) ∧ Below w.heap.size w wr) (fun i _ => l.length - (intOf i).toNat)
 case atStart =>
  refine ⟨0, Nat.zero_le _, rfl, ?_, hb0⟩
  have e : ((List.range ((l.length + 7) / 8)).map fun j => bV (packB (l.take 0) j)) = List.replicate ((l.length + 7) / 8) (.int .u8 0) := by
   apply List.ext_getElem
   ·
    simp
   ·
    intro i h1 h2
    simp [bV, packB_nat, ofBits]
  rw [e]; exact hg0
 case round =>
  obtain ⟨k, hk, rfl, hg, hb⟩ := hrel
  clear hmk hb0 hg0
  by_cases hlt : k < l.length
  ·
   obtain ⟨-, -, -, hcell⟩ := (hv.below hb).at
   obtain ⟨b, off, rfl, hcl⟩ := hcell k false hlt
   have c0 := hcl k hlt
   clear hcl hcell hv
   have S : Hid _ := pack_step l ((l.length + 7) / 8) k hlt (by omega)
   have ex : l.getD k false = l[k] := by simp [hlt]
   rw [ex] at c0
   clear ex
   generalize l[k] = x at *
   have hsz : (k / 8 : Nat) < ((List.range ((l.length + 7) / 8)).map fun j => bV (packB (l.take k) j)).length := by simp; omega
   have cu := hg.cell (k / 8)
   rw [List.getElem?_eq_getElem hsz] at cu
   simp only [List.getElem_map, List.getElem_range] at cu
   have fu := hg.frozen (k / 8)
   generalize packB (l.take k) (k / 8) = y at *
   have hy := y.toNat_lt
   have hlt' : (k : Int) / 8 < (((l.length + 7) / 8 : Nat) : Int) := by omega
   cases x
   ·
    go_wp2
    go_roundw
    case rel =>
     have S' := S.out
     rw [if_neg (by simp)] at S'
     exact ⟨k + 1, by omega, by go_num, by rw [S']; exact hg, hb⟩
    case measure => simp [intOf]; omega
   ·
    go_wp2
    go_region
    go_wp2
    go_roundw
    case rel =>
     have S' := S.out
     rw [if_pos trivial] at S'
     refine ⟨k + 1, by omega, by go_num, ?_, ?_⟩
     ·
      rw [or_bit, S']
      exact (hg.set (k / 8) _).drew
     ·
      exact (hb.setCell (p := ⟨w.heap.size, k / 8, none⟩) (Nat.le_refl _) _).drew
    case measure => simp [intOf]; omega
  ·
   have : k = l.length := by omega
   subst this
   go_wp2
   go_ret
   refine ⟨_, rfl, ?_, hb⟩
   rw [List.take_length] at hg
   have e : ((List.range ((l.length + 7) / 8)).map fun j => bV (packB l j)) = (packL l).map bV := by simp [packL]
   rw [e] at hg
   have := hg.row ((l.length + 7) / 8) (by simp [packL_len]) (by unfold maxLen; omega)
   simpa [packL_len] using this
end Go.Proofs.Ytdihcdphgiaepaa
namespace Go.Proofs.Ytdihcdphgiaepaa
open Go.RowKit
def blankB (bs : List UInt8) (n : Nat) : Bool := decide (n % 8 = 0) || decide ((bs.getD (n / 8) 0).toNat / 2 ^ (n % 8) = 0)
theorem div_beq (x t : Nat) : ((x : Int) / 2 ^ t == 0) = decide (x / 2 ^ t = 0) := by
 have e : (x : Int) / 2 ^ t = ((x / 2 ^ t : Nat) : Int) := by simp
 rw [e, Bool.eq_iff_iff]
 generalize x / 2 ^ t = q
 simp only [beq_iff_eq, decide_eq_true_eq]
 omega
set_option maxHeartbeats 400000 in
theorem blank_any (v : Value) (bs : List UInt8) (m : Int) (n : Nat) (w : World) (hm : m = (n : Int)) (hn : bs.length = (n + 7) / 8) (hv : Row w v (bs.map bV)) (hr : n ≤ 9223372036854775807) :
  Calls Try.prog 88 #[v, .int .i64 m] w fun e w' => e = .returned (.bool (blankB bs n)) ∧ w = w' := by
 subst hm
 obtain ⟨a, cap, rfl, -⟩ := id hv
 obtain ⟨hl, hc, hm, hcell⟩ := hv.at
 simp only [List.length_map] at hl hc hv ⊢ hcell
 by_cases h8 : n % 8 = 0
 ·
  have e : blankB bs n = true := by simp [blankB, h8]
  rw [e]
  have ht : ((n : Int) % 8 == 0) = true := by simp; omega
  clear e hv hcell h8 hn
  go_enter Try.func88, Try.ntmps88
  go_wp2
  go_ret
  exact ⟨rfl, rfl⟩
 ·
  have ht : ((n : Int) % 8 == 0) = false := by simp; omega
  have hlt : n / 8 < bs.length := by omega
  obtain ⟨b, off, rfl, hcl⟩ := hcell (n / 8) 0 hlt
  have c0 := hcl (n / 8) hlt
  have e : blankB bs n = decide ((bs.getD (n / 8) 0).toNat / 2 ^ (n % 8) = 0) := by simp [blankB, h8]
  rw [e]
  clear e hv hcell h8 hcl
  generalize bs.getD (n / 8) 0 = x at *
  have hx := x.toNat_lt
  have hlt' : (n : Int) / 8 < (bs.length : Int) := by omega
  clear hn
  go_enter Try.func88, Try.ntmps88
  go_wp2
  go_ret
  refine ⟨ret_bool ?_, rfl⟩
  exact div_beq x.toNat (n % 8)
theorem openOk_blank (bs : List UInt8) (n : Nat) (h : bs.length = (n + 7) / 8) : openOk bs n = blankB bs n := by
 have h0 : decide ((0 : Int) ≤ (n : Int)) = true := by simp
 have h1 : decide ((bs.length : Int) = ((n : Int) + 7) / 8) = true := by simp; omega
 unfold openOk
 rw [h0, h1, Bool.true_and, Bool.true_and, Bool.eq_iff_iff]
 simp only [List.all_eq_true, List.mem_range, blankB, Bool.or_eq_true, decide_eq_true_eq, Bool.not_eq_true', Int.ofNat_lt]
 constructor
 ·
  intro hall
  by_cases h8 : n % 8 = 0
  ·
   exact .inl h8
  ·
   right
   rw [← Nat.shiftRight_eq_div_pow]
   apply Nat.eq_of_testBit_eq
   intro t
   rw [Nat.testBit_shiftRight, Nat.zero_testBit]
   by_cases ht : n % 8 + t < 8
   ·
    have := hall (n + t) (by omega)
    rcases this with this | this
    ·
     omega
    ·
     unfold bitAt at this
     rw [show (n + t) / 8 = n / 8 by omega, show (n + t) % 8 = n % 8 + t by omega] at this
     exact this
   ·
    exact Nat.testBit_lt_two_pow (Nat.lt_of_lt_of_le (UInt8.toNat_lt _) (Nat.pow_le_pow_right (by decide) (by omega)))
 ·
  intro hb i hi
  by_cases hin : i < n
  ·
   exact .inl hin
  ·
   right
   rcases hb with hb | hb
   ·
    omega
   ·
    unfold bitAt
    rw [show i / 8 = n / 8 by omega]
    have : i % 8 = n % 8 + (i - n) := by omega
    rw [this, ← Nat.testBit_shiftRight, Nat.shiftRight_eq_div_pow, hb, Nat.zero_testBit]
theorem openOk_neg (bs : List UInt8) (n : Int) (h : n < 0) : openOk bs n = false := by
 unfold openOk; rw [show decide (0 ≤ n) = false by simp; omega]; simp
theorem openOk_len (bs : List UInt8) (n : Int) (h : ¬ (bs.length : Int) = (n + 7) / 8) : openOk bs n = false := by
 unfold openOk; rw [show decide ((bs.length : Int) = (n + 7) / 8) = false by simpa using h]; simp
theorem bit_test (x : UInt8) (k : Nat) (_h : k < 8) : (bits BinOp.and IntKind.u8 ((x.toNat : Int) / 2 ^ k) 1 == 1) = x.toNat.testBit k := by
 have e : (x.toNat : Int) / 2 ^ k = ((x.toNat / 2 ^ k : Nat) : Int) := by simp
 have hx := x.toNat_lt
 have hd : x.toNat / 2 ^ k < 256 := Nat.lt_of_le_of_lt (Nat.div_le_self _ _) hx
 have e1 := u8_and_nat _ 1 hd (by decide)
 rw [nat_mask1] at e1
 have e2 : bits BinOp.and IntKind.u8 ((x.toNat / 2 ^ k : Nat) : Int) 1 = ((x.toNat / 2 ^ k % 2 : Nat) : Int) := e1
 rw [e, e2, Nat.testBit_eq_decide_div_mod_eq, Bool.eq_iff_iff]
 generalize x.toNat / 2 ^ k % 2 = q
 simp only [beq_iff_eq, decide_eq_true_eq]
 omega
theorem open_step (bs : List UInt8) (n k : Nat) (h : k < n) (b : Bool) (hb : b = bitAt bs k) :
  ((openL bs k).map Value.bool ++ List.replicate (n - k) (Value.bool false)).set k (Value.bool b) = (openL bs (k + 1)).map Value.bool ++ List.replicate (n - (k + 1)) (Value.bool false) := by
 subst hb
 have e1 : ((openL bs k).map Value.bool).length = k := by simp [openL]
 have e2 : n - k = (n - (k + 1)) + 1 := by omega
 have e3 : openL bs (k + 1) = openL bs k ++ [bitAt bs k] := by simp [openL, List.range_succ]
 rw [e3, e2, List.replicate_succ, List.set_append, e1]
 simp
def openR (bs : List UInt8) (n : Int) : List Bool := if openOk bs n then openL bs n.toNat else []
theorem openR_no {bs : List UInt8} {n : Int} (h : openOk bs n = false) : openR bs n = [] := by simp [openR, h]
theorem openR_yes {bs : List UInt8} {n : Int} (h : openOk bs n = true) : openR bs n = openL bs n.toNat := by simp [openR, h]
set_option maxHeartbeats 1000000 in
theorem open_any (v : Value) (bs : List UInt8) (n : Int) (w : World) (hn : -9223372036854775808 ≤ n ∧ n ≤ 9223372036854775807) (hv : Row w v (bs.map bV)) (hr : 8 * bs.length ≤ 140737488355328) :
  Calls Try.prog 71 #[v, .int .i64 n] w fun e w' => ∃ v', e = .returned (.tuple #[v', .bool (openOk bs n)]) ∧ Row w' v' ((openR bs n).map Value.bool) ∧ Below w.heap.size w w' ∧ NewV w.heap.size v' := by
 obtain ⟨a, cap, rfl, -⟩ := id hv
 obtain ⟨hl, hc, hm, -⟩ := hv.at
 simp only [List.length_map] at hl hc hv ⊢
 obtain ⟨hn1, hn2⟩ := hn
 by_cases h0 : n < 0
 ·
  rw [openR_no (openOk_neg bs n h0), openOk_neg bs n h0]
  go_enter Try.func71, Try.ntmps71
  go_wp2
  go_ret2
  exact ⟨_, rfl, Row.nil _, Below.refl _ _, NewV.none _ _ _⟩
 ·
  by_cases hlen : (bs.length : Int) = (n + 7) / 8
  ·
   obtain ⟨k, rfl⟩ : ∃ k : Nat, n = (k : Int) := ⟨n.toNat, by omega⟩
   have hlk : bs.length = (k + 7) / 8 := by omega
   have ok := openOk_blank bs k hlk
   have ht : ((bs.length : Int) != ((k : Int) + 7) / 8) = false := by simp; omega
   have HL : Hid (bs.length = (k + 7) / 8) := hlk
   have hk1 : k ≤ 8 * bs.length := by omega
   clear hlk hlen
   cases hbl : blankB bs k
   ·
    rw [openR_no (ok.trans hbl), ok, hbl]
    have HB : Hid (blankB bs k = false) := hbl
    clear ok hbl
    go_enter Try.func71, Try.ntmps71
    go_wp2_with (first | (go_at_call 84; refine (size_any _ _ (by omega) (by omega)).mono ?_; rintro e w' ⟨rfl, rfl⟩) | (go_at_call 88; refine (blank_any _ bs _ k _ rfl HL.out hv (by omega)).mono ?_; rintro e w' ⟨rfl, rfl⟩; rw [HB.out]))
    go_ret2
    exact ⟨_, rfl, Row.nil _, Below.refl _ _, NewV.none _ _ _⟩
   ·
    rw [openR_yes (ok.trans hbl), ok, hbl]
    have HB : Hid (blankB bs k = true) := hbl
    clear ok hbl
    have hmk := mk_zer 23 4 (.bool false) 1 Try.underlying23 info_bool rfl (k : Int) k rfl (by omega) (by omega)
    have hb0 : Below w.heap.size w (w.alloc (.cells (zer k (.bool false)) 4)) := (Below.refl _ _).alloc (Nat.le_refl _) _
    have hg0 := zer_blk w k (.bool false) 4
    go_enter Try.func71, Try.ntmps71
    go_wp2_with (first | (go_at_call 84; refine (size_any _ _ (by omega) (by omega)).mono ?_; rintro e w' ⟨rfl, rfl⟩) | (go_at_call 88; refine (blank_any _ bs _ k _ rfl HL.out hv (by omega)).mono ?_; rintro e w' ⟨rfl, rfl⟩; rw [HB.out]))
    go_loopw [27] (fun i wr => ∃ j : Nat, j ≤ k ∧ i = .int .i64 j ∧ Blk wr w.heap.size 4 ((openL bs j).map Value.bool ++ List.replicate (k - j) (.bool false)) ∧ Below w.heap.size w wr) (fun i _ => k - (intOf i).toNat)
    case atStart => exact ⟨0, Nat.zero_le _, rfl, by simpa [openL] using hg0, hb0⟩
    case round =>
     obtain ⟨j, hj, rfl, hg, hb⟩ := hrel
     clear hmk hb0 hg0 HB
     by_cases hlt : j < k
     ·
      have HL' := HL.out
      obtain ⟨-, -, -, hcell⟩ := (hv.below hb).at
      have hj8 : j / 8 < bs.length := by omega
      obtain ⟨b, off, rfl, hcl⟩ := hcell (j / 8) 0 hj8
      have c0 := hcl (j / 8) hj8
      clear hcl hcell hv HL'
      have S : Hid (∀ b, b = bitAt bs j → _ = _) := open_step bs k j hlt
      have HX : Hid (bitAt bs j = (bs.getD (j / 8) 0).toNat.testBit (j % 8)) := rfl
      generalize bs.getD (j / 8) 0 = x at *
      obtain ⟨u, cu⟩ := hg.some j (by simp [openL]; omega)
      have fu := hg.frozen j
      have hx := x.toNat_lt
      have hlt' : (j : Int) < (k : Int) := by omega
      have hj8' : (j : Int) / 8 < (bs.length : Int) := by omega
      go_wp2
      go_roundw
      case rel =>
       have hg4 := hg.set j (Value.bool (bits BinOp.and IntKind.u8 ((x.toNat : Int) / 2 ^ (j % 8)) 1 == 1))
       rw [S.out _ ((bit_test x (j % 8) (by omega)).trans HX.out.symm)] at hg4
       exact ⟨j + 1, by omega, by go_num, hg4, hb.setCell (p := ⟨w.heap.size, j, none⟩) (Nat.le_refl _) _⟩
      case measure => simp [intOf]; omega
     ·
      have : j = k := by omega
      subst this
      go_wp2
      go_ret2
      refine ⟨_, rfl, ?_, hb, NewV.some _ _ _ _ _ (Nat.le_refl _)⟩
      simp at hg
      have := hg.row j (by simp [openL]) (by unfold maxLen; omega)
      simpa [openL] using this
  ·
   rw [openR_no (openOk_len bs n hlen), openOk_len bs n hlen]
   have ht : ((bs.length : Int) != (n + 7) / 8) = true := by simpa using hlen
   clear hlen
   go_enter Try.func71, Try.ntmps71
   go_wp2_with (go_at_call 84; refine (size_any _ _ (by omega) (by omega)).mono ?_; rintro e w' ⟨rfl, rfl⟩)
   go_ret2
   exact ⟨_, rfl, Row.nil _, Below.refl _ _, NewV.none _ _ _⟩
end Go.Proofs.Ytdihcdphgiaepaa
