/- Plain mathematics of chapter 3: a request, when it is right, its bytes, what bytes may be. Nothing of the program. -/
import Derived.Test.YtdihcdphgiaepaaGreatZZ2
namespace Go.Proofs.YtdihcdphgiaepaaGreat
open Go.RowKit
def blankB (bs : List UInt8) (n : Nat) : Bool := decide (n % 8 = 0) || decide ((bs.getD (n / 8) 0).toNat / 2 ^ (n % 8) = 0)
theorem div_beq (x t : Nat) : ((x : Int) / 2 ^ t == 0) = decide (x / 2 ^ t = 0) := by
 have e : (x : Int) / 2 ^ t = ((x / 2 ^ t : Nat) : Int) := by simp
 rw [e, Bool.eq_iff_iff];generalize x / 2 ^ t = q;simp only [beq_iff_eq, decide_eq_true_eq];omega
set_option maxHeartbeats 400000 in
theorem blank_any (v : Value) (bs : List UInt8) (m : Int) (n : Nat) (w : World) (hm : m = (n : Int)) (hn : bs.length = (n + 7) / 8) (hv : Row w v (bs.map bV)) (hr : n ≤ 9223372036854775807) :
  Calls Tryz.prog 132 #[v, .int .i64 m] w fun e w' => e = .returned (.bool (blankB bs n)) ∧ w = w' := by
 subst hm;obtain ⟨a, cap, rfl, -⟩ := id hv;obtain ⟨hl, hc, hm, hcell⟩ := hv.at;simp only [List.length_map] at hl hc hv ⊢ hcell;by_cases h8 : n % 8 = 0
 ·
  have e : blankB bs n = true := by simp [blankB, h8]
  rw [e];have ht : ((n : Int) % 8 == 0) = true := by simp; omega
  clear e hv hcell h8 hn;go_enter Tryz.func132, Tryz.ntmps132;go_wp2;go_ret;exact ⟨rfl, rfl⟩
 ·
  have ht : ((n : Int) % 8 == 0) = false := by simp; omega
  have hlt : n / 8 < bs.length := by omega
  obtain ⟨b, off, rfl, hcl⟩ := hcell (n / 8) 0 hlt;have c0 := hcl (n / 8) hlt;have e : blankB bs n = decide ((bs.getD (n / 8) 0).toNat / 2 ^ (n % 8) = 0) := by simp [blankB, h8]
  rw [e];clear e hv hcell h8 hcl;generalize bs.getD (n / 8) 0 = x at *;have hx := x.toNat_lt;have hlt' : (n : Int) / 8 < (bs.length : Int) := by omega
  clear hn;go_enter Tryz.func132, Tryz.ntmps132;go_wp2;go_ret;refine ⟨ret_bool ?_, rfl⟩;exact div_beq x.toNat (n % 8)
theorem openOk_blank (bs : List UInt8) (n : Nat) (h : bs.length = (n + 7) / 8) : openOk bs n = blankB bs n := by
 have h0 : decide ((0 : Int) ≤ (n : Int)) = true := by simp
 have h1 : decide ((bs.length : Int) = ((n : Int) + 7) / 8) = true := by simp; omega
 unfold openOk;rw [h0, h1, Bool.true_and, Bool.true_and, Bool.eq_iff_iff];simp only [List.all_eq_true, List.mem_range, blankB, Bool.or_eq_true, decide_eq_true_eq, Bool.not_eq_true', Int.ofNat_lt];constructor
 ·
  intro hall;by_cases h8 : n % 8 = 0
  ·
   exact .inl h8
  ·
   right
   rw [← Nat.shiftRight_eq_div_pow]
   apply Nat.eq_of_testBit_eq
   intro t;rw [Nat.testBit_shiftRight, Nat.zero_testBit];by_cases ht : n % 8 + t < 8
   ·
    have := hall (n + t) (by omega);rcases this with this | this
    ·
     omega
    ·
     unfold bitAt at this;rw [show (n + t) / 8 = n / 8 by omega, show (n + t) % 8 = n % 8 + t by omega] at this;exact this
   ·
    exact Nat.testBit_lt_two_pow (Nat.lt_of_lt_of_le (UInt8.toNat_lt _) (Nat.pow_le_pow_right (by decide) (by omega)))
 ·
  intro hb i hi;by_cases hin : i < n
  ·
   exact .inl hin
  ·
   right
   rcases hb with hb | hb
   ·
    omega
   ·
    unfold bitAt;rw [show i / 8 = n / 8 by omega];have : i % 8 = n % 8 + (i - n) := by omega
    rw [this, ← Nat.testBit_shiftRight, Nat.shiftRight_eq_div_pow, hb, Nat.zero_testBit]
theorem openOk_neg (bs : List UInt8) (n : Int) (h : n < 0) : openOk bs n = false := by
 unfold openOk; rw [show decide (0 ≤ n) = false by simp; omega]; simp
theorem openOk_len (bs : List UInt8) (n : Int) (h : ¬ (bs.length : Int) = (n + 7) / 8) : openOk bs n = false := by
 unfold openOk; rw [show decide ((bs.length : Int) = (n + 7) / 8) = false by simpa using h]; simp
theorem bit_test (x : UInt8) (k : Nat) (_h : k < 8) : (bits BinOp.and IntKind.u8 ((x.toNat : Int) / 2 ^ k) 1 == 1) = x.toNat.testBit k := by
 have e : (x.toNat : Int) / 2 ^ k = ((x.toNat / 2 ^ k : Nat) : Int) := by simp
 have hx := x.toNat_lt;have hd : x.toNat / 2 ^ k < 256 := Nat.lt_of_le_of_lt (Nat.div_le_self _ _) hx;have e1 := u8_and_nat _ 1 hd (by decide);rw [nat_mask1] at e1;have e2 : bits BinOp.and IntKind.u8 ((x.toNat / 2 ^ k : Nat) : Int) 1 = ((x.toNat / 2 ^ k % 2 : Nat) : Int) := e1;rw [e, e2, Nat.testBit_eq_decide_div_mod_eq, Bool.eq_iff_iff];generalize x.toNat / 2 ^ k % 2 = q;simp only [beq_iff_eq, decide_eq_true_eq];omega
theorem open_step (bs : List UInt8) (n k : Nat) (h : k < n) (b : Bool) (hb : b = bitAt bs k) :
  ((openL bs k).map Value.bool ++ List.replicate (n - k) (Value.bool false)).set k (Value.bool b) = (openL bs (k + 1)).map Value.bool ++ List.replicate (n - (k + 1)) (Value.bool false) := by
 subst hb;have e1 : ((openL bs k).map Value.bool).length = k := by simp [openL]
 have e2 : n - k = (n - (k + 1)) + 1 := by omega
 have e3 : openL bs (k + 1) = openL bs k ++ [bitAt bs k] := by simp [openL, List.range_succ]
 rw [e3, e2, List.replicate_succ, List.set_append, e1];simp
def openR (bs : List UInt8) (n : Int) : List Bool := if openOk bs n then openL bs n.toNat else []
theorem openR_no {bs : List UInt8} {n : Int} (h : openOk bs n = false) : openR bs n = [] := by simp [openR, h]
theorem openR_yes {bs : List UInt8} {n : Int} (h : openOk bs n = true) : openR bs n = openL bs n.toNat := by simp [openR, h]
set_option maxHeartbeats 1000000 in
theorem open_any (v : Value) (bs : List UInt8) (n : Int) (w : World) (hn : -9223372036854775808 ≤ n ∧ n ≤ 9223372036854775807) (hv : Row w v (bs.map bV)) (hr : 8 * bs.length ≤ 140737488355328) :
  Calls Tryz.prog 108 #[v, .int .i64 n] w fun e w' => ∃ v', e = .returned (.tuple #[v', .bool (openOk bs n)]) ∧ Row w' v' ((openR bs n).map Value.bool) ∧ Below w.heap.size w w' ∧ NewV w.heap.size v' := by
 obtain ⟨a, cap, rfl, -⟩ := id hv;obtain ⟨hl, hc, hm, -⟩ := hv.at;simp only [List.length_map] at hl hc hv ⊢;obtain ⟨hn1, hn2⟩ := hn;by_cases h0 : n < 0
 ·
  rw [openR_no (openOk_neg bs n h0), openOk_neg bs n h0];go_enter Tryz.func108, Tryz.ntmps108;go_wp2;go_ret2
  exact ⟨_, rfl, Row.nil _, Below.refl _ _, NewV.none _ _ _⟩
 ·
  by_cases hlen : (bs.length : Int) = (n + 7) / 8
  ·
   obtain ⟨k, rfl⟩ : ∃ k : Nat, n = (k : Int) := ⟨n.toNat, by omega⟩;have hlk : bs.length = (k + 7) / 8 := by omega
   have ok := openOk_blank bs k hlk;have ht : ((bs.length : Int) != ((k : Int) + 7) / 8) = false := by simp; omega
   have HL : Hid (bs.length = (k + 7) / 8) := hlk;have hk1 : k ≤ 8 * bs.length := by omega
   clear hlk hlen;cases hbl : blankB bs k
   ·
    rw [openR_no (ok.trans hbl), ok, hbl];have HB : Hid (blankB bs k = false) := hbl;clear ok hbl;go_enter Tryz.func108, Tryz.ntmps108;go_wp2_with (first | (go_at_call 121; refine (size_any _ _ (by omega) (by omega)).mono ?_; rintro e w' ⟨rfl, rfl⟩) | (go_at_call 132; refine (blank_any _ bs _ k _ rfl HL.out hv (by omega)).mono ?_; rintro e w' ⟨rfl, rfl⟩; rw [HB.out]))
    go_ret2
    exact ⟨_, rfl, Row.nil _, Below.refl _ _, NewV.none _ _ _⟩
   ·
    rw [openR_yes (ok.trans hbl), ok, hbl];have HB : Hid (blankB bs k = true) := hbl;clear ok hbl;have hmk := mk_zer 29 4 (.bool false) 1 Tryz.underlying29 info_bool rfl (k : Int) k rfl (by omega) (by omega);have hb0 : Below w.heap.size w (w.alloc (.cells (zer k (.bool false)) 4)) := (Below.refl _ _).alloc (Nat.le_refl _) _;have hg0 := zer_blk w k (.bool false) 4;go_enter Tryz.func108, Tryz.ntmps108;go_wp2_with (first | (go_at_call 121; refine (size_any _ _ (by omega) (by omega)).mono ?_; rintro e w' ⟨rfl, rfl⟩) | (go_at_call 132; refine (blank_any _ bs _ k _ rfl HL.out hv (by omega)).mono ?_; rintro e w' ⟨rfl, rfl⟩; rw [HB.out]))
    go_loopw [27] (fun i wr => ∃ j : Nat, j ≤ k ∧ i = .int .i64 j ∧ Blk wr w.heap.size 4 ((openL bs j).map Value.bool ++ List.replicate (k - j) (.bool false)) ∧ Below w.heap.size w wr) (fun i _ => k - (intOf i).toNat)
    case atStart => exact ⟨0, Nat.zero_le _, rfl, by simpa [openL] using hg0, hb0⟩
    case round =>
     obtain ⟨j, hj, rfl, hg, hb⟩ := hrel;clear hmk hb0 hg0 HB;by_cases hlt : j < k
     ·
      have HL' := HL.out;obtain ⟨-, -, -, hcell⟩ := (hv.below hb).at;have hj8 : j / 8 < bs.length := by omega
      obtain ⟨b, off, rfl, hcl⟩ := hcell (j / 8) 0 hj8;have c0 := hcl (j / 8) hj8;clear hcl hcell hv HL';have S : Hid (∀ b, b = bitAt bs j → _ = _) := open_step bs k j hlt;have HX : Hid (bitAt bs j = (bs.getD (j / 8) 0).toNat.testBit (j % 8)) := rfl;generalize bs.getD (j / 8) 0 = x at *;obtain ⟨u, cu⟩ := hg.some j (by simp [openL]; omega);have fu := hg.frozen j;have hx := x.toNat_lt;have hlt' : (j : Int) < (k : Int) := by omega
      have hj8' : (j : Int) / 8 < (bs.length : Int) := by omega
      go_wp2;go_roundw
      case rel =>
       have hg4 := hg.set j (Value.bool (bits BinOp.and IntKind.u8 ((x.toNat : Int) / 2 ^ (j % 8)) 1 == 1));rw [S.out _ ((bit_test x (j % 8) (by omega)).trans HX.out.symm)] at hg4;exact ⟨j + 1, by omega, by go_num, hg4, hb.setCell (p := ⟨w.heap.size, j, none⟩) (Nat.le_refl _) _⟩
      case measure => simp [intOf]; omega
     ·
      have : j = k := by omega
      subst this;go_wp2;go_ret2
      refine ⟨_, rfl, ?_, hb, NewV.some _ _ _ _ _ (Nat.le_refl _)⟩;simp at hg;have := hg.row j (by simp [openL]) (by unfold maxLen; omega)
      simpa [openL] using this
  ·
   rw [openR_no (openOk_len bs n hlen), openOk_len bs n hlen];have ht : ((bs.length : Int) != (n + 7) / 8) = true := by simpa using hlen
   clear hlen;go_enter Tryz.func108, Tryz.ntmps108;go_wp2_with (go_at_call 121; refine (size_any _ _ (by omega) (by omega)).mono ?_; rintro e w' ⟨rfl, rfl⟩)
   go_ret2
   exact ⟨_, rfl, Row.nil _, Below.refl _ _, NewV.none _ _ _⟩
end Go.Proofs.YtdihcdphgiaepaaGreat
namespace Go.Proofs.YtdihcdphgiaepaaGreat
structure Rq where
 fn : Int
 loc : Int
 cnt : Int
 wat : Int
 sub : Int
 bits : List Bool
 vals : List UInt16
 land : UInt16
 lor : UInt16
 deriving DecidableEq
def zeroQ : Rq := ⟨0, 0, 0, 0, 0, [], [], 0, 0⟩
def knownB (f : Int) : Bool := decide (f = 1 ∨ f = 2 ∨ f = 3 ∨ f = 4 ∨ f = 5 ∨ f = 6 ∨ f = 8 ∨ f = 15 ∨ f = 16 ∨ f = 17 ∨ f = 22 ∨ f = 23)
def numB (n : Int) : Bool := decide (0 ≤ n ∧ n ≤ 65535)
def formP (q : Rq) : Prop :=
 ((q.fn = 1 ∨ q.fn = 2 ∨ q.fn = 3 ∨ q.fn = 4 ∨ q.fn = 5 ∨ q.fn = 6 ∨ q.fn = 15 ∨ q.fn = 16 ∨ q.fn = 22 ∨ q.fn = 23) ∨ q.loc = 0) ∧
 ((q.fn = 1 ∨ q.fn = 2 ∨ q.fn = 3 ∨ q.fn = 4 ∨ q.fn = 15 ∨ q.fn = 16 ∨ q.fn = 23) ∨ q.cnt = 0) ∧
 (q.fn = 23 ∨ q.wat = 0) ∧ (q.fn = 8 ∨ q.sub = 0) ∧ ((q.fn = 5 ∨ q.fn = 15) ∨ q.bits = []) ∧
 ((q.fn = 6 ∨ q.fn = 8 ∨ q.fn = 16 ∨ q.fn = 23) ∨ q.vals = []) ∧ (q.fn = 22 ∨ (q.land = 0 ∧ q.lor = 0))
instance (q : Rq) : Decidable (formP q) := by unfold formP; infer_instance
def listB (q : Rq) : Bool :=
 if q.fn = 5 then decide (q.bits.length = 1)
 else if q.fn = 6 then decide (q.vals.length = 1)
 else if q.fn = 8 then decide (q.vals.length = 1)
 else if q.fn = 15 then decide ((q.bits.length : Int) = q.cnt ∧ q.bits.length ≤ 2040)
 else if q.fn = 16 then decide ((q.vals.length : Int) = q.cnt ∧ q.vals.length ≤ 127)
 else if q.fn = 23 then decide (q.vals.length ≤ 127)
 else true
def rightE (q : Rq) : Int :=
 if knownB q.fn = false then 15
 else if ¬ formP q then 12
 else if (numB q.loc && numB q.wat && numB q.sub && numB q.cnt) = false then 12
 else if listB q = false then 12
 else 0
def pw (n : Int) : List UInt8 := [hiB (wOf n), loB (wOf n)]
def cntL (l : List UInt8) : List UInt8 := UInt8.ofNat l.length :: l
def bodyQ (q : Rq) : List UInt8 :=
 if q.fn = 1 ∨ q.fn = 2 ∨ q.fn = 3 ∨ q.fn = 4 then pw q.loc ++ pw q.cnt
 else if q.fn = 5 then pw q.loc ++ pw (if q.bits.getD 0 false then 65280 else 0)
 else if q.fn = 6 then pw q.loc ++ pw (q.vals.getD 0 0).toNat
 else if q.fn = 8 then pw q.sub ++ pw (q.vals.getD 0 0).toNat
 else if q.fn = 15 then pw q.loc ++ pw q.cnt ++ cntL (packL q.bits)
 else if q.fn = 16 then pw q.loc ++ pw q.cnt ++ cntL (bytesL q.vals)
 else if q.fn = 22 then pw q.loc ++ pw q.land.toNat ++ pw q.lor.toNat
 else if q.fn = 23 then pw q.loc ++ pw q.cnt ++ pw q.wat ++ pw q.vals.length ++ cntL (bytesL q.vals)
 else []
def bytesQ (q : Rq) : List UInt8 := UInt8.ofNat (q.fn % 256).toNat :: bodyQ q
def tailL (b : List UInt8) (k : Nat) : List UInt8 := if b.length ≤ k ∨ b.length - k - 1 ≠ (b.getD k 0).toNat then [] else b.drop (k + 1)
def fnOf (b : List UInt8) : Int := (b.getD 0 0).toNat
def gP (b : List UInt8) : Rq :=
 if fnOf b = 1 ∨ fnOf b = 2 ∨ fnOf b = 3 ∨ fnOf b = 4 then ⟨fnOf b, getN b 1, getN b 3, 0, 0, [], [], 0, 0⟩
 else if fnOf b = 5 then ⟨fnOf b, getN b 1, 0, 0, 0, [getN b 3 == 65280], [], 0, 0⟩
 else if fnOf b = 6 then ⟨fnOf b, getN b 1, 0, 0, 0, [], [wOf (getN b 3)], 0, 0⟩
 else if fnOf b = 8 then ⟨fnOf b, 0, 0, 0, getN b 1, [], [wOf (getN b 3)], 0, 0⟩
 else if fnOf b = 15 then ⟨fnOf b, getN b 1, getN b 3, 0, 0, openR (tailL b 5) (getN b 3), [], 0, 0⟩
 else if fnOf b = 16 then ⟨fnOf b, getN b 1, getN b 3, 0, 0, [], wordsR (tailL b 5), 0, 0⟩
 else if fnOf b = 22 then ⟨fnOf b, getN b 1, 0, 0, 0, [], [], wOf (getN b 3), wOf (getN b 5)⟩
 else if fnOf b = 23 then ⟨fnOf b, getN b 1, getN b 3, getN b 5, 0, [], wordsR (tailL b 9), 0, 0⟩
 else ⟨fnOf b, 0, 0, 0, 0, [], [], 0, 0⟩
def wordsAt (b : List UInt8) (k : Nat) : List UInt16 := if b.length ≤ k then [] else wordsR (b.drop k)
def gR (b : List UInt8) : Rq :=
 if fnOf b = 1 ∨ fnOf b = 2 ∨ fnOf b = 3 ∨ fnOf b = 4 then ⟨fnOf b, getN b 1, getN b 3, 0, 0, [], [], 0, 0⟩
 else if fnOf b = 5 then ⟨fnOf b, getN b 1, 0, 0, 0, [getN b 3 != 0], [], 0, 0⟩
 else if fnOf b = 6 then ⟨fnOf b, getN b 1, 0, 0, 0, [], wordsAt b 3, 0, 0⟩
 else if fnOf b = 8 then ⟨fnOf b, 0, 0, 0, getN b 1, [], wordsAt b 3, 0, 0⟩
 else if fnOf b = 15 then ⟨fnOf b, getN b 1, getN b 3, 0, 0, (if b.length ≤ 6 then [] else openR (b.drop 6) (getN b 3)), [], 0, 0⟩
 else if fnOf b = 16 then ⟨fnOf b, getN b 1, getN b 3, 0, 0, [], wordsAt b 6, 0, 0⟩
 else if fnOf b = 22 then ⟨fnOf b, getN b 1, 0, 0, 0, [], [], wOf (getN b 3), wOf (getN b 5)⟩
 else if fnOf b = 23 then ⟨fnOf b, getN b 1, getN b 3, getN b 5, 0, [], wordsAt b 10, 0, 0⟩
 else ⟨fnOf b, 0, 0, 0, 0, [], [], 0, 0⟩
theorem wOf_small (n : Int) (h : numB n = true) : ((wOf n).toNat : Int) = n := by
 rw [wOf_nat]; simp [numB] at h; omega
theorem wOf_val (x : UInt16) : wOf (x.toNat : Int) = x := by
 apply UInt16.toNat_inj.1
 have := wOf_nat (x.toNat : Int);have := x.toNat_lt;omega
theorem pw_mk (n : Int) (h : numB n = true) : ((mkW (hiB (wOf n)) (loB (wOf n))).toNat : Int) = n := by rw [mkW_hi_lo]; exact wOf_small n h
theorem val_num (x : UInt16) : numB (x.toNat : Int) = true := by
 have := x.toNat_lt; simp [numB]; omega
theorem known_cases {f : Int} (h : knownB f = true) : f = 1 ∨ f = 2 ∨ f = 3 ∨ f = 4 ∨ f = 5 ∨ f = 6 ∨ f = 8 ∨ f = 15 ∨ f = 16 ∨ f = 17 ∨ f = 22 ∨ f = 23 := of_decide_eq_true h
theorem right_parts {q : Rq} (h : rightE q = 0) : knownB q.fn = true ∧ formP q ∧ (numB q.loc = true ∧ numB q.wat = true ∧ numB q.sub = true ∧ numB q.cnt = true) ∧ listB q = true := by
 unfold rightE at h
 split at h
 ·
  cases h
 ·
  rename_i h1
  split at h
  ·
   cases h
  ·
   rename_i h2
   split at h
   ·
    cases h
   ·
    rename_i h3
    split at h
    ·
     cases h
    ·
     rename_i h4
     refine ⟨by simpa using h1, Decidable.not_not.1 h2, ?_, by simpa using h4⟩;simp only [Bool.not_eq_false, Bool.and_eq_true] at h3;exact ⟨h3.1.1.1, h3.1.1.2, h3.1.2, h3.2⟩
theorem getN1 (f x y : UInt8) (r : List UInt8) : getN (f :: x :: y :: r) 1 = (mkW x y).toNat := by
 unfold getN; rw [if_pos (by simp only [List.length_cons]; omega)]; simp
theorem getN3 (f a b x y : UInt8) (r : List UInt8) : getN (f :: a :: b :: x :: y :: r) 3 = (mkW x y).toNat := by
 unfold getN; rw [if_pos (by simp only [List.length_cons]; omega)]; simp
theorem getN5 (f a b c d x y : UInt8) (r : List UInt8) : getN (f :: a :: b :: c :: d :: x :: y :: r) 5 = (mkW x y).toNat := by
 unfold getN; rw [if_pos (by simp only [List.length_cons]; omega)]; simp
theorem tail5 (f a b c d n : UInt8) (l : List UInt8) (h : n.toNat = l.length) : tailL (f :: a :: b :: c :: d :: n :: l) 5 = l := by
 unfold tailL; rw [if_neg (by simp [h])]; simp
theorem tail9 (f a b c d g i j k n : UInt8) (l : List UInt8) (h : n.toNat = l.length) : tailL (f :: a :: b :: c :: d :: g :: i :: j :: k :: n :: l) 9 = l := by
 unfold tailL; rw [if_neg (by simp [h])]; simp
theorem wordsR_bytes (l : List UInt16) : wordsR (bytesL l) = l := by
 unfold wordsR; rw [if_pos (by rw [bytesL_len]; omega), wordsL_bytesL]
theorem bytesL_nil {l : List UInt16} (h : (bytesL l).length = 0) : l = [] := by
 rw [bytesL_len] at h; exact List.length_eq_zero_iff.1 (by omega)
theorem packL_nil {l : List Bool} (h : (packL l).length = 0) : l = [] := by
 rw [packL_len] at h; exact List.length_eq_zero_iff.1 (by omega)
theorem one_of_len {α : Type} {l : List α} (h : l.length = 1) : ∃ x, l = [x] := by
 match l, h with
 | [x], _ => exact ⟨x, rfl⟩
theorem gP_bytes (q : Rq) (h : rightE q = 0) : gP (bytesQ q) = q := by
 obtain ⟨hk, hf, ⟨n1, n2, n3, n4⟩, hl⟩ := right_parts h;clear h;obtain ⟨f, a, c, p, s, bs, vs, m, o⟩ := q;simp only at hk n1 n2 n3 n4;have m1 := pw_mk a n1;have m2 := pw_mk p n2;have m3 := pw_mk s n3;have m4 := pw_mk c n4;rcases known_cases hk with rfl | rfl | rfl | rfl | rfl | rfl | rfl | rfl | rfl | rfl | rfl | rfl
 all_goals
  clear hk;simp [formP] at hf;simp [listB] at hl
 ·
  obtain ⟨rfl, rfl, rfl, rfl, rfl, rfl⟩ := hf;simp [gP, bytesQ, bodyQ, fnOf, pw, getN1, getN3, m1, m4]
 ·
  obtain ⟨rfl, rfl, rfl, rfl, rfl, rfl⟩ := hf;simp [gP, bytesQ, bodyQ, fnOf, pw, getN1, getN3, m1, m4]
 ·
  obtain ⟨rfl, rfl, rfl, rfl, rfl, rfl⟩ := hf;simp [gP, bytesQ, bodyQ, fnOf, pw, getN1, getN3, m1, m4]
 ·
  obtain ⟨rfl, rfl, rfl, rfl, rfl, rfl⟩ := hf;simp [gP, bytesQ, bodyQ, fnOf, pw, getN1, getN3, m1, m4]
 ·
  obtain ⟨rfl, rfl, rfl, rfl, rfl, rfl⟩ := hf;obtain ⟨x, rfl⟩ := one_of_len hl;cases x
  ·
   simp [gP, bytesQ, bodyQ, fnOf, pw, getN1, getN3, m1]
   decide
  ·
   simp [gP, bytesQ, bodyQ, fnOf, pw, getN1, getN3, m1]
   decide
 ·
  obtain ⟨rfl, rfl, rfl, rfl, rfl, rfl⟩ := hf;obtain ⟨x, rfl⟩ := one_of_len hl;rw [mkW_hi_lo] at m1;simp [gP, bytesQ, bodyQ, fnOf, pw, getN1, getN3, m1, mkW_hi_lo, wOf_val]
 ·
  obtain ⟨rfl, rfl, rfl, rfl, rfl, rfl⟩ := hf;obtain ⟨x, rfl⟩ := one_of_len hl;rw [mkW_hi_lo] at m3;simp [gP, bytesQ, bodyQ, fnOf, pw, getN1, getN3, m3, mkW_hi_lo, wOf_val]
 ·
  obtain ⟨rfl, rfl, rfl, rfl, rfl⟩ := hf;obtain ⟨hl1, hl2⟩ := hl;have e : (UInt8.ofNat (packL bs).length).toNat = (packL bs).length := by
   rw [UInt8.toNat_ofNat', packL_len]; omega
  have e3 : openR (packL bs) c = bs := by rw [← hl1, openR_yes (openOk_packL bs)]; simpa using openL_packL bs
  simp [gP, bytesQ, bodyQ, fnOf, pw, cntL, getN1, getN3, m1, m4];rw [tail5 _ _ _ _ _ _ _ e];exact e3
 ·
  obtain ⟨rfl, rfl, rfl, rfl, rfl⟩ := hf;obtain ⟨hl1, hl2⟩ := hl;have e : (UInt8.ofNat (bytesL vs).length).toNat = (bytesL vs).length := by
   rw [UInt8.toNat_ofNat', bytesL_len]; omega
  simp [gP, bytesQ, bodyQ, fnOf, pw, cntL, getN1, getN3, m1, m4];rw [tail5 _ _ _ _ _ _ _ e];exact wordsR_bytes vs
 ·
  obtain ⟨rfl, rfl, rfl, rfl, rfl, rfl, rfl, rfl⟩ := hf;simp [gP, bytesQ, bodyQ, fnOf]
 ·
  obtain ⟨rfl, rfl, rfl, rfl, rfl⟩ := hf;rw [mkW_hi_lo] at m1;simp [gP, bytesQ, bodyQ, fnOf, pw, getN1, getN3, getN5, m1, mkW_hi_lo, wOf_val]
 ·
  obtain ⟨rfl, rfl, rfl, rfl⟩ := hf;have e : (UInt8.ofNat (bytesL vs).length).toNat = (bytesL vs).length := by
   rw [UInt8.toNat_ofNat', bytesL_len]; omega
  simp [gP, bytesQ, bodyQ, fnOf, pw, cntL, getN1, getN3, getN5, m1, m2, m4];rw [tail9 _ _ _ _ _ _ _ _ _ _ _ e];exact wordsR_bytes vs
theorem gR_bytes (q : Rq) (h : rightE q = 0) : gR (bytesQ q) = q := by
 obtain ⟨hk, hf, ⟨n1, n2, n3, n4⟩, hl⟩ := right_parts h;clear h;obtain ⟨f, a, c, p, s, bs, vs, m, o⟩ := q;simp only at hk n1 n2 n3 n4;have m1 := pw_mk a n1;have m2 := pw_mk p n2;have m3 := pw_mk s n3;have m4 := pw_mk c n4;rcases known_cases hk with rfl | rfl | rfl | rfl | rfl | rfl | rfl | rfl | rfl | rfl | rfl | rfl
 all_goals
  clear hk;simp [formP] at hf;simp [listB] at hl
 ·
  obtain ⟨rfl, rfl, rfl, rfl, rfl, rfl⟩ := hf;simp [gR, bytesQ, bodyQ, fnOf, pw, getN1, getN3, m1, m4]
 ·
  obtain ⟨rfl, rfl, rfl, rfl, rfl, rfl⟩ := hf;simp [gR, bytesQ, bodyQ, fnOf, pw, getN1, getN3, m1, m4]
 ·
  obtain ⟨rfl, rfl, rfl, rfl, rfl, rfl⟩ := hf;simp [gR, bytesQ, bodyQ, fnOf, pw, getN1, getN3, m1, m4]
 ·
  obtain ⟨rfl, rfl, rfl, rfl, rfl, rfl⟩ := hf;simp [gR, bytesQ, bodyQ, fnOf, pw, getN1, getN3, m1, m4]
 ·
  obtain ⟨rfl, rfl, rfl, rfl, rfl, rfl⟩ := hf;obtain ⟨x, rfl⟩ := one_of_len hl;cases x
  ·
   simp [gR, bytesQ, bodyQ, fnOf, pw, getN1, getN3, m1]
   decide
  ·
   simp [gR, bytesQ, bodyQ, fnOf, pw, getN1, getN3, m1]
   decide
 ·
  obtain ⟨rfl, rfl, rfl, rfl, rfl, rfl⟩ := hf;obtain ⟨x, rfl⟩ := one_of_len hl;rw [mkW_hi_lo] at m1;simp [gR, bytesQ, bodyQ, fnOf, pw, getN1, m1, mkW_hi_lo, wOf_val, wordsAt, wordsR, wordsL]
 ·
  obtain ⟨rfl, rfl, rfl, rfl, rfl, rfl⟩ := hf;obtain ⟨x, rfl⟩ := one_of_len hl;rw [mkW_hi_lo] at m3;simp [gR, bytesQ, bodyQ, fnOf, pw, getN1, m3, mkW_hi_lo, wOf_val, wordsAt, wordsR, wordsL]
 ·
  obtain ⟨rfl, rfl, rfl, rfl, rfl⟩ := hf;obtain ⟨hl1, hl2⟩ := hl;have e3 : openR (packL bs) c = bs := by rw [← hl1, openR_yes (openOk_packL bs)]; simpa using openL_packL bs
  simp [gR, bytesQ, bodyQ, fnOf, pw, cntL, getN1, getN3, m1, m4]
  split
  ·
   rename_i h0
   exact (packL_nil (by rw [h0]; rfl)).symm
  ·
   exact e3
 ·
  obtain ⟨rfl, rfl, rfl, rfl, rfl⟩ := hf;obtain ⟨hl1, hl2⟩ := hl;simp [gR, bytesQ, bodyQ, fnOf, pw, cntL, getN1, getN3, m1, m4, wordsAt, wordsR_bytes];intro h0;exact bytesL_nil (by rw [h0]; rfl)
 ·
  obtain ⟨rfl, rfl, rfl, rfl, rfl, rfl, rfl, rfl⟩ := hf;simp [gR, bytesQ, bodyQ, fnOf]
 ·
  obtain ⟨rfl, rfl, rfl, rfl, rfl⟩ := hf;rw [mkW_hi_lo] at m1;simp [gR, bytesQ, bodyQ, fnOf, pw, getN1, getN3, getN5, m1, mkW_hi_lo, wOf_val]
 ·
  obtain ⟨rfl, rfl, rfl, rfl⟩ := hf;simp [gR, bytesQ, bodyQ, fnOf, pw, cntL, getN1, getN3, getN5, m1, m2, m4, wordsAt, wordsR_bytes];intro h0;exact bytesL_nil (by rw [h0]; rfl)
def isQ (b : List UInt8) (q : Rq) : Prop := rightE q = 0 ∧ bytesQ q = b
theorem isQ_one {b : List UInt8} {p q : Rq} (hp : isQ b p) (hq : isQ b q) : p = q := by
 rw [← gP_bytes p hp.1, ← gP_bytes q hq.1, hp.2, hq.2]
open Classical in
noncomputable def readQ (b : List UInt8) : Rq := if h : ∃ q, isQ b q then Classical.choose h else zeroQ
open Classical in
noncomputable def readE (b : List UInt8) : Int := if b = [] then 13 else if knownB (fnOf b) = false then 15 else if ∃ q, isQ b q then 0 else 12
theorem readQ_is {b : List UInt8} {q : Rq} (h : isQ b q) : readQ b = q := by
 have hx : ∃ q, isQ b q := ⟨q, h⟩;unfold readQ;rw [dif_pos hx];exact isQ_one (Classical.choose_spec hx) h
theorem readQ_no {b : List UInt8} (h : ¬ ∃ q, isQ b q) : readQ b = zeroQ := by
 unfold readQ; rw [dif_neg h]
theorem fn_bytes {b : List UInt8} {q : Rq} (h : isQ b q) : b ≠ [] ∧ fnOf b = q.fn ∧ knownB q.fn = true := by
 obtain ⟨hr, rfl⟩ := h;obtain ⟨hk, -⟩ := right_parts hr;refine ⟨by simp [bytesQ], ?_, hk⟩;have := known_cases hk;simp only [fnOf, bytesQ, List.getD_cons_zero, UInt8.toNat_ofNat'];omega
theorem readE_is {b : List UInt8} {q : Rq} (h : isQ b q) : readE b = 0 := by
 obtain ⟨h1, h2, h3⟩ := fn_bytes h;have hx : ∃ q, isQ b q := ⟨q, h⟩;simp [readE, h1, h2, h3, hx]
theorem readE_short : readE [] = 13 := by simp [readE]
theorem readE_fn {b : List UInt8} (h0 : b ≠ []) (h : knownB (fnOf b) = false) : readE b = 15 := by simp [readE, h0, h]
theorem readE_form {b : List UInt8} (h0 : b ≠ []) (h : knownB (fnOf b) = true) (hn : ¬ ∃ q, isQ b q) : readE b = 12 := by simp only [readE, h0, h, hn]; simp
theorem readQ_short : readQ [] = zeroQ := readQ_no (fun ⟨_, h⟩ => (fn_bytes h).1 rfl)
theorem readQ_fn {b : List UInt8} (h : knownB (fnOf b) = false) : readQ b = zeroQ := readQ_no (fun ⟨q, hq⟩ => by
 obtain ⟨-, h2, h3⟩ := fn_bytes hq;rw [h2, h3] at h; cases h)
theorem noP {b : List UInt8} (h : ¬ isQ b (gP b)) : ¬ ∃ q, isQ b q := by
 rintro ⟨q, hq⟩;have := gP_bytes q hq.1;rw [hq.2] at this;rw [this] at h;exact h hq
end Go.Proofs.YtdihcdphgiaepaaGreat
