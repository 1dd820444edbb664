/- Plain mathematics of chapter 1: bytes, words, bits as lists. Nothing of the program. -/
import Derived.Laws.BitsAllLaws
import Derived.Laws.BitsLemmas
namespace Go.Proofs.Ytffjhimdamdenaa

theorem ofInt_i64 (a : Nat) (ha : a < 4611686018427387904) : (BitVec.ofInt 64 (a : Int)).toNat = a := by
  rw [BitVec.ofInt_natCast, BitVec.toNat_ofNat]; exact Nat.mod_eq_of_lt (by omega)
theorem i64_or_nat (a b : Nat) (ha : a < 4611686018427387904) (hb : b < 4611686018427387904) : bits .or .i64 (a : Int) (b : Int) = ((a ||| b : Nat) : Int) := by
  have hx : a ||| b < 2 ^ 62 := Nat.or_lt_two_pow (by omega) (by omega)
  show IntKind.i64.wrap ((BitVec.ofInt 64 (a : Int) ||| BitVec.ofInt 64 (b : Int)).toNat : Int) = _
  rw [BitVec.toNat_or, ofInt_i64 a ha, ofInt_i64 b hb, IntKind.wrap_i64]
  omega
/-- n & 2^k-1 on an int, whatever its sign -/
theorem i64_and_mask (n : Int) (k : Nat) (hk : k < 62) : bits .and .i64 n ((2 ^ k - 1 : Nat) : Int) = n % ((2 ^ k : Nat) : Int) := by
  have hp : 2 ^ k ≤ 2 ^ 61 := Nat.pow_le_pow_right (by decide) (by omega)
  have hp0 : 0 < 2 ^ k := Nat.two_pow_pos k
  have hm : (BitVec.ofInt 64 ((2 ^ k - 1 : Nat) : Int)).toNat = 2 ^ k - 1 := by
    rw [BitVec.ofInt_natCast, BitVec.toNat_ofNat]; exact Nat.mod_eq_of_lt (by omega)
  have key : (BitVec.ofInt 64 n &&& BitVec.ofInt 64 ((2 ^ k - 1 : Nat) : Int)).toNat = (n % ((2 ^ 64 : Nat) : Int)).toNat % 2 ^ k := by
    rw [BitVec.toNat_and, BitVec.toNat_ofInt, hm, Nat.and_two_pow_sub_one_eq_mod]
  show IntKind.i64.wrap ((BitVec.ofInt 64 n &&& BitVec.ofInt 64 ((2 ^ k - 1 : Nat) : Int)).toNat : Nat) = _
  have hlt : (n % ((2 ^ 64 : Nat) : Int)).toNat % 2 ^ k < 2 ^ k := Nat.mod_lt _ hp0
  have e1 : (((n % ((2 ^ 64 : Nat) : Int)).toNat % 2 ^ k : Nat) : Int) = n % ((2 ^ k : Nat) : Int) := by
    rw [Int.natCast_emod, Int.toNat_of_nonneg (Int.emod_nonneg _ (by decide))]
    exact Int.emod_emod_of_dvd n (Int.natCast_dvd_natCast.2 (Nat.pow_dvd_pow 2 (by omega)))
  rw [key, IntKind.wrap_i64, ← e1]
  omega

def hiB (x : UInt16) : UInt8 := UInt8.ofNat (x.toNat / 256)
def loB (x : UInt16) : UInt8 := UInt8.ofNat (x.toNat % 256)
def mkW (a b : UInt8) : UInt16 := UInt16.ofNat (a.toNat * 256 + b.toNat)

theorem hiB_nat (x : UInt16) : (hiB x).toNat = x.toNat / 256 := by
  have := x.toNat_lt; unfold hiB; rw [UInt8.toNat_ofNat']; omega
theorem loB_nat (x : UInt16) : (loB x).toNat = x.toNat % 256 := by
  unfold loB; rw [UInt8.toNat_ofNat']; omega
theorem mkW_nat (a b : UInt8) : (mkW a b).toNat = a.toNat * 256 + b.toNat := by
  have := a.toNat_lt; have := b.toNat_lt; unfold mkW; rw [UInt16.toNat_ofNat']; omega
theorem mkW_hi_lo (x : UInt16) : mkW (hiB x) (loB x) = x := by
  apply UInt16.toNat_inj.1; rw [mkW_nat, hiB_nat, loB_nat]; omega
theorem hi_mkW (a b : UInt8) : hiB (mkW a b) = a := by
  apply UInt8.toNat_inj.1; rw [hiB_nat, mkW_nat]; have := b.toNat_lt; omega
theorem lo_mkW (a b : UInt8) : loB (mkW a b) = b := by
  apply UInt8.toNat_inj.1; rw [loB_nat, mkW_nat]; have := b.toNat_lt; omega

/-- the lowest sixteen bits of a number -/
def wOf (n : Int) : UInt16 := UInt16.ofNat (n % 65536).toNat
theorem wOf_nat (n : Int) : ((wOf n).toNat : Int) = n % 65536 := by
  unfold wOf; rw [UInt16.toNat_ofNat']; omega

def bytesL (l : List UInt16) : List UInt8 := l.flatMap fun x => [hiB x, loB x]
def wordsL : List UInt8 → List UInt16
  | a :: b :: r => mkW a b :: wordsL r
  | _ => []

theorem bytesL_len (l : List UInt16) : (bytesL l).length = 2 * l.length := by
  induction l with
  | nil => rfl
  | cons x r ih => simp [bytesL] at ih ⊢; omega
theorem bytesL_append (a b : List UInt16) : bytesL (a ++ b) = bytesL a ++ bytesL b := by simp [bytesL]
theorem wordsL_bytesL (l : List UInt16) : wordsL (bytesL l) = l := by
  induction l with
  | nil => rfl
  | cons x r ih => simp [bytesL, wordsL, mkW_hi_lo] at ih ⊢; exact ih

theorem wordsL_eq : ∀ (b : List UInt8), wordsL b = (List.range (b.length / 2)).map fun i => mkW (b.getD (2 * i) 0) (b.getD (2 * i + 1) 0)
  | [] => rfl
  | [_] => by simp [wordsL]
  | a :: b :: r => by
    have hl : (a :: b :: r).length / 2 = r.length / 2 + 1 := by simp; omega
    rw [wordsL, wordsL_eq r, hl, List.range_succ_eq_map, List.map_cons, List.map_map]
    congr 1
theorem wordsL_len (b : List UInt8) : (wordsL b).length = b.length / 2 := by rw [wordsL_eq]; simp

theorem bytesL_take_succ (l : List UInt16) (k : Nat) (h : k < l.length) : bytesL (l.take (k + 1)) = bytesL (l.take k) ++ [hiB l[k], loB l[k]] := by
  rw [List.take_succ_eq_append_getElem h, bytesL_append]; rfl

/-- the number whose bits are l, the first one lowest -/
def ofBits : List Bool → Nat
  | [] => 0
  | b :: r => b.toNat + 2 * ofBits r

theorem ofBits_testBit : ∀ (l : List Bool) (t : Nat), (ofBits l).testBit t = l.getD t false
  | [], t => by simp [ofBits]
  | b :: r, 0 => by cases b <;> simp [ofBits, Nat.testBit_zero] <;> omega
  | b :: r, t + 1 => by
    rw [ofBits, Nat.testBit_succ]
    have : (b.toNat + 2 * ofBits r) / 2 = ofBits r := by cases b <;> simp <;> omega
    rw [this, ofBits_testBit r t]
    simp

theorem ofBits_lt : ∀ (l : List Bool), ofBits l < 2 ^ l.length
  | [] => by simp [ofBits]
  | b :: r => by
    have := ofBits_lt r
    simp only [ofBits, List.length_cons, Nat.pow_succ]
    cases b <;> simp <;> omega

/-- byte j of the bits l -/
def packB (l : List Bool) (j : Nat) : UInt8 := UInt8.ofNat (ofBits ((l.drop (8 * j)).take 8))

theorem packB_nat (l : List Bool) (j : Nat) : (packB l j).toNat = ofBits ((l.drop (8 * j)).take 8) := by
  have h := ofBits_lt ((l.drop (8 * j)).take 8)
  have h2 : ((l.drop (8 * j)).take 8).length ≤ 8 := List.length_take_le _ _
  have h3 : 2 ^ ((l.drop (8 * j)).take 8).length ≤ 2 ^ 8 := Nat.pow_le_pow_right (by decide) h2
  unfold packB; rw [UInt8.toNat_ofNat']; exact Nat.mod_eq_of_lt (by omega)

theorem packB_bit (l : List Bool) (j t : Nat) : (packB l j).toNat.testBit t = (decide (t < 8) && l.getD (8 * j + t) false) := by
  rw [packB_nat, ofBits_testBit]
  by_cases h : t < 8
  · simp [List.getD_eq_getElem?_getD, h, List.getElem?_drop]
  · simp [List.getD_eq_getElem?_getD, List.getElem?_take, h]

theorem u8_ext {a b : UInt8} (h : ∀ t, t < 8 → a.toNat.testBit t = b.toNat.testBit t) : a = b := by
  apply UInt8.toNat_inj.1
  apply Nat.eq_of_testBit_eq
  intro t
  by_cases ht : t < 8
  · exact h t ht
  · have e1 : a.toNat < 2 ^ t := Nat.lt_of_lt_of_le a.toNat_lt (Nat.pow_le_pow_right (by decide) (by omega))
    have e2 : b.toNat < 2 ^ t := Nat.lt_of_lt_of_le b.toNat_lt (Nat.pow_le_pow_right (by decide) (by omega))
    rw [Nat.testBit_lt_two_pow e1, Nat.testBit_lt_two_pow e2]

def packL (l : List Bool) : List UInt8 := (List.range ((l.length + 7) / 8)).map (packB l)

theorem packL_len (l : List Bool) : (packL l).length = (l.length + 7) / 8 := by simp [packL]

/-- one bit more -/
theorem packB_step (l : List Bool) (k j : Nat) (hk : k < l.length) :
    (packB (l.take (k + 1)) j).toNat = if j = k / 8 ∧ l[k] = true then (packB (l.take k) j).toNat ||| 2 ^ (k % 8) else (packB (l.take k) j).toNat := by
  apply Nat.eq_of_testBit_eq
  intro t
  have e : ∀ n, (l.take n).getD (8 * j + t) false = (decide (8 * j + t < n) && l.getD (8 * j + t) false) := by
    intro n
    simp [List.getD_eq_getElem?_getD, List.getElem?_take]
    by_cases h : 8 * j + t < n <;> simp [h]
  split
  · rename_i h
    rw [Nat.testBit_or, packB_bit, packB_bit, e, e, Nat.testBit_two_pow]
    by_cases ht : t < 8
    · by_cases hkt : 8 * j + t = k
      · have : k % 8 = t := by omega
        have hg : l.getD k false = true := by rw [List.getD_eq_getElem?_getD, List.getElem?_eq_getElem hk]; simpa using h.2
        rw [hkt]
        rw [hg]; simp [ht, this]
      · have h1 : ¬ k % 8 = t := by omega
        have h2 : (8 * j + t < k + 1) ↔ (8 * j + t < k) := by omega
        simp [ht, h1, h2]
    · have h1 : ¬ k % 8 = t := by omega
      simp [ht, h1]
  · rename_i h
    rw [packB_bit, packB_bit, e, e]
    by_cases ht : t < 8
    · by_cases hkt : 8 * j + t = k
      · have hj : j = k / 8 := by omega
        have hf : l[k] = false := by
          cases hb : l[k] with
          | false => rfl
          | true => exact absurd ⟨hj, hb⟩ h
        have hg : l.getD k false = false := by rw [List.getD_eq_getElem?_getD, List.getElem?_eq_getElem hk]; simpa using hf
        rw [hkt, hg]; simp
      · have h2 : (8 * j + t < k + 1) ↔ (8 * j + t < k) := by omega
        simp [h2]
    · simp [ht]

/-- bit i of the bytes b -/
def bitAt (b : List UInt8) (i : Nat) : Bool := (b.getD (i / 8) 0).toNat.testBit (i % 8)
def openL (b : List UInt8) (n : Nat) : List Bool := (List.range n).map (bitAt b)
/-- may b be n bits? -/
def openOk (b : List UInt8) (n : Int) : Bool := decide (0 ≤ n) && decide ((b.length : Int) = (n + 7) / 8) && (List.range (8 * b.length)).all fun i => decide ((i : Int) < n) || !bitAt b i

theorem bitAt_packL (l : List Bool) (i : Nat) (h : i < 8 * (packL l).length) : bitAt (packL l) i = l.getD i false := by
  rw [packL_len] at h
  unfold bitAt packL
  rw [List.getD_eq_getElem?_getD, List.getElem?_map, List.getElem?_range (by omega)]
  simp only [Option.map_some, Option.getD_some]
  rw [packB_bit]
  have : 8 * (i / 8) + i % 8 = i := by omega
  rw [this]
  simp
  intro h2; omega

theorem openL_packL (l : List Bool) : openL (packL l) l.length = l := by
  apply List.ext_getElem
  · simp [openL]
  · intro i h1 h2
    simp only [openL, List.getElem_map, List.getElem_range]
    rw [bitAt_packL l i (by rw [packL_len]; omega), List.getD_eq_getElem?_getD, List.getElem?_eq_getElem h2]
    rfl

theorem openOk_packL (l : List Bool) : openOk (packL l) l.length = true := by
  unfold openOk
  simp only [Bool.and_eq_true, decide_eq_true_eq, List.all_eq_true, List.mem_range]
  refine ⟨⟨by omega, by rw [packL_len]; omega⟩, fun i hi => ?_⟩
  rw [bitAt_packL l i hi]
  by_cases h : i < l.length
  · simp [h]
  · simp [List.getD_eq_getElem?_getD, h]

theorem packL_append (x m : List Bool) (h : x.length % 8 = 0) : packL (x ++ m) = packL x ++ packL m := by
  apply List.ext_getElem
  · simp [packL_len]; omega
  · intro i h1 h2
    apply u8_ext
    intro t ht
    rw [packL_len] at h1
    simp only [List.length_append] at h1
    have a1 : ∀ (l : List Bool) (j : Nat) (hj : j < (packL l).length), (packL l)[j] = packB l j := by
      intro l j hj; simp [packL]
    rw [a1]
    by_cases hi : i < (packL x).length
    · rw [List.getElem_append_left hi, a1, packB_bit, packB_bit]
      rw [packL_len] at hi
      have : 8 * i + t < x.length := by omega
      simp [List.getD_eq_getElem?_getD, List.getElem?_append_left this]
    · rw [List.getElem_append_right (by omega), a1, packB_bit, packB_bit]
      rw [packL_len] at hi
      have e1 : x.length ≤ 8 * i + t := by omega
      have e2 : 8 * i + t - x.length = 8 * (i - (packL x).length) + t := by rw [packL_len]; omega
      simp [List.getD_eq_getElem?_getD, List.getElem?_append_right e1, e2]

end Go.Proofs.Ytffjhimdamdenaa
