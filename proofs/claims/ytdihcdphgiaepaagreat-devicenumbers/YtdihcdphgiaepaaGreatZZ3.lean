/- Contracts of slices.Equal and of burgageref3's bits, vals. -/
import Derived.Test.YtdihcdphgiaepaaGreatZZ2
import Derived.Test.YtdihcdphgiaepaaGreatZZ1
set_option maxHeartbeats 400000
namespace Go.Proofs.YtdihcdphgiaepaaGreat
structure Rq where
 fn : Int
 loc : Int
 cnt : Int
 wat : Int
 sub : Int
 bits : List Bool
 vals : List UInt16
 land : UInt16
 lor : UInt16
 deriving DecidableEq
def zeroQ : Rq := ⟨0, 0, 0, 0, 0, [], [], 0, 0⟩
def knownB (f : Int) : Bool := decide (f = 1 ∨ f = 2 ∨ f = 3 ∨ f = 4 ∨ f = 5 ∨ f = 6 ∨ f = 8 ∨ f = 15 ∨ f = 16 ∨ f = 17 ∨ f = 22 ∨ f = 23)
def numB (n : Int) : Bool := decide (0 ≤ n ∧ n ≤ 65535)
def formP (q : Rq) : Prop :=
 ((q.fn = 1 ∨ q.fn = 2 ∨ q.fn = 3 ∨ q.fn = 4 ∨ q.fn = 5 ∨ q.fn = 6 ∨ q.fn = 15 ∨ q.fn = 16 ∨ q.fn = 22 ∨ q.fn = 23) ∨ q.loc = 0) ∧
 ((q.fn = 1 ∨ q.fn = 2 ∨ q.fn = 3 ∨ q.fn = 4 ∨ q.fn = 15 ∨ q.fn = 16 ∨ q.fn = 23) ∨ q.cnt = 0) ∧
 (q.fn = 23 ∨ q.wat = 0) ∧ (q.fn = 8 ∨ q.sub = 0) ∧ ((q.fn = 5 ∨ q.fn = 15) ∨ q.bits = []) ∧
 ((q.fn = 6 ∨ q.fn = 8 ∨ q.fn = 16 ∨ q.fn = 23) ∨ q.vals = []) ∧ (q.fn = 22 ∨ (q.land = 0 ∧ q.lor = 0))
instance (q : Rq) : Decidable (formP q) := by unfold formP; infer_instance
def listB (q : Rq) : Bool :=
 if q.fn = 5 then decide (q.bits.length = 1)
 else if q.fn = 6 then decide (q.vals.length = 1)
 else if q.fn = 8 then decide (q.vals.length = 1)
 else if q.fn = 15 then decide ((q.bits.length : Int) = q.cnt ∧ q.bits.length ≤ 2040)
 else if q.fn = 16 then decide ((q.vals.length : Int) = q.cnt ∧ q.vals.length ≤ 127)
 else if q.fn = 23 then decide (q.vals.length ≤ 127)
 else true
def rightE (q : Rq) : Int :=
 if knownB q.fn = false then 15
 else if ¬ formP q then 12
 else if (numB q.loc && numB q.wat && numB q.sub && numB q.cnt) = false then 12
 else if listB q = false then 12
 else 0
def pw (n : Int) : List UInt8 := [hiB (wOf n), loB (wOf n)]
def cntL (l : List UInt8) : List UInt8 := UInt8.ofNat l.length :: l
def bodyQ (q : Rq) : List UInt8 :=
 if q.fn = 1 ∨ q.fn = 2 ∨ q.fn = 3 ∨ q.fn = 4 then pw q.loc ++ pw q.cnt
 else if q.fn = 5 then pw q.loc ++ pw (if q.bits.getD 0 false then 65280 else 0)
 else if q.fn = 6 then pw q.loc ++ pw (q.vals.getD 0 0).toNat
 else if q.fn = 8 then pw q.sub ++ pw (q.vals.getD 0 0).toNat
 else if q.fn = 15 then pw q.loc ++ pw q.cnt ++ cntL (packL q.bits)
 else if q.fn = 16 then pw q.loc ++ pw q.cnt ++ cntL (bytesL q.vals)
 else if q.fn = 22 then pw q.loc ++ pw q.land.toNat ++ pw q.lor.toNat
 else if q.fn = 23 then pw q.loc ++ pw q.cnt ++ pw q.wat ++ pw q.vals.length ++ cntL (bytesL q.vals)
 else []
def bytesQ (q : Rq) : List UInt8 := UInt8.ofNat (q.fn % 256).toNat :: bodyQ q
def tailL (b : List UInt8) (k : Nat) : List UInt8 := if b.length ≤ k ∨ b.length - k - 1 ≠ (b.getD k 0).toNat then [] else b.drop (k + 1)
def fnOf (b : List UInt8) : Int := (b.getD 0 0).toNat
def gP (b : List UInt8) : Rq :=
 if fnOf b = 1 ∨ fnOf b = 2 ∨ fnOf b = 3 ∨ fnOf b = 4 then ⟨fnOf b, getN b 1, getN b 3, 0, 0, [], [], 0, 0⟩
 else if fnOf b = 5 then ⟨fnOf b, getN b 1, 0, 0, 0, [getN b 3 == 65280], [], 0, 0⟩
 else if fnOf b = 6 then ⟨fnOf b, getN b 1, 0, 0, 0, [], [wOf (getN b 3)], 0, 0⟩
 else if fnOf b = 8 then ⟨fnOf b, 0, 0, 0, getN b 1, [], [wOf (getN b 3)], 0, 0⟩
 else if fnOf b = 15 then ⟨fnOf b, getN b 1, getN b 3, 0, 0, openR (tailL b 5) (getN b 3), [], 0, 0⟩
 else if fnOf b = 16 then ⟨fnOf b, getN b 1, getN b 3, 0, 0, [], wordsR (tailL b 5), 0, 0⟩
 else if fnOf b = 22 then ⟨fnOf b, getN b 1, 0, 0, 0, [], [], wOf (getN b 3), wOf (getN b 5)⟩
 else if fnOf b = 23 then ⟨fnOf b, getN b 1, getN b 3, getN b 5, 0, [], wordsR (tailL b 9), 0, 0⟩
 else ⟨fnOf b, 0, 0, 0, 0, [], [], 0, 0⟩
def wordsAt (b : List UInt8) (k : Nat) : List UInt16 := if b.length ≤ k then [] else wordsR (b.drop k)
def gR (b : List UInt8) : Rq :=
 if fnOf b = 1 ∨ fnOf b = 2 ∨ fnOf b = 3 ∨ fnOf b = 4 then ⟨fnOf b, getN b 1, getN b 3, 0, 0, [], [], 0, 0⟩
 else if fnOf b = 5 then ⟨fnOf b, getN b 1, 0, 0, 0, [getN b 3 != 0], [], 0, 0⟩
 else if fnOf b = 6 then ⟨fnOf b, getN b 1, 0, 0, 0, [], wordsAt b 3, 0, 0⟩
 else if fnOf b = 8 then ⟨fnOf b, 0, 0, 0, getN b 1, [], wordsAt b 3, 0, 0⟩
 else if fnOf b = 15 then ⟨fnOf b, getN b 1, getN b 3, 0, 0, (if b.length ≤ 6 then [] else openR (b.drop 6) (getN b 3)), [], 0, 0⟩
 else if fnOf b = 16 then ⟨fnOf b, getN b 1, getN b 3, 0, 0, [], wordsAt b 6, 0, 0⟩
 else if fnOf b = 22 then ⟨fnOf b, getN b 1, 0, 0, 0, [], [], wOf (getN b 3), wOf (getN b 5)⟩
 else if fnOf b = 23 then ⟨fnOf b, getN b 1, getN b 3, getN b 5, 0, [], wordsAt b 10, 0, 0⟩
 else ⟨fnOf b, 0, 0, 0, 0, [], [], 0, 0⟩
theorem wOf_small (n : Int) (h : numB n = true) : ((wOf n).toNat : Int) = n := by
 rw [wOf_nat]; simp [numB] at h; omega
theorem wOf_val (x : UInt16) : wOf (x.toNat : Int) = x := by
 apply UInt16.toNat_inj.1
 have := wOf_nat (x.toNat : Int);have := x.toNat_lt;omega
theorem pw_mk (n : Int) (h : numB n = true) : ((mkW (hiB (wOf n)) (loB (wOf n))).toNat : Int) = n := by rw [mkW_hi_lo]; exact wOf_small n h
theorem val_num (x : UInt16) : numB (x.toNat : Int) = true := by
 have := x.toNat_lt; simp [numB]; omega
theorem known_cases {f : Int} (h : knownB f = true) : f = 1 ∨ f = 2 ∨ f = 3 ∨ f = 4 ∨ f = 5 ∨ f = 6 ∨ f = 8 ∨ f = 15 ∨ f = 16 ∨ f = 17 ∨ f = 22 ∨ f = 23 := of_decide_eq_true h
theorem right_parts {q : Rq} (h : rightE q = 0) : knownB q.fn = true ∧ formP q ∧ (numB q.loc = true ∧ numB q.wat = true ∧ numB q.sub = true ∧ numB q.cnt = true) ∧ listB q = true := by
 unfold rightE at h
 split at h
 ·
  cases h
 ·
  rename_i h1
  split at h
  ·
   cases h
  ·
   rename_i h2
   split at h
   ·
    cases h
   ·
    rename_i h3
    split at h
    ·
     cases h
    ·
     rename_i h4
     refine ⟨by simpa using h1, Decidable.not_not.1 h2, ?_, by simpa using h4⟩;simp only [Bool.not_eq_false, Bool.and_eq_true] at h3;exact ⟨h3.1.1.1, h3.1.1.2, h3.1.2, h3.2⟩
theorem getN1 (f x y : UInt8) (r : List UInt8) : getN (f :: x :: y :: r) 1 = (mkW x y).toNat := by
 unfold getN; rw [if_pos (by simp only [List.length_cons]; omega)]; simp
theorem getN3 (f a b x y : UInt8) (r : List UInt8) : getN (f :: a :: b :: x :: y :: r) 3 = (mkW x y).toNat := by
 unfold getN; rw [if_pos (by simp only [List.length_cons]; omega)]; simp
theorem getN5 (f a b c d x y : UInt8) (r : List UInt8) : getN (f :: a :: b :: c :: d :: x :: y :: r) 5 = (mkW x y).toNat := by
 unfold getN; rw [if_pos (by simp only [List.length_cons]; omega)]; simp
theorem tail5 (f a b c d n : UInt8) (l : List UInt8) (h : n.toNat = l.length) : tailL (f :: a :: b :: c :: d :: n :: l) 5 = l := by
 unfold tailL; rw [if_neg (by simp [h])]; simp
theorem tail9 (f a b c d g i j k n : UInt8) (l : List UInt8) (h : n.toNat = l.length) : tailL (f :: a :: b :: c :: d :: g :: i :: j :: k :: n :: l) 9 = l := by
 unfold tailL; rw [if_neg (by simp [h])]; simp
theorem wordsR_bytes (l : List UInt16) : wordsR (bytesL l) = l := by
 unfold wordsR; rw [if_pos (by rw [bytesL_len]; omega), wordsL_bytesL]
theorem bytesL_nil {l : List UInt16} (h : (bytesL l).length = 0) : l = [] := by
 rw [bytesL_len] at h; exact List.length_eq_zero_iff.1 (by omega)
theorem packL_nil {l : List Bool} (h : (packL l).length = 0) : l = [] := by
 rw [packL_len] at h; exact List.length_eq_zero_iff.1 (by omega)
theorem one_of_len {α : Type} {l : List α} (h : l.length = 1) : ∃ x, l = [x] := by
 match l, h with
 | [x], _ => exact ⟨x, rfl⟩
theorem gP_bytes (q : Rq) (h : rightE q = 0) : gP (bytesQ q) = q := by
 obtain ⟨hk, hf, ⟨n1, n2, n3, n4⟩, hl⟩ := right_parts h;clear h;obtain ⟨f, a, c, p, s, bs, vs, m, o⟩ := q;simp only at hk n1 n2 n3 n4;have m1 := pw_mk a n1;have m2 := pw_mk p n2;have m3 := pw_mk s n3;have m4 := pw_mk c n4;rcases known_cases hk with rfl | rfl | rfl | rfl | rfl | rfl | rfl | rfl | rfl | rfl | rfl | rfl
 all_goals
  clear hk;simp [formP] at hf;simp [listB] at hl
 ·
  obtain ⟨rfl, rfl, rfl, rfl, rfl, rfl⟩ := hf;simp [gP, bytesQ, bodyQ, fnOf, pw, getN1, getN3, m1, m4]
 ·
  obtain ⟨rfl, rfl, rfl, rfl, rfl, rfl⟩ := hf;simp [gP, bytesQ, bodyQ, fnOf, pw, getN1, getN3, m1, m4]
 ·
  obtain ⟨rfl, rfl, rfl, rfl, rfl, rfl⟩ := hf;simp [gP, bytesQ, bodyQ, fnOf, pw, getN1, getN3, m1, m4]
 ·
  obtain ⟨rfl, rfl, rfl, rfl, rfl, rfl⟩ := hf;simp [gP, bytesQ, bodyQ, fnOf, pw, getN1, getN3, m1, m4]
 ·
  obtain ⟨rfl, rfl, rfl, rfl, rfl, rfl⟩ := hf;obtain ⟨x, rfl⟩ := one_of_len hl;cases x
  ·
   simp [gP, bytesQ, bodyQ, fnOf, pw, getN1, getN3, m1]
   decide
  ·
   simp [gP, bytesQ, bodyQ, fnOf, pw, getN1, getN3, m1]
   decide
 ·
  obtain ⟨rfl, rfl, rfl, rfl, rfl, rfl⟩ := hf;obtain ⟨x, rfl⟩ := one_of_len hl;rw [mkW_hi_lo] at m1;simp [gP, bytesQ, bodyQ, fnOf, pw, getN1, getN3, m1, mkW_hi_lo, wOf_val]
 ·
  obtain ⟨rfl, rfl, rfl, rfl, rfl, rfl⟩ := hf;obtain ⟨x, rfl⟩ := one_of_len hl;rw [mkW_hi_lo] at m3;simp [gP, bytesQ, bodyQ, fnOf, pw, getN1, getN3, m3, mkW_hi_lo, wOf_val]
 ·
  obtain ⟨rfl, rfl, rfl, rfl, rfl⟩ := hf;obtain ⟨hl1, hl2⟩ := hl;have e : (UInt8.ofNat (packL bs).length).toNat = (packL bs).length := by
   rw [UInt8.toNat_ofNat', packL_len]; omega
  have e3 : openR (packL bs) c = bs := by rw [← hl1, openR_yes (openOk_packL bs)]; simpa using openL_packL bs
  simp [gP, bytesQ, bodyQ, fnOf, pw, cntL, getN1, getN3, m1, m4];rw [tail5 _ _ _ _ _ _ _ e];exact e3
 ·
  obtain ⟨rfl, rfl, rfl, rfl, rfl⟩ := hf;obtain ⟨hl1, hl2⟩ := hl;have e : (UInt8.ofNat (bytesL vs).length).toNat = (bytesL vs).length := by
   rw [UInt8.toNat_ofNat', bytesL_len]; omega
  simp [gP, bytesQ, bodyQ, fnOf, pw, cntL, getN1, getN3, m1, m4];rw [tail5 _ _ _ _ _ _ _ e];exact wordsR_bytes vs
 ·
  obtain ⟨rfl, rfl, rfl, rfl, rfl, rfl, rfl, rfl⟩ := hf;simp [gP, bytesQ, bodyQ, fnOf]
 ·
  obtain ⟨rfl, rfl, rfl, rfl, rfl⟩ := hf;rw [mkW_hi_lo] at m1;simp [gP, bytesQ, bodyQ, fnOf, pw, getN1, getN3, getN5, m1, mkW_hi_lo, wOf_val]
 ·
  obtain ⟨rfl, rfl, rfl, rfl⟩ := hf;have e : (UInt8.ofNat (bytesL vs).length).toNat = (bytesL vs).length := by
   rw [UInt8.toNat_ofNat', bytesL_len]; omega
  simp [gP, bytesQ, bodyQ, fnOf, pw, cntL, getN1, getN3, getN5, m1, m2, m4];rw [tail9 _ _ _ _ _ _ _ _ _ _ _ e];exact wordsR_bytes vs
theorem gR_bytes (q : Rq) (h : rightE q = 0) : gR (bytesQ q) = q := by
 obtain ⟨hk, hf, ⟨n1, n2, n3, n4⟩, hl⟩ := right_parts h;clear h;obtain ⟨f, a, c, p, s, bs, vs, m, o⟩ := q;simp only at hk n1 n2 n3 n4;have m1 := pw_mk a n1;have m2 := pw_mk p n2;have m3 := pw_mk s n3;have m4 := pw_mk c n4;rcases known_cases hk with rfl | rfl | rfl | rfl | rfl | rfl | rfl | rfl | rfl | rfl | rfl | rfl
 all_goals
  clear hk;simp [formP] at hf;simp [listB] at hl
 ·
  obtain ⟨rfl, rfl, rfl, rfl, rfl, rfl⟩ := hf;simp [gR, bytesQ, bodyQ, fnOf, pw, getN1, getN3, m1, m4]
 ·
  obtain ⟨rfl, rfl, rfl, rfl, rfl, rfl⟩ := hf;simp [gR, bytesQ, bodyQ, fnOf, pw, getN1, getN3, m1, m4]
 ·
  obtain ⟨rfl, rfl, rfl, rfl, rfl, rfl⟩ := hf;simp [gR, bytesQ, bodyQ, fnOf, pw, getN1, getN3, m1, m4]
 ·
  obtain ⟨rfl, rfl, rfl, rfl, rfl, rfl⟩ := hf;simp [gR, bytesQ, bodyQ, fnOf, pw, getN1, getN3, m1, m4]
 ·
  obtain ⟨rfl, rfl, rfl, rfl, rfl, rfl⟩ := hf;obtain ⟨x, rfl⟩ := one_of_len hl;cases x
  ·
   simp [gR, bytesQ, bodyQ, fnOf, pw, getN1, getN3, m1]
   decide
  ·
   simp [gR, bytesQ, bodyQ, fnOf, pw, getN1, getN3, m1]
   decide
 ·
  obtain ⟨rfl, rfl, rfl, rfl, rfl, rfl⟩ := hf;obtain ⟨x, rfl⟩ := one_of_len hl;rw [mkW_hi_lo] at m1;simp [gR, bytesQ, bodyQ, fnOf, pw, getN1, m1, mkW_hi_lo, wOf_val, wordsAt, wordsR, wordsL]
 ·
  obtain ⟨rfl, rfl, rfl, rfl, rfl, rfl⟩ := hf;obtain ⟨x, rfl⟩ := one_of_len hl;rw [mkW_hi_lo] at m3;simp [gR, bytesQ, bodyQ, fnOf, pw, getN1, m3, mkW_hi_lo, wOf_val, wordsAt, wordsR, wordsL]
 ·
  obtain ⟨rfl, rfl, rfl, rfl, rfl⟩ := hf;obtain ⟨hl1, hl2⟩ := hl;have e3 : openR (packL bs) c = bs := by rw [← hl1, openR_yes (openOk_packL bs)]; simpa using openL_packL bs
  simp [gR, bytesQ, bodyQ, fnOf, pw, cntL, getN1, getN3, m1, m4]
  split
  ·
   rename_i h0
   exact (packL_nil (by rw [h0]; rfl)).symm
  ·
   exact e3
 ·
  obtain ⟨rfl, rfl, rfl, rfl, rfl⟩ := hf;obtain ⟨hl1, hl2⟩ := hl;simp [gR, bytesQ, bodyQ, fnOf, pw, cntL, getN1, getN3, m1, m4, wordsAt, wordsR_bytes];intro h0;exact bytesL_nil (by rw [h0]; rfl)
 ·
  obtain ⟨rfl, rfl, rfl, rfl, rfl, rfl, rfl, rfl⟩ := hf;simp [gR, bytesQ, bodyQ, fnOf]
 ·
  obtain ⟨rfl, rfl, rfl, rfl, rfl⟩ := hf;rw [mkW_hi_lo] at m1;simp [gR, bytesQ, bodyQ, fnOf, pw, getN1, getN3, getN5, m1, mkW_hi_lo, wOf_val]
 ·
  obtain ⟨rfl, rfl, rfl, rfl⟩ := hf;simp [gR, bytesQ, bodyQ, fnOf, pw, cntL, getN1, getN3, getN5, m1, m2, m4, wordsAt, wordsR_bytes];intro h0;exact bytesL_nil (by rw [h0]; rfl)
def isQ (b : List UInt8) (q : Rq) : Prop := rightE q = 0 ∧ bytesQ q = b
theorem isQ_one {b : List UInt8} {p q : Rq} (hp : isQ b p) (hq : isQ b q) : p = q := by
 rw [← gP_bytes p hp.1, ← gP_bytes q hq.1, hp.2, hq.2]
open Classical in
noncomputable def readQ (b : List UInt8) : Rq := if h : ∃ q, isQ b q then Classical.choose h else zeroQ
open Classical in
noncomputable def readE (b : List UInt8) : Int := if b = [] then 13 else if knownB (fnOf b) = false then 15 else if ∃ q, isQ b q then 0 else 12
theorem readQ_is {b : List UInt8} {q : Rq} (h : isQ b q) : readQ b = q := by
 have hx : ∃ q, isQ b q := ⟨q, h⟩;unfold readQ;rw [dif_pos hx];exact isQ_one (Classical.choose_spec hx) h
theorem readQ_no {b : List UInt8} (h : ¬ ∃ q, isQ b q) : readQ b = zeroQ := by
 unfold readQ; rw [dif_neg h]
theorem fn_bytes {b : List UInt8} {q : Rq} (h : isQ b q) : b ≠ [] ∧ fnOf b = q.fn ∧ knownB q.fn = true := by
 obtain ⟨hr, rfl⟩ := h;obtain ⟨hk, -⟩ := right_parts hr;refine ⟨by simp [bytesQ], ?_, hk⟩;have := known_cases hk;simp only [fnOf, bytesQ, List.getD_cons_zero, UInt8.toNat_ofNat'];omega
theorem readE_is {b : List UInt8} {q : Rq} (h : isQ b q) : readE b = 0 := by
 obtain ⟨h1, h2, h3⟩ := fn_bytes h;have hx : ∃ q, isQ b q := ⟨q, h⟩;simp [readE, h1, h2, h3, hx]
theorem readE_short : readE [] = 13 := by simp [readE]
theorem readE_fn {b : List UInt8} (h0 : b ≠ []) (h : knownB (fnOf b) = false) : readE b = 15 := by simp [readE, h0, h]
theorem readE_form {b : List UInt8} (h0 : b ≠ []) (h : knownB (fnOf b) = true) (hn : ¬ ∃ q, isQ b q) : readE b = 12 := by simp only [readE, h0, h, hn]; simp
theorem readQ_short : readQ [] = zeroQ := readQ_no (fun ⟨_, h⟩ => (fn_bytes h).1 rfl)
theorem readQ_fn {b : List UInt8} (h : knownB (fnOf b) = false) : readQ b = zeroQ := readQ_no (fun ⟨q, hq⟩ => by
 obtain ⟨-, h2, h3⟩ := fn_bytes hq;rw [h2, h3] at h; cases h)
theorem noP {b : List UInt8} (h : ¬ isQ b (gP b)) : ¬ ∃ q, isQ b q := by
 rintro ⟨q, hq⟩;have := gP_bytes q hq.1;rw [hq.2] at this;rw [this] at h;exact h hq
theorem noR {b : List UInt8} (h : ¬ isQ b (gR b)) : ¬ ∃ q, isQ b q := by
 rintro ⟨q, hq⟩;have := gR_bytes q hq.1;rw [hq.2] at this;rw [this] at h;exact h hq
structure Rp where
 fn : Int
 code : Int
 loc : Int
 cnt : Int
 sub : Int
 bits : List Bool
 vals : List UInt16
 land : UInt16
 lor : UInt16
 data : List UInt8
 deriving DecidableEq
def zeroP : Rp := ⟨0, 0, 0, 0, 0, [], [], 0, 0, []⟩
def refP (f k : Int) : Rp := ⟨f, k, 0, 0, 0, [], [], 0, 0, []⟩
def echoQ (r : Rp) : Rq := ⟨r.fn, r.loc, 0, 0, r.sub, r.bits, r.vals, r.land, r.lor⟩
def echoP (q : Rq) : Rp := ⟨q.fn, 0, q.loc, 0, q.sub, q.bits, q.vals, q.land, q.lor, []⟩
def formA (r : Rp) : Prop :=
 ((r.fn = 5 ∨ r.fn = 6 ∨ r.fn = 15 ∨ r.fn = 16 ∨ r.fn = 22) ∨ r.loc = 0) ∧ ((r.fn = 15 ∨ r.fn = 16) ∨ r.cnt = 0) ∧ (r.fn = 8 ∨ r.sub = 0) ∧
 ((r.fn = 1 ∨ r.fn = 2 ∨ r.fn = 5) ∨ r.bits = []) ∧ ((r.fn = 3 ∨ r.fn = 4 ∨ r.fn = 6 ∨ r.fn = 8 ∨ r.fn = 23) ∨ r.vals = []) ∧
 (r.fn = 22 ∨ (r.land = 0 ∧ r.lor = 0)) ∧ (r.fn = 17 ∨ r.data = [])
instance (r : Rp) : Decidable (formA r) := by unfold formA; infer_instance
def listA (r : Rp) : Bool :=
 if r.fn = 1 ∨ r.fn = 2 then decide (r.bits.length ≤ 2040)
 else if r.fn = 3 ∨ r.fn = 4 ∨ r.fn = 23 then decide (r.vals.length ≤ 127)
 else if r.fn = 5 then decide (r.bits.length = 1)
 else if r.fn = 6 ∨ r.fn = 8 then decide (r.vals.length = 1)
 else if r.fn = 17 then decide (r.data.length ≤ 250)
 else true
def codeB (r : Rp) : Bool := decide (r = refP (r.fn % 128) (r.code % 256))
def goodE (r : Rp) : Int :=
 if r.code ≠ 0 then (if codeB r then 0 else 12)
 else if knownB r.fn = false then 15
 else if ¬ formA r then 12
 else if (numB r.loc && numB r.sub && numB r.cnt) = false then 12
 else if listA r = false then 12
 else 0
def bodyA (r : Rp) : List UInt8 :=
 if r.fn = 1 ∨ r.fn = 2 then cntL (packL r.bits)
 else if r.fn = 3 ∨ r.fn = 4 ∨ r.fn = 23 then cntL (bytesL r.vals)
 else if r.fn = 15 ∨ r.fn = 16 then pw r.loc ++ pw r.cnt
 else if r.fn = 17 then cntL r.data
 else bodyQ (echoQ r)
def b8 (n : Int) : UInt8 := UInt8.ofNat (n % 256).toNat
theorem b8_nat (n : Int) : ((b8 n).toNat : Int) = n % 256 := by
 unfold b8; rw [UInt8.toNat_ofNat']; omega
theorem b8_val (n : Int) (h0 : 0 ≤ n) (h1 : n ≤ 255) : ((b8 n).toNat : Int) = n := by rw [b8_nat]; omega
def layA (r : Rp) : List UInt8 := if r.code ≠ 0 then [b8 (r.fn + 128), b8 r.code] else b8 r.fn :: bodyA r
def layR (r : Rp) : List UInt8 := if goodE r = 0 then layA r else []
theorem layR_0 {r : Rp} (h : goodE r = 0) : layR r = layA r := by simp [layR, h]
theorem layR_no {r : Rp} (h : goodE r ≠ 0) : layR r = [] := by simp [layR, h]
theorem codeB_iff (r : Rp) (hc : r.code ≠ 0) : codeB r = true ↔ (1 ≤ r.code ∧ r.code ≤ 255 ∧ 0 ≤ r.fn ∧ r.fn ≤ 127 ∧ r = refP r.fn r.code) := by
 obtain ⟨f, k, a, c, s, bs, vs, m, o, ds⟩ := r;simp only [codeB, refP, decide_eq_true_eq, Rp.mk.injEq, true_and] at hc ⊢;constructor
 ·
  rintro ⟨h1, h2, h3⟩;exact ⟨by omega, by omega, by omega, by omega, h3⟩
 ·
  rintro ⟨h1, h2, h3, h4, h5⟩;exact ⟨by omega, by omega, h5⟩
theorem good_code {r : Rp} (h : goodE r = 0) (hc : r.code ≠ 0) : 1 ≤ r.code ∧ r.code ≤ 255 ∧ 0 ≤ r.fn ∧ r.fn ≤ 127 ∧ r = refP r.fn r.code := by
 unfold goodE at h;rw [if_pos hc] at h
 split at h
 ·
  rename_i h1; exact (codeB_iff r hc).1 h1
 ·
  cases h
theorem good_parts {r : Rp} (h : goodE r = 0) (hc : r.code = 0) : knownB r.fn = true ∧ formA r ∧ (numB r.loc = true ∧ numB r.sub = true ∧ numB r.cnt = true) ∧ listA r = true := by
 unfold goodE at h;rw [if_neg (by simp [hc])] at h
 split at h
 ·
  cases h
 ·
  rename_i h1
  split at h
  ·
   cases h
  ·
   rename_i h2
   split at h
   ·
    cases h
   ·
    rename_i h3
    split at h
    ·
     cases h
    ·
     rename_i h4
     refine ⟨by simpa using h1, Decidable.not_not.1 h2, ?_, by simpa using h4⟩;simp only [Bool.not_eq_false, Bool.and_eq_true] at h3;exact ⟨h3.1.1, h3.1.2, h3.2⟩
theorem goodE_12 {r : Rp} (hc : r.code = 0) (hk : knownB r.fn = true) (h : ¬ formA r ∨ (numB r.loc && numB r.sub && numB r.cnt) = false ∨ listA r = false) : goodE r = 12 := by
 unfold goodE;rw [if_neg (by simp [hc]), if_neg (by rw [hk]; simp)];by_cases h1 : formA r
 ·
  rw [if_neg (by simp [h1])];by_cases h2 : (numB r.loc && numB r.sub && numB r.cnt) = false
  ·
   rw [if_pos h2]
  ·
   rw [if_neg h2];rcases h with h | h | h
   ·
    exact absurd h1 h
   ·
    exact absurd h h2
   ·
    rw [if_pos h]
 ·
  rw [if_pos h1]
theorem goodE_0 {r : Rp} (hc : r.code = 0) (hk : knownB r.fn = true) (h1 : formA r) (h2 : (numB r.loc && numB r.sub && numB r.cnt) = true) (h3 : listA r = true) : goodE r = 0 := by
 unfold goodE;rw [if_neg (by simp [hc]), if_neg (by rw [hk]; simp), if_neg (by simp [h1]), if_neg (by rw [h2]; simp), if_neg (by rw [h3]; simp)]
theorem goodE_15 {r : Rp} (hc : r.code = 0) (hk : knownB r.fn = false) : goodE r = 15 := by
 unfold goodE;rw [if_neg (by simp [hc]), if_pos hk]
theorem goodE_c0 {r : Rp} (hc : r.code ≠ 0) (h : codeB r = true) : goodE r = 0 := by
 unfold goodE; rw [if_pos hc, if_pos h]
theorem goodE_c12 {r : Rp} (hc : r.code ≠ 0) (h : codeB r = false) : goodE r = 12 := by
 unfold goodE; rw [if_pos hc, if_neg (by simp [h])]
theorem echo_right {r : Rp} (h : goodE r = 0) (hc : r.code = 0) (hf : r.fn = 5 ∨ r.fn = 6 ∨ r.fn = 8 ∨ r.fn = 22) : rightE (echoQ r) = 0 ∧ layA r = bytesQ (echoQ r) ∧ echoP (echoQ r) = r := by
 obtain ⟨hk, hform, ⟨n1, n2, n3⟩, hl⟩ := good_parts h hc;clear h;obtain ⟨f, k, a, c, s, bs, vs, m, o, ds⟩ := r;simp only at hf hk n1 n2 n3 hc;subst hc;have z : numB 0 = true := rfl;rcases hf with rfl | rfl | rfl | rfl
 all_goals
  clear hk;simp [formA] at hform;simp [listA] at hl
 ·
  obtain ⟨rfl, rfl, rfl, ⟨rfl, rfl⟩, rfl⟩ := hform;refine ⟨?_, by simp [layA, bytesQ, bodyA, echoQ, b8], by simp [echoP, echoQ]⟩;simp [rightE, echoQ, knownB, formP, n1, z, listB, hl]
 ·
  obtain ⟨rfl, rfl, rfl, ⟨rfl, rfl⟩, rfl⟩ := hform;refine ⟨?_, by simp [layA, bytesQ, bodyA, echoQ, b8], by simp [echoP, echoQ]⟩;simp [rightE, echoQ, knownB, formP, n1, z, listB, hl]
 ·
  obtain ⟨rfl, rfl, rfl, ⟨rfl, rfl⟩, rfl⟩ := hform;refine ⟨?_, by simp [layA, bytesQ, bodyA, echoQ, b8], by simp [echoP, echoQ]⟩;simp [rightE, echoQ, knownB, formP, n2, z, listB, hl]
 ·
  obtain ⟨rfl, rfl, rfl, rfl, rfl⟩ := hform;refine ⟨?_, by simp [layA, bytesQ, bodyA, echoQ, b8], by simp [echoP, echoQ]⟩;simp [rightE, echoQ, knownB, formP, n1, z, listB]
def ansB (x f : Int) : Bool := decide (0 ≤ f ∧ (x = f ∨ x - 128 = f))
def askB (r : Rp) (c : Int) : Bool :=
 if r.code ≠ 0 then true
 else if r.fn = 1 ∨ r.fn = 2 then decide ((r.bits.length : Int) = c)
 else if r.fn = 3 ∨ r.fn = 4 ∨ r.fn = 23 then decide ((r.vals.length : Int) = c)
 else true
def codeL (b : List UInt8) : Int := if b.length < 2 then 0 else (b.getD 1 0).toNat
noncomputable def gA (b : List UInt8) (c : Int) : Rp :=
 if 128 ≤ fnOf b then refP (fnOf b - 128) (codeL b)
 else if fnOf b = 1 ∨ fnOf b = 2 then ⟨fnOf b, 0, 0, 0, 0, openR (tailL b 1) c, [], 0, 0, []⟩
 else if fnOf b = 3 ∨ fnOf b = 4 ∨ fnOf b = 23 then ⟨fnOf b, 0, 0, 0, 0, [], wordsR (tailL b 1), 0, 0, []⟩
 else if fnOf b = 5 ∨ fnOf b = 6 ∨ fnOf b = 8 ∨ fnOf b = 22 then echoP (readQ b)
 else if fnOf b = 15 ∨ fnOf b = 16 then ⟨fnOf b, 0, getN b 1, getN b 3, 0, [], [], 0, 0, []⟩
 else if fnOf b = 17 then ⟨fnOf b, 0, 0, 0, 0, [], [], 0, 0, tailL b 1⟩
 else ⟨fnOf b, 0, 0, 0, 0, [], [], 0, 0, []⟩
def isA (b : List UInt8) (c : Int) (r : Rp) : Prop := goodE r = 0 ∧ layA r = b ∧ askB r c = true
open Classical in
noncomputable def takeR (b : List UInt8) (f c : Int) : Rp := if h : ansB (fnOf b) f = true ∧ ∃ r, isA b c r then Classical.choose h.2 else zeroP
open Classical in
noncomputable def takeE (b : List UInt8) (f c : Int) : Int := if b = [] then 13 else if ansB (fnOf b) f = true ∧ ∃ r, isA b c r then 0 else 12
open Go.RowKit
theorem eq_bool (u v : Value) (p q : List Bool) (w : World) (hu : Row w u (p.map Value.bool)) (hv : Row w v (q.map Value.bool)) :
  Calls Tryz.prog 123 #[u, v] w fun e w' => e = .returned (.bool (p == q)) ∧ Bo w w' := by
 obtain ⟨a, cap, rfl, -⟩ := id hu;obtain ⟨a2, cap2, rfl, -⟩ := id hv;obtain ⟨hl, hc, hm, -⟩ := hu.at;obtain ⟨hl2, hc2, hm2, -⟩ := hv.at;simp only [List.length_map] at hl hc hl2 hc2 hu hv ⊢;unfold maxLen at hm hm2;by_cases hlen : p.length = q.length
 ·
  have ht : ((p.length : Int) != (q.length : Int)) = false := by simp; omega
  have HL : Hid (p.length = q.length) := hlen;clear hlen;go_enter Tryz.func123, Tryz.ntmps123;go_wp2;go_loopw [13] (fun i wr => ∃ k : Nat, k ≤ p.length ∧ i = J k ∧ p.take k = q.take k ∧ Bo w wr) (fun i _ => p.length - (intOf i).toNat)
  case atStart => exact ⟨0, Nat.zero_le _, rfl, rfl, Below.refl _ _⟩
  case round =>
   obtain ⟨k, hk, rfl, he, hb⟩ := hrel;have HE : Hid (p.take k = q.take k) := he;clear he;by_cases hlt : k < p.length
   ·
    have hlt2 : k < q.length := by have := HL.out; omega
    obtain ⟨-, -, -, hcell⟩ := (hu.below hb).at;obtain ⟨b, off, rfl, hcl⟩ := hcell k false hlt;obtain ⟨-, -, -, hcell2⟩ := (hv.below hb).at;obtain ⟨b2, off2, rfl, hcl2⟩ := hcell2 k false hlt2;have c0 := hcl k hlt;have c1 := hcl2 k hlt2;clear hcl hcell hcl2 hcell2;have hlt' : (k : Int) < (p.length : Int) := by omega
    have hlt2' : (k : Int) < (q.length : Int) := by omega
    have S1 : Hid (p.take (k + 1) = p.take k ++ [p.getD k false]) := by
     show _ = _; rw [List.take_succ_eq_append_getElem hlt]; simp [hlt]
    have S2 : Hid (q.take (k + 1) = q.take k ++ [q.getD k false]) := by
     show _ = _; rw [List.take_succ_eq_append_getElem hlt2]; simp [hlt2]
    generalize p.getD k false = x at *;generalize q.getD k false = y at *;by_cases hxy : x = y
    ·
     subst hxy;have hne : (x != x) = false := by simp
     go_wp2;go_quiet (fail)
     go_wp2;go_roundw
     case rel => exact ⟨k + 1, by omega, by go_num, by rw [S1.out, S2.out, HE.out], below_drewn hb _⟩
     case measure => simp [intOf]; omega
    ·
     have hpq : Hid ((p == q) = false) := by
      show _ = _;rw [beq_eq_false_iff_ne];intro h;have a1 := S1.out;have a2 := S2.out;rw [h, a2] at a1;simp at a1;exact hxy a1.symm
     rcases (show (x = true ∧ y = false) ∨ (x = false ∧ y = true) by cases x <;> cases y <;> simp at hxy ⊢) with ⟨rfl, rfl⟩ | ⟨rfl, rfl⟩
     all_goals
      clear hxy;go_wp2;go_quiet (fail)
      go_wp2;go_ret;exact ⟨ret_bool hpq.out.symm, below_drewn hb _⟩
   ·
    have h0 : k = p.length := by omega
    subst h0;have e := HE.out;rw [List.take_length, HL.out, List.take_length] at e;have hpq : Hid ((p == q) = true) := by show _ = _; rw [e]; simp
    clear e;go_wp2;go_ret;exact ⟨ret_bool hpq.out.symm, hb⟩
 ·
  have ht : ((p.length : Int) != (q.length : Int)) = true := by simp; omega
  have hne : (p == q) = false := by
   rw [beq_eq_false_iff_ne]; intro h; exact hlen (by rw [h])
  rw [hne];clear hlen hne;go_enter Tryz.func123, Tryz.ntmps123;go_wp2;go_ret;exact ⟨rfl, Below.refl _ _⟩
theorem rbits_any (u v : Value) (p q : List Bool) (w : World) (hu : Row w u (p.map Value.bool)) (hv : Row w v (q.map Value.bool)) :
  Calls Tryz.prog 43 #[u, v] w fun e w' => e = .returned (.bool (p == q)) ∧ Bo w w' := by
 obtain ⟨a, cap, rfl, -⟩ := id hu;obtain ⟨a2, cap2, rfl, -⟩ := id hv;obtain ⟨hl, hc, hm, -⟩ := hu.at;obtain ⟨hl2, hc2, hm2, -⟩ := hv.at;simp only [List.length_map] at hl hc hl2 hc2 hu hv ⊢;unfold maxLen at hm hm2;by_cases hlen : p.length = q.length
 ·
  have ht : ((p.length : Int) != (q.length : Int)) = false := by simp; omega
  have HL : Hid (p.length = q.length) := hlen;clear hlen;go_enter Tryz.func43, Tryz.ntmps43;go_wp2;go_loopw [13] (fun i wr => ∃ k : Nat, k ≤ p.length ∧ i = J k ∧ p.take k = q.take k ∧ Bo w wr) (fun i _ => p.length - (intOf i).toNat)
  case atStart => exact ⟨0, Nat.zero_le _, rfl, rfl, Below.refl _ _⟩
  case round =>
   obtain ⟨k, hk, rfl, he, hb⟩ := hrel;have HE : Hid (p.take k = q.take k) := he;clear he;by_cases hlt : k < p.length
   ·
    have hlt2 : k < q.length := by have := HL.out; omega
    obtain ⟨-, -, -, hcell⟩ := (hu.below hb).at;obtain ⟨b, off, rfl, hcl⟩ := hcell k false hlt;obtain ⟨-, -, -, hcell2⟩ := (hv.below hb).at;obtain ⟨b2, off2, rfl, hcl2⟩ := hcell2 k false hlt2;have c0 := hcl k hlt;have c1 := hcl2 k hlt2;clear hcl hcell hcl2 hcell2;have hlt' : (k : Int) < (p.length : Int) := by omega
    have hlt2' : (k : Int) < (q.length : Int) := by omega
    have S1 : Hid (p.take (k + 1) = p.take k ++ [p.getD k false]) := by
     show _ = _; rw [List.take_succ_eq_append_getElem hlt]; simp [hlt]
    have S2 : Hid (q.take (k + 1) = q.take k ++ [q.getD k false]) := by
     show _ = _; rw [List.take_succ_eq_append_getElem hlt2]; simp [hlt2]
    generalize p.getD k false = x at *;generalize q.getD k false = y at *;by_cases hxy : x = y
    ·
     subst hxy;have hne : (x != x) = false := by simp
     go_wp2;go_quiet (fail)
     go_wp2;go_roundw
     case rel => exact ⟨k + 1, by omega, by go_num, by rw [S1.out, S2.out, HE.out], below_drewn hb _⟩
     case measure => simp [intOf]; omega
    ·
     have hpq : Hid ((p == q) = false) := by
      show _ = _;rw [beq_eq_false_iff_ne];intro h;have a1 := S1.out;have a2 := S2.out;rw [h, a2] at a1;simp at a1;exact hxy a1.symm
     rcases (show (x = true ∧ y = false) ∨ (x = false ∧ y = true) by cases x <;> cases y <;> simp at hxy ⊢) with ⟨rfl, rfl⟩ | ⟨rfl, rfl⟩
     all_goals
      clear hxy;go_wp2;go_quiet (fail)
      go_wp2;go_ret;exact ⟨ret_bool hpq.out.symm, below_drewn hb _⟩
   ·
    have h0 : k = p.length := by omega
    subst h0;have e := HE.out;rw [List.take_length, HL.out, List.take_length] at e;have hpq : Hid ((p == q) = true) := by show _ = _; rw [e]; simp
    clear e;go_wp2;go_ret;exact ⟨ret_bool hpq.out.symm, hb⟩
 ·
  have ht : ((p.length : Int) != (q.length : Int)) = true := by simp; omega
  have hne : (p == q) = false := by
   rw [beq_eq_false_iff_ne]; intro h; exact hlen (by rw [h])
  rw [hne];clear hlen hne;go_enter Tryz.func43, Tryz.ntmps43;go_wp2;go_ret;exact ⟨rfl, Below.refl _ _⟩
theorem eq_u16 (u v : Value) (p q : List UInt16) (w : World) (hu : Row w u (p.map wV)) (hv : Row w v (q.map wV)) :
  Calls Tryz.prog 124 #[u, v] w fun e w' => e = .returned (.bool (p == q)) ∧ Bo w w' := by
 obtain ⟨a, cap, rfl, -⟩ := id hu;obtain ⟨a2, cap2, rfl, -⟩ := id hv;obtain ⟨hl, hc, hm, -⟩ := hu.at;obtain ⟨hl2, hc2, hm2, -⟩ := hv.at;simp only [List.length_map] at hl hc hl2 hc2 hu hv ⊢;unfold maxLen at hm hm2;by_cases hlen : p.length = q.length
 ·
  have ht : ((p.length : Int) != (q.length : Int)) = false := by simp; omega
  have HL : Hid (p.length = q.length) := hlen;clear hlen;go_enter Tryz.func124, Tryz.ntmps124;go_wp2;go_loopw [13] (fun i wr => ∃ k : Nat, k ≤ p.length ∧ i = J k ∧ p.take k = q.take k ∧ Bo w wr) (fun i _ => p.length - (intOf i).toNat)
  case atStart => exact ⟨0, Nat.zero_le _, rfl, rfl, Below.refl _ _⟩
  case round =>
   obtain ⟨k, hk, rfl, he, hb⟩ := hrel;have HE : Hid (p.take k = q.take k) := he;clear he;by_cases hlt : k < p.length
   ·
    have hlt2 : k < q.length := by have := HL.out; omega
    obtain ⟨-, -, -, hcell⟩ := (hu.below hb).at;obtain ⟨b, off, rfl, hcl⟩ := hcell k 0 hlt;obtain ⟨-, -, -, hcell2⟩ := (hv.below hb).at;obtain ⟨b2, off2, rfl, hcl2⟩ := hcell2 k 0 hlt2;have c0 := hcl k hlt;have c1 := hcl2 k hlt2;clear hcl hcell hcl2 hcell2;have hlt' : (k : Int) < (p.length : Int) := by omega
    have hlt2' : (k : Int) < (q.length : Int) := by omega
    have S1 : Hid (p.take (k + 1) = p.take k ++ [p.getD k 0]) := by
     show _ = _; rw [List.take_succ_eq_append_getElem hlt]; simp [hlt]
    have S2 : Hid (q.take (k + 1) = q.take k ++ [q.getD k 0]) := by
     show _ = _; rw [List.take_succ_eq_append_getElem hlt2]; simp [hlt2]
    generalize p.getD k 0 = x at *;generalize q.getD k 0 = y at *;by_cases hxy : x = y
    ·
     subst hxy;have hne : ((x.toNat : Int) != (x.toNat : Int)) = false := by simp
     go_wp2;go_quiet (fail)
     go_wp2;go_roundw
     case rel => exact ⟨k + 1, by omega, by go_num, by rw [S1.out, S2.out, HE.out], below_drewn hb _⟩
     case measure => simp [intOf]; omega
    ·
     have hne : ((x.toNat : Int) != (y.toNat : Int)) = true := by simp; intro h; exact hxy (UInt16.toNat_inj.1 (by omega))
     have hpq : Hid ((p == q) = false) := by
      show _ = _;rw [beq_eq_false_iff_ne];intro h;have a1 := S1.out;have a2 := S2.out;rw [h, a2] at a1;simp at a1;exact hxy a1.symm
     go_wp2;go_quiet (fail)
     go_wp2;go_ret;exact ⟨ret_bool hpq.out.symm, below_drewn hb _⟩
   ·
    have h0 : k = p.length := by omega
    subst h0;have e := HE.out;rw [List.take_length, HL.out, List.take_length] at e;have hpq : Hid ((p == q) = true) := by show _ = _; rw [e]; simp
    clear e;go_wp2;go_ret;exact ⟨ret_bool hpq.out.symm, hb⟩
 ·
  have ht : ((p.length : Int) != (q.length : Int)) = true := by simp; omega
  have hne : (p == q) = false := by
   rw [beq_eq_false_iff_ne]; intro h; exact hlen (by rw [h])
  rw [hne];clear hlen hne;go_enter Tryz.func124, Tryz.ntmps124;go_wp2;go_ret;exact ⟨rfl, Below.refl _ _⟩
theorem rvals_any (u v : Value) (p q : List UInt16) (w : World) (hu : Row w u (p.map wV)) (hv : Row w v (q.map wV)) :
  Calls Tryz.prog 44 #[u, v] w fun e w' => e = .returned (.bool (p == q)) ∧ Bo w w' := by
 obtain ⟨a, cap, rfl, -⟩ := id hu;obtain ⟨a2, cap2, rfl, -⟩ := id hv;obtain ⟨hl, hc, hm, -⟩ := hu.at;obtain ⟨hl2, hc2, hm2, -⟩ := hv.at;simp only [List.length_map] at hl hc hl2 hc2 hu hv ⊢;unfold maxLen at hm hm2;by_cases hlen : p.length = q.length
 ·
  have ht : ((p.length : Int) != (q.length : Int)) = false := by simp; omega
  have HL : Hid (p.length = q.length) := hlen;clear hlen;go_enter Tryz.func44, Tryz.ntmps44;go_wp2;go_loopw [13] (fun i wr => ∃ k : Nat, k ≤ p.length ∧ i = J k ∧ p.take k = q.take k ∧ Bo w wr) (fun i _ => p.length - (intOf i).toNat)
  case atStart => exact ⟨0, Nat.zero_le _, rfl, rfl, Below.refl _ _⟩
  case round =>
   obtain ⟨k, hk, rfl, he, hb⟩ := hrel;have HE : Hid (p.take k = q.take k) := he;clear he;by_cases hlt : k < p.length
   ·
    have hlt2 : k < q.length := by have := HL.out; omega
    obtain ⟨-, -, -, hcell⟩ := (hu.below hb).at;obtain ⟨b, off, rfl, hcl⟩ := hcell k 0 hlt;obtain ⟨-, -, -, hcell2⟩ := (hv.below hb).at;obtain ⟨b2, off2, rfl, hcl2⟩ := hcell2 k 0 hlt2;have c0 := hcl k hlt;have c1 := hcl2 k hlt2;clear hcl hcell hcl2 hcell2;have hlt' : (k : Int) < (p.length : Int) := by omega
    have hlt2' : (k : Int) < (q.length : Int) := by omega
    have S1 : Hid (p.take (k + 1) = p.take k ++ [p.getD k 0]) := by
     show _ = _; rw [List.take_succ_eq_append_getElem hlt]; simp [hlt]
    have S2 : Hid (q.take (k + 1) = q.take k ++ [q.getD k 0]) := by
     show _ = _; rw [List.take_succ_eq_append_getElem hlt2]; simp [hlt2]
    generalize p.getD k 0 = x at *;generalize q.getD k 0 = y at *;by_cases hxy : x = y
    ·
     subst hxy;have hne : ((x.toNat : Int) != (x.toNat : Int)) = false := by simp
     go_wp2;go_quiet (fail)
     go_wp2;go_roundw
     case rel => exact ⟨k + 1, by omega, by go_num, by rw [S1.out, S2.out, HE.out], below_drewn hb _⟩
     case measure => simp [intOf]; omega
    ·
     have hne : ((x.toNat : Int) != (y.toNat : Int)) = true := by simp; intro h; exact hxy (UInt16.toNat_inj.1 (by omega))
     have hpq : Hid ((p == q) = false) := by
      show _ = _;rw [beq_eq_false_iff_ne];intro h;have a1 := S1.out;have a2 := S2.out;rw [h, a2] at a1;simp at a1;exact hxy a1.symm
     go_wp2;go_quiet (fail)
     go_wp2;go_ret;exact ⟨ret_bool hpq.out.symm, below_drewn hb _⟩
   ·
    have h0 : k = p.length := by omega
    subst h0;have e := HE.out;rw [List.take_length, HL.out, List.take_length] at e;have hpq : Hid ((p == q) = true) := by show _ = _; rw [e]; simp
    clear e;go_wp2;go_ret;exact ⟨ret_bool hpq.out.symm, hb⟩
 ·
  have ht : ((p.length : Int) != (q.length : Int)) = true := by simp; omega
  have hne : (p == q) = false := by
   rw [beq_eq_false_iff_ne]; intro h; exact hlen (by rw [h])
  rw [hne];clear hlen hne;go_enter Tryz.func44, Tryz.ntmps44;go_wp2;go_ret;exact ⟨rfl, Below.refl _ _⟩
theorem eq_u8 (u v : Value) (p q : List UInt8) (w : World) (hu : Row w u (p.map bV)) (hv : Row w v (q.map bV)) :
  Calls Tryz.prog 78 #[u, v] w fun e w' => e = .returned (.bool (p == q)) ∧ Bo w w' := by
 obtain ⟨a, cap, rfl, -⟩ := id hu;obtain ⟨a2, cap2, rfl, -⟩ := id hv;obtain ⟨hl, hc, hm, -⟩ := hu.at;obtain ⟨hl2, hc2, hm2, -⟩ := hv.at;simp only [List.length_map] at hl hc hl2 hc2 hu hv ⊢;unfold maxLen at hm hm2;by_cases hlen : p.length = q.length
 ·
  have ht : ((p.length : Int) != (q.length : Int)) = false := by simp; omega
  have HL : Hid (p.length = q.length) := hlen;clear hlen;go_enter Tryz.func78, Tryz.ntmps78;go_wp2;go_loopw [13] (fun i wr => ∃ k : Nat, k ≤ p.length ∧ i = J k ∧ p.take k = q.take k ∧ Bo w wr) (fun i _ => p.length - (intOf i).toNat)
  case atStart => exact ⟨0, Nat.zero_le _, rfl, rfl, Below.refl _ _⟩
  case round =>
   obtain ⟨k, hk, rfl, he, hb⟩ := hrel;have HE : Hid (p.take k = q.take k) := he;clear he;by_cases hlt : k < p.length
   ·
    have hlt2 : k < q.length := by have := HL.out; omega
    obtain ⟨-, -, -, hcell⟩ := (hu.below hb).at;obtain ⟨b, off, rfl, hcl⟩ := hcell k 0 hlt;obtain ⟨-, -, -, hcell2⟩ := (hv.below hb).at;obtain ⟨b2, off2, rfl, hcl2⟩ := hcell2 k 0 hlt2;have c0 := hcl k hlt;have c1 := hcl2 k hlt2;clear hcl hcell hcl2 hcell2;have hlt' : (k : Int) < (p.length : Int) := by omega
    have hlt2' : (k : Int) < (q.length : Int) := by omega
    have S1 : Hid (p.take (k + 1) = p.take k ++ [p.getD k 0]) := by
     show _ = _; rw [List.take_succ_eq_append_getElem hlt]; simp [hlt]
    have S2 : Hid (q.take (k + 1) = q.take k ++ [q.getD k 0]) := by
     show _ = _; rw [List.take_succ_eq_append_getElem hlt2]; simp [hlt2]
    generalize p.getD k 0 = x at *;generalize q.getD k 0 = y at *;by_cases hxy : x = y
    ·
     subst hxy;have hne : ((x.toNat : Int) != (x.toNat : Int)) = false := by simp
     go_wp2;go_quiet (fail)
     go_wp2;go_roundw
     case rel => exact ⟨k + 1, by omega, by go_num, by rw [S1.out, S2.out, HE.out], below_drewn hb _⟩
     case measure => simp [intOf]; omega
    ·
     have hne : ((x.toNat : Int) != (y.toNat : Int)) = true := by simp; intro h; exact hxy (UInt8.toNat_inj.1 (by omega))
     have hpq : Hid ((p == q) = false) := by
      show _ = _;rw [beq_eq_false_iff_ne];intro h;have a1 := S1.out;have a2 := S2.out;rw [h, a2] at a1;simp at a1;exact hxy a1.symm
     go_wp2;go_quiet (fail)
     go_wp2;go_ret;exact ⟨ret_bool hpq.out.symm, below_drewn hb _⟩
   ·
    have h0 : k = p.length := by omega
    subst h0;have e := HE.out;rw [List.take_length, HL.out, List.take_length] at e;have hpq : Hid ((p == q) = true) := by show _ = _; rw [e]; simp
    clear e;go_wp2;go_ret;exact ⟨ret_bool hpq.out.symm, hb⟩
 ·
  have ht : ((p.length : Int) != (q.length : Int)) = true := by simp; omega
  have hne : (p == q) = false := by
   rw [beq_eq_false_iff_ne]; intro h; exact hlen (by rw [h])
  rw [hne];clear hlen hne;go_enter Tryz.func78, Tryz.ntmps78;go_wp2;go_ret;exact ⟨rfl, Below.refl _ _⟩
end Go.Proofs.YtdihcdphgiaepaaGreat
