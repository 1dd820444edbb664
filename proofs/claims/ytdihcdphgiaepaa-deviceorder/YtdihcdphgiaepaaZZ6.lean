/- Plain mathematics of chapter 4: a reply, when it is right, its bytes, what bytes may be. Nothing of the program. -/
import Derived.Test.YtdihcdphgiaepaaZZ5
namespace Go.Proofs.Ytdihcdphgiaepaa
structure Rp where
 fn : Int
 code : Int
 loc : Int
 cnt : Int
 sub : Int
 bits : List Bool
 vals : List UInt16
 land : UInt16
 lor : UInt16
 data : List UInt8
 deriving DecidableEq
def zeroP : Rp := ⟨0, 0, 0, 0, 0, [], [], 0, 0, []⟩
def refP (f k : Int) : Rp := ⟨f, k, 0, 0, 0, [], [], 0, 0, []⟩
def echoQ (r : Rp) : Rq := ⟨r.fn, r.loc, 0, 0, r.sub, r.bits, r.vals, r.land, r.lor⟩
def echoP (q : Rq) : Rp := ⟨q.fn, 0, q.loc, 0, q.sub, q.bits, q.vals, q.land, q.lor, []⟩
def formA (r : Rp) : Prop :=
 ((r.fn = 5 ∨ r.fn = 6 ∨ r.fn = 15 ∨ r.fn = 16 ∨ r.fn = 22) ∨ r.loc = 0) ∧ ((r.fn = 15 ∨ r.fn = 16) ∨ r.cnt = 0) ∧ (r.fn = 8 ∨ r.sub = 0) ∧
 ((r.fn = 1 ∨ r.fn = 2 ∨ r.fn = 5) ∨ r.bits = []) ∧ ((r.fn = 3 ∨ r.fn = 4 ∨ r.fn = 6 ∨ r.fn = 8 ∨ r.fn = 23) ∨ r.vals = []) ∧
 (r.fn = 22 ∨ (r.land = 0 ∧ r.lor = 0)) ∧ (r.fn = 17 ∨ r.data = [])
instance (r : Rp) : Decidable (formA r) := by unfold formA; infer_instance
def listA (r : Rp) : Bool :=
 if r.fn = 1 ∨ r.fn = 2 then decide (r.bits.length ≤ 2040)
 else if r.fn = 3 ∨ r.fn = 4 ∨ r.fn = 23 then decide (r.vals.length ≤ 127)
 else if r.fn = 5 then decide (r.bits.length = 1)
 else if r.fn = 6 ∨ r.fn = 8 then decide (r.vals.length = 1)
 else if r.fn = 17 then decide (r.data.length ≤ 250)
 else true
def codeB (r : Rp) : Bool := decide (r = refP (r.fn % 128) (r.code % 256))
def goodE (r : Rp) : Int :=
 if r.code ≠ 0 then (if codeB r then 0 else 12)
 else if knownB r.fn = false then 15
 else if ¬ formA r then 12
 else if (numB r.loc && numB r.sub && numB r.cnt) = false then 12
 else if listA r = false then 12
 else 0
def bodyA (r : Rp) : List UInt8 :=
 if r.fn = 1 ∨ r.fn = 2 then cntL (packL r.bits)
 else if r.fn = 3 ∨ r.fn = 4 ∨ r.fn = 23 then cntL (bytesL r.vals)
 else if r.fn = 15 ∨ r.fn = 16 then pw r.loc ++ pw r.cnt
 else if r.fn = 17 then cntL r.data
 else bodyQ (echoQ r)
def b8 (n : Int) : UInt8 := UInt8.ofNat (n % 256).toNat
theorem b8_nat (n : Int) : ((b8 n).toNat : Int) = n % 256 := by
 unfold b8; rw [UInt8.toNat_ofNat']; omega
theorem b8_val (n : Int) (h0 : 0 ≤ n) (h1 : n ≤ 255) : ((b8 n).toNat : Int) = n := by rw [b8_nat]; omega
def layA (r : Rp) : List UInt8 := if r.code ≠ 0 then [b8 (r.fn + 128), b8 r.code] else b8 r.fn :: bodyA r
def layR (r : Rp) : List UInt8 := if goodE r = 0 then layA r else []
theorem layR_0 {r : Rp} (h : goodE r = 0) : layR r = layA r := by simp [layR, h]
theorem layR_no {r : Rp} (h : goodE r ≠ 0) : layR r = [] := by simp [layR, h]
theorem codeB_iff (r : Rp) (hc : r.code ≠ 0) : codeB r = true ↔ (1 ≤ r.code ∧ r.code ≤ 255 ∧ 0 ≤ r.fn ∧ r.fn ≤ 127 ∧ r = refP r.fn r.code) := by
 obtain ⟨f, k, a, c, s, bs, vs, m, o, ds⟩ := r
 simp only [codeB, refP, decide_eq_true_eq, Rp.mk.injEq, true_and] at hc ⊢
 constructor
 ·
  rintro ⟨h1, h2, h3⟩
  exact ⟨by omega, by omega, by omega, by omega, h3⟩
 ·
  rintro ⟨h1, h2, h3, h4, h5⟩
  exact ⟨by omega, by omega, h5⟩
theorem good_code {r : Rp} (h : goodE r = 0) (hc : r.code ≠ 0) : 1 ≤ r.code ∧ r.code ≤ 255 ∧ 0 ≤ r.fn ∧ r.fn ≤ 127 ∧ r = refP r.fn r.code := by
 unfold goodE at h
 rw [if_pos hc] at h
 split at h
 ·
  rename_i h1; exact (codeB_iff r hc).1 h1
 ·
  cases h
theorem good_parts {r : Rp} (h : goodE r = 0) (hc : r.code = 0) : knownB r.fn = true ∧ formA r ∧ (numB r.loc = true ∧ numB r.sub = true ∧ numB r.cnt = true) ∧ listA r = true := by
 unfold goodE at h
 rw [if_neg (by simp [hc])] at h
 split at h
 ·
  cases h
 ·
  rename_i h1
  split at h
  ·
   cases h
  ·
   rename_i h2
   split at h
   ·
    cases h
   ·
    rename_i h3
    split at h
    ·
     cases h
    ·
     rename_i h4
     refine ⟨by simpa using h1, Decidable.not_not.1 h2, ?_, by simpa using h4⟩
     simp only [Bool.not_eq_false, Bool.and_eq_true] at h3
     exact ⟨h3.1.1, h3.1.2, h3.2⟩
theorem goodE_12 {r : Rp} (hc : r.code = 0) (hk : knownB r.fn = true) (h : ¬ formA r ∨ (numB r.loc && numB r.sub && numB r.cnt) = false ∨ listA r = false) : goodE r = 12 := by
 unfold goodE
 rw [if_neg (by simp [hc]), if_neg (by rw [hk]; simp)]
 by_cases h1 : formA r
 ·
  rw [if_neg (by simp [h1])]
  by_cases h2 : (numB r.loc && numB r.sub && numB r.cnt) = false
  ·
   rw [if_pos h2]
  ·
   rw [if_neg h2]
   rcases h with h | h | h
   ·
    exact absurd h1 h
   ·
    exact absurd h h2
   ·
    rw [if_pos h]
 ·
  rw [if_pos h1]
theorem goodE_0 {r : Rp} (hc : r.code = 0) (hk : knownB r.fn = true) (h1 : formA r) (h2 : (numB r.loc && numB r.sub && numB r.cnt) = true) (h3 : listA r = true) : goodE r = 0 := by
 unfold goodE
 rw [if_neg (by simp [hc]), if_neg (by rw [hk]; simp), if_neg (by simp [h1]), if_neg (by rw [h2]; simp), if_neg (by rw [h3]; simp)]
theorem goodE_15 {r : Rp} (hc : r.code = 0) (hk : knownB r.fn = false) : goodE r = 15 := by
 unfold goodE
 rw [if_neg (by simp [hc]), if_pos hk]
theorem goodE_c0 {r : Rp} (hc : r.code ≠ 0) (h : codeB r = true) : goodE r = 0 := by
 unfold goodE; rw [if_pos hc, if_pos h]
theorem goodE_c12 {r : Rp} (hc : r.code ≠ 0) (h : codeB r = false) : goodE r = 12 := by
 unfold goodE; rw [if_pos hc, if_neg (by simp [h])]
theorem echo_right {r : Rp} (h : goodE r = 0) (hc : r.code = 0) (hf : r.fn = 5 ∨ r.fn = 6 ∨ r.fn = 8 ∨ r.fn = 22) : rightE (echoQ r) = 0 ∧ layA r = bytesQ (echoQ r) ∧ echoP (echoQ r) = r := by
 obtain ⟨hk, hform, ⟨n1, n2, n3⟩, hl⟩ := good_parts h hc
 clear h
 obtain ⟨f, k, a, c, s, bs, vs, m, o, ds⟩ := r
 simp only at hf hk n1 n2 n3 hc
 subst hc
 have z : numB 0 = true := rfl
 rcases hf with rfl | rfl | rfl | rfl
 all_goals
  clear hk
  simp [formA] at hform
  simp [listA] at hl
 ·
  obtain ⟨rfl, rfl, rfl, ⟨rfl, rfl⟩, rfl⟩ := hform
  refine ⟨?_, by simp [layA, bytesQ, bodyA, echoQ, b8], by simp [echoP, echoQ]⟩
  simp [rightE, echoQ, knownB, formP, n1, z, listB, hl]
 ·
  obtain ⟨rfl, rfl, rfl, ⟨rfl, rfl⟩, rfl⟩ := hform
  refine ⟨?_, by simp [layA, bytesQ, bodyA, echoQ, b8], by simp [echoP, echoQ]⟩
  simp [rightE, echoQ, knownB, formP, n1, z, listB, hl]
 ·
  obtain ⟨rfl, rfl, rfl, ⟨rfl, rfl⟩, rfl⟩ := hform
  refine ⟨?_, by simp [layA, bytesQ, bodyA, echoQ, b8], by simp [echoP, echoQ]⟩
  simp [rightE, echoQ, knownB, formP, n2, z, listB, hl]
 ·
  obtain ⟨rfl, rfl, rfl, rfl, rfl⟩ := hform
  refine ⟨?_, by simp [layA, bytesQ, bodyA, echoQ, b8], by simp [echoP, echoQ]⟩
  simp [rightE, echoQ, knownB, formP, n1, z, listB]
def ansB (x f : Int) : Bool := decide (0 ≤ f ∧ (x = f ∨ x - 128 = f))
def askB (r : Rp) (c : Int) : Bool :=
 if r.code ≠ 0 then true
 else if r.fn = 1 ∨ r.fn = 2 then decide ((r.bits.length : Int) = c)
 else if r.fn = 3 ∨ r.fn = 4 ∨ r.fn = 23 then decide ((r.vals.length : Int) = c)
 else true
def codeL (b : List UInt8) : Int := if b.length < 2 then 0 else (b.getD 1 0).toNat
noncomputable def gA (b : List UInt8) (c : Int) : Rp :=
 if 128 ≤ fnOf b then refP (fnOf b - 128) (codeL b)
 else if fnOf b = 1 ∨ fnOf b = 2 then ⟨fnOf b, 0, 0, 0, 0, openR (tailL b 1) c, [], 0, 0, []⟩
 else if fnOf b = 3 ∨ fnOf b = 4 ∨ fnOf b = 23 then ⟨fnOf b, 0, 0, 0, 0, [], wordsR (tailL b 1), 0, 0, []⟩
 else if fnOf b = 5 ∨ fnOf b = 6 ∨ fnOf b = 8 ∨ fnOf b = 22 then echoP (readQ b)
 else if fnOf b = 15 ∨ fnOf b = 16 then ⟨fnOf b, 0, getN b 1, getN b 3, 0, [], [], 0, 0, []⟩
 else if fnOf b = 17 then ⟨fnOf b, 0, 0, 0, 0, [], [], 0, 0, tailL b 1⟩
 else ⟨fnOf b, 0, 0, 0, 0, [], [], 0, 0, []⟩
def isA (b : List UInt8) (c : Int) (r : Rp) : Prop := goodE r = 0 ∧ layA r = b ∧ askB r c = true
open Classical in
noncomputable def takeR (b : List UInt8) (f c : Int) : Rp := if h : ansB (fnOf b) f = true ∧ ∃ r, isA b c r then Classical.choose h.2 else zeroP
open Classical in
noncomputable def takeE (b : List UInt8) (f c : Int) : Int := if b = [] then 13 else if ansB (fnOf b) f = true ∧ ∃ r, isA b c r then 0 else 12
end Go.Proofs.Ytdihcdphgiaepaa
