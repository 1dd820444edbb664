/- Mathematics of DeviceWrites. -/
import Derived.Test.YtdihcdphgiaepaaZZ49
import Derived.Test.YtdihcdphgiaepaaZZYA
namespace Go.Proofs.Ytdihcdphgiaepaa
open Go.RowKit
theorem cnt_simple {fn k c : Int} {bs : List Bool} {ws : List UInt16} {m o : UInt16} (hk : 0 ≤ k ∧ k ≤ 65535) (h : (fn = 16 ∧ (ws.length : Int) = c ∧ (1 ≤ c ∧ c ≤ 123) ∧ bs = [] ∧ m = 0 ∧ o = 0) ∨ (fn = 3 ∧ (1 ≤ c ∧ c ≤ 125) ∧ bs = [] ∧ ws = [] ∧ m = 0 ∧ o = 0) ∨ (fn = 15 ∧ (bs.length : Int) = c ∧ (1 ≤ c ∧ c ≤ 1968) ∧ ws = [] ∧ m = 0 ∧ o = 0) ∨ (fn = 1 ∧ (1 ≤ c ∧ c ≤ 2000) ∧ bs = [] ∧ ws = [] ∧ m = 0 ∧ o = 0) ∨ (fn = 22 ∧ c = 0 ∧ bs = [] ∧ ws = [])) : countsB ⟨fn, k, c, 0, 0, bs, ws, m, o⟩ = true := by
 rcases h with ⟨rfl, h1, h2, rfl, rfl, rfl⟩ | ⟨rfl, h2, rfl, rfl, rfl, rfl⟩ | ⟨rfl, h1, h2, rfl, rfl, rfl⟩ | ⟨rfl, h2, rfl, rfl, rfl, rfl⟩ | ⟨rfl, rfl, rfl, rfl⟩
 all_goals
  simp [countsB, rightE, knownB, formP, numB, listB, cntB]
  try omega
def d2 (s : Cs) (m f : Int) : Dv := ⟨s, m, f, 0⟩
theorem do16_ok {n : Nat} {s : Cs} {k c x f : Int} {ws : List UInt16} (hk : 0 ≤ k ∧ k ≤ 65535) (hl : (ws.length : Int) = c) (hc : 1 ≤ c ∧ c ≤ 123) (h : fits n k c = true) : doD n (d2 s x f) ⟨16, k, c, 0, 0, [], ws, 0, 0⟩ = (⟨16, 0, k, c, 0, [], [], 0, 0, []⟩, d2 (setV n s 3 k ws) (x + 1) f) := by
 rw [doD_act rfl (cnt_simple hk (.inl ⟨rfl, hl, hc, rfl, rfl, rfl⟩))]
 simp [actD, allThere, askR, goD, fits0, h, d2]
theorem do16_no {n : Nat} {s : Cs} {k c x f : Int} {ws : List UInt16} (hk : 0 ≤ k ∧ k ≤ 65535) (hl : (ws.length : Int) = c) (hc : 1 ≤ c ∧ c ≤ 123) (h : fits n k c = false) : doD n (d2 s x f) ⟨16, k, c, 0, 0, [], ws, 0, 0⟩ = (⟨16, 2, 0, 0, 0, [], [], 0, 0, []⟩, d2 s (x + 1) (f + 1)) := by
 rw [doD_act rfl (cnt_simple hk (.inl ⟨rfl, hl, hc, rfl, rfl, rfl⟩))]
 simp [actD, allThere, askR, fits0, h, d2, refD, refP]
theorem do3_ok {n : Nat} {s : Cs} {k c x f : Int} (hk : 0 ≤ k ∧ k ≤ 65535) (hc : 1 ≤ c ∧ c ≤ 125) (h : fits n k c = true) : doD n (d2 s x f) ⟨3, k, c, 0, 0, [], [], 0, 0⟩ = (⟨3, 0, 0, 0, 0, [], getV n s 3 k c, 0, 0, []⟩, d2 s (x + 1) f) := by
 rw [doD_act rfl (cnt_simple hk (.inr (.inl ⟨rfl, hc, rfl, rfl, rfl, rfl⟩)))]
 simp [actD, allThere, askR, goD, fits0, h, d2]
theorem do3_no {n : Nat} {s : Cs} {k c x f : Int} (hk : 0 ≤ k ∧ k ≤ 65535) (hc : 1 ≤ c ∧ c ≤ 125) (h : fits n k c = false) : doD n (d2 s x f) ⟨3, k, c, 0, 0, [], [], 0, 0⟩ = (⟨3, 2, 0, 0, 0, [], [], 0, 0, []⟩, d2 s (x + 1) (f + 1)) := by
 rw [doD_act rfl (cnt_simple hk (.inr (.inl ⟨rfl, hc, rfl, rfl, rfl, rfl⟩)))]
 simp [actD, allThere, askR, fits0, h, d2, refD, refP]
theorem do15_ok {n : Nat} {s : Cs} {k c x f : Int} {bs : List Bool} (hk : 0 ≤ k ∧ k ≤ 65535) (hl : (bs.length : Int) = c) (hc : 1 ≤ c ∧ c ≤ 1968) (h : fits n k c = true) : doD n (d2 s x f) ⟨15, k, c, 0, 0, bs, [], 0, 0⟩ = (⟨15, 0, k, c, 0, [], [], 0, 0, []⟩, d2 (setB n s 0 k bs) (x + 1) f) := by
 rw [doD_act rfl (cnt_simple hk (.inr (.inr (.inl ⟨rfl, hl, hc, rfl, rfl, rfl⟩))))]
 simp [actD, allThere, askR, goD, fits0, h, d2]
theorem do15_no {n : Nat} {s : Cs} {k c x f : Int} {bs : List Bool} (hk : 0 ≤ k ∧ k ≤ 65535) (hl : (bs.length : Int) = c) (hc : 1 ≤ c ∧ c ≤ 1968) (h : fits n k c = false) : doD n (d2 s x f) ⟨15, k, c, 0, 0, bs, [], 0, 0⟩ = (⟨15, 2, 0, 0, 0, [], [], 0, 0, []⟩, d2 s (x + 1) (f + 1)) := by
 rw [doD_act rfl (cnt_simple hk (.inr (.inr (.inl ⟨rfl, hl, hc, rfl, rfl, rfl⟩))))]
 simp [actD, allThere, askR, fits0, h, d2, refD, refP]
theorem do1_ok {n : Nat} {s : Cs} {k c x f : Int} (hk : 0 ≤ k ∧ k ≤ 65535) (hc : 1 ≤ c ∧ c ≤ 2000) (h : fits n k c = true) : doD n (d2 s x f) ⟨1, k, c, 0, 0, [], [], 0, 0⟩ = (⟨1, 0, 0, 0, 0, getB n s 0 k c, [], 0, 0, []⟩, d2 s (x + 1) f) := by
 rw [doD_act rfl (cnt_simple hk (.inr (.inr (.inr (.inl ⟨rfl, hc, rfl, rfl, rfl, rfl⟩)))))]
 simp [actD, allThere, askR, goD, fits0, h, d2]
theorem do1_no {n : Nat} {s : Cs} {k c x f : Int} (hk : 0 ≤ k ∧ k ≤ 65535) (hc : 1 ≤ c ∧ c ≤ 2000) (h : fits n k c = false) : doD n (d2 s x f) ⟨1, k, c, 0, 0, [], [], 0, 0⟩ = (⟨1, 2, 0, 0, 0, [], [], 0, 0, []⟩, d2 s (x + 1) (f + 1)) := by
 rw [doD_act rfl (cnt_simple hk (.inr (.inr (.inr (.inl ⟨rfl, hc, rfl, rfl, rfl, rfl⟩)))))]
 simp [actD, allThere, askR, fits0, h, d2, refD, refP]
theorem do22_ok {n : Nat} {s : Cs} {k x f : Int} {m o : UInt16} (hk : 0 ≤ k ∧ k ≤ 65535) (h : fits n k 1 = true) : doD n (d2 s x f) ⟨22, k, 0, 0, 0, [], [], m, o⟩ = (⟨22, 0, k, 0, 0, [], [], m, o, []⟩, d2 (setV n s 3 k [maskW ((getV n s 3 k 1).getD 0 0) m o]) (x + 1) f) := by
 rw [doD_act rfl (cnt_simple hk (.inr (.inr (.inr (.inr ⟨rfl, rfl, rfl, rfl⟩)))))]
 simp [actD, allThere, askR, goD, h, d2]
theorem sub_splice {α : Type} (L : List α) (o : Nat) (ys : List α) (h : o + ys.length ≤ L.length) : (splice L o ys).drop o = ys ++ L.drop (o + ys.length) := by
 unfold splice
 rw [List.drop_append, List.drop_eq_nil_of_le (by simp; omega), List.nil_append, List.length_take, Nat.min_eq_left (by omega), Nat.sub_self, List.drop_zero]
theorem getV_set {n : Nat} {s : Cs} {k : Int} {ws : List UInt16} {c : Int} (hl : s.v1.length = n) (hc : (ws.length : Int) = c) (h : fits n k c = true) : getV n (setV n s 3 k ws) 3 k c = ws := by
 subst hc
 have o : okV n 3 k ws.length = true := by rw [okV, h]; decide
 obtain ⟨h1, -, h3⟩ := fits_iff.1 h
 rw [getV, if_pos o, setV, if_pos o]
 simp only [putRV, rowV, sub]
 simp only [show ¬ (3 : Int) = 2 by decide, if_false]
 rw [sub_splice _ _ _ (by omega), Int.toNat_natCast, List.take_left]
theorem getV_set1 {n : Nat} {s : Cs} {k : Int} {x : UInt16} {ws : List UInt16} {c : Int} (hl : s.v1.length = n) (hc : ((x :: ws).length : Int) = c) (h : fits n k c = true) : getV n (setV n s 3 k (x :: ws)) 3 k 1 = [x] := by
 subst hc
 have o : okV n 3 k (x :: ws).length = true := by rw [okV, h]; decide
 obtain ⟨h1, -, h3⟩ := fits_iff.1 h
 have hw : ((x :: ws).length : Int) = ws.length + 1 := by simp
 have o1 : okV n 3 k 1 = true := by rw [okV, fits_t (by omega)]; decide
 rw [getV, if_pos o1, setV, if_pos o]
 simp only [putRV, rowV, sub]
 simp only [show ¬ (3 : Int) = 2 by decide, if_false]
 rw [sub_splice _ _ _ (by omega)]
 rfl
theorem getV_setB {n : Nat} {s : Cs} {k a c : Int} {bs : List Bool} : getV n (setB n s 0 k bs) 3 a c = getV n s 3 a c := by
 unfold getV setB
 split
 ·
  split <;> simp [putRB, rowV]
 ·
  rfl
theorem getB_set {n : Nat} {s : Cs} {k : Int} {bs : List Bool} {c : Int} (hl : s.b0.length = n) (hc : (bs.length : Int) = c) (h : fits n k c = true) : getB n (setB n s 0 k bs) 0 k c = bs := by
 subst hc
 have o : okB n 0 k bs.length = true := by rw [okB, h]; decide
 obtain ⟨h1, -, h3⟩ := fits_iff.1 h
 rw [getB, if_pos o, setB, if_pos o]
 simp only [putRB, rowB, sub, if_true]
 rw [sub_splice _ _ _ (by omega), Int.toNat_natCast, List.take_left]
theorem zero_lens (n : Nat) : (Cs.zero n).b0.length = n ∧ (Cs.zero n).v1.length = n := by simp [Cs.zero]
theorem setV_b0 {n : Nat} {s : Cs} {k : Int} {ws : List UInt16} : (setV n s 3 k ws).b0 = s.b0 := by
 unfold setV putRV
 split
 ·
  simp
 ·
  rfl
end Go.Proofs.Ytdihcdphgiaepaa
