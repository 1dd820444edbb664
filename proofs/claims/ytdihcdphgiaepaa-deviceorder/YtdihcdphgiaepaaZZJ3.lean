/- Mathematics of DeviceOrder. -/
import Derived.Test.YtdihcdphgiaepaaZZ49
namespace Go.Proofs.Ytdihcdphgiaepaa
open Go.RowKit
theorem and3 (n : Int) : bits BinOp.and IntKind.i64 n 3 = n % 4 := by simpa using i64_and_mask n 2 (by decide)
theorem and4095 (n : Int) : bits BinOp.and IntKind.i64 n 4095 = n % 4096 := by simpa using i64_and_mask n 12 (by decide)
theorem and65535 (n : Int) : bits BinOp.and IntKind.i64 n 65535 = n % 65536 := by simpa using i64_and_mask n 16 (by decide)
theorem ord_right {f : Int} (hf : f = 1 ∨ f = 2 ∨ f = 3 ∨ f = 4) {a c : Int} (ha : 0 ≤ a ∧ a ≤ 65535) (hc : 0 ≤ c ∧ c ≤ 4095) : rightE ⟨f, a, c, 0, 0, [], [], 0, 0⟩ = 0 := by
 have k : knownB f = true := by rcases hf with rfl | rfl | rfl | rfl <;> decide
 have p : formP ⟨f, a, c, 0, 0, [], [], 0, 0⟩ := by rcases hf with rfl | rfl | rfl | rfl <;> simp [formP]
 have q : (numB a && numB 0 && numB 0 && numB c) = true := by simp [numB]; omega
 have l : listB ⟨f, a, c, 0, 0, [], [], 0, 0⟩ = true := by rcases hf with rfl | rfl | rfl | rfl <;> simp [listB]
 simp only [rightE, k, p, l, q]
 rfl
theorem ord_counts {f : Int} (hf : f = 1 ∨ f = 2 ∨ f = 3 ∨ f = 4) {a c : Int} (ha : 0 ≤ a ∧ a ≤ 65535) (hc : 0 ≤ c ∧ c ≤ 4095) (b : Bool) (h : decide (1 ≤ c ∧ c ≤ (if f ≤ 2 then 2000 else 125)) = b) : countsB ⟨f, a, c, 0, 0, [], [], 0, 0⟩ = b := by
 subst h
 have r := ord_right hf ha hc
 rw [countsB, r]
 rcases hf with rfl | rfl | rfl | rfl <;> simp [cntB]
def d50 (m f : Int) : Dv := ⟨Cs.zero 50, m, f, 0⟩
theorem ord_bad {f : Int} (hf : f = 1 ∨ f = 2 ∨ f = 3 ∨ f = 4) {a c : Int} (ha : 0 ≤ a ∧ a ≤ 65535) (hc : 0 ≤ c ∧ c ≤ 4095) (h : ¬ (1 ≤ c ∧ c ≤ (if f ≤ 2 then 2000 else 125))) : doD 50 (d50 0 0) ⟨f, a, c, 0, 0, [], [], 0, 0⟩ = (refP (f % 128) 3, d50 1 1) := by
 have k : knownB f = true := by rcases hf with rfl | rfl | rfl | rfl <;> decide
 have e := ord_counts hf ha hc false (decide_eq_false h)
 simp only [doD, k, e, refD, d50]
 rfl
theorem ord_far {f : Int} (hf : f = 1 ∨ f = 2 ∨ f = 3 ∨ f = 4) {a c : Int} (ha : 0 ≤ a ∧ a ≤ 65535) (hc : 0 ≤ c ∧ c ≤ 4095) (h : 1 ≤ c ∧ c ≤ (if f ≤ 2 then 2000 else 125)) (h5 : 50 < a + c) : doD 50 (d50 0 0) ⟨f, a, c, 0, 0, [], [], 0, 0⟩ = (refP (f % 128) 2, d50 1 1) := by
 have k : knownB f = true := by rcases hf with rfl | rfl | rfl | rfl <;> decide
 have e := ord_counts hf ha hc true (decide_eq_true h)
 have ft : fits 50 a c = false := fits_f (by omega)
 have t : allThere 50 ⟨f, a, c, 0, 0, [], [], 0, 0⟩ = false := by
  have q : askR ⟨f, a, c, 0, 0, [], [], 0, 0⟩ = (a, c, 0, 0) := by rcases hf with rfl | rfl | rfl | rfl <;> rfl
  rw [allThere, q]
  simp only [ft, Bool.false_and]
 simp only [doD, k, e, t, refD, d50]
 rfl
theorem ord_near {f : Int} (hf : f = 1 ∨ f = 2 ∨ f = 3 ∨ f = 4) {a c : Int} (ha : 0 ≤ a ∧ a ≤ 65535) (hc : 0 ≤ c ∧ c ≤ 4095) (h : 1 ≤ c ∧ c ≤ (if f ≤ 2 then 2000 else 125)) (h5 : a + c ≤ 50) : ∃ (lb : List Bool) (lv : List UInt16), doD 50 (d50 0 0) ⟨f, a, c, 0, 0, [], [], 0, 0⟩ = (⟨f, 0, 0, 0, 0, lb, lv, 0, 0, []⟩, d50 1 0) ∧ (lb.length : Int) = (if f ≤ 2 then c else 0) ∧ (lv.length : Int) = (if f ≤ 2 then 0 else c) := by
 have k : knownB f = true := by rcases hf with rfl | rfl | rfl | rfl <;> decide
 have e := ord_counts hf ha hc true (decide_eq_true h)
 have ft : fits 50 a c = true := fits_t (by omega)
 have t : allThere 50 ⟨f, a, c, 0, 0, [], [], 0, 0⟩ = true := by
  have q : askR ⟨f, a, c, 0, 0, [], [], 0, 0⟩ = (a, c, 0, 0) := by rcases hf with rfl | rfl | rfl | rfl <;> rfl
  rw [allThere, q]
  simp only [ft, fits0, Bool.and_self]
 have c2 : (c.toNat : Int) = c := by omega
 have hB : ∀ sp, sp = 0 ∨ sp = 1 → ((getB 50 (Cs.zero 50) sp a c).length : Int) = c := fun sp hs => by
  have o : okB 50 sp a c = true := by rw [okB, ft]; rcases hs with rfl | rfl <;> decide
  have z : (rowB (Cs.zero 50) sp).length = 50 := by rcases hs with rfl | rfl <;> simp [rowB, Cs.zero]
  rw [getB, if_pos o, sub, List.length_take, List.length_drop, z]
  omega
 have hV : ∀ sp, sp = 2 ∨ sp = 3 → ((getV 50 (Cs.zero 50) sp a c).length : Int) = c := fun sp hs => by
  have o : okV 50 sp a c = true := by rw [okV, ft]; rcases hs with rfl | rfl <;> decide
  have z : (rowV (Cs.zero 50) sp).length = 50 := by rcases hs with rfl | rfl <;> simp [rowV, Cs.zero]
  rw [getV, if_pos o, sub, List.length_take, List.length_drop, z]
  omega
 rcases hf with rfl | rfl | rfl | rfl
 ·
  exact ⟨_, [], by simp [doD, k, e, t, goD, d50], hB 0 (.inl rfl), rfl⟩
 ·
  exact ⟨_, [], by simp [doD, k, e, t, goD, d50], hB 1 (.inr rfl), rfl⟩
 ·
  exact ⟨[], _, by simp [doD, k, e, t, goD, d50], rfl, hV 3 (.inr rfl)⟩
 ·
  exact ⟨[], _, by simp [doD, k, e, t, goD, d50], rfl, hV 2 (.inl rfl)⟩
end Go.Proofs.Ytdihcdphgiaepaa
