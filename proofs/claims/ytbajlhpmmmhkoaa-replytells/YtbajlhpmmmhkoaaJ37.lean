/- What burgageref3.Take begins with. -/
import Derived.Deep.Cut
import Derived.Deep.CutRange
import Derived.Test.YtbajlhpmmmhkoaaJ35
import Derived.Test.YtbajlhpmmmhkoaaJ36
namespace Go.Proofs.Ytbajlhpmmmhkoaa
open Go.RowKit
theorem cell_of {w : World} {g i : Nat} {t : TypeId} {xs : List Value} {v : Value} (h : Blk w g t xs) (e : xs[i]? = some v) : w.cell? ⟨g, i, none⟩ = some v := (h.cell i).trans e
theorem blk_to {w : World} {g : Nat} {t : TypeId} {xs ys : List Value} (h : Blk w g t xs) (e : xs = ys) : Blk w g t ys := e ▸ h
theorem row_two {w : World} {b off n cap : Nat} {bs : List UInt8} {ad : Option Addr} (h : Row w (.slice (some ⟨b, off, none⟩) n cap) (bs.map bV)) (hn : 2 ≤ n) (had : (if cap = 2 then some ⟨b, off, none⟩ else some ⟨b, off + 2, none⟩) = ad) : Row w (.slice ad (n - 2) (cap - 2)) ((bs.drop 2).map bV) := by
 have hd := h.drop 2 hn b off rfl
 rw [← List.map_drop] at hd
 by_cases hc : cap = 2
 ·
  rw [if_pos hc] at had
  subst had
  obtain ⟨hl, hc2, -, -⟩ := h.at
  have hn2 : n = 2 := by omega
  have e : bs.drop 2 = [] := by apply List.eq_nil_of_length_eq_zero; simp only [List.length_drop]; omega
  rw [e]
  subst hn2 hc
  exact ⟨_, 0, rfl, Nat.le_refl _, Nat.zero_le _, (fun h => by cases h), .inl rfl⟩
 ·
  rw [if_neg hc] at had
  subst had
  exact hd
set_option maxRecDepth 100000 in
theorem or_big (f : Int) (h0 : 128 ≤ f) (h1 : f ≤ 255) : bits BinOp.or IntKind.i64 f 128 = f := by
 obtain ⟨n, rfl⟩ : ∃ n : Nat, f = (n : Int) := ⟨f.toNat, by omega⟩
 have h := i64_or_nat n 128 (by omega) (by omega)
 rw [show (128 : Int) = ((128 : Nat) : Int) from rfl, h]
 have : n ||| 128 = n := by
  have h2 : ∀ m : Fin 256, 128 ≤ m.val → m.val ||| 128 = m.val := by decide
  exact h2 ⟨n, by omega⟩ (by simp; omega)
 rw [this]
theorem ans_no {x f Y : Int} (hx : 0 ≤ x ∧ x ≤ 255) (ha : ansB x f = false) (h1 : 0 ≤ f → f ≤ 127 → Y = f + 128) (h2 : 128 ≤ f → f ≤ 255 → Y = f) : (x != f) = true ∧ ((x != Y) = true ∨ (x != Y) = false ∧ (f < 0 ∨ ¬ f < 0 ∧ 255 < f)) ∨ (x != f) = false ∧ f < 0 := by
 simp only [ansB, decide_eq_false_iff_not] at ha
 simp only [bne_iff_ne, ne_eq, bne_eq_false_iff_eq]
 by_cases h : f < 0
 ·
  omega
 ·
  have := h1 (by omega)
  have := h2
  by_cases h3 : f ≤ 127
  ·
   omega
  ·
   by_cases h4 : f ≤ 255
   ·
    have := h2 (by omega) h4
    omega
   ·
    omega
theorem ans_yes {x f Y : Int} (hx : 0 ≤ x ∧ x ≤ 255) (ha : ansB x f = true) (h1 : 0 ≤ f → f ≤ 127 → Y = f + 128) : ((x != f) = false ∨ (x != f) = true ∧ (x != Y) = false) ∧ ¬ f < 0 ∧ ¬ 255 < f := by
 simp only [ansB, decide_eq_true_eq] at ha
 simp only [bne_iff_ne, ne_eq, bne_eq_false_iff_eq]
 by_cases h3 : f ≤ 127
 ·
  have := h1 ha.1 h3
  omega
 ·
  omega
theorem fn_lay0 {b : List UInt8} {r : Rp} (hg : goodE r = 0) (hb : layA r = b) (hc : r.code = 0) : fnOf b = r.fn ∧ knownB r.fn = true := by
 subst hb
 obtain ⟨hk, -⟩ := good_parts hg hc
 refine ⟨?_, hk⟩
 have := known_cases hk
 rw [show layA r = b8 r.fn :: bodyA r by simp [layA, hc]]
 show ((b8 r.fn).toNat : Int) = _
 rw [b8_nat]; omega
theorem gB_code {b : List UInt8} {c : Int} (h : fnOf b < 128) : (gB b c).code = 0 := by
 unfold gB
 rw [if_neg (by omega)]
 repeat' split
 all_goals rfl
end Go.Proofs.Ytbajlhpmmmhkoaa
