/- Mathematics of MbapWhole; sub-slices. -/
import Derived.Test.YtejcigeccmfeeaaN9
import Derived.Test.YtejcigeccmfeeaaW1
namespace Go.Proofs.Ytejcigeccmfeeaa
open Go.RowKit

def whP (xss : List (List UInt8)) (i : Nat) : List UInt8 := bOf (i : Int) :: (xss.getD i []).take 40
def whM (xss : List (List UInt8)) (i : Nat) : Ms := ⟨(i : Int) * 7, (i : Int), whP xss i⟩
def whL (xss : List (List UInt8)) (k : Nat) : List Ms := (List.range k).map (whM xss)
def whB (xss : List (List UInt8)) (k : Nat) : List UInt8 := ((List.range k).map fun (i : Nat) => msgL ((i : Int) * 7) (i : Int) (whP xss i)).flatten
theorem whL_succ (xss : List (List UInt8)) (k : Nat) : whL xss (k + 1) = whL xss k ++ [whM xss k] := by simp [whL, List.range_succ]
theorem whB_succ (xss : List (List UInt8)) (k : Nat) : whB xss (k + 1) = whB xss k ++ msgL ((k : Int) * 7) (k : Int) (whP xss k) := by simp [whB, List.range_succ]
theorem whL_len (xss : List (List UInt8)) (k : Nat) : (whL xss k).length = k := by simp [whL]
theorem whP_len (xss : List (List UInt8)) (k : Nat) : 1 ≤ (whP xss k).length ∧ (whP xss k).length ≤ 41 := by simp [whP]; omega
theorem whB_len (xss : List (List UInt8)) : ∀ k, (whB xss k).length ≤ k * 48
  | 0 => by simp [whB]
  | k + 1 => by
    have := whB_len xss k
    have := whP_len xss k
    rw [whB_succ, List.length_append, msgL_len]; omega
theorem wh_run (xss : List (List UInt8)) : ∀ (k : Nat), k ≤ 10 → smRun ⟨[], false, []⟩ (whB xss k) = ⟨[], false, whL xss k⟩
  | 0, _ => rfl
  | k + 1, h => by
    have ih := wh_run xss k (by omega)
    have hp := whP_len xss k
    have := run_bytes (whL xss k) ((k : Int) * 7) (k : Int) (whP xss k) [] hp.1 (by omega)
    rw [List.append_nil] at this
    rw [whB_succ, smRun_app, ih, this, smRun_nil, whL_succ]
    have e1 : ((wOf ((k : Int) * 7)).toNat : Int) = (k : Int) * 7 := by rw [wOf_nat]; omega
    have e2 := bOf_small k (by omega)
    rw [e1, e2]; rfl
theorem wh_mbytes (xss : List (List UInt8)) (k : Nat) : mbytesL ((k : Int) * 7) (k : Int) (whP xss k) = msgL ((k : Int) * 7) (k : Int) (whP xss k) := by
  have := whP_len xss k
  unfold mbytesL; rw [if_neg (by omega)]

theorem RowO.cut {N : Nat → Prop} {w : World} {b off n cap : Nat} {xs : List Value} (h : RowO N w (.slice (some ⟨b, off, none⟩) n cap) xs) (k : Nat) (hk : k ≤ n) : RowO N w (.slice (if cap = k then some ⟨b, off, none⟩ else some ⟨b, off + k, none⟩) (n - k) (cap - k)) (xs.drop k) := by
  by_cases hc : cap = k
  · rw [if_pos hc]
    refine ⟨?_, h.2⟩
    obtain ⟨a, c, e, h1, h2, h3, -⟩ := h.1
    simp only [Value.slice.injEq] at e
    obtain ⟨rfl, rfl, rfl⟩ := e
    have e0 : xs.drop k = [] := List.eq_nil_of_length_eq_zero (by simp; omega)
    rw [e0]
    exact ⟨_, cap - k, by rw [show xs.length - k = [].length by simp; omega], by simp, by omega, (fun h => by cases h), .inl rfl⟩
  · rw [if_neg hc]; exact h.from k hk
theorem sm_more (bs : List UInt8) (d q : Nat) (s : Sm) (h : smRun ⟨[], false, []⟩ (bs.take d) = s) : smRun ⟨[], false, []⟩ (bs.take (d + q)) = ⟨(smRun ⟨s.wait, s.shut, []⟩ ((bs.drop d).take q)).wait, (smRun ⟨s.wait, s.shut, []⟩ ((bs.drop d).take q)).shut, s.out ++ (smRun ⟨s.wait, s.shut, []⟩ ((bs.drop d).take q)).out⟩ := by
  have e : bs.take (d + q) = bs.take d ++ (bs.drop d).take q := by rw [List.take_add]
  rw [e, smRun_app, h]
  have := smRun_out s.out ((bs.drop d).take q) ⟨s.wait, s.shut, []⟩
  simpa using this

end Go.Proofs.Ytejcigeccmfeeaa
