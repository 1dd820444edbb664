/- Plain mathematics of frames on the line: what Frame, Read, Split answer. -/
import Derived.Test.YtfbmejfnblopgaaM2
namespace Go.Proofs.Ytfbmejfnblopgaa

/-- Frame's refusal -/
def frmE (a : Int) (b : List UInt8) : Int := if a < 1 ∨ 247 < a then 1 else if b.length = 0 then 13 else if 253 < b.length then 3 else 0
/-- Frame's bytes -/
def frmL (a : Int) (b : List UInt8) : List UInt8 := if frmE a b = 0 then sealL (UInt8.ofNat a.toNat :: b) else []
/-- Read's refusal, address, pdu -/
def rdE (b : List UInt8) : Int := if b.length < 4 then 13 else if 256 < b.length then 3 else if unsealOk b = false then 14 else if (b.getD 0 0).toNat < 1 ∨ 247 < (b.getD 0 0).toNat then 1 else 0
def rdA (b : List UInt8) : Int := if rdE b = 0 then ((b.getD 0 0).toNat : Int) else 0
def rdP (b : List UInt8) : List UInt8 := if rdE b = 0 then (b.take (b.length - 2)).drop 1 else []

theorem frm_arg {a : Int} {b : List UInt8} (h : a < 1 ∨ 247 < a) : frmE a b = 1 ∧ frmL a b = [] := by simp [frmL, frmE, h]
theorem frm_short {a : Int} {b : List UInt8} (h : 1 ≤ a) (h' : a ≤ 247) (h0 : b.length = 0) : frmE a b = 13 ∧ frmL a b = [] := by
  have : ¬ (a < 1 ∨ 247 < a) := by omega
  have e : frmE a b = 13 := by unfold frmE; rw [if_neg this, if_pos h0]
  simp [frmL, e]
theorem frm_long {a : Int} {b : List UInt8} (h : 1 ≤ a) (h' : a ≤ 247) (h0 : 253 < b.length) : frmE a b = 3 ∧ frmL a b = [] := by
  have : ¬ (a < 1 ∨ 247 < a) := by omega
  have e : frmE a b = 3 := by unfold frmE; rw [if_neg this, if_neg (by omega), if_pos h0]
  simp [frmL, e]
theorem frm_ok {a : Int} {b : List UInt8} (h : 1 ≤ a) (h' : a ≤ 247) (h0 : 0 < b.length) (h1 : b.length ≤ 253) : frmE a b = 0 ∧ frmL a b = sealL (UInt8.ofNat a.toNat :: b) := by
  have : ¬ (a < 1 ∨ 247 < a) := by omega
  have e : frmE a b = 0 := by unfold frmE; rw [if_neg this, if_neg (by omega), if_neg (by omega)]
  simp [frmL, e]
theorem frmL_len (a : Int) (b : List UInt8) : (frmL a b).length ≤ 256 := by
  unfold frmL
  split
  · rename_i h
    have : b.length ≤ 253 := by
      unfold frmE at h
      split at h
      · omega
      · split at h
        · omega
        · split at h <;> omega
    rw [sealL_len]; simp; omega
  · simp

theorem rd_short {b : List UInt8} (h : b.length < 4) : rdE b = 13 ∧ rdA b = 0 ∧ rdP b = [] := by
  have e : rdE b = 13 := by simp [rdE, h]
  simp [rdA, rdP, e]
theorem rd_long {b : List UInt8} (h : 256 < b.length) : rdE b = 3 ∧ rdA b = 0 ∧ rdP b = [] := by
  have e : rdE b = 3 := by unfold rdE; rw [if_neg (by omega), if_pos h]
  simp [rdA, rdP, e]
theorem rd_sum {b : List UInt8} (h : 4 ≤ b.length) (h' : b.length ≤ 256) (hs : unsealOk b = false) : rdE b = 14 ∧ rdA b = 0 ∧ rdP b = [] := by
  have e : rdE b = 14 := by unfold rdE; rw [if_neg (by omega), if_neg (by omega), if_pos hs]
  simp [rdA, rdP, e]
theorem rd_arg {b : List UInt8} (h : 4 ≤ b.length) (h' : b.length ≤ 256) (hs : unsealOk b = true) (ha : (b.getD 0 0).toNat < 1 ∨ 247 < (b.getD 0 0).toNat) : rdE b = 1 ∧ rdA b = 0 ∧ rdP b = [] := by
  have e : rdE b = 1 := by unfold rdE; rw [if_neg (by omega), if_neg (by omega), if_neg (by simp [hs]), if_pos ha]
  simp [rdA, rdP, e]
theorem rd_ok {b : List UInt8} (h : 4 ≤ b.length) (h' : b.length ≤ 256) (hs : unsealOk b = true) (ha : 1 ≤ (b.getD 0 0).toNat ∧ (b.getD 0 0).toNat ≤ 247) : rdE b = 0 ∧ rdA b = ((b.getD 0 0).toNat : Int) ∧ rdP b = (b.take (b.length - 2)).drop 1 := by
  have e : rdE b = 0 := by unfold rdE; rw [if_neg (by omega), if_neg (by omega), if_neg (by simp [hs]), if_neg (by omega)]
  simp [rdA, rdP, e]

theorem unsealOk_seal' (b : List UInt8) : unsealOk (sealL b) = true := by
  unfold unsealOk; rw [sealL_len, crc_seal]; simp

/-- what Frame made Read reads -/
theorem rd_frm {a : Int} {b : List UInt8} (h : 1 ≤ a) (h' : a ≤ 247) (h0 : 0 < b.length) (h1 : b.length ≤ 253) : rdE (frmL a b) = 0 ∧ rdA (frmL a b) = a ∧ rdP (frmL a b) = b := by
  have e := (frm_ok h h' h0 h1).2
  have hl : (frmL a b).length = b.length + 3 := by rw [e, sealL_len]; simp
  have hg : ((frmL a b).getD 0 0) = UInt8.ofNat a.toNat := by rw [e]; simp [sealL]
  have hn : (UInt8.ofNat a.toNat).toNat = a.toNat := by rw [UInt8.toNat_ofNat']; omega
  obtain ⟨e1, e2, e3⟩ := rd_ok (b := frmL a b) (by omega) (by omega) (by rw [e]; exact unsealOk_seal' _) (by rw [hg, hn]; omega)
  refine ⟨e1, ?_, ?_⟩
  · rw [e2, hg, hn]; omega
  · rw [e3, hl, e]; simp [sealL]

/-- the state of a parted line -/
structure Sp where
  out : List (List UInt8)
  now : List UInt8
  bad : Bool
  last : Int
def keepL (out : List (List UInt8)) (now : List UInt8) (bad : Bool) : List (List UInt8) := if bad = true then out else out ++ [now]
def spStep (s : Sp) (t : Int) (x : UInt8) : Sp :=
  if 4 ≤ t - s.last then ⟨keepL s.out s.now s.bad, [x], false, t⟩
  else ⟨s.out, s.now ++ [x], s.bad || decide (2 ≤ t - s.last), max t s.last⟩
/-- the state behind byte k -/
def spAt (ts : List Int) (b : List UInt8) : Nat → Sp
  | 0 => ⟨[], [b.getD 0 0], false, ts.getD 0 0⟩
  | k + 1 => spStep (spAt ts b k) (ts.getD (k + 1) 0) (b.getD (k + 1) 0)
def spEnd (s : Sp) : List (List UInt8) := keepL s.out s.now s.bad
def splitL (ts : List Int) (b : List UInt8) : List (List UInt8) := if min ts.length b.length = 0 then [] else spEnd (spAt ts b (min ts.length b.length - 1))

theorem step_far {s : Sp} {t : Int} {x : UInt8} (h : 4 ≤ t - s.last) : spStep s t x = ⟨keepL s.out s.now s.bad, [x], false, t⟩ := by simp [spStep, h]
theorem step_mid {s : Sp} {t : Int} {x : UInt8} (h : t - s.last < 4) (h2 : 2 ≤ t - s.last) : spStep s t x = ⟨s.out, s.now ++ [x], true, t⟩ := by
  unfold spStep; rw [if_neg (by omega)]
  have : max t s.last = t := by omega
  simp [h2, this]
theorem step_near {s : Sp} {t : Int} {x : UInt8} (h2 : t - s.last < 2) : spStep s t x = ⟨s.out, s.now ++ [x], s.bad, max t s.last⟩ := by
  unfold spStep; rw [if_neg (by omega)]
  have : decide (2 ≤ t - s.last) = false := by simp; omega
  simp [this]
theorem sp_last (ts : List Int) (b : List UInt8) (lo hi : Int) : ∀ k, (∀ i, i ≤ k → lo ≤ ts.getD i 0 ∧ ts.getD i 0 ≤ hi) → lo ≤ (spAt ts b k).last ∧ (spAt ts b k).last ≤ hi
  | 0, h => by simpa [spAt] using h 0 (Nat.le_refl _)
  | k + 1, h => by
    have ih := sp_last ts b lo hi k (fun i hi => h i (by omega))
    have hk := h (k + 1) (Nat.le_refl _)
    simp only [spAt, spStep]
    split
    · exact hk
    · simp only []; omega
theorem sp_out_len (ts : List Int) (b : List UInt8) : ∀ k, (spAt ts b k).out.length ≤ k
  | 0 => by simp [spAt]
  | k + 1 => by
    have ih := sp_out_len ts b k
    simp only [spAt, spStep]
    split
    · simp only [keepL]
      split
      · omega
      · simp; omega
    · simp only []; omega
theorem sp_now_len (ts : List Int) (b : List UInt8) : ∀ k, 0 < (spAt ts b k).now.length ∧ (spAt ts b k).now.length ≤ k + 1
  | 0 => by simp [spAt]
  | k + 1 => by
    have ih := sp_now_len ts b k
    simp only [spAt, spStep]
    split
    · simp
    · simp; omega
/-- what is not yet ended is a piece of the bytes -/
theorem sp_piece (ts : List Int) (b : List UInt8) (k : Nat) (_hk : k < b.length) (f : Nat) (hf : (spAt ts b k).now = (b.take (k + 1)).drop f) (hfk : f ≤ k) (h : k + 1 < b.length) (hn : (spAt ts b (k + 1)).now = (spAt ts b k).now ++ [b.getD (k + 1) 0]) :
    (spAt ts b (k + 1)).now = (b.take (k + 2)).drop f := by
  rw [hn, hf, List.take_succ_eq_append_getElem (i := k + 1) h, List.drop_append_of_le_length (by simp; omega)]
  simp [List.getD_eq_getElem?_getD, h]
theorem piece_one (b : List UInt8) (k : Nat) (h : k < b.length) : [b.getD k 0] = (b.take (k + 1)).drop k := by
  rw [List.take_succ_eq_append_getElem h, List.drop_append_of_le_length (by simp; omega)]
  simp [List.getD_eq_getElem?_getD, h]

/-- the state ahead of byte i -/
def spS (ts : List Int) (b : List UInt8) : Nat → Sp
  | 0 => ⟨[], [], false, 0⟩
  | k + 1 => spAt ts b k
theorem spS_one (ts : List Int) (b : List UInt8) : spS ts b (0 + 1) = ⟨[], [] ++ [b.getD 0 0], false, ts.getD 0 0⟩ := rfl
theorem spS_far {ts : List Int} {b : List UInt8} {i : Nat} (hi : 0 < i) (h : 4 ≤ ts.getD i 0 - (spS ts b i).last) : spS ts b (i + 1) = ⟨keepL (spS ts b i).out (spS ts b i).now (spS ts b i).bad, [] ++ [b.getD i 0], false, ts.getD i 0⟩ := by
  obtain ⟨k, rfl⟩ : ∃ k, i = k + 1 := ⟨i - 1, by omega⟩
  exact step_far h
theorem spS_mid {ts : List Int} {b : List UInt8} {i : Nat} (hi : 0 < i) (h : ts.getD i 0 - (spS ts b i).last < 4) (h2 : 2 ≤ ts.getD i 0 - (spS ts b i).last) : spS ts b (i + 1) = ⟨(spS ts b i).out, (spS ts b i).now ++ [b.getD i 0], true, ts.getD i 0⟩ := by
  obtain ⟨k, rfl⟩ : ∃ k, i = k + 1 := ⟨i - 1, by omega⟩
  exact step_mid h h2
theorem spS_near {ts : List Int} {b : List UInt8} {i : Nat} (hi : 0 < i) (h2 : ts.getD i 0 - (spS ts b i).last < 2) : spS ts b (i + 1) = ⟨(spS ts b i).out, (spS ts b i).now ++ [b.getD i 0], (spS ts b i).bad, max (ts.getD i 0) (spS ts b i).last⟩ := by
  obtain ⟨k, rfl⟩ : ∃ k, i = k + 1 := ⟨i - 1, by omega⟩
  exact step_near h2
theorem spS_len (ts : List Int) (b : List UInt8) (i : Nat) : (spS ts b i).out.length ≤ i ∧ (spS ts b i).now.length ≤ i ∧ (0 < i → 0 < (spS ts b i).now.length) := by
  cases i with
  | zero => simp [spS]
  | succ k =>
    have h1 := sp_out_len ts b k
    have h2 := sp_now_len ts b k
    simp only [spS]
    omega
theorem spS_last (ts : List Int) (b : List UInt8) (i : Nat) (h : ∀ j, j < i → -9223372036854775808 ≤ ts.getD j 0 ∧ ts.getD j 0 ≤ 9223372036854775807) : -9223372036854775808 ≤ (spS ts b i).last ∧ (spS ts b i).last ≤ 9223372036854775807 := by
  cases i with
  | zero => simp [spS]
  | succ k => exact sp_last ts b _ _ k (fun j hj => h j (by omega))
theorem splitL_eq (ts : List Int) (b : List UInt8) (n : Nat) (hn : min ts.length b.length = n) : splitL ts b = if 0 < (spS ts b n).now.length then keepL (spS ts b n).out (spS ts b n).now (spS ts b n).bad else (spS ts b n).out := by
  subst hn
  unfold splitL
  by_cases h : min ts.length b.length = 0
  · rw [if_pos h, h]; simp [spS]
  · obtain ⟨k, hk⟩ : ∃ k, min ts.length b.length = k + 1 := ⟨min ts.length b.length - 1, by omega⟩
    rw [if_neg h, hk, if_pos (by have := (spS_len ts b (k + 1)).2.2; omega)]
    rfl

end Go.Proofs.Ytfbmejfnblopgaa
