/- Mathematics of streams: what a stream is behind bytes that came one by one, and at once. -/
import Derived.Test.YtejcigeccmfeeaaOA
namespace Go.Proofs.Ytejcigeccmfeeaa

structure Ms where
  id : Int
  unit : Int
  pdu : List UInt8
structure Sm where
  wait : List UInt8
  shut : Bool
  out : List Ms

def soundB (b : List UInt8) : Bool := decide (getN b 2 = 0) && decide (2 ≤ getN b 4) && decide (getN b 4 ≤ 254)
def wholeB (b : List UInt8) : Bool := getOk b 4 && decide ((b.length : Int) = 6 + getN b 4)
def badB (b : List UInt8) : Bool := decide (b.length = 6) && !soundB b
def msgOf (b : List UInt8) : Ms := ⟨getN b 0, ((b.getD 6 0).toNat : Int), b.drop 7⟩
def smStep (s : Sm) (x : UInt8) : Sm :=
  if s.shut = true then s
  else if badB (s.wait ++ [x]) = true then ⟨[], true, s.out⟩
  else if wholeB (s.wait ++ [x]) = true then ⟨[], false, s.out ++ [msgOf (s.wait ++ [x])]⟩
  else ⟨s.wait ++ [x], false, s.out⟩
def smRun (s : Sm) (bs : List UInt8) : Sm := bs.foldl smStep s

theorem smRun_nil (s : Sm) : smRun s [] = s := rfl
theorem smRun_app (s : Sm) (a b : List UInt8) : smRun s (a ++ b) = smRun (smRun s a) b := by simp [smRun]
theorem smRun_one (s : Sm) (a : List UInt8) (x : UInt8) : smRun s (a ++ [x]) = smStep (smRun s a) x := by simp [smRun]
theorem smStep_shut (s : Sm) (x : UInt8) (h : s.shut = true) : smStep s x = s := by simp [smStep, h]
theorem smRun_shut (s : Sm) (h : s.shut = true) : ∀ b, smRun s b = s
  | [] => rfl
  | x :: b => by
    show smRun (smStep s x) b = s
    rw [smStep_shut s x h]; exact smRun_shut s h b
theorem smStep_bad {w : List UInt8} {o : List Ms} {x : UInt8} (h : badB (w ++ [x]) = true) : smStep ⟨w, false, o⟩ x = ⟨[], true, o⟩ := by simp [smStep, h]
theorem smStep_whole {w : List UInt8} {o : List Ms} {x : UInt8} (h : badB (w ++ [x]) = false) (h2 : wholeB (w ++ [x]) = true) : smStep ⟨w, false, o⟩ x = ⟨[], false, o ++ [msgOf (w ++ [x])]⟩ := by simp [smStep, h, h2]
theorem smStep_wait {w : List UInt8} {o : List Ms} {x : UInt8} (h : badB (w ++ [x]) = false) (h2 : wholeB (w ++ [x]) = false) : smStep ⟨w, false, o⟩ x = ⟨w ++ [x], false, o⟩ := by simp [smStep, h, h2]

/-- what came ahead is told ahead -/
theorem smStep_out (s : Sm) (p : List Ms) (x : UInt8) : smStep ⟨s.wait, s.shut, p ++ s.out⟩ x = ⟨(smStep s x).wait, (smStep s x).shut, p ++ (smStep s x).out⟩ := by
  unfold smStep
  simp only
  split
  · rfl
  · split
    · rfl
    · split
      · simp
      · rfl
theorem smRun_out (p : List Ms) : ∀ (b : List UInt8) (s : Sm), smRun ⟨s.wait, s.shut, p ++ s.out⟩ b = ⟨(smRun s b).wait, (smRun s b).shut, p ++ (smRun s b).out⟩
  | [], _ => rfl
  | x :: b, s => by
    show smRun (smStep _ x) b = _
    rw [smStep_out]
    exact smRun_out p b (smStep s x)

/-- bytes that a stream may keep -/
def OkW (w : List UInt8) : Prop := ∀ o, smRun ⟨[], false, o⟩ w = ⟨w, false, o⟩
theorem OkW.nil : OkW [] := fun _ => rfl
theorem OkW.run {w : List UInt8} (h : OkW w) (o : List Ms) (b : List UInt8) : smRun ⟨w, false, o⟩ b = smRun ⟨[], false, o⟩ (w ++ b) := by rw [smRun_app, h o]
theorem OkW.step {w : List UInt8} (h : OkW w) (x : UInt8) (o : List Ms) : OkW (smStep ⟨w, false, o⟩ x).wait := by
  cases hb : badB (w ++ [x])
  · cases hw : wholeB (w ++ [x])
    · rw [smStep_wait hb hw]
      intro o'
      rw [smRun_one, h o', smStep_wait hb hw]
    · rw [smStep_whole hb hw]; exact OkW.nil
  · rw [smStep_bad hb]; exact OkW.nil
theorem OkW.many : ∀ (b : List UInt8) (s : Sm), OkW s.wait → OkW (smRun s b).wait
  | [], _, h => h
  | x :: b, s, h => by
    show OkW (smRun (smStep s x) b).wait
    refine OkW.many b _ ?_
    obtain ⟨w, c, o⟩ := s
    cases c
    · exact h.step x o
    · rw [smStep_shut _ _ rfl]; exact h

theorem getN_app (a b : List UInt8) (n : Int) (h : n + 2 ≤ a.length) : getN (a ++ b) n = getN a n := by
  unfold getN
  by_cases h0 : 0 ≤ n
  · rw [if_pos ⟨h0, by simp; omega⟩, if_pos ⟨h0, h⟩]
    have e1 : (a ++ b).getD n.toNat 0 = a.getD n.toNat 0 := by rw [List.getD_eq_getElem?_getD, List.getElem?_append_left (by omega), ← List.getD_eq_getElem?_getD]
    have e2 : (a ++ b).getD (n.toNat + 1) 0 = a.getD (n.toNat + 1) 0 := by rw [List.getD_eq_getElem?_getD, List.getElem?_append_left (by omega), ← List.getD_eq_getElem?_getD]
    rw [e1, e2]
  · rw [if_neg (fun h => h0 h.1), if_neg (fun h => h0 h.1)]
theorem getN_nn (b : List UInt8) (n : Int) : 0 ≤ getN b n := by unfold getN; split <;> omega
theorem getN_le (b : List UInt8) (n : Int) : getN b n ≤ 65535 := by
  unfold getN
  split
  · have := (mkW (b.getD n.toNat 0) (b.getD (n.toNat + 1) 0)).toNat_lt; omega
  · omega

/-- bytes that come to no end of a message wait -/
theorem run_wait (o : List Ms) : ∀ (t w : List UInt8), (∀ k, k < t.length → badB (w ++ t.take (k + 1)) = false ∧ wholeB (w ++ t.take (k + 1)) = false) → smRun ⟨w, false, o⟩ t = ⟨w ++ t, false, o⟩
  | [], w, _ => by simp [smRun]
  | x :: t, w, h => by
    have h0 := h 0 (by simp)
    simp only [Nat.zero_add, List.take_succ_cons, List.take_zero] at h0
    show smRun (smStep _ x) t = _
    rw [smStep_wait h0.1 h0.2, run_wait o t (w ++ [x]) (fun k hk => by
      have := h (k + 1) (by simp; omega)
      simpa using this)]
    simp

theorem run_short (o : List Ms) (B : List UInt8) (h : B.length < 6) : smRun ⟨[], false, o⟩ B = ⟨B, false, o⟩ := by
  have := run_wait o B [] (fun k hk => by
    simp only [List.nil_append]
    have hl : (B.take (k + 1)).length = k + 1 := by simp; omega
    constructor
    · unfold badB; rw [hl]; simp; omega
    · unfold wholeB getOk; rw [hl]; simp; omega)
  simpa using this

theorem run_bad (o : List Ms) (B : List UInt8) (h : 6 ≤ B.length) (hs : soundB B = false) : smRun ⟨[], false, o⟩ B = ⟨[], true, o⟩ := by
  have e : B = (B.take 5 ++ [B[5]]) ++ B.drop 6 := by
    rw [← List.take_succ_eq_append_getElem]; simp
  have e6 : B.take 6 = B.take 5 ++ [B[5]] := by rw [← List.take_succ_eq_append_getElem]
  have hs6 : soundB (B.take 6) = false := by
    rw [← hs]
    have hh := List.take_append_drop 6 B
    have hl : (B.take 6).length = 6 := by simp; omega
    unfold soundB
    rw [← getN_app (B.take 6) (B.drop 6) 2 (by omega), ← getN_app (B.take 6) (B.drop 6) 4 (by omega), hh]
  rw [e, smRun_app, smRun_one, run_short o _ (by simp; omega), smStep_bad (by unfold badB; rw [← e6, hs6]; simp; omega)]
  exact smRun_shut _ rfl _

theorem sound_bounds {B : List UInt8} (h : soundB B = true) : getN B 2 = 0 ∧ 2 ≤ getN B 4 ∧ getN B 4 ≤ 254 := by
  unfold soundB at h; simpa [and_assoc] using h
theorem pre_get (B : List UInt8) (k : Nat) (n : Int) (h : n + 2 ≤ k) (hk : k ≤ B.length) : getN (B.take k) n = getN B n := by
  have := getN_app (B.take k) (B.drop k) n (by simp; omega)
  rw [List.take_append_drop] at this
  exact this.symm
theorem pre_sound (B : List UInt8) (k : Nat) (h : 6 ≤ k) (hk : k ≤ B.length) : soundB (B.take k) = soundB B := by
  unfold soundB; rw [pre_get B k 2 (by omega) hk, pre_get B k 4 (by omega) hk]
theorem pre_bad (B : List UInt8) (k : Nat) (hk : k ≤ B.length) (hs : soundB B = true) : badB (B.take k) = false := by
  unfold badB
  by_cases h : k = 6
  · subst h; rw [pre_sound B 6 (by omega) hk, hs]; simp
  · have : (B.take k).length = k := by simp; omega
    rw [this]; simp [h]
theorem pre_whole (B : List UInt8) (k : Nat) (hk : k ≤ B.length) (h : 6 ≤ k → (k : Int) ≠ 6 + getN B 4) : wholeB (B.take k) = false := by
  have hl : (B.take k).length = k := by simp; omega
  unfold wholeB getOk
  rw [hl]
  by_cases h6 : 6 ≤ k
  · rw [pre_get B k 4 (by omega) hk]
    simp [h h6]
  · simp; omega

theorem run_part (o : List Ms) (B : List UInt8) (hs : soundB B = true) (h2 : (B.length : Int) < 6 + getN B 4) : smRun ⟨[], false, o⟩ B = ⟨B, false, o⟩ := by
  have := run_wait o B [] (fun k hk => by
    simp only [List.nil_append]
    exact ⟨pre_bad B _ (by omega) hs, pre_whole B _ (by omega) (fun _ => by omega)⟩)
  simpa using this

theorem run_msg (o : List Ms) (B : List UInt8) (n : Nat) (hs : soundB B = true) (hn : getN B 4 = (n : Int)) (h2 : 6 + n ≤ B.length) :
    smRun ⟨[], false, o⟩ B = smRun ⟨[], false, o ++ [msgOf (B.take (6 + n))]⟩ (B.drop (6 + n)) := by
  obtain ⟨-, h3, h4⟩ := sound_bounds hs
  have hlt : 5 + n < B.length := by omega
  have e1 : B.take (6 + n) = B.take (5 + n) ++ [B[5 + n]] := by
    rw [show 6 + n = 5 + n + 1 by omega, ← List.take_succ_eq_append_getElem hlt]
  have e : B = (B.take (5 + n) ++ [B[5 + n]]) ++ B.drop (6 + n) := by rw [← e1]; simp
  have hw : smRun ⟨[], false, o⟩ (B.take (5 + n)) = ⟨B.take (5 + n), false, o⟩ := by
    have := run_wait o (B.take (5 + n)) [] (fun k hk => by
      simp only [List.nil_append]
      have hk' : k + 1 ≤ 5 + n := by simp at hk; omega
      rw [List.take_take, Nat.min_eq_left hk']
      exact ⟨pre_bad B _ (by omega) hs, pre_whole B _ (by omega) (fun _ => by omega)⟩)
    simpa using this
  have hwh : wholeB (B.take (6 + n)) = true := by
    have hl : (B.take (6 + n)).length = 6 + n := by simp; omega
    unfold wholeB getOk
    rw [hl, pre_get B (6 + n) 4 (by omega) h2, hn]
    simp; omega
  conv => lhs; rw [e]
  rw [smRun_app, smRun_one, hw, smStep_whole (by rw [← e1]; exact pre_bad B _ h2 hs) (by rw [← e1]; exact hwh), ← e1]

end Go.Proofs.Ytejcigeccmfeeaa
