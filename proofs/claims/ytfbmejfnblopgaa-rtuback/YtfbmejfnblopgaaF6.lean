/- Plain mathematics: frames with silence between come one by one. -/
import Derived.Test.YtfbmejfnblopgaaF0
namespace Go.Proofs.Ytfbmejfnblopgaa

theorem getD_app_left {α : Type} (l : List α) (x d : α) (k : Nat) (h : k < l.length) : (l ++ [x]).getD k d = l.getD k d := by
  rw [List.getD_eq_getElem?_getD, List.getElem?_append_left h, List.getD_eq_getElem?_getD]
theorem getD_app_end {α : Type} (l : List α) (x d : α) : (l ++ [x]).getD l.length d = x := by simp

theorem spAt_app (ts : List Int) (b : List UInt8) (t : Int) (x : UInt8) (h : ts.length = b.length) : ∀ k, k < b.length → spAt (ts ++ [t]) (b ++ [x]) k = spAt ts b k
  | 0, hk => by simp only [spAt]; rw [getD_app_left b x 0 0 hk, getD_app_left ts t 0 0 (by omega)]
  | k + 1, hk => by simp only [spAt]; rw [spAt_app ts b t x h k (by omega), getD_app_left b x 0 (k + 1) hk, getD_app_left ts t 0 (k + 1) (by omega)]

/-- the state behind all bytes -/
def spB (ts : List Int) (b : List UInt8) : Sp := spS ts b b.length
theorem spB_one (t : Int) (x : UInt8) : spB [t] [x] = ⟨[], [x], false, t⟩ := rfl
theorem spB_snoc (ts : List Int) (b : List UInt8) (t : Int) (x : UInt8) (h : ts.length = b.length) (h0 : b ≠ []) : spB (ts ++ [t]) (b ++ [x]) = spStep (spB ts b) t x := by
  obtain ⟨n, hn⟩ : ∃ n, b.length = n + 1 := ⟨b.length - 1, by have := List.length_pos_iff.2 h0; omega⟩
  unfold spB
  rw [List.length_append, hn]
  show spAt (ts ++ [t]) (b ++ [x]) (n + 1) = spStep (spAt ts b n) t x
  simp only [spAt]
  rw [spAt_app ts b t x h n (by omega)]
  have e1 : (ts ++ [t]).getD (n + 1) 0 = t := by rw [← hn, ← h]; exact getD_app_end ts t 0
  have e2 : (b ++ [x]).getD (n + 1) 0 = x := by rw [← hn]; exact getD_app_end b x 0
  rw [e1, e2]

def OuterI (F : List (List UInt8)) (ts : List Int) (b : List UInt8) (now : Int) : Prop := (F = [] ∧ b = []) ∨ (b ≠ [] ∧ spEnd (spB ts b) = F ∧ (spB ts b).last = now - 1)
def InnerI (F : List (List UInt8)) (f : List UInt8) (j : Nat) (ts : List Int) (b : List UInt8) (now : Int) : Prop :=
  (j = 0 ∧ ((F = [] ∧ b = []) ∨ (b ≠ [] ∧ spEnd (spB ts b) = F ∧ (spB ts b).last = now - 5))) ∨ (0 < j ∧ b ≠ [] ∧ spB ts b = ⟨F, f.take j, false, now - 1⟩)

theorem outer_begin {F : List (List UInt8)} {f : List UInt8} {ts : List Int} {b : List UInt8} {now : Int} (h : OuterI F ts b now) : InnerI F f 0 ts b (now + 4) := by
  refine .inl ⟨rfl, ?_⟩
  rcases h with h | ⟨h1, h2, h3⟩
  · exact .inl h
  · exact .inr ⟨h1, h2, by omega⟩
theorem inner_step {F : List (List UInt8)} {f : List UInt8} {j : Nat} {ts : List Int} {b : List UInt8} {now : Int} (hl : ts.length = b.length) (hj : j < f.length) (h : InnerI F f j ts b now) : InnerI F f (j + 1) (ts ++ [now]) (b ++ [f.getD j 0]) (now + 1) := by
  refine .inr ⟨by omega, by simp, ?_⟩
  have et : f.take (j + 1) = f.take j ++ [f.getD j 0] := by
    rw [List.take_succ_eq_append_getElem hj]; simp [List.getD_eq_getElem?_getD, hj]
  rw [et]
  rcases h with ⟨rfl, ⟨rfl, rfl⟩ | ⟨h1, h2, h3⟩⟩ | ⟨h1, h2, h3⟩
  · have : ts = [] := List.eq_nil_of_length_eq_zero hl
    subst this
    rw [List.nil_append, List.nil_append, spB_one]
    simp
  · rw [spB_snoc ts b _ _ hl h1, step_far (by omega)]
    unfold spEnd at h2
    rw [h2]; simp
  · rw [spB_snoc ts b _ _ hl h2, h3, step_near (by simp only []; omega)]
    simp only [Sp.mk.injEq, true_and]; omega
theorem inner_end {F : List (List UInt8)} {f : List UInt8} {ts : List Int} {b : List UInt8} {now : Int} (hf : 0 < f.length) (h : InnerI F f f.length ts b now) : OuterI (F ++ [f]) ts b now := by
  rcases h with ⟨h, -⟩ | ⟨-, h2, h3⟩
  · omega
  · refine .inr ⟨h2, ?_, ?_⟩
    · rw [h3]; simp [spEnd, keepL]
    · rw [h3]
theorem outer_split {F : List (List UInt8)} {ts : List Int} {b : List UInt8} {now : Int} (hl : ts.length = b.length) (h : OuterI F ts b now) : splitL ts b = F := by
  rcases h with ⟨rfl, rfl⟩ | ⟨h1, h2, -⟩
  · simp [splitL]
  · have hp := List.length_pos_iff.2 h1
    unfold splitL
    rw [hl, Nat.min_self, if_neg (by omega)]
    unfold spB at h2
    obtain ⟨n, hn⟩ : ∃ n, b.length = n + 1 := ⟨b.length - 1, by omega⟩
    rw [hn] at h2 ⊢
    exact h2

end Go.Proofs.Ytfbmejfnblopgaa
