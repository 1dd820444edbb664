/- append of a list of messages to another one. -/
import Derived.Test.YtejcigeccmfeeaaN7
namespace Go.Proofs.Ytejcigeccmfeeaa
open Go.RowKit

theorem mcs_appL : ∀ (a : List Ms) (ua : List Value) (b : List Ms) (ub : List Value), ua.length = a.length → mcs (a ++ b) (ua ++ ub) = mcs a ua ++ mcs b ub
  | [], [], _, _, _ => rfl
  | [], _ :: _, _, _, h => by simp at h
  | _ :: _, [], _, _, h => by simp at h
  | x :: a, y :: ua, b, ub, h => by
    have := mcs_appL a ua b ub (by simpa using h)
    simp [mcs, this]
theorem mcs_one : ∀ (ms : List Ms) (us : List Value), (∀ u ∈ us, u.oneCell' = true) → ∀ u ∈ mcs ms us, u.oneCell' = true
  | [], _, _, u, h => by simp [mcs] at h
  | _ :: _, [], _, u, h => by simp [mcs] at h
  | m :: ms, y :: us, h, u, hu => by
    simp only [mcs, List.mem_cons] at hu
    rcases hu with rfl | rfl | rfl | hu
    · rfl
    · rfl
    · exact h _ (by simp)
    · exact mcs_one ms us (fun v hv => h v (by simp [hv])) u hu
theorem Mss.len {t : TypeId} {N : Nat → Prop} {w : World} {base : Nat} {v : Value} {ms : List Ms} (h : Mss t N w base v ms) : ∃ a c, v = .slice a ms.length c ∧ ms.length ≤ c := by
  obtain ⟨us, -, h2, -⟩ := h
  rcases h2.2 with ⟨rfl, hn⟩ | ⟨g, cap, cur, rfl, -, -, h3, -⟩
  · exact ⟨none, 0, by rw [hn], by omega⟩
  · exact ⟨_, _, rfl, h3⟩
theorem owns_one {w : World} {base n : Nat} {u : Value} {xs : List Value} (h : w.ownsRow base 5 1 u n xs) : u.oneCell' = true := by
  obtain ⟨a, c, rfl, -⟩ := Row.of_owns h
  rfl
theorem appM_run {w : World} {base b2 : Nat} (t T ty : TypeId) (bytes : Nat) (N : Nat → Prop) (ht : Try.prog.underlying T = some (.slice t)) (hi : (Try.prog.info? t).map (fun i => (i.zero, i.size, i.bytes)) = some (some (.agg #[.int .i64 0, .int .i64 0, .slice none 0 0]), 3, bytes)) (htt : 5 ≠ t)
    {v sv : Value} {A B : List Ms} (hA : Mss t N w base v A) (hB : Mss t N w b2 sv B) (hb : base ≤ b2) (hz : base ≤ w.heap.size) (hN : ¬ N w.heap.size) (h63 : A.length + B.length ≤ maxLen) (hby : (A.length + B.length) * bytes ≤ 140737488355328) :
    ∃ v' w', (Builtin.append_ #[T, T] ty #[v, sv]).run Try.prog w = .ok v' w' ∧ Mss t N w' base v' (A ++ B) ∧ w.grownBy w' v.ownBlock := by
  obtain ⟨i, hi, hzz, hsz, hbb⟩ := info_parts hi
  obtain ⟨ua, la, oa, fa, ra⟩ := hA
  obtain ⟨ub, lb, ob, fb, rb⟩ := hB
  have hone : ∀ u ∈ ub, u.oneCell' = true := fun u hu => by
    obtain ⟨j, hj, e⟩ := List.getElem_of_mem hu
    obtain ⟨u', e1, -, o⟩ := rb j B[j] (by simp)
    rw [List.getElem?_eq_getElem hj, e] at e1
    rw [Option.some.inj e1]; exact owns_one o
  rcases id ob.2 with ⟨rfl, hn⟩ | ⟨gB, cap, cur, rfl, hgb, hg, hle, hm, hs, htk⟩
  · have hB0 : B = [] := List.eq_nil_of_length_eq_zero hn
    subst hB0
    refine ⟨v, w, run_append_owned_none (P := Try.prog) (w := w) base T ty t i 3 ht hi v _ _ oa, ?_, World.grownBy.refl _ _⟩
    rw [List.append_nil]
    exact ⟨ua, la, oa, fa, ra⟩
  · have hl := mcs_len B ub lb
    obtain ⟨v', w', hr, r1, r2, -, r4⟩ := run_append_own_at (P := Try.prog) w base T ty t i _ 3 bytes ht hi hzz hsz hbb rfl (by decide) v A.length _ oa ⟨gB, 0, none⟩ B.length cap (mcs B ub) hl (fun j u hj => by
      have hadd : (⟨gB, 0, none⟩ : Addr).add j = ⟨gB, j, none⟩ := by unfold Addr.add; split <;> simp_all
      have hjl : j < B.length * 3 := by
        rcases Nat.lt_or_ge j (mcs B ub).length with h | h
        · omega
        · rw [List.getElem?_eq_none h] at hj; cases hj
      rw [hadd, ob.cellAt j hjl, hj]) (mcs_one B ub hone) h63 hby hz
    have keep : ∀ {b u n ys}, w.ownsRow b 5 1 u n ys → w'.ownsRow b 5 1 u n ys := fun h => h.kept r2 (owns_apart3 h oa htt)
    refine ⟨v', w', hr, ⟨ua ++ ub, by simp [la, lb], by rw [mcs_appL A ua B ub la, List.length_append]; exact r1, fun k hk => ?_, fun j m hj => ?_⟩, r2⟩
    · rcases r4 with h | h
      · exact fa k (h ▸ hk)
      · rw [h, Option.some.injEq] at hk
        subst hk; exact hN
    · by_cases hlt : j < A.length
      · rw [List.getElem?_append_left hlt] at hj
        obtain ⟨y, e, o, r⟩ := ra j m hj
        exact ⟨y, by rw [List.getElem?_append_left (by omega)]; exact e, o, keep r⟩
      · rw [List.getElem?_append_right (by omega)] at hj
        obtain ⟨y, e, o, r⟩ := rb _ m hj
        exact ⟨y, by rw [List.getElem?_append_right (by omega), la]; exact e, o, owns_from (keep r) hb⟩
theorem wpList_appM {w : World} {ops : Array Oper} {rest : List Oper} {o : Oper} {a : Act} {Q : Exit → Act → World → Prop} (hgd : o.guard = none) (s x : Operand) (T : TypeId)
    (ho : o.op = .call { callee := .builtin .append, args := #[s, x], argTypes := #[T, T] })
    {base b2 : Nat} (t : TypeId) (bytes : Nat) (N : Nat → Prop) (ht : Try.prog.underlying T = some (.slice t)) (hi : (Try.prog.info? t).map (fun i => (i.zero, i.size, i.bytes)) = some (some (.agg #[.int .i64 0, .int .i64 0, .slice none 0 0]), 3, bytes)) (htt : 5 ≠ t)
    {v sv : Value} {A B : List Ms} (hsv : a.eval s = v) (hxv : a.eval x = sv) (hA : Mss t N w base v A) (hB : Mss t N w b2 sv B) (hb : base ≤ b2) (hz : base ≤ w.heap.size) (hN : ¬ N w.heap.size) (h63 : A.length + B.length ≤ maxLen) (hby : (A.length + B.length) * bytes ≤ 140737488355328)
    (h : ∀ v' w', Mss t N w' base v' (A ++ B) → w.grownBy w' v.ownBlock → wpList Try.prog ops Q rest (a.put o.dst v') w') : wpList Try.prog ops Q (o :: rest) a w := by
  refine wpList_plain hgd fun K hK => ?_
  obtain ⟨v', w', hrun, r1, r2⟩ := appM_run t T o.type bytes N ht hi htt hA hB hb hz hN h63 hby
  unfold Oper.wp
  simp [execOp, ho, resolve, invoke, builtin, hsv, hxv, hrun, Result.andThen]
  exact hK _ _ (h v' w' r1 r2)

end Go.Proofs.Ytejcigeccmfeeaa
