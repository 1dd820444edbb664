/- Lists of messages in memory; more mathematics of streams. -/
import Derived.Test.YtejcigeccmfeeaaN2
namespace Go.Proofs.Ytejcigeccmfeeaa
open Go.RowKit

theorem smStep_le (s : Sm) (x : UInt8) : s.out.length ≤ (smStep s x).out.length ∧ (smStep s x).out.length ≤ s.out.length + 1 := by
  unfold smStep
  split
  · simp
  · split
    · simp
    · split <;> simp
theorem smRun_le : ∀ (b : List UInt8) (s : Sm), s.out.length ≤ (smRun s b).out.length ∧ (smRun s b).out.length ≤ s.out.length + b.length
  | [], s => by simp [smRun]
  | x :: b, s => by
    have h1 := smStep_le s x
    have h2 := smRun_le b (smStep s x)
    have e : smRun s (x :: b) = smRun (smStep s x) b := rfl
    rw [e]
    simp only [List.length_cons]
    omega
theorem OkW.sound {w : List UInt8} (h : OkW w) (h6 : 6 ≤ w.length) : soundB w = true := by
  cases hs : soundB w
  · have := h []
    rw [run_bad [] w h6 hs] at this
    simp at this
  · rfl
theorem OkW.len {w : List UInt8} (h : OkW w) : w.length < 260 := by
  by_cases h6 : 6 ≤ w.length
  · have hs := h.sound h6
    obtain ⟨-, b1, b2⟩ := sound_bounds hs
    by_cases h2 : (w.length : Int) < 6 + getN w 4
    · omega
    · obtain ⟨n, hn⟩ : ∃ n : Nat, getN w 4 = (n : Int) := ⟨(getN w 4).toNat, by omega⟩
      have := h []
      rw [run_msg [] w n hs hn (by omega)] at this
      have h3 := (smRun_le (w.drop (6 + n)) ⟨[], false, [] ++ [msgOf (w.take (6 + n))]⟩).1
      rw [this] at h3
      simp at h3
  · omega
theorem whole_len {w : List UInt8} {x : UInt8} (h : OkW w) (hb : badB (w ++ [x]) = false) (hw : wholeB (w ++ [x]) = true) : 8 ≤ (w ++ [x]).length ∧ (w ++ [x]).length ≤ 260 := by
  have hl := h.len
  have e : (w ++ [x]).length = w.length + 1 := by simp
  unfold wholeB at hw
  simp only [Bool.and_eq_true, decide_eq_true_eq] at hw
  obtain ⟨h1, h2⟩ := hw
  have h6 : 6 ≤ (w ++ [x]).length := by unfold getOk at h1; simp at h1; omega
  have hs : soundB (w ++ [x]) = true := by
    by_cases h5 : (w ++ [x]).length = 6
    · unfold badB at hb
      rw [h5] at hb
      simpa using hb
    · have := h.sound (by omega)
      rw [← this]
      have := pre_sound (w ++ [x]) w.length (by omega) (by omega)
      rw [← this]; simp
  obtain ⟨-, b1, b2⟩ := sound_bounds hs
  omega
theorem bad_six {w : List UInt8} (h : w.length = 6) : badB w = !soundB w := by simp [badB, h]
theorem bad_not {w : List UInt8} (h : w.length ≠ 6) : badB w = false := by simp [badB, h]

/-- the cells of messages -/
def mcs : List Ms → List Value → List Value
  | m :: ms, u :: us => .int .i64 m.id :: .int .i64 m.unit :: u :: mcs ms us
  | _, _ => []
theorem mcs_app : ∀ (ms : List Ms) (us : List Value) (m : Ms) (u : Value), us.length = ms.length → mcs (ms ++ [m]) (us ++ [u]) = mcs ms us ++ [.int .i64 m.id, .int .i64 m.unit, u]
  | [], [], _, _, _ => rfl
  | [], _ :: _, _, _, h => by simp at h
  | _ :: _, [], _, _, h => by simp at h
  | a :: ms, b :: us, m, u, h => by
    have := mcs_app ms us m u (by simpa using h)
    simp [mcs, this]
theorem mcs_len : ∀ (ms : List Ms) (us : List Value), us.length = ms.length → (mcs ms us).length = ms.length * 3
  | [], [], _ => rfl
  | [], _ :: _, h => by simp at h
  | _ :: _, [], h => by simp at h
  | a :: ms, b :: us, h => by
    have := mcs_len ms us (by simpa using h)
    simp [mcs, this]; omega
theorem mcs_get : ∀ (ms : List Ms) (us : List Value) (i : Nat) (m : Ms) (u : Value), ms[i]? = some m → us[i]? = some u → (mcs ms us)[3 * i]? = some (.int .i64 m.id) ∧ (mcs ms us)[3 * i + 1]? = some (.int .i64 m.unit) ∧ (mcs ms us)[3 * i + 2]? = some u
  | [], _, _, _, _, h, _ => by simp at h
  | _ :: _, [], _, _, _, _, h => by simp at h
  | a :: ms, b :: us, 0, m, u, h1, h2 => by
    simp at h1 h2
    subst h1 h2
    exact ⟨rfl, rfl, rfl⟩
  | a :: ms, b :: us, i + 1, m, u, h1, h2 => by
    have := mcs_get ms us i m u (by simpa using h1) (by simpa using h2)
    rw [show 3 * (i + 1) = 3 * i + 1 + 1 + 1 by omega]
    simpa [mcs] using this

/-- a list of messages (of type t) with all that they lead to, of one's own, in none of the blocks of N -/
def Mss (t : TypeId) (N : Nat → Prop) (w : World) (base : Nat) (v : Value) (ms : List Ms) : Prop :=
  ∃ us, us.length = ms.length ∧ w.ownsRow base t 3 v ms.length (mcs ms us) ∧ Off N v ∧
    ∀ (i : Nat) (m : Ms), ms[i]? = some m → ∃ u, us[i]? = some u ∧ Off N u ∧ w.ownsRow base 5 1 u m.pdu.length (m.pdu.map bV)
theorem owns_nil3 (w : World) (base : Nat) (t : TypeId) : w.ownsRow base t 3 (.slice none 0 0) 0 [] := ⟨rfl, .inl ⟨rfl, rfl⟩⟩
theorem Mss.nil (t : TypeId) (N : Nat → Prop) (w : World) (base : Nat) : Mss t N w base (.slice none 0 0) [] := ⟨[], rfl, owns_nil3 _ _ _, Off.nil _ _ _, fun i m h => by simp at h⟩
theorem Mss.kp {t : TypeId} {N F : Nat → Prop} {w w' : World} {base : Nat} {v : Value} {ms : List Ms} (h : Mss t N w base v ms) (k : Kp F w w') (hF : ∀ i, F i → N i) : Mss t N w' base v ms := by
  obtain ⟨us, h1, h2, h3, h4⟩ := h
  refine ⟨us, h1, owns_kp h2 k (h3.sub hF), h3, fun i m hm => ?_⟩
  obtain ⟨u, e, o, r⟩ := h4 i m hm
  exact ⟨u, e, o, owns_kp r k (o.sub hF)⟩
theorem Mss.ext {t : TypeId} {N : Nat → Prop} {w w' : World} {base : Nat} {v : Value} {ms : List Ms} (h : Mss t N w base v ms) (k : Below w.heap.size w w') : Mss t N w' base v ms := h.kp (F := fun _ => False) (Kp.of_below k) (fun _ h => h.elim)
/-- blocks that are new do no harm -/
theorem Mss.off {t : TypeId} {N N' : Nat → Prop} {w : World} {base : Nat} {v : Value} {ms : List Ms} (h : Mss t N w base v ms) (hN : ∀ i, i < w.heap.size → N' i → N i) : Mss t N' w base v ms := by
  obtain ⟨us, h1, h2, h3, h4⟩ := h
  refine ⟨us, h1, h2, fun k hk hn => h3 k hk (hN k (owns_lt h2 hk).2 hn), fun i m hm => ?_⟩
  obtain ⟨u, e, o, r⟩ := h4 i m hm
  exact ⟨u, e, fun k hk hn => o k hk (hN k (owns_lt r hk).2 hn), r⟩
theorem Mss.base {t : TypeId} {N : Nat → Prop} {w : World} {base base' : Nat} {v : Value} {ms : List Ms} (h : Mss t N w base v ms) (hb : base' ≤ base) : Mss t N w base' v ms := by
  obtain ⟨us, h1, h2, h3, h4⟩ := h
  refine ⟨us, h1, owns_from h2 hb, h3, fun i m hm => ?_⟩
  obtain ⟨u, e, o, r⟩ := h4 i m hm
  exact ⟨u, e, o, owns_from r hb⟩
theorem owns_apart3 {w : World} {base b2 e1 e2 s1 s2 : Nat} {v1 v2 : Value} {n1 n2 : Nat} {xs ys : List Value} (h1 : w.ownsRow base e1 s1 v1 n1 xs) (h2 : w.ownsRow b2 e2 s2 v2 n2 ys) (he : e1 ≠ e2) : v1.ownBlock = none ∨ v1.ownBlock ≠ v2.ownBlock := by
  rcases h1.2 with ⟨rfl, -⟩ | ⟨g, cap, cur, rfl, -, hg, -⟩
  · exact .inl rfl
  · right
    rcases h2.2 with ⟨rfl, -⟩ | ⟨g', cap', cur', rfl, -, hg', -⟩
    · simp [Value.ownBlock]
    · simp only [Value.ownBlock, ne_eq, Option.some.injEq]
      intro h
      rw [h, hg'] at hg
      simp at hg
      exact he hg.2.symm
theorem Mss.push {t : TypeId} {N : Nat → Prop} {w w' : World} {base n : Nat} {v v' u : Value} {ms : List Ms} {us : List Value} {m : Ms} (ht : 5 ≠ t) (hl : us.length = ms.length) (h2 : w.ownsRow base t 3 v ms.length (mcs ms us)) (_h3 : Off N v)
    (h4 : ∀ (i : Nat) (m : Ms), ms[i]? = some m → ∃ u, us[i]? = some u ∧ Off N u ∧ w.ownsRow base 5 1 u m.pdu.length (m.pdu.map bV))
    (hu : w.ownsRow base 5 1 u m.pdu.length (m.pdu.map bV)) (hN : Off N u) (ho : w'.ownsRow base t 3 v' n (mcs ms us ++ [.int .i64 m.id, .int .i64 m.unit, u])) (hn : n = ms.length + 1) (hg : w.grownBy w' v.ownBlock) (hv' : Off N v') : Mss t N w' base v' (ms ++ [m]) := by
  subst hn
  have keep : ∀ {u n ys}, w.ownsRow base 5 1 u n ys → w'.ownsRow base 5 1 u n ys := fun h => h.kept hg (owns_apart3 h h2 ht)
  refine ⟨us ++ [u], by simp [hl], by rw [mcs_app ms us m u hl]; simpa using ho, hv', fun i m' hm => ?_⟩
  by_cases hlt : i < ms.length
  · rw [List.getElem?_append_left hlt] at hm
    obtain ⟨y, e, o, r⟩ := h4 i m' hm
    exact ⟨y, by rw [List.getElem?_append_left (by omega)]; exact e, o, keep r⟩
  · have hi : i = ms.length := by
      rcases Nat.lt_or_ge i (ms ++ [m]).length with h | h
      · simp at h; omega
      · rw [List.getElem?_eq_none h] at hm; cases hm
    subst hi
    simp at hm
    subst hm
    exact ⟨u, by rw [← hl]; simp, hN, keep hu⟩
theorem info_msg : (Try.prog.info? 30).map (fun i => (i.zero, i.size, i.bytes)) = some (some (.agg #[.int .i64 0, .int .i64 0, .slice none 0 0]), 3, 40) := by kernel_rfl
theorem info_rmsg : (Try.prog.info? 33).map (fun i => (i.zero, i.size, i.bytes)) = some (some (.agg #[.int .i64 0, .int .i64 0, .slice none 0 0]), 3, 40) := by kernel_rfl

end Go.Proofs.Ytejcigeccmfeeaa
