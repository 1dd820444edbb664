/- A phase of a region that draws its order: operations whose order is open, each with what it hands on: calls and new blocks in whatever order. What follows waits for all of them. Over any program. -/
import Derived.Test.YtffjhimdamdenaaK4
namespace Go.Proofs.Ytffjhimdamdenaa
open Go.RowKit

def dstOf (ops : Array Oper) (i : Nat) : Option Tmp := (ops[i]?).bind (·.dst)
def putsL (ops : Array Oper) (vs : Nat → Value) : List Nat → Act → Act
  | [], a => a
  | i :: r, a => putsL ops vs r (a.put (dstOf ops i) (vs i))

/-- the operations of M may be carried out as a phase -/
def phaseOk (ops : Array Oper) (M : List Nat) (listed : Array Bool) : Bool :=
  M.all (fun i => match ops[i]? with
    | some o => o.guard.isNone && (listed.getD i true == false) && o.after.all (fun e => !Region.binds .any e || listed.getD e.on false || (M.contains e.on && decide (e.on < i))) &&
        M.all (fun j => j == i || (((dstOf ops j).all fun d => dstOf ops i != some d) && (waitsFor ops i j || (dstOf ops j).all fun d => !(o.looksAt ops).contains d)))
    | none => false) &&
  (List.range ops.size).all (fun k => listed.getD k true || M.contains k || M.all (fun m => waitsFor ops k m) || (List.range ops.size).any (fun j => waitsFor ops k j && (listed.getD j true == false) && !M.contains j)) && Region.noSelect ops && !M.isEmpty

section
variable {P : Program} {ops : Array Oper} {Q : Exit → Act → World → Prop}

theorem put_size (a : Act) (d : Option Tmp) (v : Value) : (a.put d v).tmps.size = a.tmps.size := by cases d <;> simp [Act.put]
theorem puts_size (vs : Nat → Value) : ∀ (L : List Nat) (a : Act), (putsL ops vs L a).tmps.size = a.tmps.size
  | [], _ => rfl
  | i :: r, a => by rw [putsL, puts_size vs r, put_size]
theorem puts_put (vs : Nat → Value) (d : Option Tmp) (v : Value) : ∀ (L : List Nat) (a : Act), (∀ j ∈ L, ∀ t, d = some t → dstOf ops j ≠ some t) → putsL ops vs L (a.put d v) = (putsL ops vs L a).put d v
  | [], _, _ => rfl
  | j :: r, a, h => by
    rw [putsL, putsL, ← puts_put vs d v r _ (fun k hk => h k (by simp [hk]))]
    rw [Act.put_comm a v (vs j) (fun t ht => h j (by simp) t ht)]
theorem puts_congr (vs vs' : Nat → Value) : ∀ (L : List Nat) (a : Act), (∀ j ∈ L, vs j = vs' j) → putsL ops vs L a = putsL ops vs' L a
  | [], _, _ => rfl
  | j :: r, a, h => by rw [putsL, putsL, h j (by simp), puts_congr vs vs' r _ (fun k hk => h k (by simp [hk]))]

theorem exec_puts (vs : Nat → Value) (o : Oper) (hs : ∀ cs b, o.op ≠ .select cs b) (p : Nat → Bool) : ∀ (L : List Nat) (a : Act), L.Nodup → (∀ j ∈ L, ∀ k ∈ L, j ≠ k → ∀ t, dstOf ops j = some t → dstOf ops k ≠ some t) → (∀ j ∈ L, p j = false → ∀ t, dstOf ops j = some t → t ∉ o.looksAt ops) →
    execOp (putsL ops vs L a).eval o = execOp (putsL ops vs (L.filter p) a).eval o
  | [], _, _, _, _ => rfl
  | j :: r, a, hn, hd, hl => by
    obtain ⟨hj, hr⟩ := List.nodup_cons.1 hn
    have ih := fun a => exec_puts vs o hs p r a hr (fun x hx y hy => hd x (by simp [hx]) y (by simp [hy])) (fun x hx => hl x (by simp [hx]))
    cases hp : p j
    · rw [List.filter_cons_of_neg (by simp [hp]), putsL, ih]
      rw [puts_put vs _ _ _ a (fun k hk t ht => hd j (by simp) k (by simp [(List.mem_filter.1 hk).1]) (fun e => hj (e ▸ (List.mem_filter.1 hk).1)) t ht)]
      exact execOp_put o hs _ _ _ (hl j (by simp) hp)
    · rw [List.filter_cons_of_pos hp, putsL, putsL, ih]

theorem put_inj {a b : Act} {d : Option Tmp} {u v : Value} (h : a.put d u = a.put d v) (hs : b.tmps.size = a.tmps.size) : b.put d u = b.put d v := by
  cases d with
  | none => rfl
  | some d =>
    simp only [Act.put, Act.mk.injEq, and_true] at h ⊢
    by_cases hd : d < a.tmps.size
    · have := congrArg (fun x => x[d]?) h
      simp [hd] at this
      rw [this]
    · rw [Array.setIfInBounds_eq_of_size_le (hs ▸ Nat.le_of_not_lt hd), Array.setIfInBounds_eq_of_size_le (hs ▸ Nat.le_of_not_lt hd)]

/-- what an operation hands on, seen from a state that differs in what it does not look at -/
theorem wp_swap {o : Oper} {a b : Act} {w : World} {R : Value → World → Prop} (he : execOp b.eval o = execOp a.eval o) (hs : b.tmps.size = a.tmps.size) (h : o.wp P a w (fun x w' => ∃ v, x = a.put o.dst v ∧ R v w') (fun _ _ _ => False)) :
    o.wp P b w (fun x w' => ∃ v, x = b.put o.dst v ∧ R v w') Q := by
  unfold Oper.wp at *
  rw [he]
  generalize (execOp a.eval o).run P w = r at *
  cases r with
  | ok n w' =>
    cases n <;> simp only [Oper.upon] at h ⊢
    case value u => obtain ⟨v, e, hr⟩ := h; exact ⟨v, put_inj e hs, hr⟩
    case skip => obtain ⟨v, e, hr⟩ := h; exact ⟨v, put_inj e hs, hr⟩
    case defer d =>
      obtain ⟨v, e, -⟩ := h
      have := congrArg Act.defers e
      cases hd : o.dst <;> simp [Act.put, hd] at this
    case enter f args =>
      refine Calls.mono h fun e w'' he => ?_
      cases e with
      | returned u => obtain ⟨v, e, hr⟩ := he; exact ⟨v, put_inj e hs, hr⟩
      | panicked c => exact he.elim
      | outgrown => obtain ⟨_, _, he⟩ := he; exact he.elim
    case row row args => exact Rows.mono h fun u w'' he => by obtain ⟨v, e, hr⟩ := he; exact ⟨v, put_inj e hs, hr⟩
  | halt x w' => cases x <;> simp only [Oper.upon] at h ⊢

theorem filter_insert (M : List Nat) (hM : M.Nodup) (D : Nat → Bool) (i : Nat) (hi : i ∈ M) (hD : D i = false) (vs : Nat → Value) (a : Act) (hd : ∀ j ∈ M, ∀ k ∈ M, j ≠ k → ∀ t, dstOf ops j = some t → dstOf ops k ≠ some t) :
    putsL ops vs (M.filter fun k => D k || k == i) a = (putsL ops vs (M.filter D) a).put (dstOf ops i) (vs i) := by
  induction M generalizing a with
  | nil => cases hi
  | cons j r ih =>
    obtain ⟨hj, hr⟩ := List.nodup_cons.1 hM
    by_cases hji : j = i
    · subst hji
      rw [List.filter_cons_of_pos (by simp), List.filter_cons_of_neg (by simp [hD]), putsL]
      have e : (r.filter fun k => D k || k == j) = r.filter D := List.filter_congr (fun k hk => by
        have : k ≠ j := fun e => hj (e ▸ hk)
        simp [this])
      rw [e]
      exact puts_put vs _ _ _ a (fun k hk t ht => hd j (by simp) k (by simp [(List.mem_filter.1 hk).1]) (fun e => hj (e ▸ (List.mem_filter.1 hk).1)) t ht)
    · have hir : i ∈ r := by simpa [Ne.symm hji] using hi
      have ih' := fun a => ih hr hir a (fun x hx y hy => hd x (by simp [hx]) y (by simp [hy]))
      cases hDj : D j
      · rw [List.filter_cons_of_neg (by simp [hDj, hji]), List.filter_cons_of_neg (by simp [hDj]), ih']
      · rw [List.filter_cons_of_pos (by simp [hDj]), List.filter_cons_of_pos hDj, putsL, putsL, ih']

def setAll (listed : Array Bool) (L : List Nat) : Array Bool := L.foldl (fun l i => l.setIfInBounds i true) listed
theorem setAll_size : ∀ (L : List Nat) (l : Array Bool), (setAll l L).size = l.size
  | [], _ => rfl
  | i :: r, l => by unfold setAll; rw [List.foldl_cons]; exact (setAll_size r _).trans (by simp)
theorem setAll_set : ∀ (L : List Nat) (l : Array Bool) (i : Nat), setAll (l.setIfInBounds i true) L = (setAll l L).setIfInBounds i true
  | [], _, _ => rfl
  | j :: r, l, i => by
    unfold setAll
    rw [List.foldl_cons, List.foldl_cons]
    have h := setAll_set r (l.setIfInBounds j true) i
    unfold setAll at h
    rw [← h]
    by_cases hij : i = j
    · subst hij; rfl
    · rw [Array.setIfInBounds_comm _ _ hij]
theorem setAll_ne : ∀ (L : List Nat) (l : Array Bool) (k : Nat) (d : Bool), k ∉ L → (setAll l L).getD k d = l.getD k d
  | [], _, _, _, _ => rfl
  | j :: r, l, k, d, h => by
    have h1 : j ≠ k := fun e => h (by simp [e])
    have := setAll_ne r (l.setIfInBounds j true) k d (fun hk => h (by simp [hk]))
    rw [getD_set_ne d h1] at this
    exact this
theorem setAll_mem : ∀ (L : List Nat) (l : Array Bool) (k : Nat) (d : Bool), k ∈ L → k < l.size → (setAll l L).getD k d = true
  | j :: r, l, k, d, h, hk => by
    by_cases hr : k ∈ r
    · exact setAll_mem r (l.setIfInBounds j true) k d hr (by simpa using hk)
    · have hj : j = k := by rcases List.mem_cons.1 h with h | h; exact h.symm; exact absurd h hr
      subst hj
      refine (setAll_ne r (l.setIfInBounds j true) j d hr).trans ?_
      simp [hk]
theorem setAll_insert (M : List Nat) (hM : M.Nodup) (D : Nat → Bool) (i : Nat) (hi : i ∈ M) (hD : D i = false) (l : Array Bool) : setAll l (M.filter fun k => D k || k == i) = (setAll l (M.filter D)).setIfInBounds i true := by
  induction M generalizing l with
  | nil => cases hi
  | cons j r ih =>
    obtain ⟨hj, hr⟩ := List.nodup_cons.1 hM
    by_cases hji : j = i
    · subst hji
      rw [List.filter_cons_of_pos (by simp), List.filter_cons_of_neg (by simp [hD])]
      have e : (r.filter fun k => D k || k == j) = r.filter D := List.filter_congr (fun k hk => by
        have : k ≠ j := fun e => hj (e ▸ hk)
        simp [this])
      rw [e]
      exact setAll_set _ _ _
    · have hir : i ∈ r := by simpa [Ne.symm hji] using hi
      have ih' := fun l => ih hr hir l
      cases hDj : D j
      · rw [List.filter_cons_of_neg (by simp [hDj, hji]), List.filter_cons_of_neg (by simp [hDj]), ih']
      · rw [List.filter_cons_of_pos (by simp [hDj]), List.filter_cons_of_pos hDj]
        exact ih' _

theorem phaseT {M : List Nat} {listed : Array Bool} {C : List Cond} {a : Act} {w : World} {n : Nat} (Tr : World → World → Prop) (hrf : ∀ w, Tr w w) (htr : ∀ a b c, Tr a b → Tr b c → Tr a c) (Ps : Nat → Value → World → Prop) (Rel : Value → Value → Prop) (hsym : ∀ u v, Rel u v → Rel v u)
    (hok : phaseOk ops M listed = true) (hnd : M.Nodup) (hmono : ∀ i v w w', Ps i v w → Tr w w' → Ps i v w') (hC : ∀ w', Tr w w' → allC C w')
    (hops : ∀ i ∈ M, ∀ (vs : Nat → Value) (w' : World), Tr w w' → (∀ j ∈ M, waitsFor ops i j = true → Ps j (vs j) w') → ∃ o, ops[i]? = some o ∧
      o.wp P (putsL ops vs (M.filter (waitsFor ops i)) a) w' (fun x w'' => ∃ v, x = (putsL ops vs (M.filter (waitsFor ops i)) a).put o.dst v ∧ Tr w' w'' ∧ Ps i v w'' ∧ ∀ j ∈ M, j ≠ i → ∀ u, Ps j u w' → Rel v u) (fun _ _ _ => False))
    (hend : ∀ (vs : Nat → Value) (w' : World), Tr w w' → (∀ i ∈ M, Ps i (vs i) w') → (∀ i ∈ M, ∀ j ∈ M, i ≠ j → Rel (vs i) (vs j)) → wpC P ops Q n (setAll listed M) C (putsL ops vs M a) w') :
    wpC P ops Q (n + M.length) listed C a w := by
  simp only [phaseOk, Bool.and_eq_true, List.all_eq_true] at hok
  obtain ⟨⟨⟨hM, hrest⟩, hsel⟩, -⟩ := hok
  have hsel' := Region.noSelect_spec hsel
  have hdst : ∀ j ∈ M, ∀ k ∈ M, j ≠ k → ∀ t, dstOf ops j = some t → dstOf ops k ≠ some t := by
    intro j hj k hk hjk t ht
    have h1 := hM k hk
    cases ho : ops[k]? with
    | none => simp [ho] at h1
    | some o =>
      simp only [ho, Bool.and_eq_true, List.all_eq_true] at h1
      have h2 := h1.2 j hj
      simp only [beq_eq_false_iff_ne.2 hjk, Bool.false_or, Bool.and_eq_true, ht, Option.all_some, bne_iff_ne] at h2
      exact h2.1
  have hun : ∀ k ∈ M, listed.getD k true = false := by
    intro k hk
    have h1 := hM k hk
    cases ho : ops[k]? with
    | none => simp [ho] at h1
    | some o => simp only [ho, Bool.and_eq_true, beq_iff_eq] at h1; exact h1.1.1.2
  have hlt : ∀ k ∈ M, k < listed.size := by
    intro k hk
    rcases Nat.lt_or_ge k listed.size with h | h
    · exact h
    · have := hun k hk; simp [h] at this
  have hunf : ∀ k ∈ M, listed.getD k false = false := by
    intro k hk
    have h1 := hun k hk
    have h2 := hlt k hk
    simp [h2] at h1 ⊢
    exact h1
  have key : ∀ (m : Nat) (D : Nat → Bool) (vs : Nat → Value) (w' : World), (M.filter fun k => !D k).length = m → Tr w w' → (∀ j ∈ M, D j = true → Ps j (vs j) w') → (∀ i ∈ M, ∀ j ∈ M, i ≠ j → D i = true → D j = true → Rel (vs i) (vs j)) →
      wpC P ops Q (n + m) (setAll listed (M.filter D)) C (putsL ops vs (M.filter D) a) w' := by
    intro m
    induction m with
    | zero =>
      intro D vs w' hm hx hP hR
      have hall : ∀ k ∈ M, D k = true := by
        intro k hk
        cases hD : D k
        · have : k ∈ M.filter fun k => !D k := List.mem_filter.2 ⟨hk, by simp [hD]⟩
          rw [List.eq_nil_of_length_eq_zero hm] at this
          cases this
        · rfl
      have e : M.filter D = M := List.filter_eq_self.2 hall
      rw [e]
      exact hend vs w' hx (fun i hi => hP i hi (hall i hi)) (fun i hi j hj hij => hR i hi j hj hij (hall i hi) (hall j hj))
    | succ m ih =>
      intro D vs w' hm hx hP hR
      -- who is ready
      have hready : ∀ i, i ∈ Region.ready .any ops (setAll listed (M.filter D)) → i ∈ M ∧ D i = false ∧ ∀ j ∈ M, waitsFor ops i j = true → D j = true := by
        intro i hi
        obtain ⟨h1, o, ho, h2⟩ := mem_ready.1 hi
        have hw : ∀ j ∈ M, waitsFor ops i j = true → D j = true := by
          intro j hj hwt
          cases hD : D j
          · unfold waitsFor at hwt
            rw [ho] at hwt
            simp only at hwt
            obtain ⟨x, hx1, hx2⟩ := Array.any_eq_true.1 hwt
            simp only [Bool.and_eq_true, beq_iff_eq] at hx2
            have h3 := h2 _ (Array.getElem_mem hx1) hx2.1
            rw [hx2.2, setAll_ne _ _ _ _ (fun h => by have := (List.mem_filter.1 h).2; rw [hD] at this; cases this), hunf j hj] at h3
            cases h3
          · rfl
        have hiM : i ∈ M := by
          have hsz : i < ops.size := (Array.getElem?_eq_some_iff.1 ho).1
          have h3 := hrest i (by simpa using hsz)
          simp only [Bool.or_eq_true, List.contains_iff_mem, List.all_eq_true] at h3
          rcases h3 with ((h3 | h3) | h3) | h3
          · exfalso
            by_cases hk : i ∈ M.filter D
            · rw [hun i (List.mem_filter.1 hk).1] at h3; cases h3
            · rw [setAll_ne _ _ _ _ hk, h3] at h1; cases h1
          · exact h3
          · exfalso
            have : (M.filter fun k => !D k) ≠ [] := fun h => by rw [h] at hm; cases hm
            obtain ⟨k, hk⟩ := List.exists_mem_of_ne_nil _ this
            obtain ⟨hk1, hk2⟩ := List.mem_filter.1 hk
            have := hw k hk1 (h3 k hk1)
            simp [this] at hk2
          · exfalso
            obtain ⟨j, -, hj⟩ := List.any_eq_true.1 h3
            simp only [Bool.and_eq_true, beq_iff_eq, Bool.not_eq_true', List.contains_eq_mem, decide_eq_false_iff_not] at hj
            obtain ⟨⟨hj1, hj2⟩, hj3⟩ := hj
            unfold waitsFor at hj1
            rw [ho] at hj1
            simp only at hj1
            obtain ⟨x, hx1, hx2⟩ := Array.any_eq_true.1 hj1
            simp only [Bool.and_eq_true, beq_iff_eq] at hx2
            have h4 := h2 _ (Array.getElem_mem hx1) hx2.1
            rw [hx2.2, setAll_ne _ _ _ _ (fun h => hj3 (List.mem_filter.1 h).1)] at h4
            rcases Nat.lt_or_ge j listed.size with h | h
            · simp [h] at hj2 h4; rw [hj2] at h4; cases h4
            · simp [h] at hj2
        refine ⟨hiM, ?_, hw⟩
        cases hD : D i
        · rfl
        · rw [setAll_mem _ _ _ _ (List.mem_filter.2 ⟨hiM, hD⟩) (hlt i hiM)] at h1; cases h1
      rw [show n + (m + 1) = (n + m) + 1 from rfl]
      refine ⟨fun h0 => ?_, fun i hi => ?_⟩
      · -- somebody is
        exfalso
        have hne : (M.filter fun k => !D k) ≠ [] := fun h => by rw [h] at hm; cases hm
        obtain ⟨k, hk, hmin⟩ : ∃ k ∈ (M.filter fun k => !D k), ∀ j ∈ (M.filter fun k => !D k), k ≤ j := by
          have : ∀ (L : List Nat), L ≠ [] → ∃ k ∈ L, ∀ j ∈ L, k ≤ j := by
            intro L
            induction L with
            | nil => intro h; exact absurd rfl h
            | cons x r ih =>
              intro _
              by_cases hr : r = []
              · subst hr; exact ⟨x, by simp, by simp⟩
              · obtain ⟨k, hk, hm⟩ := ih hr
                by_cases hxk : x ≤ k
                · exact ⟨x, by simp, fun j hj => by rcases List.mem_cons.1 hj with rfl | hj; exact Nat.le_refl _; exact Nat.le_trans hxk (hm j hj)⟩
                · exact ⟨k, by simp [hk], fun j hj => by rcases List.mem_cons.1 hj with rfl | hj; omega; exact hm j hj⟩
          exact this _ hne
        obtain ⟨hkM, hkD⟩ := List.mem_filter.1 hk
        have hkD' : D k = false := by simpa using hkD
        have h1 := hM k hkM
        cases ho : ops[k]? with
        | none => simp [ho] at h1
        | some o =>
          simp only [ho, Bool.and_eq_true] at h1
          have h2 := h1.1.2
          have : k ∈ Region.ready .any ops (setAll listed (M.filter D)) := by
            refine mem_ready.2 ⟨by rw [setAll_ne _ _ _ _ (fun h => by have := (List.mem_filter.1 h).2; rw [hkD'] at this; cases this)]; exact hun k hkM, o, ho, fun e he hb => ?_⟩
            have h3 : (!Region.binds .any e || listed.getD e.on false || (M.contains e.on && decide (e.on < k))) = true := by
              obtain ⟨x, hx1, rfl⟩ := Array.mem_iff_getElem.1 he
              exact (Array.all_eq_true.1 h2) x hx1
            simp only [hb, Bool.not_true, Bool.false_or, Bool.or_eq_true, Bool.and_eq_true, List.contains_iff_mem, decide_eq_true_eq] at h3
            rcases h3 with h3 | ⟨h3, h4⟩
            · by_cases hk : e.on ∈ M.filter D
              · exact setAll_mem _ _ _ _ hk (hlt _ (List.mem_filter.1 hk).1)
              · rw [setAll_ne _ _ _ _ hk]; exact h3
            · have hD : D e.on = true := by
                cases hD : D e.on
                · have := hmin e.on (List.mem_filter.2 ⟨h3, by simp [hD]⟩); omega
                · rfl
              exact setAll_mem _ _ _ _ (List.mem_filter.2 ⟨h3, hD⟩) (hlt _ h3)
          rw [h0] at this
          cases this
      · obtain ⟨hiM, hiD, hw⟩ := hready i hi
        obtain ⟨o, ho, hwp⟩ := hops i hiM vs w' hx (fun j hj hwt => hP j hj (hw j hj hwt))
        have h1 := hM i hiM
        simp only [ho, Bool.and_eq_true, List.all_eq_true] at h1
        have hgd : o.guard = none := by have := h1.1.1.1; cases hg : o.guard <;> simp_all
        have hfil : (M.filter D).filter (waitsFor ops i) = M.filter (waitsFor ops i) := by
          rw [List.filter_filter]
          exact List.filter_congr (fun j hj => by
            cases hwt : waitsFor ops i j
            · simp
            · simp [hw j hj hwt])
        have he : execOp (putsL ops vs (M.filter D) a).eval o = execOp (putsL ops vs (M.filter (waitsFor ops i)) a).eval o := by
          rw [← hfil]
          refine exec_puts vs o (fun cs b => hsel' i o cs b ho) (waitsFor ops i) (M.filter D) a (hnd.filter _) (fun j hj k hk => hdst j (List.mem_filter.1 hj).1 k (List.mem_filter.1 hk).1) ?_
          intro j hj hwf t ht
          obtain ⟨hjM, hjD⟩ := List.mem_filter.1 hj
          have hji : j ≠ i := fun e => by rw [e, hiD] at hjD; cases hjD
          have h2 := h1.2 j hjM
          simp only [beq_eq_false_iff_ne.2 hji, Bool.false_or, Bool.and_eq_true, hwf, ht, Option.all_some, Bool.not_eq_true', List.contains_eq_mem, decide_eq_false_iff_not] at h2
          exact h2.2
        have hs : (putsL ops vs (M.filter D) a).tmps.size = (putsL ops vs (M.filter (waitsFor ops i)) a).tmps.size := by rw [puts_size, puts_size]
        unfold wpOp
        have hwant : Region.wanted o (yielded ops (putsL ops vs (M.filter D) a).tmps) = true := by simp [Region.wanted, hgd]
        simp only [ho, hwant, if_true]
        refine .inl (Oper.wp_mono ?_ (wp_swap (Q := Q) he hs hwp))
        rintro x w'' ⟨v, rfl, hx2, hPi, hRi⟩
        have hx3 := htr _ _ _ hx hx2
        refine ⟨allC_sub List.filter_sublist (hC w'' hx3), wpC_sub _ _ _ _ _ _ List.filter_sublist ?_⟩
        have hlen : (M.filter fun k => !(D k || k == i)).length = m := by
          have e1 : (M.filter fun k => !(D k || k == i)) = (M.filter fun k => !D k).filter (fun k => k != i) := by
            rw [List.filter_filter]; exact List.filter_congr (fun k _ => by cases D k <;> simp [bne])
          have hmem : i ∈ M.filter fun k => !D k := List.mem_filter.2 ⟨hiM, by simp [hiD]⟩
          rw [e1, ← List.Nodup.erase_eq_filter (hnd.filter _) i, List.length_erase_of_mem hmem, hm]
          rfl
        have h3 := ih (fun k => D k || k == i) (fun k => if k = i then v else vs k) w'' hlen hx3 (fun j hj hD => by
          by_cases hji : j = i
          · subst hji; simpa using hPi
          · have hDj : D j = true := by simpa [hji] using hD
            have := hmono j _ _ _ (hP j hj hDj) hx2
            simpa [hji] using this) (fun x hx4 y hy hxy hDx hDy => by
          by_cases hxi : x = i
          · subst hxi
            have hyx : y ≠ x := fun e => hxy e.symm
            have hDy' : D y = true := by simpa [hyx] using hDy
            simpa [hyx] using hRi y hy hyx _ (hP y hy hDy')
          · have hDx' : D x = true := by simpa [hxi] using hDx
            by_cases hyi : y = i
            · subst hyi
              simpa [hxi] using hsym _ _ (hRi x hx4 hxi _ (hP x hx4 hDx'))
            · have hDy' : D y = true := by simpa [hyi] using hDy
              simpa [hxi, hyi] using hR x hx4 y hy hxy hDx' hDy')
        rw [setAll_insert M hnd D i hiM hiD, filter_insert M hnd D i hiM hiD _ a hdst] at h3
        have e2 : putsL ops (fun k => if k = i then v else vs k) (M.filter D) a = putsL ops vs (M.filter D) a := puts_congr _ _ _ _ (fun j hj => by
          have hji : j ≠ i := fun e => by have := (List.mem_filter.1 hj).2; rw [e, hiD] at this; cases this
          simp [hji])
        rw [e2] at h3
        have e3 : dstOf ops i = o.dst := by simp [dstOf, ho]
        simp only [if_true, e3] at h3
        exact h3
  have h0 := key (M.filter fun k => !(fun _ => false) k).length (fun _ => false) (fun _ => undef) w rfl (hrf w) (fun _ _ h => by cases h) (fun _ _ _ _ _ h => by cases h)
  have e0 : (M.filter fun _ : Nat => false) = [] := List.filter_eq_nil_iff.2 (by simp)
  have e1 : (M.filter fun k => !(fun _ : Nat => false) k) = M := List.filter_eq_self.2 (by simp)
  rw [e0, e1] at h0
  exact h0

/-- the same with the temporaries named -/
def putsD (vs : Nat → Value) : List (Option Nat × Nat) → Act → Act
  | [], a => a
  | p :: r, a => putsD vs r (a.put p.1 (vs p.2))
theorem putsD_eq (vs : Nat → Value) : ∀ (L : List Nat) (D : List (Option Nat × Nat)) (a : Act), L.map (fun i => (dstOf ops i, i)) = D → putsL ops vs L a = putsD vs D a
  | [], _, _, h => by subst h; rfl
  | i :: r, _, a, h => by subst h; exact putsD_eq vs r _ _ rfl

theorem phase_opT {M : List Nat} {Tr : World → World → Prop} {a : Act} {w' : World} {vs : Nat → Value} {Ps : Nat → Value → World → Prop} {Rel : Value → Value → Prop} {dst : Option Tmp} {op : Op} {ty : TypeId} {pos : String} {after : Array Edge} {guard : Option (Nat × Bool)}
    (i : Nat) (D : List (Option Nat × Nat)) (hD : (M.filter (waitsFor ops i)).map (fun i => (dstOf ops i, i)) = D) (hi : ops[i]? = some ⟨dst, op, ty, pos, after, guard⟩)
    (h : ∀ K : Act → World → Prop, Hid (∀ v w'', Tr w' w'' → Ps i v w'' → (∀ j ∈ M, j ≠ i → ∀ u, Ps j u w' → Rel v u) → K ((putsD vs D a).put dst v) w'') → Oper.wp P ⟨dst, op, ty, pos, after, guard⟩ (putsD vs D a) w' K (fun _ _ _ => False)) :
    ∃ o, ops[i]? = some o ∧ o.wp P (putsL ops vs (M.filter (waitsFor ops i)) a) w' (fun x w'' => ∃ v, x = (putsL ops vs (M.filter (waitsFor ops i)) a).put o.dst v ∧ Tr w' w'' ∧ Ps i v w'' ∧ ∀ j ∈ M, j ≠ i → ∀ u, Ps j u w' → Rel v u) (fun _ _ _ => False) := by
  refine ⟨_, hi, ?_⟩
  rw [putsD_eq vs _ D a hD]
  exact h _ (fun v w'' h1 h2 h3 => ⟨v, rfl, h1, h2, h3⟩)

theorem c_phaseT {listed : Array Bool} {C : List Cond} {a : Act} {w : World} {n : Nat} (M : List Nat) (D : List (Option Nat × Nat)) (Tr : World → World → Prop) (hrf : ∀ w, Tr w w) (htr : ∀ a b c, Tr a b → Tr b c → Tr a c) (Ps : Nat → Value → World → Prop) (Rel : Value → Value → Prop) (hsym : ∀ u v, Rel u v → Rel v u)
    (hok : (phaseOk ops M listed && decide M.Nodup) = true) (hD : M.map (fun i => (dstOf ops i, i)) = D) (hmono : ∀ i v w w', Ps i v w → Tr w w' → Ps i v w') (hC : ∀ w', Tr w w' → allC C w')
    (hops : ∀ i ∈ M, ∀ (vs : Nat → Value) (w' : World), Tr w w' → (∀ j ∈ M, waitsFor ops i j = true → Ps j (vs j) w') → ∃ o, ops[i]? = some o ∧
      o.wp P (putsL ops vs (M.filter (waitsFor ops i)) a) w' (fun x w'' => ∃ v, x = (putsL ops vs (M.filter (waitsFor ops i)) a).put o.dst v ∧ Tr w' w'' ∧ Ps i v w'' ∧ ∀ j ∈ M, j ≠ i → ∀ u, Ps j u w' → Rel v u) (fun _ _ _ => False))
    (hend : ∀ (vs : Nat → Value) (w' : World), Tr w w' → (∀ i ∈ M, Ps i (vs i) w') → (∀ i ∈ M, ∀ j ∈ M, i ≠ j → Rel (vs i) (vs j)) → wpC P ops Q n (setAll listed M) C (putsD vs D a) w') :
    wpC P ops Q (n + M.length) listed C a w := by
  simp only [Bool.and_eq_true, decide_eq_true_eq] at hok
  exact phaseT Tr hrf htr Ps Rel hsym hok.1 hok.2 hmono hC hops (fun vs w' h1 h2 h3 => by rw [putsD_eq vs M D a hD]; exact hend vs w' h1 h2 h3)

theorem phase_op {M : List Nat} {a : Act} {w' : World} {vs : Nat → Value} {Ps : Nat → Value → World → Prop} {Rel : Value → Value → Prop} {dst : Option Tmp} {op : Op} {ty : TypeId} {pos : String} {after : Array Edge} {guard : Option (Nat × Bool)}
    (i : Nat) (D : List (Option Nat × Nat)) (hD : (M.filter (waitsFor ops i)).map (fun i => (dstOf ops i, i)) = D) (hi : ops[i]? = some ⟨dst, op, ty, pos, after, guard⟩)
    (h : ∀ K : Act → World → Prop, Hid (∀ v w'', Ext w' w'' → Ps i v w'' → (∀ j ∈ M, j ≠ i → ∀ u, Ps j u w' → Rel v u) → K ((putsD vs D a).put dst v) w'') → Oper.wp P ⟨dst, op, ty, pos, after, guard⟩ (putsD vs D a) w' K (fun _ _ _ => False)) :
    ∃ o, ops[i]? = some o ∧ o.wp P (putsL ops vs (M.filter (waitsFor ops i)) a) w' (fun x w'' => ∃ v, x = (putsL ops vs (M.filter (waitsFor ops i)) a).put o.dst v ∧ Ext w' w'' ∧ Ps i v w'' ∧ ∀ j ∈ M, j ≠ i → ∀ u, Ps j u w' → Rel v u) (fun _ _ _ => False) := phase_opT i D hD hi h

theorem c_phase {listed : Array Bool} {C : List Cond} {a : Act} {w : World} {n : Nat} (M : List Nat) (D : List (Option Nat × Nat)) (Ps : Nat → Value → World → Prop) (Rel : Value → Value → Prop) (hsym : ∀ u v, Rel u v → Rel v u)
    (hok : (phaseOk ops M listed && decide M.Nodup) = true) (hD : M.map (fun i => (dstOf ops i, i)) = D) (hmono : ∀ i v w w', Ps i v w → Ext w w' → Ps i v w') (hC : ∀ w', Ext w w' → allC C w')
    (hops : ∀ i ∈ M, ∀ (vs : Nat → Value) (w' : World), Ext w w' → (∀ j ∈ M, waitsFor ops i j = true → Ps j (vs j) w') → ∃ o, ops[i]? = some o ∧
      o.wp P (putsL ops vs (M.filter (waitsFor ops i)) a) w' (fun x w'' => ∃ v, x = (putsL ops vs (M.filter (waitsFor ops i)) a).put o.dst v ∧ Ext w' w'' ∧ Ps i v w'' ∧ ∀ j ∈ M, j ≠ i → ∀ u, Ps j u w' → Rel v u) (fun _ _ _ => False))
    (hend : ∀ (vs : Nat → Value) (w' : World), Ext w w' → (∀ i ∈ M, Ps i (vs i) w') → (∀ i ∈ M, ∀ j ∈ M, i ≠ j → Rel (vs i) (vs j)) → wpC P ops Q n (setAll listed M) C (putsD vs D a) w') :
    wpC P ops Q (n + M.length) listed C a w :=
  c_phaseT M D Ext Ext.refl (fun _ _ _ h k => Ext.trans h k) Ps Rel hsym hok hD hmono hC hops hend
end
end Go.Proofs.Ytffjhimdamdenaa
