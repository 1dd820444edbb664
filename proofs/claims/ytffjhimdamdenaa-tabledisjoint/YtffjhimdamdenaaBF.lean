/- Appends of whole lists; contracts of slices.Clone. -/
import Derived.Test.YtffjhimdamdenaaBH
import Derived.Laws.AppendOwnNone
namespace Go.Proofs.Ytffjhimdamdenaa
open Go.RowKit

/-- kinds of elements: their cells, their type, their lists' type -/
structure EK {α : Type} (k by_ : Nat) (f : α → List Value) (tS tE : TypeId) (z : Value) : Prop where
  len : ∀ x, (f x).length = k
  und : Try.prog.underlying tS = some (.slice tE)
  info : (Try.prog.info? tE).map (fun i => (i.zero, i.size, i.bytes)) = some (some z, k, by_)
  zs : z.cells.size = k
  pos : 0 < k
  bys : by_ ≤ 100
theorem ekW : EK 4 32 wf 40 45 zW := ⟨wf_len, Try.underlying40, info_wn, rfl, by decide, by decide⟩
theorem ekS : EK 2 16 sf 41 48 (.agg #[.int .i64 0, .int .i64 0]) := ⟨sf_len, Try.underlying41, info_slot, rfl, by decide, by decide⟩
theorem ekT : EK 5 72 tf 22 43 (.agg #[.int .i64 0, .int .u32 0, .int .i64 0, .slice none 0 0, .slice none 0 0]) := ⟨tf_len, Try.underlying22, info_ten, rfl, by decide, by decide⟩
theorem one_wcs (l : WL) : ∀ u ∈ l.flatMap wf, u.oneCell' = true := by
  intro u hu
  obtain ⟨y, -, hy⟩ := List.mem_flatMap.1 hu
  exact one_wf y u hy
theorem one_scs (l : SL) : ∀ u ∈ l.flatMap sf, u.oneCell' = true := by
  intro u hu
  obtain ⟨y, -, hy⟩ := List.mem_flatMap.1 hu
  exact one_sf u hy
theorem Lsf.isl {α : Type} {k : Nat} {f : α → List Value} {w : World} {v : Value} {l : List α} (h : Lsf k f w v l) : ∃ a n c, v = .slice a n c := by
  obtain ⟨a, cap, rfl, -⟩ := h
  exact ⟨_, _, _, rfl⟩
theorem one_tcs {w : World} {es : List TE} (h : ∀ e ∈ es, Wns w e.2.1 e.1.ws ∧ Sts w e.2.2 e.1.ss) : ∀ u ∈ es.flatMap tf, u.oneCell' = true := by
  intro u hu
  obtain ⟨y, hm, hy⟩ := List.mem_flatMap.1 hu
  obtain ⟨x, vw, vs⟩ := y
  obtain ⟨h1, h2⟩ := h _ hm
  obtain ⟨a, n, c, rfl⟩ := Lsf.isl h1
  obtain ⟨a2, n2, c2, rfl⟩ := Lsf.isl h2
  exact one_ten u hy

section
variable {α : Type} {k by_ : Nat} {f : α → List Value} {tS tE : TypeId} {z : Value}
/-- append of a whole list -/
theorem appL_run (E : EK k by_ f tS tE z) {w : World} (ty : TypeId) (base : Nat) {v sv : Value} {m : Nat} {xs : List Value} {news : List α} (hown : w.ownsRow base tE k v m xs) (hs : Lsf k f w sv news) (one : ∀ u ∈ news.flatMap f, u.oneCell' = true) (h1 : m + news.length ≤ 1000000) (hbase : base ≤ w.heap.size) :
    ∃ v' w', (Builtin.append_ #[tS, tS] ty #[v, sv]).run Try.prog w = .ok v' w' ∧ w'.ownsRow base tE k v' (m + news.length) (xs ++ news.flatMap f) ∧ w.grownBy w' v.ownBlock ∧ (v'.ownBlock = v.ownBlock ∨ v'.ownBlock = some w.heap.size) := by
  obtain ⟨i, hi, hz, hsz, hby⟩ := info_parts E.info
  obtain ⟨ax, cap, rfl, h2, h3, h5, h4⟩ := hs
  have hb := E.bys
  have some_case : ∀ ad, ax = some ad → (∀ j u, (news.flatMap f)[j]? = some u → w.cell? (ad.add j) = some u) → ∃ v' w', (Builtin.append_ #[tS, tS] ty #[v, .slice ax news.length cap]).run Try.prog w = .ok v' w' ∧ w'.ownsRow base tE k v' (m + news.length) (xs ++ news.flatMap f) ∧ w.grownBy w' v.ownBlock ∧ (v'.ownBlock = v.ownBlock ∨ v'.ownBlock = some w.heap.size) := by
    rintro ad rfl hc
    obtain ⟨v', w', hr, q1, q2, -, q4⟩ := run_append_own_at (P := Try.prog) w base tS ty tE i _ k by_ E.und hi hz hsz hby E.zs E.pos v m _ hown ad news.length cap (news.flatMap f) (flatMap_len E.len _) hc one (by unfold maxLen; omega) (Nat.le_trans (Nat.mul_le_mul h1 hb) (by decide)) hbase
    exact ⟨v', w', hr, q1, q2, q4⟩
  rcases h4 with rfl | ⟨b, off, rfl, hc⟩
  · cases ax with
    | some ad => exact some_case ad rfl (fun j u hj => by simp at hj)
    | none =>
      obtain rfl := h5 rfl
      exact ⟨v, w, run_append_owned_none (P := Try.prog) (w := w) base tS ty tE i k E.und hi v m _ hown, by simpa using hown, World.grownBy.refl _ _, .inl rfl⟩
  · refine some_case _ rfl (fun j u hj => ?_)
    have hadd : (⟨b, off, none⟩ : Addr).add j = ⟨b, off + j, none⟩ := by unfold Addr.add; split <;> simp_all
    have hj' : j < (news.flatMap f).length := (List.getElem?_eq_some_iff.1 hj).1
    rw [flatMap_len E.len] at hj'
    rw [hadd]
    have hk := E.pos
    have hd : j / k < news.length := Nat.div_lt_of_lt_mul (by rw [Nat.mul_comm]; exact hj')
    obtain ⟨y, hx⟩ := getx (l := news) hd
    have hm : j / k * k + j % k = j := by rw [Nat.mul_comm]; exact Nat.div_add_mod j k
    obtain ⟨u', hu'⟩ := getx (l := f y) (i := j % k) (by rw [E.len]; exact Nat.mod_lt _ hk)
    have e : (news.flatMap f)[j]? = some u' := by
      have := flatMap_get E.len news (j / k) _ hx (j % k) u' hu'
      rw [hm] at this
      exact this
    rw [hj] at e
    cases e
    have := hc (j / k) _ hx (j % k) u hu'
    rw [Nat.add_assoc, hm] at this
    exact this
theorem wpList_appL (E : EK k by_ f tS tE z) {w : World} {ops : Array Oper} {rest : List Oper} {o : Oper} {a : Act} {Q : Exit → Act → World → Prop} (hgd : Region.wanted o (yielded ops a.tmps) = true) (s x : Operand)
    (ho : o.op = .call { callee := .builtin .append, args := #[s, x], argTypes := #[tS, tS] })
    (base : Nat) {v sv : Value} {m : Nat} {xs : List Value} {news : List α} (hsv : a.eval s = v) (hown : w.ownsRow base tE k v m xs) (hxv : a.eval x = sv) (hs : Lsf k f w sv news) (one : ∀ u ∈ news.flatMap f, u.oneCell' = true)
    (h1 : m + news.length ≤ 1000000) (hbase : base ≤ w.heap.size)
    (h : ∀ v' w', w'.ownsRow base tE k v' (m + news.length) (xs ++ news.flatMap f) → w.grownBy w' v.ownBlock → (v'.ownBlock = v.ownBlock ∨ v'.ownBlock = some w.heap.size) → wpList Try.prog ops Q rest (a.put o.dst v') w') : wpList Try.prog ops Q (o :: rest) a w := by
  obtain ⟨v', w', hrun, r1, r2, r3⟩ := appL_run E o.type base hown hs one h1 hbase
  unfold wpList
  rw [if_pos hgd]
  refine .inl ?_
  unfold Oper.wp
  simp [execOp, ho, resolve, invoke, builtin, hsv, hxv, hrun, Result.andThen]
  exact h v' w' r1 r2 r3
end
theorem owns_lit0 (w : World) (t : TypeId) (k : Nat) : (w.alloc (.cells #[] t)).ownsRow w.heap.size t k (.slice (some ⟨w.heap.size, 0, none⟩) 0 0) 0 [] :=
  World.ownsRow_made w #[] 0 (Nat.le_refl _) (Nat.zero_le _) (by simp)

set_option maxHeartbeats 1000000 in
theorem cloneT (v : Value) (l : List TE) (w : World) (hv : Lsf 5 tf w v l) (one : ∀ u ∈ l.flatMap tf, u.oneCell' = true) (hn : l.length ≤ 1000000) :
    Calls Try.prog 25 #[v] w fun e w' => ∃ v', e = .returned v' ∧ w'.ownsRow w.heap.size 43 5 v' l.length (l.flatMap tf) ∧ Below w.heap.size w w' := by
  have HV := hidden hv
  have ON := hidden one
  obtain ⟨a, cap, rfl, -, -, hc0, hl⟩ := id hv
  cases a with
  | none =>
    have e : l = [] := by
      rcases hl with rfl | ⟨b, off, e, -⟩
      · rfl
      · cases e
    subst e
    obtain rfl := hc0 rfl
    clear hv hl hc0 one HV ON
    have en : ∀ w : World, (binOp BinOp.eql 22 (.slice none 0 0) (.slice none 0 0)).run Try.prog w = .ok (.bool true) w := fun _ => by kernel_rfl
    go_enter Try.func25, Try.ntmps25
    go_wp2
    go_ret
    exact ⟨_, rfl, owns_nilL _ _ _ _, Below.refl _ _⟩
  | some ad =>
    clear hv hl hc0 one
    have E9 := (Below.refl w.heap.size w).alloc (Nat.le_refl _) (.cells #[] 43)
    have HO := hidden (owns_lit0 w 43 5)
    have HV2 := hidden (HV.out.ext E9)
    have HN := hidden hn
    have en : ∀ w : World, (binOp BinOp.eql 22 (.slice (some ad) l.length cap) (.slice none 0 0)).run Try.prog w = .ok (.bool false) w := fun _ => by kernel_rfl
    clear hn
    go_enter Try.func25, Try.ntmps25
    go_wp2_with (at_builtin; refine wpList_appL ekT (news := l) (by kernel_rfl) (.tmp 5) (.tmp 6) rfl w.heap.size rfl HO.out rfl HV2.out ON.out (by have := HN.out; omega) E9.size ?_)
    intro v' w' q1 q2 q3
    have B := E9.grown q2 (by simp) (fun k hk => by cases hk; exact Nat.le_refl _)
    go_wp2
    go_ret
    refine ⟨v', rfl, ?_, B⟩
    simpa using q1
set_option maxHeartbeats 1000000 in
theorem cloneW (v : Value) (l : List WN) (w : World) (hv : Lsf 4 wf w v l) (one : ∀ u ∈ l.flatMap wf, u.oneCell' = true) (hn : l.length ≤ 1000000) :
    Calls Try.prog 26 #[v] w fun e w' => ∃ v', e = .returned v' ∧ w'.ownsRow w.heap.size 45 4 v' l.length (l.flatMap wf) ∧ Below w.heap.size w w' := by
  have HV := hidden hv
  have ON := hidden one
  obtain ⟨a, cap, rfl, -, -, hc0, hl⟩ := id hv
  cases a with
  | none =>
    have e : l = [] := by
      rcases hl with rfl | ⟨b, off, e, -⟩
      · rfl
      · cases e
    subst e
    obtain rfl := hc0 rfl
    clear hv hl hc0 one HV ON
    have en : ∀ w : World, (binOp BinOp.eql 40 (.slice none 0 0) (.slice none 0 0)).run Try.prog w = .ok (.bool true) w := fun _ => by kernel_rfl
    go_enter Try.func26, Try.ntmps26
    go_wp2
    go_ret
    exact ⟨_, rfl, owns_nilL _ _ _ _, Below.refl _ _⟩
  | some ad =>
    clear hv hl hc0 one
    have E9 := (Below.refl w.heap.size w).alloc (Nat.le_refl _) (.cells #[] 45)
    have HO := hidden (owns_lit0 w 45 4)
    have HV2 := hidden (HV.out.ext E9)
    have HN := hidden hn
    have en : ∀ w : World, (binOp BinOp.eql 40 (.slice (some ad) l.length cap) (.slice none 0 0)).run Try.prog w = .ok (.bool false) w := fun _ => by kernel_rfl
    clear hn
    go_enter Try.func26, Try.ntmps26
    go_wp2_with (at_builtin; refine wpList_appL ekW (news := l) (by kernel_rfl) (.tmp 5) (.tmp 6) rfl w.heap.size rfl HO.out rfl HV2.out ON.out (by have := HN.out; omega) E9.size ?_)
    intro v' w' q1 q2 q3
    have B := E9.grown q2 (by simp) (fun k hk => by cases hk; exact Nat.le_refl _)
    go_wp2
    go_ret
    refine ⟨v', rfl, ?_, B⟩
    simpa using q1
set_option maxHeartbeats 1000000 in
theorem cloneS (v : Value) (l : List (Int × Int)) (w : World) (hv : Lsf 2 sf w v l) (one : ∀ u ∈ l.flatMap sf, u.oneCell' = true) (hn : l.length ≤ 1000000) :
    Calls Try.prog 27 #[v] w fun e w' => ∃ v', e = .returned v' ∧ w'.ownsRow w.heap.size 48 2 v' l.length (l.flatMap sf) ∧ Below w.heap.size w w' := by
  have HV := hidden hv
  have ON := hidden one
  obtain ⟨a, cap, rfl, -, -, hc0, hl⟩ := id hv
  cases a with
  | none =>
    have e : l = [] := by
      rcases hl with rfl | ⟨b, off, e, -⟩
      · rfl
      · cases e
    subst e
    obtain rfl := hc0 rfl
    clear hv hl hc0 one HV ON
    have en : ∀ w : World, (binOp BinOp.eql 41 (.slice none 0 0) (.slice none 0 0)).run Try.prog w = .ok (.bool true) w := fun _ => by kernel_rfl
    go_enter Try.func27, Try.ntmps27
    go_wp2
    go_ret
    exact ⟨_, rfl, owns_nilL _ _ _ _, Below.refl _ _⟩
  | some ad =>
    clear hv hl hc0 one
    have E9 := (Below.refl w.heap.size w).alloc (Nat.le_refl _) (.cells #[] 48)
    have HO := hidden (owns_lit0 w 48 2)
    have HV2 := hidden (HV.out.ext E9)
    have HN := hidden hn
    have en : ∀ w : World, (binOp BinOp.eql 41 (.slice (some ad) l.length cap) (.slice none 0 0)).run Try.prog w = .ok (.bool false) w := fun _ => by kernel_rfl
    clear hn
    go_enter Try.func27, Try.ntmps27
    go_wp2_with (at_builtin; refine wpList_appL ekS (news := l) (by kernel_rfl) (.tmp 5) (.tmp 6) rfl w.heap.size rfl HO.out rfl HV2.out ON.out (by have := HN.out; omega) E9.size ?_)
    intro v' w' q1 q2 q3
    have B := E9.grown q2 (by simp) (fun k hk => by cases hk; exact Nat.le_refl _)
    go_wp2
    go_ret
    refine ⟨v', rfl, ?_, B⟩
    simpa using q1
end Go.Proofs.Ytffjhimdamdenaa
