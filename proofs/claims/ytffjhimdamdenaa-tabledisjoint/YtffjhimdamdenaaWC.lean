/- Contracts of window.right, of, virtualSpans, lies. -/
import Derived.Test.YtffjhimdamdenaaWB
namespace Go.Proofs.Ytffjhimdamdenaa
open Go.RowKit

abbrev zW : Value := wnV 0 0 0 0
theorem info_wn : (Try.prog.info? 45).map (fun i => (i.zero, i.size, i.bytes)) = some (some zW, 4, 32) := by kernel_rfl
/-- append of one record that has just been laid -/
theorem wpList_pushL {w : World} {ops : Array Oper} {rest : List Oper} {o : Oper} {a : Act} {Q : Exit → Act → World → Prop} (hgd : o.guard = none) (s x : Operand) (T t : TypeId)
    (ho : o.op = .call { callee := .builtin .append, args := #[s, x], argTypes := #[T, T] })
    (base k by_ : Nat) (z : Value) (ht : Try.prog.underlying T = some (.slice t)) (hi : (Try.prog.info? t).map (fun i => (i.zero, i.size, i.bytes)) = some (some z, k, by_)) (hz : z.cells.size = k) (hk : 0 < k)
    {v : Value} {m : Nat} {xs : List Value} (hsv : a.eval s = v) (hown : w.ownsRow base t k v m xs) (g c : Nat) (cs : List Value) (hxv : a.eval x = .slice (some ⟨g, 0, none⟩) 1 c) (hs : Blk w g t cs) (hcs : cs.length = k) (h1 : ∀ u ∈ cs, u.oneCell' = true)
    (h63 : (m + 1) * by_ ≤ 140737488355328) (hm : m + 1 ≤ maxLen) (hbase : base ≤ w.heap.size)
    (h : ∀ v' w', w'.ownsRow base t k v' (m + 1) (xs ++ cs) → w.grownBy w' v.ownBlock → (v'.ownBlock = v.ownBlock ∨ v'.ownBlock = some w.heap.size) → wpList Try.prog ops Q rest (a.put o.dst v') w') : wpList Try.prog ops Q (o :: rest) a w := by
  obtain ⟨i, hi, hz1, hsz, hby⟩ := info_parts hi
  refine wpList_append_own_at (P := Try.prog) w hgd s x T ho base t i _ k by_ ht hi hz1 hsz hby hz hk v m _ hsv hown ⟨g, 0, none⟩ 1 c cs hxv (by omega) (fun j y hj => ?_) h1 (by omega) (by omega) hbase (fun v' w' q1 q2 _ q4 => h v' w' q1 q2 q4)
  have hadd : ∀ j, (⟨g, 0, none⟩ : Addr).add j = ⟨g, j, none⟩ := fun j => by unfold Addr.add; split <;> simp_all
  rw [hadd, hs.cell, hj]
theorem blk_wf (w : World) (s v p n : Int) (g : Nat) (hg : g = w.heap.size) : Blk (w.alloc (boxW s v p n)) g 45 (wf (s, v, p, n)) := by
  subst hg; exact BxW.new w s v p n
theorem owns_nilL (w : World) (base k : Nat) (t : TypeId) : w.ownsRow base t k (.slice none 0 0) 0 [] := ⟨by simp, .inl ⟨rfl, rfl⟩⟩
theorem one_wf (x : WN) : ∀ u ∈ wf x, u.oneCell' = true := by
  intro u hu; simp [wf] at hu; rcases hu with rfl | rfl | rfl | rfl <;> rfl
theorem one_pf (x : PN) : ∀ u ∈ pf x, u.oneCell' = true := by
  intro u hu; simp [pf] at hu; rcases hu with rfl | rfl | rfl <;> rfl
/-- an own list of windows grows by one -/
theorem push_wcs {w : World} {base m : Nat} {v' : Value} {l : WL} {x : WN} (h : w.ownsRow base 45 4 v' (m + 1) (wcs l ++ wf x)) (hm : m = l.length) : w.ownsRow base 45 4 v' (l ++ [x]).length (wcs (l ++ [x])) := by
  subst hm
  rw [wcs_app, List.length_append]
  simpa [wcs] using h

set_option maxHeartbeats 1000000 in
theorem wrights_any (v : Value) (l : WL) (w : World) (hv : Wns w v l) (ho : OkW l) (hlen : l.length ≤ 1000000) :
    Calls Try.prog 46 #[v] w fun e w' => ∃ v', e = .returned v' ∧ w'.ownsRow w.heap.size 45 4 v' (l.filter wR).length (wcs (l.filter wR)) ∧ Below w.heap.size w w' := by
  obtain ⟨a, cap, rfl, -⟩ := id hv
  obtain ⟨hl, hc, hm, -⟩ := hv.at
  unfold maxLen at hm
  have HLEN := hidden hlen
  clear hlen
  go_enter Try.func46, Try.ntmps46
  go_wp2
  go_loopw [3, 8] (fun z i wr => ∃ k : Nat, ∃ vo : Value, vo = z ∧ k ≤ l.length ∧ i = .int .i64 k ∧ wr.ownsRow w.heap.size 45 4 vo ((l.take k).filter wR).length (wcs ((l.take k).filter wR)) ∧ Below w.heap.size w wr) (fun _ i _ => l.length - (intOf i).toNat)
  case atStart => exact ⟨0, _, rfl, Nat.zero_le _, rfl, owns_nilL _ _ _ _, Below.refl _ _⟩
  case round =>
    obtain ⟨k, vo, rfl, hk, rfl, own, hb⟩ := hrel
    by_cases hlt : k < l.length
    · obtain ⟨⟨s, v, p, n⟩, hx⟩ := getx hlt
      obtain ⟨b, off, rfl, c0, c1, c2, c3⟩ := (hv.ext hb).wn hx
      have hlt' : (k : Int) < (l.length : Int) := by omega
      have F := hidden (filter_snoc hx wR)
      have C := hidden (fun w => wright_any s v p n w (ho.at hx).2.2.2)
      have hlm : ((l.take k).filter wR).length ≤ 1000000 := Nat.le_trans (filter_len l wR k) (by have := HLEN.out; omega)
      generalize (l.take k).filter wR = o at *
      have b0 := BxW.new wr s v p n
      have own0 := owns_belowS own ((Below.refl _ _).alloc (Nat.le_refl _) (boxW s v p n))
      have hb0 := hb.alloc hb.size (boxW s v p n)
      obtain ⟨q0, q1, q2, q3⟩ := b0.cells
      cases t : wR (s, v, p, n)
      · rw [t] at C F
        simp only [Bool.false_eq_true, if_false, List.append_nil] at F
        go_wp2_with fail
        refine (C.out _).mono ?_
        rintro e w1 ⟨rfl, B1⟩
        replace own0 := owns_belowS own0 B1
        replace hb0 := below_then hb0 B1
        go_wp2
        go_roundw
        case rel => exact ⟨k + 1, _, rfl, by omega, by go_num, by rw [F.out]; exact own0, hb0⟩
        case measure => simp [intOf]; omega
      · rw [t] at C F
        simp only [if_true] at F
        go_wp2_with fail
        refine (C.out _).mono ?_
        rintro e w1 ⟨rfl, B1⟩
        replace own0 := owns_belowS own0 B1
        replace hb0 := below_then hb0 B1
        replace b0 := b0.ext B1
        clear q0 q1 q2 q3 own hb c0 c1 c2 c3
        obtain ⟨q0, q1, q2, q3⟩ := b0.cells
        have H2 := hidden (hb0.alloc hb0.size (boxW s v p n))
        have O2 := hidden (owns_belowS own0 ((Below.refl _ _).alloc (Nat.le_refl _) (boxW s v p n)))
        go_wp2_with (at_builtin; refine wpList_pushL (v := vo) rfl (.tmp 14) (.tmp 16) 40 45 rfl w.heap.size 4 32 zW Try.underlying40 info_wn rfl (by decide) rfl O2.out _ 1 (wf (s, v, p, n)) rfl (BxW.new w1 s v p n) rfl (one_wf _) ?h1 ?h2 ?h3 ?h4)
        case h1 => omega
        case h2 => unfold maxLen; omega
        case h3 => exact H2.out.size
        case h4 =>
          intro v' w2 own2 gr2 _
          have B2 := H2.out.grown gr2 H2.out.size (fun k hk => (O2.out.lt k hk).1)
          go_wp2
          go_roundw
          case rel => exact ⟨k + 1, _, rfl, by omega, by go_num, by rw [F.out]; exact push_wcs own2 rfl, B2⟩
          case measure => simp [intOf]; omega
    · have e : l.take k = l := List.take_of_length_le (by omega)
      rw [e] at own
      go_wp2
      go_ret
      exact ⟨_, rfl, own, hb⟩

/-- the zero cells of a new block of records -/
def madS (z : Value) (k : Nat) : Array Value := madeCells z.cells k
theorem mk_rec (t e : TypeId) (z : Value) (sz by_ : Nat) (hu : Try.prog.underlying t = some (.slice e)) (hi : (Try.prog.info? e).map (fun i => (i.zero, i.size, i.bytes)) = some (some z, sz, by_))
    (n : Int) (k : Nat) (hn : n = (k : Int)) (h1 : by_ * k ≤ 281474976710656) (h2 : k ≤ 9223372036854775807) (u : World) :
    (Instr.makeSlice t (.int .i64 n) (.int .i64 n)).run Try.prog u = .ok (.slice (some ⟨u.heap.size, 0, none⟩) k k) (u.alloc (.cells (madS z (k * sz)) e)) := by
  obtain ⟨i0, hi, hz0, hz1, hz2⟩ := info_parts hi
  subst hn
  have h := run_make (P := Try.prog) u t e i0 z hu hi hz0 .i64 .i64 (k : Int) (k : Int) (by omega) (Int.le_refl _) (by rw [hz2]; omega) (by omega)
  rw [hz1, Int.toNat_natCast] at h
  exact h
theorem madS_blk (w : World) (z : Value) (k : Nat) (e : TypeId) : ∃ xs : List Value, xs.length = k ∧ Blk (w.alloc (.cells (madS z k) e)) w.heap.size e xs :=
  ⟨(madS z k).toList, by simp [madS, size_madeCells], by have := Blk.new w e (madS z k).toList; simpa using this⟩
/-- the first m records of a block are these -/
def Head {α : Type} (k : Nat) (f : α → List Value) (xs : List Value) (l : List α) (m : Nat) : Prop := ∀ i x, i < m → l[i]? = some x → ∀ j u, (f x)[j]? = some u → xs[i * k + j]? = some u
def sf (x : Int × Int) : List Value := [.int .i64 x.1, .int .i64 x.2]
theorem Head.zero {α : Type} {k : Nat} {f : α → List Value} {xs : List Value} {l : List α} : Head k f xs l 0 := fun _i _x h => absurd h (Nat.not_lt_zero _)
theorem Head.set2 {xs : List Value} {l : SL} {m : Nat} {a b : Int} (h : Head 2 sf xs l m) (hx : l[m]? = some (a, b)) (hl : m * 2 + 1 < xs.length) : Head 2 sf ((xs.set (m * 2) (.int .i64 a)).set (m * 2 + 1) (.int .i64 b)) l (m + 1) := by
  intro i x hi hxi j u hu
  have hj : j < 2 := (List.getElem?_eq_some_iff.1 hu).1
  by_cases e : i = m
  · subst e
    rw [hx] at hxi
    cases hxi
    match j, hj with
    | 0, _ => rw [List.getElem?_set_ne (by omega), Nat.add_zero, List.getElem?_set_self (by omega)]; exact hu
    | 1, _ => rw [List.getElem?_set_self (by simp; omega)]; exact hu
  · rw [List.getElem?_set_ne (by omega), List.getElem?_set_ne (by omega)]
    exact h i x (by omega) hxi j u hu
theorem Head.set3 {xs : List Value} {l : PL} {m : Nat} {a b c : Int} (h : Head 3 pf xs l m) (hx : l[m]? = some (a, b, c)) (hl : m * 3 + 2 < xs.length) : Head 3 pf (((xs.set (m * 3) (.int .i64 a)).set (m * 3 + 1) (.int .i64 b)).set (m * 3 + 2) (.int .i64 c)) l (m + 1) := by
  intro i x hi hxi j u hu
  have hj : j < 3 := (List.getElem?_eq_some_iff.1 hu).1
  by_cases e : i = m
  · subst e
    rw [hx] at hxi
    cases hxi
    match j, hj with
    | 0, _ => rw [List.getElem?_set_ne (by omega), List.getElem?_set_ne (by omega), Nat.add_zero, List.getElem?_set_self (by omega)]; exact hu
    | 1, _ => rw [List.getElem?_set_ne (by omega), List.getElem?_set_self (by simp; omega)]; exact hu
    | 2, _ => rw [List.getElem?_set_self (by simp; omega)]; exact hu
  · rw [List.getElem?_set_ne (by omega), List.getElem?_set_ne (by omega), List.getElem?_set_ne (by omega)]
    exact h i x (by omega) hxi j u hu
theorem Sps.of_head {w : World} {g : Nat} {e : TypeId} {xs : List Value} {l : SL} (n : Nat) (hn : n = l.length) (hm : n ≤ maxLen) (hb : Blk w g e xs) (h : Head 2 sf xs l l.length) : Sps w (.slice (some ⟨g, 0, none⟩) n n) l := by
  subst hn
  refine ⟨_, _, rfl, Nat.le_refl _, hm, .inr ⟨g, 0, rfl, fun i hi => ?_⟩⟩
  have hx : l[i]? = some (l.getD i (0, 0)) := by simp [List.getD_eq_getElem?_getD, hi]
  rw [Nat.zero_add, hb.cell, hb.cell]
  exact ⟨h i _ hi hx 0 _ rfl, h i _ hi hx 1 _ rfl⟩

end Go.Proofs.Ytffjhimdamdenaa
