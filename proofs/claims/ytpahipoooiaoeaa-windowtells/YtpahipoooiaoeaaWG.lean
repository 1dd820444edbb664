/- Contract of the document's own Map. -/
import Derived.Test.YtpahipoooiaoeaaWF
namespace Go.Proofs.Ytpahipoooiaoeaa
open Go.RowKit

theorem wp_pushL {w : World} {o : Oper} {a : Act} {K : Act → World → Prop} {Q : Exit → Act → World → Prop} (s x : Operand) (T t : TypeId)
    (ho : o.op = .call { callee := .builtin .append, args := #[s, x], argTypes := #[T, T] })
    (base k by_ : Nat) (z : Value) (ht : Try.prog.underlying T = some (.slice t)) (hi : (Try.prog.info? t).map (fun i => (i.zero, i.size, i.bytes)) = some (some z, k, by_)) (hz : z.cells.size = k) (hk : 0 < k)
    {v : Value} {m : Nat} {xs : List Value} (hsv : a.eval s = v) (hown : w.ownsRow base t k v m xs) (g c : Nat) (cs : List Value) (hxv : a.eval x = .slice (some ⟨g, 0, none⟩) 1 c) (hs : Blk w g t cs) (hcs : cs.length = k) (h1 : ∀ u ∈ cs, u.oneCell' = true)
    (h63 : (m + 1) * by_ ≤ 140737488355328) (hm : m + 1 ≤ maxLen) (hbase : base ≤ w.heap.size)
    (h : ∀ v' w', w'.ownsRow base t k v' (m + 1) (xs ++ cs) → w.grownBy w' v.ownBlock → (v'.ownBlock = v.ownBlock ∨ v'.ownBlock = some w.heap.size) → K (a.put o.dst v') w') : o.wp Try.prog a w K Q := by
  obtain ⟨i, hi, hz1, hsz, hby⟩ := info_parts hi
  obtain ⟨v', w', hr, h2, h3, -, h5⟩ := run_append_own_at (P := Try.prog) w base T o.type t i z k by_ ht hi hz1 hsz hby hz hk v m xs hown ⟨g, 0, none⟩ 1 c cs (by omega) (fun j y hj => by
    have hadd : ∀ j, (⟨g, 0, none⟩ : Addr).add j = ⟨g, j, none⟩ := fun j => by unfold Addr.add; split <;> simp_all
    rw [hadd, hs.cell, hj]) h1 (by omega) (by omega) hbase
  unfold Oper.wp
  simp [execOp, ho, resolve, invoke, builtin, hsv, hxv, hr, Result.andThen]
  exact h v' w' h2 h3 h5
theorem one_sf {a n : Int} : ∀ u ∈ [Value.int .i64 a, Value.int .i64 n], u.oneCell' = true := by
  intro u hu; simp at hu; rcases hu with rfl | rfl <;> rfl
theorem Blk.grownL {w w' : World} {g : Nat} {e : TypeId} {xs : List Value} {row : Option Nat} (h : Blk w g e xs) (hg : w.grownBy w' row) (hne : row ≠ Option.some g) : Blk w' g e xs := (hg.block g h.lt (fun e => hne e.symm)).trans h
theorem BxW.grownL {w w' : World} {g : Nat} {s v p n : Int} {row : Option Nat} (h : BxW w g s v p n) (hg : w.grownBy w' row) (hne : row ≠ some g) : BxW w' g s v p n := Blk.grownL h hg hne
def NE (u v : Value) : Prop := ∀ k, u.ownBlock = some k → v.ownBlock ≠ some k
theorem NE.right {u v : Value} (h : NE u v) : v.ownBlock = none ∨ v.ownBlock ≠ u.ownBlock := by
  cases e : v.ownBlock with
  | none => exact .inl rfl
  | some k => exact .inr (fun e2 => h k e2.symm e)
theorem NE.left {u v : Value} (h : NE u v) : u.ownBlock = none ∨ u.ownBlock ≠ v.ownBlock := by
  cases e : u.ownBlock with
  | none => exact .inl rfl
  | some k => exact .inr (fun e2 => h k e e2.symm)
theorem NE.step1 {u u' v : Value} {g : Nat} (h : NE u v) (ob : u'.ownBlock = u.ownBlock ∨ u'.ownBlock = some g) (hl : ∀ k, v.ownBlock = some k → k < g) : NE u' v := by
  intro k hk hv
  rcases ob with ob | ob
  · exact h k (ob ▸ hk) hv
  · rw [ob] at hk; cases hk; exact absurd (hl _ hv) (Nat.lt_irrefl _)
theorem NE.step2 {u v v' : Value} {g : Nat} (h : NE u v) (ob : v'.ownBlock = v.ownBlock ∨ v'.ownBlock = some g) (hl : ∀ k, u.ownBlock = some k → k < g) : NE u v' := by
  intro k hk hv
  rcases ob with ob | ob
  · exact h k hk (ob ▸ hv)
  · rw [ob] at hv; cases hv; exact absurd (hl _ hk) (Nat.lt_irrefl _)
theorem sel_snoc {l : WL} {k : Nat} {x : WN} (hx : l[k]? = some x) (sp : Int) : sel sp (l.take (k + 1)) = sel sp (l.take k) ++ (if wR x && decide (x.1 = sp) then [x] else []) := by
  unfold sel
  rw [filter_snoc hx, List.filter_append]
  congr 1
  cases wR x <;> simp [List.filter_cons]
theorem push_virt {w : World} {base : Nat} {v' : Value} {l : WL} {s v p n : Int} (h : w.ownsRow base 78 2 v' (l.length + 1) (scs (virt l) ++ [.int .i64 v, .int .i64 n])) : w.ownsRow base 78 2 v' (l ++ [(s, v, p, n)]).length (scs (virt (l ++ [(s, v, p, n)]))) := by
  rw [List.length_append]
  simpa [scs, virt] using h
theorem sel_len (sp : Int) (l : WL) : (sel sp l).length ≤ l.length := Nat.le_trans (List.length_filter_le _ _) (List.length_filter_le _ _)

theorem covF_mem (l : SL) : ∀ (f : Nat) (a n : Int) (c : SL), covF l f a n = some c → ∀ y ∈ c, ∃ x, fnd l y.1 = some x ∧ 1 ≤ y.2 ∧ y.1 + y.2 ≤ x.1 + x.2 ∧ a ≤ y.1 ∧ y.1 + y.2 ≤ a + n
  | 0, a, n, c, h, y, hy => by
    unfold covF at h
    cases h
    cases hy
  | f + 1, a, n, c, h, y, hy => by
    unfold covF at h
    split at h
    · cases h; cases hy
    · rename_i hn
      split at h
      · cases h
      · rename_i x hf
        have hp := pcN_pos (fnd_has hf).1 (by omega : 0 < n)
        cases e : covF l f (a + pcN x a n) (n - pcN x a n) with
        | none => rw [e] at h; cases h
        | some d =>
          rw [e] at h
          cases h
          rcases List.mem_cons.1 hy with rfl | hy
          · refine ⟨x, hf, hp.1, ?_, Int.le_refl _, ?_⟩
            · simp only; unfold pcN; omega
            · simp only; omega
          · obtain ⟨z, h1, h2, h3, h4, h5⟩ := covF_mem l f _ _ d e y hy
            exact ⟨z, h1, h2, h3, by omega, by omega⟩
theorem covR_mem {l c : SL} {a n : Int} (h : covR l a n = some c) {y : Int × Int} (hy : y ∈ c) : ∃ x, fnd l y.1 = some x ∧ 1 ≤ y.2 ∧ y.1 + y.2 ≤ x.1 + x.2 ∧ a ≤ y.1 ∧ y.1 + y.2 ≤ a + n ∧ 0 ≤ y.1 ∧ y.1 + y.2 ≤ 2147483648 := by
  unfold covR at h
  split at h
  · rename_i t
    simp only [Bool.and_eq_true] at t
    obtain ⟨q1, q2, q3⟩ := tk_iff.1 t.1
    obtain ⟨x, h1, h2, h3, h4, h5⟩ := covF_mem _ _ _ _ _ h y hy
    exact ⟨x, h1, h2, h3, h4, h5, by omega, by omega⟩
  · cases h
theorem fnd_virt (l : WL) (a : Int) : fnd (virt l) a = (l.find? (fun x => hasB (vS x) a)).map vS := by
  unfold fnd virt
  rw [List.find?_map]
  rfl
theorem in_of {p q v n : Int} (h : tk v n = true) (h0 : 0 ≤ p) (hq : 1 ≤ q) (hm : p + q ≤ 2147483648) (h1 : hasB (v, n) p = true) (h2 : p + q ≤ v + n) : inB p q v n = true := by
  have h3 := hasB_iff.1 h1
  simp only at h3
  have e : meetE p q v n = true := by
    simp only [meetE, h, Bool.and_true, Bool.and_eq_true, decide_eq_true_eq]
    exact ⟨tk_iff.2 (by omega), by omega⟩
  unfold inB
  rw [e]
  simp only [Bool.true_and, Bool.and_eq_true, beq_iff_eq]
  unfold meetA meetN
  rw [if_pos e, if_pos e]
  constructor <;> omega
theorem in_no {p q v n : Int} (hq : 1 ≤ q) (h1 : hasB (v, n) p = false) : inB p q v n = false := by
  have h3 := hasB_f.1 h1
  simp only at h3
  unfold inB
  cases e : meetE p q v n
  · rfl
  · simp only [Bool.true_and, Bool.and_eq_false_iff, beq_eq_false_iff_ne]
    unfold meetA meetN
    rw [if_pos e, if_pos e]
    by_cases h4 : max p v = p
    · right; intro h5; apply h3; omega
    · left; exact h4
theorem info_rpc : (Try.prog.info? 56).map (fun i => (i.zero, i.size, i.bytes)) = some (some (.agg #[.int .i64 0, .int .i64 0, .int .i64 0]), 3, 24) := by kernel_rfl
theorem lay_snoc {l : WL} {c : SL} {k : Nat} {p q : Int} (h : c[k]? = some (p, q)) : lay l (c.take (k + 1)) = lay l (c.take k) ++ [(p, liesI l p, q)] := by
  rw [take_snoc h]; simp [lay]
theorem push_pcs {w : World} {base m : Nat} {t : TypeId} {v' : Value} {l : PL} {x : PN} (h : w.ownsRow base t 3 v' (m + 1) (pcs l ++ pf x)) (hm : m = l.length) : w.ownsRow base t 3 v' (l ++ [x]).length (pcs (l ++ [x])) := by
  subst hm
  rw [pcs_app, List.length_append]
  simpa [pcs] using h

set_option maxRecDepth 100000 in
set_option maxHeartbeats 8000000 in
theorem rmap_any (v : Value) (l : WL) (sp a n : Int) (w : World) (hv : Wns w v l) (ho : OkW l) (hn : i64 n) (hlen : l.length ≤ 1000000) :
    Calls Try.prog 15 #[v, .int .i64 sp, .int .i64 a, .int .i64 n] w fun e w' => ∃ v', e = .returned (.tuple #[v', .bool (mapE l sp a n).isSome]) ∧ Pcs w' v' ((mapE l sp a n).getD []) ∧ Below w.heap.size w w' := by
  have HV := hidden hv
  obtain ⟨av, cap, rfl, -⟩ := id hv
  obtain ⟨-, hc, hm, -⟩ := hv.at
  unfold maxLen at hm
  have HLEN := hidden hlen
  obtain ⟨R, hR⟩ : ∃ R, covR (virt (sel sp l)) a n = R := ⟨_, rfl⟩
  have C4 := hidden (fun v w' (h : Sps w' v (virt (sel sp l))) => rcover_any v _ a n w' h (virt_ok (sel_ok sp l)).1 hn)
  rw [hR] at C4
  have RL : Hid (∀ c, R = some c → c.length ≤ 2147483648) := fun c h => covR_len (hR.trans h)
  have RM : Hid (∀ c, R = some c → ∀ p q, (p, q) ∈ c → ∃ x ∈ sel sp l, (sel sp l).find? (fun x => hasB (vS x) p) = some x ∧ 1 ≤ q ∧ p + q ≤ x.2.1 + x.2.2.2 ∧ 0 ≤ p ∧ p + q ≤ 2147483648) := by
    intro c h p q hy
    obtain ⟨x, h1, h2, h3, h4, h5, h6, h7⟩ := covR_mem (hR.trans h) hy
    rw [fnd_virt] at h1
    obtain ⟨y, hy1, rfl⟩ := Option.map_eq_some_iff.1 h1
    exact ⟨y, List.mem_of_find?_eq_some hy1, hy1, h2, h3, h6, h7⟩
  have E : mapE l sp a n = R.map (lay (sel sp l)) := by rw [← hR]; rfl
  rw [E]
  have SO := hidden (sel_ok sp l)
  clear E hR hlen
  obtain ⟨HSEL, hSEL⟩ : ∃ f : WL → WL, f = sel sp := ⟨_, rfl⟩
  go_enter Try.func15, Try.ntmps15
  go_wp2
  go_loopw [10, 11, 23] (fun zs zw i wr => ∃ (k : Nat) (vs vw : Value), vs = zs ∧ vw = zw ∧ k ≤ l.length ∧ i = .int .i64 k ∧ wr.ownsRow w.heap.size 78 2 vs (sel sp (l.take k)).length (scs (virt (sel sp (l.take k)))) ∧ wr.ownsRow w.heap.size 28 4 vw (sel sp (l.take k)).length (wcs (sel sp (l.take k))) ∧ Hid (NE vs vw) ∧ Below w.heap.size w wr) (fun _ _ i _ => l.length - (intOf i).toNat)
  case atStart => exact ⟨0, _, _, rfl, rfl, Nat.zero_le _, rfl, owns_nilL _ _ _ _, owns_nilL _ _ _ _, hidden (fun k hk => by cases hk), Below.refl _ _⟩
  case round =>
    obtain ⟨k, vs, vw, rfl, rfl, hk, rfl, o1, o2, hne, hb⟩ := hrel
    by_cases hlt : k < l.length
    · obtain ⟨⟨s, v, p, n⟩, hx⟩ := getx hlt
      obtain ⟨b, off, rfl, c0, c1, c2, c3⟩ := (HV.out.ext hb).wn hx
      have hlt' : (k : Int) < (l.length : Int) := by omega
      have F := hidden (sel_snoc hx sp)
      have C := hidden (fun w => rwindow_any s v p n w (ho.at hx).2.2.2)
      have hlm : (sel sp (l.take k)).length ≤ 1000000 := Nat.le_trans (sel_len _ _) (by have := HLEN.out; simp; omega)
      generalize sel sp (l.take k) = m at *
      have bx := BxW.new wr s v p n
      have l1 : ∀ k, vs.ownBlock = some k → k < wr.heap.size := fun k hk => (o1.lt k hk).2
      have l2 : ∀ k, vw.ownBlock = some k → k < wr.heap.size := fun k hk => (o2.lt k hk).2
      have E0 := (Below.refl wr.heap.size wr).alloc (Nat.le_refl _) (boxW s v p n)
      replace o1 := owns_belowS o1 E0
      replace o2 := owns_belowS o2 E0
      replace hb := below_then hb E0
      obtain ⟨q0, q1, q2, q3⟩ := bx.cells
      have H1 := hidden o1
      have H2 := hidden o2
      have HB := hidden hb
      have HX := hidden bx
      have HL1 := hidden l1
      have HL2 := hidden l2
      clear o1 o2 hb bx l1 l2 E0
      cases t : wR (s, v, p, n)
      · rw [t] at C F
        simp only [Bool.false_and, Bool.false_eq_true, if_false, List.append_nil] at F
        go_wp2_with fail
        refine (C.out _).mono ?_
        rintro e w1 ⟨rfl, B1⟩
        go_wp2
        go_roundw
        case rel => exact ⟨k + 1, _, _, rfl, rfl, by omega, by go_num, by rw [F.out]; exact owns_belowS H1.out B1, by rw [F.out]; exact owns_belowS H2.out B1, hne, below_then HB.out B1⟩
        case measure => simp [intOf]; omega
      · rw [t] at C F
        simp only [Bool.true_and] at F
        by_cases ts : s = sp
        · have d : (s == sp) = true := by simpa using ts
          rw [decide_eq_true ts] at F
          simp only [if_true] at F
          clear ts
          go_wp2_with fail
          refine (C.out _).mono ?_
          rintro e w1 ⟨rfl, B1⟩
          have bx := HX.out.ext B1
          have o1 := owns_belowS H1.out B1
          have o2 := owns_belowS H2.out B1
          have hb := below_then HB.out B1
          have l1 := HL1.out
          have l2 := HL2.out
          have ne := hne.out
          clear q0 q1 q2 q3 c0 c1 c2 c3 HX H1 H2 HB HL1 HL2 C B1 hne
          obtain ⟨q0, q1, q2, q3⟩ := bx.cells
          go_wp2
          refine c_begin 14 rfl (by kernel_rfl) ?_
          replace bx := bx.drew
          have E0 := (Below.refl w1.heap.size w1).drew
          replace o1 := owns_belowS o1 E0
          replace o2 := owns_belowS o2 E0
          replace hb := hb.drew
          clear q0 q1 q2 q3 E0
          generalize wr.heap.size = g13 at *
          generalize w1.drew = w6 at *
          clear w1
          refine c_P trivial 0 rfl ?_
          refine c_P trivial 1 rfl ?_
          refine c_R (fun w' => BxW w' g13 s v p n) bx trivial 2 rfl (fun w' hx => by obtain ⟨q0, q1, q2, q3⟩ := hx.cells; go_simp; with_reducible rfl) ?_
          refine c_P ⟨bx, trivial⟩ 3 rfl ?_
          refine c_R (fun w' => BxW w' g13 s v p n) bx ⟨bx, trivial⟩ 4 rfl (fun w' hx => by obtain ⟨q0, q1, q2, q3⟩ := hx.cells; go_simp; with_reducible rfl) ?_
          refine c_P ⟨bx, bx, trivial⟩ 5 rfl ?_
          refine c_P ⟨bx, bx, trivial⟩ 8 rfl ?_
          refine c_R (fun w' => BxW w' g13 s v p n) bx ⟨bx, bx, trivial⟩ 9 rfl (fun w' hx => by obtain ⟨q0, q1, q2, q3⟩ := hx.cells; go_simp; with_reducible rfl) ?_
          refine c_move2 6 10 (by kernel_rfl) (c_op 6 [(9, (fun w' => BxW w' g13 s v p n)), (4, (fun w' => BxW w' g13 s v p n)), (2, (fun w' => BxW w' g13 s v p n))] (by kernel_rfl) rfl (by kernel_rfl) (fun K hK => ?_)) (c_op 10 [(4, (fun w' => BxW w' g13 s v p n)), (2, (fun w' => BxW w' g13 s v p n))] (by kernel_rfl) rfl (by kernel_rfl) (fun K hK => ?_))
          · skip
            have Bn := (Below.refl w6.heap.size w6).alloc (Nat.le_refl _) (.cells #[.int .i64 v, .int .i64 n] 78)
            have k6 := Blk.new w6 78 [.int .i64 v, .int .i64 n]
            have s6 : g13 ≤ w6.heap.size := Nat.le_of_lt bx.lt
            replace bx := bx.ext Bn
            replace o1 := owns_belowS o1 Bn
            replace o2 := owns_belowS o2 Bn
            replace hb := below_then hb Bn
            clear Bn
            go_simp
            refine hK.out _ _ ⟨bx, bx, bx, trivial⟩ ?_
            try simp only [Act.put, List.setIfInBounds_toArray, List.set_cons_zero, List.set_cons_succ]
            clear hK K
            generalize w6.heap.size = g6 at *
            generalize w6.alloc (.cells #[.int .i64 v, .int .i64 n] 78) = w6 at *
            refine c_move2 7 10 (by kernel_rfl) (c_op 7 [(9, (fun w' => BxW w' g13 s v p n)), (4, (fun w' => BxW w' g13 s v p n)), (2, (fun w' => BxW w' g13 s v p n))] (by kernel_rfl) rfl (by kernel_rfl) (fun K hK => ?_)) (c_op 10 [(4, (fun w' => BxW w' g13 s v p n)), (2, (fun w' => BxW w' g13 s v p n))] (by kernel_rfl) rfl (by kernel_rfl) (fun K hK => ?_))
            · skip
              refine wp_pushL (v := vs) (.tmp 35) (.tmp 41) 77 78 rfl w.heap.size 2 16 (spV 0 0) Try.underlying77 info_rsp (by decide) (by decide) rfl o1 g6 1 [.int .i64 v, .int .i64 n] rfl k6 rfl one_sf ?_ ?_ hb.size ?_
              · omega
              · unfold maxLen; omega
              intro vs2 w7 o3 gr ob
              replace bx := BxW.grownL bx gr (fun e => absurd (l1 _ e) (Nat.lt_irrefl _))
              replace hb := hb.grown gr hb.size (fun k hk => (o1.lt k hk).1)
              have ne2 := NE.step1 ne ob (fun k hk => (o2.lt k hk).2)
              replace o2 := o2.kept gr (NE.right ne)
              refine hK.out _ _ ⟨bx, bx, bx, trivial⟩ ?_
              try simp only [Act.put, List.setIfInBounds_toArray, List.set_cons_zero, List.set_cons_succ]
              clear hK K
              clear gr ob o1 k6
              have ew : ∃ w6, w6 = w7 := ⟨_, rfl⟩
              obtain ⟨w6, rfl⟩ := ew
              have o1 := o3
              refine c_move 10 (by kernel_rfl) (c_op 10 [(4, (fun w' => BxW w' g13 s v p n)), (2, (fun w' => BxW w' g13 s v p n))] (by kernel_rfl) rfl (by kernel_rfl) (fun K hK => ?_))
              have Bn := (Below.refl w6.heap.size w6).alloc (Nat.le_refl _) (boxW s v p n)
              have k10 := blk_wf w6 s v p n _ rfl
              have s10 : g13 ≤ w6.heap.size := Nat.le_of_lt bx.lt
              replace bx := bx.ext Bn
              replace o1 := owns_belowS o1 Bn
              replace o2 := owns_belowS o2 Bn
              replace hb := below_then hb Bn
              clear Bn
              go_simp
              refine hK.out _ _ ⟨bx, bx, trivial⟩ ?_
              try simp only [Act.put, List.setIfInBounds_toArray, List.set_cons_zero, List.set_cons_succ]
              clear hK K
              generalize w6.heap.size = g10 at *
              generalize w6.alloc (boxW s v p n) = w6 at *
              replace o3 := o1
              clear o1
              refine c_move 11 (by kernel_rfl) (c_op 11 [(4, (fun w' => BxW w' g13 s v p n)), (2, (fun w' => BxW w' g13 s v p n))] (by kernel_rfl) rfl (by kernel_rfl) (fun K hK => ?_))
              refine wp_pushL (v := vw) (.tmp 43) (.tmp 45) 22 28 rfl w.heap.size 4 32 zW Try.underlying22 info_wn rfl (by decide) rfl o2 g10 1 (wf (s, v, p, n)) rfl k10 rfl (one_wf _) ?_ ?_ hb.size ?_
              · omega
              · unfold maxLen; omega
              intro vw2 w7 o4 gr ob
              replace bx := BxW.grownL bx gr (fun e => absurd (l2 _ e) (Nat.lt_irrefl _))
              replace hb := hb.grown gr hb.size (fun k hk => (o2.lt k hk).1)
              have ne3 := NE.step2 ne2 ob (fun k hk => (o3.lt k hk).2)
              replace o3 := o3.kept gr (NE.left ne2)
              refine hK.out _ _ ⟨bx, bx, trivial⟩ ?_
              try simp only [Act.put, List.setIfInBounds_toArray, List.set_cons_zero, List.set_cons_succ]
              clear hK K
              refine c_P ⟨bx, bx, trivial⟩ 12 rfl ?_
              refine c_P ⟨bx, bx, trivial⟩ 13 rfl ?_
              refine c_done (by kernel_rfl) ?_
              clear gr ob o2 k10
              go_wp2
              go_roundw
              case rel => exact ⟨k + 1, vs2, vw2, rfl, rfl, by omega, by go_num, by rw [F.out]; exact push_virt o3, by rw [F.out]; exact push_wcs o4 rfl, hidden ne3, hb⟩
              case measure => simp [intOf]; omega
            · skip
              have Bn := (Below.refl w6.heap.size w6).alloc (Nat.le_refl _) (boxW s v p n)
              have k10 := blk_wf w6 s v p n _ rfl
              have s10 : g13 ≤ w6.heap.size := Nat.le_of_lt bx.lt
              replace bx := bx.ext Bn
              replace o1 := owns_belowS o1 Bn
              replace o2 := owns_belowS o2 Bn
              replace hb := below_then hb Bn
              replace k6 := k6.below Bn k6.lt
              clear Bn
              go_simp
              refine hK.out _ _ ⟨bx, bx, trivial⟩ ?_
              try simp only [Act.put, List.setIfInBounds_toArray, List.set_cons_zero, List.set_cons_succ]
              clear hK K
              generalize w6.heap.size = g10 at *
              generalize w6.alloc (boxW s v p n) = w6 at *
              refine c_move 7 (by kernel_rfl) (c_op 7 [(4, (fun w' => BxW w' g13 s v p n)), (2, (fun w' => BxW w' g13 s v p n))] (by kernel_rfl) rfl (by kernel_rfl) (fun K hK => ?_))
              refine wp_pushL (v := vs) (.tmp 35) (.tmp 41) 77 78 rfl w.heap.size 2 16 (spV 0 0) Try.underlying77 info_rsp (by decide) (by decide) rfl o1 g6 1 [.int .i64 v, .int .i64 n] rfl k6 rfl one_sf ?_ ?_ hb.size ?_
              · omega
              · unfold maxLen; omega
              intro vs2 w7 o3 gr ob
              replace bx := BxW.grownL bx gr (fun e => absurd (l1 _ e) (Nat.lt_irrefl _))
              replace k10 := Blk.grownL k10 gr (fun e => absurd (l1 _ e) (by omega))
              replace hb := hb.grown gr hb.size (fun k hk => (o1.lt k hk).1)
              have ne2 := NE.step1 ne ob (fun k hk => (o2.lt k hk).2)
              replace o2 := o2.kept gr (NE.right ne)
              refine hK.out _ _ ⟨bx, bx, trivial⟩ ?_
              try simp only [Act.put, List.setIfInBounds_toArray, List.set_cons_zero, List.set_cons_succ]
              clear hK K
              clear gr ob o1 k6
              have ew : ∃ w6, w6 = w7 := ⟨_, rfl⟩
              obtain ⟨w6, rfl⟩ := ew
              refine c_move 11 (by kernel_rfl) (c_op 11 [(4, (fun w' => BxW w' g13 s v p n)), (2, (fun w' => BxW w' g13 s v p n))] (by kernel_rfl) rfl (by kernel_rfl) (fun K hK => ?_))
              refine wp_pushL (v := vw) (.tmp 43) (.tmp 45) 22 28 rfl w.heap.size 4 32 zW Try.underlying22 info_wn rfl (by decide) rfl o2 g10 1 (wf (s, v, p, n)) rfl k10 rfl (one_wf _) ?_ ?_ hb.size ?_
              · omega
              · unfold maxLen; omega
              intro vw2 w7 o4 gr ob
              replace bx := BxW.grownL bx gr (fun e => absurd (l2 _ e) (Nat.lt_irrefl _))
              replace hb := hb.grown gr hb.size (fun k hk => (o2.lt k hk).1)
              have ne3 := NE.step2 ne2 ob (fun k hk => (o3.lt k hk).2)
              replace o3 := o3.kept gr (NE.left ne2)
              refine hK.out _ _ ⟨bx, bx, trivial⟩ ?_
              try simp only [Act.put, List.setIfInBounds_toArray, List.set_cons_zero, List.set_cons_succ]
              clear hK K
              refine c_P ⟨bx, bx, trivial⟩ 12 rfl ?_
              refine c_P ⟨bx, bx, trivial⟩ 13 rfl ?_
              refine c_done (by kernel_rfl) ?_
              clear gr ob o2 k10
              go_wp2
              go_roundw
              case rel => exact ⟨k + 1, vs2, vw2, rfl, rfl, by omega, by go_num, by rw [F.out]; exact push_virt o3, by rw [F.out]; exact push_wcs o4 rfl, hidden ne3, hb⟩
              case measure => simp [intOf]; omega
          · skip
            have Bn := (Below.refl w6.heap.size w6).alloc (Nat.le_refl _) (boxW s v p n)
            have k10 := blk_wf w6 s v p n _ rfl
            have s10 : g13 ≤ w6.heap.size := Nat.le_of_lt bx.lt
            replace bx := bx.ext Bn
            replace o1 := owns_belowS o1 Bn
            replace o2 := owns_belowS o2 Bn
            replace hb := below_then hb Bn
            clear Bn
            go_simp
            refine hK.out _ _ ⟨bx, bx, trivial⟩ ?_
            try simp only [Act.put, List.setIfInBounds_toArray, List.set_cons_zero, List.set_cons_succ]
            clear hK K
            generalize w6.heap.size = g10 at *
            generalize w6.alloc (boxW s v p n) = w6 at *
            refine c_move 6 (by kernel_rfl) (c_op 6 [(4, (fun w' => BxW w' g13 s v p n)), (2, (fun w' => BxW w' g13 s v p n))] (by kernel_rfl) rfl (by kernel_rfl) (fun K hK => ?_))
            have Bn := (Below.refl w6.heap.size w6).alloc (Nat.le_refl _) (.cells #[.int .i64 v, .int .i64 n] 78)
            have k6 := Blk.new w6 78 [.int .i64 v, .int .i64 n]
            have s6 : g13 ≤ w6.heap.size := Nat.le_of_lt bx.lt
            replace bx := bx.ext Bn
            replace o1 := owns_belowS o1 Bn
            replace o2 := owns_belowS o2 Bn
            replace hb := below_then hb Bn
            replace k10 := k10.below Bn k10.lt
            clear Bn
            go_simp
            refine hK.out _ _ ⟨bx, bx, trivial⟩ ?_
            try simp only [Act.put, List.setIfInBounds_toArray, List.set_cons_zero, List.set_cons_succ]
            clear hK K
            generalize w6.heap.size = g6 at *
            generalize w6.alloc (.cells #[.int .i64 v, .int .i64 n] 78) = w6 at *
            refine c_move 7 (by kernel_rfl) (c_op 7 [(4, (fun w' => BxW w' g13 s v p n)), (2, (fun w' => BxW w' g13 s v p n))] (by kernel_rfl) rfl (by kernel_rfl) (fun K hK => ?_))
            refine wp_pushL (v := vs) (.tmp 35) (.tmp 41) 77 78 rfl w.heap.size 2 16 (spV 0 0) Try.underlying77 info_rsp (by decide) (by decide) rfl o1 g6 1 [.int .i64 v, .int .i64 n] rfl k6 rfl one_sf ?_ ?_ hb.size ?_
            · omega
            · unfold maxLen; omega
            intro vs2 w7 o3 gr ob
            replace bx := BxW.grownL bx gr (fun e => absurd (l1 _ e) (Nat.lt_irrefl _))
            replace k10 := Blk.grownL k10 gr (fun e => absurd (l1 _ e) (by omega))
            replace hb := hb.grown gr hb.size (fun k hk => (o1.lt k hk).1)
            have ne2 := NE.step1 ne ob (fun k hk => (o2.lt k hk).2)
            replace o2 := o2.kept gr (NE.right ne)
            refine hK.out _ _ ⟨bx, bx, trivial⟩ ?_
            try simp only [Act.put, List.setIfInBounds_toArray, List.set_cons_zero, List.set_cons_succ]
            clear hK K
            clear gr ob o1 k6
            have ew : ∃ w6, w6 = w7 := ⟨_, rfl⟩
            obtain ⟨w6, rfl⟩ := ew
            refine c_move 11 (by kernel_rfl) (c_op 11 [(4, (fun w' => BxW w' g13 s v p n)), (2, (fun w' => BxW w' g13 s v p n))] (by kernel_rfl) rfl (by kernel_rfl) (fun K hK => ?_))
            refine wp_pushL (v := vw) (.tmp 43) (.tmp 45) 22 28 rfl w.heap.size 4 32 zW Try.underlying22 info_wn rfl (by decide) rfl o2 g10 1 (wf (s, v, p, n)) rfl k10 rfl (one_wf _) ?_ ?_ hb.size ?_
            · omega
            · unfold maxLen; omega
            intro vw2 w7 o4 gr ob
            replace bx := BxW.grownL bx gr (fun e => absurd (l2 _ e) (Nat.lt_irrefl _))
            replace hb := hb.grown gr hb.size (fun k hk => (o2.lt k hk).1)
            have ne3 := NE.step2 ne2 ob (fun k hk => (o3.lt k hk).2)
            replace o3 := o3.kept gr (NE.left ne2)
            refine hK.out _ _ ⟨bx, bx, trivial⟩ ?_
            try simp only [Act.put, List.setIfInBounds_toArray, List.set_cons_zero, List.set_cons_succ]
            clear hK K
            refine c_P ⟨bx, bx, trivial⟩ 12 rfl ?_
            refine c_P ⟨bx, bx, trivial⟩ 13 rfl ?_
            refine c_done (by kernel_rfl) ?_
            clear gr ob o2 k10
            go_wp2
            go_roundw
            case rel => exact ⟨k + 1, vs2, vw2, rfl, rfl, by omega, by go_num, by rw [F.out]; exact push_virt o3, by rw [F.out]; exact push_wcs o4 rfl, hidden ne3, hb⟩
            case measure => simp [intOf]; omega
        · have d : (s == sp) = false := by simpa using ts
          rw [decide_eq_false ts] at F
          simp only [Bool.false_eq_true, if_false, List.append_nil] at F
          clear ts
          go_wp2_with fail
          refine (C.out _).mono ?_
          rintro e w1 ⟨rfl, B1⟩
          obtain ⟨q0, q1, q2, q3⟩ := (HX.out.ext B1).cells
          go_wp2
          go_roundw
          case rel => exact ⟨k + 1, _, _, rfl, rfl, by omega, by go_num, by rw [F.out]; exact owns_belowS H1.out B1, by rw [F.out]; exact owns_belowS H2.out B1, hne, below_then HB.out B1⟩
          case measure => simp [intOf]; omega
    · have e : l.take k = l := List.take_of_length_le (by omega)
      rw [e] at o1 o2
      have S1 : Sps wr vs (virt (sel sp l)) := Sps.of_owns (by simpa [virt] using o1)
      have W2 := Lsf.of_owns wf_len (by decide) o2
      clear o1 o2 hne
      generalize hM : sel sp l = m at *
      have HM := hidden hM
      clear hSEL HSEL hM
      go_wp2_with fail
      refine (C4.out _ _ S1).mono ?_
      rintro e w4 ⟨v4, rfl, o4, B4⟩
      have S4 := Sps.of_owns o4
      replace W2 := W2.ext B4
      replace B4 := below_then hb B4
      clear o4 S1 C4 hb
      cases R with
      | none =>
        go_wp2
        refine bodyPost_ret (v := _) (by simp [results, Try.results15, go_sem]; with_reducible rfl) rfl ?_
        exact ⟨_, rfl, Lsf.nil _, B4⟩
      | some c =>
        simp only [Option.isSome_some, Option.getD_some] at S4 ⊢
        have hcl := RL.out c rfl
        have RN := hidden (RM.out c rfl)
        clear RL RM
        obtain ⟨ac, capc, rfl, -⟩ := id S4
        obtain ⟨-, hc4, hm4, -⟩ := S4.at
        obtain ⟨aw, capw, rfl, -⟩ := id W2
        obtain ⟨-, hcw, hmw, -⟩ := W2.at
        unfold maxLen at hm4 hmw
        have HW := hidden W2
        have HS := hidden S4
        have HB := hidden B4
        have d0 : decide ((k : Int) < (l.length : Int)) = false := by simp; omega
        clear B4 W2 S4
        go_wp2
        clear d0
        go_loopw [16, 60] (fun z i wr => ∃ (k : Nat) (vo : Value), vo = z ∧ k ≤ c.length ∧ i = .int .i64 k ∧ wr.ownsRow w4.heap.size 56 3 vo (lay m (c.take k)).length (pcs (lay m (c.take k))) ∧ Below w4.heap.size w4 wr) (fun _ i _ => c.length - (intOf i).toNat)
        case atStart => exact ⟨0, _, rfl, Nat.zero_le _, rfl, owns_nilL _ _ _ _, Below.refl _ _⟩
        case round =>
          obtain ⟨j, vo, rfl, hj, rfl, own, hb⟩ := hrel
          by_cases hlj : j < c.length
          · obtain ⟨⟨p, q⟩, hx⟩ := getx hlj
            obtain ⟨b, off, rfl, c0, c1⟩ := (HS.out.ext hb).get hx
            have hlj' : (j : Int) < (c.length : Int) := by omega
            obtain ⟨xw, xmem, xf, q1, xe, p0, pm⟩ := RN.out p q (List.mem_of_getElem? hx)
            have HL := hidden (lay_snoc (l := m) hx)
            have XF : Hid (m.find? (fun x => hasB (vS x) p) = some xw ∧ wR xw = true ∧ p + q ≤ xw.2.1 + xw.2.2.2) := ⟨xf, SO.out _ xmem, xe⟩
            have hlen2 : (lay m (c.take j)).length = j := by rw [lay_len]; simp; omega
            generalize lay m (c.take j) = P at *
            have bp := Bx.new wr 78 p q
            have hb0 := hb.alloc hb.size (.cells #[.int .i64 p, .int .i64 q] 78)
            have lo : ∀ k, vo.ownBlock = some k → k < wr.heap.size := fun k hk => (own.lt k hk).2
            replace own := owns_belowS own ((Below.refl _ _).alloc (Nat.le_refl _) (.cells #[.int .i64 p, .int .i64 q] 78))
            clear xmem xf xe
            obtain ⟨wo, hwo⟩ : ∃ wo, wo = wr := ⟨_, rfl⟩
            subst hwo
            go_wp2
            clear c0 c1 hb
            generalize wo.heap.size = g18 at *
            generalize wo.alloc (.cells #[.int .i64 p, .int .i64 q] 78) = w5 at *
            go_loopw [16, 66] (fun z i wr => ∃ t : Nat, vo = z ∧ t ≤ m.length ∧ i = .int .i64 t ∧ Hid ((m.take t).find? (fun x => hasB (vS x) p) = none) ∧ Bx wr g18 78 p q ∧ wr.ownsRow w4.heap.size 56 3 vo P.length (pcs P) ∧ Below w4.heap.size w4 wr) (fun _ i _ => m.length - (intOf i).toNat)
            case atStart => exact ⟨0, rfl, Nat.zero_le _, rfl, hidden rfl, bp, own, hb0⟩
            case round =>
              clear bp own hb0
              obtain ⟨t, rfl, ht, rfl, HF, bp, own, hb⟩ := hrel
              by_cases hlu : t < m.length
              · obtain ⟨⟨s2, v2, p2, n2⟩, hy⟩ := getx hlu
                obtain ⟨bb, ofb, rfl, c0, c1, c2, c3⟩ := (HW.out.ext hb).wn hy
                have hlu' : (t : Int) < (m.length : Int) := by omega
                have hw2 := SO.out _ (List.mem_of_getElem? hy)
                have hr := wR_iff.1 hw2
                have D := hidden (fun w => rin_any p q v2 n2 w (by unfold i64; omega) (by unfold i64; omega))
                have b9 := BxW.new wr s2 v2 p2 n2
                have E0 := (Below.refl wr.heap.size wr).alloc (Nat.le_refl _) (boxW s2 v2 p2 n2)
                replace bp := bp.ext E0
                replace own := owns_belowS own E0
                replace hb := below_then hb E0
                have ltp := bp.lt
                obtain ⟨q0, q1', q2, q3⟩ := b9.cells
                obtain ⟨r0, r1⟩ := bp.cells2
                clear E0
                cases tt : hasB (v2, n2) p
                · rw [in_no q1 tt] at D
                  have E2 := hidden (find_snoc (q := fun x => hasB (vS x) p) hy HF.out tt)
                  go_wp2_with fail
                  refine (D.out _).mono ?_
                  rintro e w6 ⟨rfl, B6⟩
                  go_wp2
                  go_roundw
                  case rel => exact ⟨t + 1, rfl, by omega, by go_num, E2, bp.ext B6, owns_belowS own B6, below_then hb B6⟩
                  case measure => simp [intOf]; omega
                · have ef := find_sel (q := fun x => hasB (vS x) p) hy HF.out tt
                  obtain ⟨x1, x2, x3⟩ := XF.out
                  rw [ef] at x1
                  cases x1
                  simp only at x3
                  rw [in_of (vS_tk hw2) p0 q1 pm tt x3] at D
                  have hh := hasB_iff.1 tt
                  simp only at hh
                  have EL : Hid (liesI m p = p2 + p - v2) := by
                    show _ = _
                    unfold liesI
                    rw [ef]
                    simp only
                    omega
                  clear ef x2
                  go_wp2_with fail
                  refine (D.out _).mono ?_
                  rintro e w6 ⟨rfl, B6⟩
                  replace bp := bp.ext B6
                  replace b9 := b9.ext B6
                  replace own := owns_belowS own B6
                  replace hb := below_then hb B6
                  clear q0 q1' q2 q3 r0 r1 c0 c1 c2 c3 B6 ltp
                  obtain ⟨q0, q1', q2, q3⟩ := b9.cells
                  obtain ⟨r0, r1⟩ := bp.cells2
                  have H2 := hidden (hb.alloc hb.size (.cells #[.int .i64 p, .int .i64 (p2 + p - v2), .int .i64 q] 56))
                  have O2 := hidden (owns_belowS own ((Below.refl _ _).alloc (Nat.le_refl _) (.cells #[.int .i64 p, .int .i64 (p2 + p - v2), .int .i64 q] 56)))
                  go_wp2_with (at_builtin; refine wpList_pushL (v := vo) rfl (.tmp 77) (.tmp 91) 53 56 rfl w4.heap.size 3 24 (.agg #[.int .i64 0, .int .i64 0, .int .i64 0]) Try.underlying53 info_rpc rfl (by decide) rfl O2.out _ 1 (pf (p, p2 + p - v2, q)) rfl ?h0 rfl (one_pf _) ?h1 ?h2 ?h3 ?h4)
                  case h0 => exact Blk.new w6 56 [.int .i64 p, .int .i64 (p2 + p - v2), .int .i64 q]
                  case h1 => omega
                  case h2 => unfold maxLen; omega
                  case h3 => exact H2.out.size
                  case h4 =>
                    intro v' w7 own7 gr7 _
                    have B7 := H2.out.grown gr7 H2.out.size (fun k hk => (O2.out.lt k hk).1)
                    go_wp2
                    go_roundw
                    case rel => exact ⟨j + 1, _, rfl, by omega, by go_num, by rw [HL.out, EL.out]; exact push_pcs own7 hlen2.symm, B7⟩
                    case measure => simp [intOf]; omega
              · exfalso
                have e : m.take t = m := List.take_of_length_le (by omega)
                rw [e] at HF
                have := XF.out.1
                rw [HF.out] at this
                cases this
          · have e : c.take j = c := List.take_of_length_le (by omega)
            rw [e] at own
            go_wp2
            refine bodyPost_ret (v := _) (by simp [results, Try.results15, go_sem]; with_reducible rfl) rfl ?_
            obtain rfl := HM.out
            exact ⟨_, rfl, Lsf.of_owns pf_len (by decide) own, below_then HB.out hb⟩

end Go.Proofs.Ytpahipoooiaoeaa
