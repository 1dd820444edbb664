/- The walk of burgagelaw10.WindowTells. -/
import Derived.Test.YtpahipoooiaoeaaWP
import Derived.Laws.AppendOwnNone
namespace Go.Proofs.Ytpahipoooiaoeaa
open Go.RowKit

/-- append of a whole list of windows -/
theorem appW_run {w : World} (ty : TypeId) (base : Nat) {v sv : Value} {l news : WL} (hown : w.ownsRow base 28 4 v l.length (wcs l)) (hs : Wns w sv news) (h1 : l.length + news.length ≤ 1000000) (hbase : base ≤ w.heap.size) :
    ∃ v' w', (Builtin.append_ #[22, 22] ty #[v, sv]).run Try.prog w = .ok v' w' ∧ w'.ownsRow base 28 4 v' (l ++ news).length (wcs (l ++ news)) ∧ w.grownBy w' v.ownBlock := by
  obtain ⟨i, hi, hz, hsz, hby⟩ := info_parts info_wn
  obtain ⟨ax, cap, rfl, h2, h3, h5, h4⟩ := hs
  have one : ∀ u ∈ wcs news, u.oneCell' = true := by
    intro u hu
    obtain ⟨y, -, hy⟩ := List.mem_flatMap.1 hu
    exact one_wf y u hy
  have some_case : ∀ ad, ax = some ad → (∀ j u, (wcs news)[j]? = some u → w.cell? (ad.add j) = some u) → ∃ v' w', (Builtin.append_ #[22, 22] ty #[v, .slice ax news.length cap]).run Try.prog w = .ok v' w' ∧ w'.ownsRow base 28 4 v' (l ++ news).length (wcs (l ++ news)) ∧ w.grownBy w' v.ownBlock := by
    rintro ad rfl hc
    obtain ⟨v', w', hr, q1, q2, -⟩ := run_append_own_at (P := Try.prog) w base 22 ty 28 i _ 4 32 Try.underlying22 hi hz hsz hby rfl (by decide) v l.length _ hown ad news.length cap (wcs news) (wcs_len _) hc one (by unfold maxLen; omega) (by omega) hbase
    refine ⟨v', w', hr, ?_, q2⟩
    rw [List.length_append, wcs_app]
    exact q1
  rcases h4 with rfl | ⟨b, off, rfl, hc⟩
  · cases ax with
    | some ad => exact some_case ad rfl (fun j u hj => by simp [wcs] at hj)
    | none =>
      obtain rfl := h5 rfl
      exact ⟨v, w, run_append_owned_none (P := Try.prog) (w := w) base 22 ty 28 i 4 Try.underlying22 hi v l.length _ hown, by simpa using hown, World.grownBy.refl _ _⟩
  · refine some_case _ rfl (fun j u hj => ?_)
    have hadd : (⟨b, off, none⟩ : Addr).add j = ⟨b, off + j, none⟩ := by unfold Addr.add; split <;> simp_all
    have hj' : j < (wcs news).length := (List.getElem?_eq_some_iff.1 hj).1
    rw [wcs_len] at hj'
    rw [hadd]
    obtain ⟨y, hx⟩ := getx (l := news) (i := j / 4) (by omega)
    have hm : j / 4 * 4 + j % 4 = j := by omega
    obtain ⟨u', hu'⟩ := getx (l := wf y) (i := j % 4) (by rw [wf_len]; omega)
    have e : (wcs news)[j]? = some u' := by
      have := flatMap_get wf_len news (j / 4) _ hx (j % 4) u' hu'
      rw [hm] at this
      exact this
    rw [hj] at e
    cases e
    have := hc (j / 4) _ hx (j % 4) u hu'
    rw [Nat.add_assoc, hm] at this
    exact this
theorem wpList_appW {w : World} {ops : Array Oper} {rest : List Oper} {o : Oper} {a : Act} {Q : Exit → Act → World → Prop} (hgd : Region.wanted o (yielded ops a.tmps) = true) (s x : Operand)
    (ho : o.op = .call { callee := .builtin .append, args := #[s, x], argTypes := #[22, 22] })
    (base : Nat) {v sv : Value} {l news : WL} (hsv : a.eval s = v) (hown : w.ownsRow base 28 4 v l.length (wcs l)) (hxv : a.eval x = sv) (hs : Wns w sv news)
    (h1 : l.length + news.length ≤ 1000000) (hbase : base ≤ w.heap.size)
    (h : ∀ v' w', w'.ownsRow base 28 4 v' (l ++ news).length (wcs (l ++ news)) → w.grownBy w' v.ownBlock → wpList Try.prog ops Q rest (a.put o.dst v') w') : wpList Try.prog ops Q (o :: rest) a w := by
  obtain ⟨v', w', hrun, r1, r2⟩ := appW_run o.type base hown hs h1 hbase
  unfold wpList
  rw [if_pos hgd]
  refine .inl ?_
  unfold Oper.wp
  simp [execOp, ho, resolve, invoke, builtin, hsv, hxv, hrun, Result.andThen]
  exact h v' w' r1 r2

/-- a list cut to ten windows at most -/
theorem cut_ten {w : World} {v : Value} {l : WL} (h : Wns w v l) (ho : OkW l) : ∃ a cap nb, ∃ lb : WL, v = .slice a l.length cap ∧ l.length ≤ cap ∧ cap ≤ 9223372036854775807 ∧ nb ≤ 10 ∧ nb ≤ l.length ∧ lb.length = nb ∧ (if (10 : Int) < (l.length : Int) then (10 : Int) else (l.length : Int)) = (nb : Int) ∧ Wns w (.slice a nb cap) lb ∧ OkW lb := by
  obtain ⟨a, cap, rfl, h1, h2, -⟩ := id h
  refine ⟨a, cap, min 10 l.length, l.take (min 10 l.length), rfl, h1, h2, by omega, by omega, by simp, by split <;> omega, h.take _ (by omega), ho.take _⟩

set_option maxRecDepth 100000 in
set_option maxHeartbeats 8000000 in
theorem tells_law (at' bt : Option Addr) (m cap m2 cap2 : Nat) (l l2 : List Int) (i sp ai ni : Int) (vr vm : Value) (rs ms : WL) (w : World) (h : Row w (.slice at' m cap) (l.map iV)) (hi : ∀ x ∈ l, -9223372036854775808 ≤ x ∧ x ≤ 9223372036854775807)
    (h2 : Row w (.slice bt m2 cap2) (l2.map iV)) (hi2 : ∀ x ∈ l2, -9223372036854775808 ≤ x ∧ x ≤ 9223372036854775807) (hr : Wns w vr rs) (or : OkW rs) (hm : Wns w vm ms) (om : OkW ms) (bn : i64 ni) :
    Calls Try.prog 4 #[.slice at' m cap, .slice bt m2 cap2, .int .i64 i, .int .i64 sp, .int .i64 ai, .int .i64 ni, vr, vm] w fun e w' => e = .returned (.bool true) ∧ Below w.heap.size w w' := by
  obtain ⟨x1, e1, b1⟩ := mask_any i 2 (by omega) 3 rfl
  obtain ⟨x2, e2, b2⟩ := mask_any ai 2 (by omega) 3 rfl
  obtain ⟨x3, e3, b3⟩ := mask_any sp 2 (by omega) 3 rfl
  obtain ⟨x4, e4, b4⟩ := mask_any ai 6 (by omega) 63 rfl
  obtain ⟨x5, e5, b5⟩ := mask_any ni 6 (by omega) 63 rfl
  obtain ⟨x6, e6, b6⟩ := mask_any ni 5 (by omega) 31 rfl
  obtain ⟨ar, cr, nr, lr, rfl, cr1, cr2, nr1, nr2, nr3, nr4, wr1, or1⟩ := cut_ten hr or
  obtain ⟨am, cm, nm, lm, rfl, cm1, cm2, nm1, nm2, nm3, nm4, wm1, om1⟩ := cut_ten hm om
  have HR := hidden wr1
  have HM := hidden wm1
  have OR := hidden or1
  have OM := hidden om1
  have H2 := hidden h2
  have HI2 := hidden hi2
  have BN := hidden bn
  have NR := hidden nr3
  have NM := hidden nm3
  clear hr or hm om wr1 wm1 or1 om1 h2 hi2 bn nr3 nm3
  go_enter Try.func4, Try.ntmps4
  go_wp2_with fail
  refine (windows_law at' m cap l x1 _ h hi (by omega)).mono ?_
  rintro e w1 ⟨v1, rfl, ⟨ws1, t1, W1, ht1, gw1⟩, B1⟩
  have H2b := hidden (H2.out.below B1)
  have HB := hidden B1
  clear H2 h
  go_wp2_with fail
  refine (windows_law bt m2 cap2 l2 x2 _ H2b.out HI2.out (by omega)).mono ?_
  rintro e w2 ⟨v2, rfl, ⟨ws2, t2, W2, ht2, gw2⟩, B2⟩
  replace W1 := W1.ext B2
  replace HB := hidden (below_then HB.out B2)
  have O1 := hidden (gw1.okw ht1)
  have O2 := hidden (gw2.okw ht2)
  have L1 := hidden gw1.len
  have L2 := hidden gw2.len
  have HR2 := hidden (HR.out.ext HB.out)
  have HM2 := hidden (HM.out.ext HB.out)
  obtain ⟨a1, c1, rfl, -⟩ := id W1
  obtain ⟨a2, c2, rfl, -⟩ := id W2
  have HW1 := hidden W1
  have HW2 := hidden W2
  clear H2b B1 B2 W1 W2 gw1 gw2 HR HM HI2
  go_wp2
  go_quiet (fail)
  have Bq := below_drewn0 w2.heap.size w2 nq
  replace HW1 := hidden (HW1.out.ext Bq)
  replace HW2 := hidden (HW2.out.ext Bq)
  replace HR2 := hidden (HR2.out.ext Bq)
  replace HM2 := hidden (HM2.out.ext Bq)
  replace HB := hidden (below_then HB.out Bq)
  clear Bq
  generalize w2.drewN nq = w3 at *
  go_wp2_with fail
  refine (same_law _ _ ws1 ws2 x3 x4 x5 _ HW1.out HW2.out O1.out O2.out (by unfold i64; omega) (Nat.le_trans L1.out (by omega)) (Nat.le_trans L2.out (by omega))).mono ?_
  rintro e w4 ⟨rfl, B⟩
  replace HW1 := hidden (HW1.out.ext B)
  replace HW2 := hidden (HW2.out.ext B)
  replace HR2 := hidden (HR2.out.ext B)
  replace HM2 := hidden (HM2.out.ext B)
  replace HB := hidden (below_then HB.out B)
  clear B
  go_wp2_with fail
  refine (same_law _ _ ws1 ws2 sp ai ni _ HW1.out HW2.out O1.out O2.out BN.out (Nat.le_trans L1.out (by omega)) (Nat.le_trans L2.out (by omega))).mono ?_
  rintro e w5 ⟨rfl, B⟩
  replace HW1 := hidden (HW1.out.ext B)
  replace HR2 := hidden (HR2.out.ext B)
  replace HM2 := hidden (HM2.out.ext B)
  replace HB := hidden (below_then HB.out B)
  clear B HW2
  go_wp2_with fail
  refine (same_law _ _ lr lm sp ai ni _ HR2.out HM2.out OR.out OM.out BN.out (by have := NR.out; omega) (by have := NM.out; omega)).mono ?_
  rintro e w6 ⟨rfl, B⟩
  replace HW1 := hidden (HW1.out.ext B)
  replace HR2 := hidden (HR2.out.ext B)
  replace HM2 := hidden (HM2.out.ext B)
  replace HB := hidden (below_then HB.out B)
  have E := (Below.refl w6.heap.size w6).alloc (Nat.le_refl _) (.cells #[] 28)
  have OL := hidden (World.ownsRow_made (base := w6.heap.size) (e := 28) (size := 4) w6 #[] 0 (Nat.le_refl _) (Nat.zero_le _) (by simp))
  have HW0 := hidden HW1.out
  have HM0 := hidden HM2.out
  replace HR2 := hidden (HR2.out.ext E)
  have HE := hidden E
  clear B E
  go_wp2_with (at_builtin; refine wpList_appW (l := []) (news := lr) (by kernel_rfl) (.tmp 65) (.tmp 66) rfl w6.heap.size rfl OL.out rfl HR2.out (by have := NR.out; simp; omega) HE.out.size ?_)
  intro v7 w7 own7 gr7
  have B7 := hidden (HE.out.grown gr7 HE.out.size (fun k hk => (OL.out.lt k hk).1))
  have HW7 := hidden (HW0.out.ext B7.out)
  have OL7 := hidden own7
  go_wp2_with (at_builtin; refine wpList_appW (v := v7) (l := [] ++ lr) (news := ws1) (by kernel_rfl) (.tmp 67) (.tmp 68) rfl w6.heap.size rfl OL7.out rfl HW7.out (by have := NR.out; have := L1.out; simp; omega) B7.out.size ?_)
  intro v8 w8 own8 gr8
  have B8 := hidden (B7.out.grown gr8 B7.out.size (fun k hk => (OL7.out.lt k hk).1))
  have W8 : Wns w8 v8 (lr ++ ws1) := Lsf.of_owns wf_len (by decide) own8
  have HM8 := hidden (HM0.out.ext B8.out)
  have O8 := hidden (OR.out.app O1.out)
  have L8 : Hid ((lr ++ ws1).length ≤ 1000000) := by show _ ≤ _; have := NR.out; have := L1.out; simp; omega
  clear own7 own8 gr7 gr8
  obtain ⟨a8, c8, rfl, -⟩ := id W8
  have H8 : Hid (Wns w8 (.slice a8 (lr.length + ws1.length) c8) (lr ++ ws1)) := by
    show Wns _ _ _
    rw [← List.length_append]
    exact W8
  clear W8
  go_wp2_with fail
  refine (same_law _ _ (lr ++ ws1) lm x3 x4 (1 + (x6 : Int)) _ H8.out HM8.out O8.out OM.out (by unfold i64; omega) L8.out (by have := NM.out; omega)).mono ?_
  rintro e w9 ⟨rfl, B⟩
  have B9 := hidden (below_then (below_then HB.out B8.out) B)
  clear B
  go_wp2_with fail
  refine (known_law _).mono ?_
  rintro e w10 ⟨rfl, B⟩
  have B10 := hidden (below_then B9.out B)
  clear B
  go_wp2
  go_ret
  exact ⟨rfl, B10.out⟩

end Go.Proofs.Ytpahipoooiaoeaa
