/- burgagelaw11.oddTable: which table it answers does not matter. -/
import Derived.Test.YtffjhimdamdenaaBN
import Derived.Test.YtffjhimdamdenaaW1
namespace Go.Proofs.Ytffjhimdamdenaa
open Go.RowKit

theorem owns_nr {w : World} {N M s t n m : Nat} {e f : TypeId} {v u : Value} {xs ys : List Value} (h : w.ownsRow N e s v n xs) (k : w.ownsRow M f t u m ys) (hef : e ≠ f) : v.ownBlock = none ∨ v.ownBlock ≠ u.ownBlock := by
  rcases hb : v.ownBlock with _ | g
  · exact .inl rfl
  · exact .inr (fun e => owns_ne h k hef g hb e.symm)
theorem OkW.push {l : WL} (h : OkW l) {s v p n : Int} (hq : i64 s ∧ i64 v ∧ i64 p ∧ i64 n) : OkW (l ++ [(s, v, p, n)]) := h.app (fun x hx => by
  simp only [List.mem_singleton] at hx
  subst hx
  exact hq)
theorem OkL.push {l : SL} (h : OkL l) {p n : Int} (hq : i64 p ∧ i64 n) : OkL (l ++ [(p, n)]) := fun x hx => by
  rcases List.mem_append.1 hx with hx | hx
  · exact h x hx
  · simp only [List.mem_singleton] at hx
    subst hx
    exact hq
theorem owns_sl {w : World} {base size n : Nat} {e : TypeId} {v : Value} {xs : List Value} (h : w.ownsRow base e size v n xs) : ∃ a c, v = .slice a n c ∧ n ≤ c ∧ c ≤ 9223372036854775807 ∧ (0 < n → ∃ g, a = some ⟨g, 0, none⟩) := by
  rcases h.2 with ⟨rfl, rfl⟩ | ⟨g, cap, cur, rfl, -, -, h1, h2, -⟩
  · exact ⟨none, 0, rfl, Nat.le_refl _, Nat.zero_le _, fun h => absurd h (Nat.lt_irrefl _)⟩
  · exact ⟨_, cap, rfl, h1, h2, fun _ => ⟨g, rfl⟩⟩
/-- append of a whole list, as an operation of a region that draws -/
theorem op_appL {α : Type} {k by_ : Nat} {f : α → List Value} {tS tE : TypeId} {z : Value} (E : EK k by_ f tS tE z) {w : World} {o : Oper} {a : Act} {K : Act → World → Prop} {Q : Exit → Act → World → Prop} (s x : Operand)
    (ho : o.op = .call { callee := .builtin .append, args := #[s, x], argTypes := #[tS, tS] })
    (base : Nat) {v sv : Value} {m : Nat} {xs : List Value} {news : List α} (hsv : a.eval s = v) (hown : w.ownsRow base tE k v m xs) (hxv : a.eval x = sv) (hs : Lsf k f w sv news) (one : ∀ u ∈ news.flatMap f, u.oneCell' = true)
    (h1 : m + news.length ≤ 1000000) (hbase : base ≤ w.heap.size)
    (h : ∀ v' w', w'.ownsRow base tE k v' (m + news.length) (xs ++ news.flatMap f) → w.grownBy w' v.ownBlock → (v'.ownBlock = v.ownBlock ∨ v'.ownBlock = some w.heap.size) → K (a.put o.dst v') w') : Oper.wp Try.prog o a w K Q := by
  obtain ⟨v', w', hrun, r1, r2, r3⟩ := appL_run E o.type base hown hs one h1 hbase
  unfold Oper.wp
  simp [execOp, ho, resolve, invoke, builtin, hsv, hxv, hrun, Result.andThen]
  exact h v' w' r1 r2 r3
def OddR (w w' : World) (b : Nat) (fr : Int) (v : Value) : Prop := i64 fr ∧ Below w.heap.size w w' ∧ ∃ l, Tns w' v l ∧ OkTb b l
theorem OddR.of {w wz w2 : World} {b k : Nat} {fr : Int} {es : List TE} {v : Value} {e : TE} (hf : i64 fr) (T : OdT w wz k es v e) (ow : wz.ownsRow (w.heap.size + 1 + 1) 45 4 e.2.1 e.1.ws.length (e.1.ws.flatMap wf)) (os : wz.ownsRow (w.heap.size + 1 + 1) 48 2 e.2.2 e.1.ss.length (e.1.ss.flatMap sf)) (ok : OkTb b (es.map (·.1))) (u1 u2 : Value) (h2 : w2 = (wz.setCell ⟨w.heap.size + 1, 0, none⟩ u1).setCell ⟨w.heap.size + 1, 1, none⟩ u2) : OddR w w2 b fr v := by
  subst h2
  have lt : ∀ {M s n : Nat} {t : TypeId} {v : Value} {xs : List Value} {w' : World}, w'.ownsRow (w.heap.size + 1 + 1) t s v n xs → v.ownBlock ≠ some (w.heap.size + 1) := fun h e => by have := (h.lt _ e).1; omega
  have T1 := T.put (w.heap.size + 1) 0 u1 (by omega) (lt (M := 0) T.ot)
  have T2 := T1.put (w.heap.size + 1) 1 u2 (by omega) (lt (M := 0) T1.ot)
  have o1 := owns_set2 (u := u1) ow (w.heap.size + 1) 0 (lt (M := 0) ow)
  have o2 := owns_set2 (u := u2) o1 (w.heap.size + 1) 1 (lt (M := 0) o1)
  have p1 := owns_set2 (u := u1) os (w.heap.size + 1) 0 (lt (M := 0) os)
  have p2 := owns_set2 (u := u2) p1 (w.heap.size + 1) 1 (lt (M := 0) p1)
  exact ⟨hf, T2.bb, _, T2.tns o2 p2, ok⟩
theorem OddR.dup {w wz w2 wo : World} {b k m : Nat} {fr : Int} {es : List TE} {v vo : Value} {e : TE} (hf : i64 fr) (T : OdT w wo k es vo e) (bb : Below w.heap.size w wz) (ot : wz.ownsRow (w.heap.size + 1 + 1) 43 5 v m (tcs es ++ tf e)) (ow : wz.ownsRow (w.heap.size + 1 + 1) 45 4 e.2.1 e.1.ws.length (e.1.ws.flatMap wf)) (os : wz.ownsRow (w.heap.size + 1 + 1) 48 2 e.2.2 e.1.ss.length (e.1.ss.flatMap sf)) (ok : OkTb b (es.map (·.1))) (u1 u2 : Value) (h2 : w2 = (wz.setCell ⟨w.heap.size + 1, 0, none⟩ u1).setCell ⟨w.heap.size + 1, 1, none⟩ u2) : OddR w w2 (b + 1) fr v := by
  subst h2
  have lt : ∀ {M s n : Nat} {t : TypeId} {v : Value} {xs : List Value} {w' : World}, w'.ownsRow (w.heap.size + 1 + 1) t s v n xs → v.ownBlock ≠ some (w.heap.size + 1) := fun h e => by have := (h.lt _ e).1; omega
  have t1 := owns_set2 (u := u1) ot (w.heap.size + 1) 0 (lt (M := 0) ot)
  have t2 := owns_set2 (u := u2) t1 (w.heap.size + 1) 1 (lt (M := 0) t1)
  have o1 := owns_set2 (u := u1) ow (w.heap.size + 1) 0 (lt (M := 0) ow)
  have o2 := owns_set2 (u := u2) o1 (w.heap.size + 1) 1 (lt (M := 0) o1)
  have p1 := owns_set2 (u := u1) os (w.heap.size + 1) 0 (lt (M := 0) os)
  have p2 := owns_set2 (u := u2) p1 (w.heap.size + 1) 1 (lt (M := 0) p1)
  have b2 := (bb.setCell (p := ⟨w.heap.size + 1, 0, none⟩) (show w.heap.size ≤ w.heap.size + 1 by omega) u1).setCell (p := ⟨w.heap.size + 1, 1, none⟩) (show w.heap.size ≤ w.heap.size + 1 by omega) u2
  refine ⟨hf, b2, (es ++ [e]).map (·.1), ⟨es ++ [e], rfl, Lsf.of_owns tf_len (by decide) (n := m) (by simpa [tcs] using t2), fun d hd => ?_⟩, ?_⟩
  · have key : d = e → Wns ((wz.setCell ⟨w.heap.size + 1, 0, none⟩ u1).setCell ⟨w.heap.size + 1, 1, none⟩ u2) d.2.1 d.1.ws ∧ Sts ((wz.setCell ⟨w.heap.size + 1, 0, none⟩ u1).setCell ⟨w.heap.size + 1, 1, none⟩ u2) d.2.2 d.1.ss := fun h => by
      subst h
      exact ⟨Lsf.of_owns wf_len (by decide) o2, Lsf.of_owns sf_len (by decide) p2⟩
    rcases List.mem_append.1 hd with hd | hd
    · obtain ⟨j, hj⟩ := List.getElem?_of_mem hd
      by_cases e1 : j = k
      · subst e1
        have := T.hk
        rw [hj] at this
        cases this
        exact key rfl
      · obtain ⟨q1, q2⟩ := T.el j d e1 hj
        exact ⟨q1.ext b2, q2.ext b2⟩
    · exact key (by simpa using hd)
  · refine ⟨fun x hx => ?_, by have := ok.2; simp at *; omega⟩
    rw [List.map_append] at hx
    have hm : x ∈ es.map (·.1) := by
      rcases List.mem_append.1 hx with hx | hx
      · exact hx
      · simp only [List.map_cons, List.map_nil, List.mem_singleton] at hx
        subst hx
        exact List.mem_map.2 ⟨e, List.mem_of_getElem? T.hk, rfl⟩
    obtain ⟨q1, q2, q3⟩ := ok.1 x hm
    exact ⟨q1, by omega, by omega⟩

set_option maxRecDepth 100000 in
set_option maxHeartbeats 16000000 in
theorem odd_any (fr : Int) (v : Value) (l : List Tn) (what at_ n : Int) (b : Nat) (w : World) (ht : Tns w v l) (ok : OkTb b l) (hb : b ≤ 900) (hf : i64 fr) (h1 : i64 what) (h2 : i64 at_) (h3 : i64 n) :
    Calls Try.prog 11 #[taV fr v, .int .i64 what, .int .i64 at_, .int .i64 n] w fun e w' => ∃ fr' v', e = .returned (taV fr' v') ∧ OddR w w' (b + 1) fr' v' := by
  obtain ⟨es0, rfl, hL, hE⟩ := ht
  have HE := hidden hE
  have HF := hidden hf
  have H1 := hidden h1
  have H2 := hidden h2
  have H3 := hidden h3
  have OK := hidden ok
  have ON := hidden (one_tcs hE)
  have HL0 := hidden hL
  have HB := hidden hb
  have HN : Hid (es0.length ≤ 900) := hidden (by have := ok.2; simp at this; omega)
  obtain ⟨a, n0, cap, rfl⟩ := Lsf.isl hL
  obtain ⟨rfl, hc, hm, -⟩ := hL.at
  unfold maxLen at hm
  have x1 := ((BxA.new w fr (.slice a es0.length cap)).alloc (.cells #[.int .i64 0, .slice none 0 0] 24)).alloc (.cells #[] 43)
  have E1 := (Below.refl w.heap.size w).alloc (Nat.le_refl _) (boxA fr (.slice a es0.length cap))
  have x2 := Blk.new (w.alloc (boxA fr (.slice a es0.length cap))) 24 [.int .i64 0, .slice none 0 0]
  have E2 := (E1.alloc E1.size (.cells #[.int .i64 0, .slice none 0 0] 24))
  have HO := hidden (owns_lit0 ((w.alloc (boxA fr (.slice a es0.length cap))).alloc (.cells #[.int .i64 0, .slice none 0 0] 24)) 43 5)
  have E3 := (E2.alloc E2.size (.cells #[] 43))
  replace x2 := x2.alloc (.cells #[] 43)
  simp only [World.size_alloc] at x2
  have HO2 := HO.out
  simp only [World.size_alloc] at HO2
  have HO := hidden HO2
  have HL := hidden (HL0.out.ext E3)
  have HZ : Hid (w.heap.size + 1 + 1 ≤ ((((w.alloc (boxA fr (.slice a es0.length cap))).alloc (.cells #[.int .i64 0, .slice none 0 0] 24)).alloc (.cells #[] 43)).heap.size)) := hidden (by simp)
  clear hL hE ok hf h1 h2 h3 hb HO2 HL0
  obtain ⟨c0, c1⟩ := x1.cells
  go_enter Try.func11, Try.ntmps11
  go_wp2_with (at_builtin; refine wpList_appL ekT (news := es0) (by kernel_rfl) (.tmp 13) (.tmp 15) rfl (w.heap.size + 1 + 1) rfl HO.out rfl HL.out ON.out (by have := HN.out; omega) HZ.out ?_)
  intro v1 w1 q1 q2 q3
  try simp only [Nat.zero_add, List.nil_append] at q1
  have f9 : ∀ g, g < w.heap.size + 1 + 1 → Value.ownBlock (.slice (some ⟨w.heap.size + 1 + 1, 0, none⟩) 0 0) ≠ some g := fun g hg e => by simp [Value.ownBlock] at e; omega
  replace x1 : BxA w1 w.heap.size fr (.slice a es0.length cap) := Blk.grownL x1 q2 (f9 _ (by omega))
  replace x2 := x2.grownL q2 (f9 _ (by omega))
  replace E3 := E3.grown q2 (by simp; omega) (fun g hg => by simp [Value.ownBlock] at hg; omega)
  have f1 : w1.frozen? ⟨w.heap.size, 1, none⟩ = false := Blk.frozen x1 1
  clear c0 c1 q2 q3 f9 E1 E2 HO HL HZ
  obtain ⟨c0, c1⟩ := x1.cells
  obtain ⟨ta, tc, rfl, tc1, tc2, tform⟩ := owns_sl q1
  have y1 : BxA (w1.setCell ⟨w.heap.size, 1, none⟩ (.slice ta es0.length tc)) w.heap.size fr (.slice ta es0.length tc) := Blk.set x1 1 (.slice ta es0.length tc)
  have y2 := x2.set_neW (g := w.heap.size) (by omega) 1 (.slice ta es0.length tc)
  have ot := owns_set2 (u := .slice ta es0.length tc) q1 w.heap.size 1 (fun e => by have := (q1.lt _ e).1; omega)
  have bb := E3.setCell (p := ⟨w.heap.size, 1, none⟩) (Nat.le_refl _) (.slice ta es0.length tc)
  have d0 := x2.cell 0
  have d1 := x2.cell 1
  simp only [List.getElem?_cons_succ, List.getElem?_cons_zero] at d0 d1
  have g0 := x2.frozen 0
  have g1 := x2.frozen 1
  clear x1 x2 q1 E3
  by_cases hl : es0.length = 0
  · have e0 : ((es0.length : Int) == 0) = true := beq_iff_eq.2 (by omega)
    have HLZ := hidden hl
    clear hl
    go_wp2
    generalize w1.setCell ⟨w.heap.size, 1, none⟩ (.slice ta es0.length tc) = w2 at *
    have y3 := (y2.set 0 (.int .i64 fr)).set 1 (.slice ta es0.length tc)
    have t2 := owns_set2 (u := .slice ta es0.length tc) (owns_set2 (u := .int .i64 fr) ot (w.heap.size + 1) 0 (fun e => by have := (ot.lt _ e).1; omega)) (w.heap.size + 1) 1 (fun e => by have := (ot.lt _ e).1; omega)
    have b2 := (bb.setCell (p := ⟨w.heap.size + 1, 0, none⟩) (show w.heap.size ≤ w.heap.size + 1 by omega) (.int .i64 fr)).setCell (p := ⟨w.heap.size + 1, 1, none⟩) (show w.heap.size ≤ w.heap.size + 1 by omega) (.slice ta es0.length tc)
    generalize ((w2.setCell ⟨w.heap.size + 1, 0, none⟩ (.int .i64 fr)).setCell ⟨w.heap.size + 1, 1, none⟩ (.slice ta es0.length tc)) = wZ at *
    clear c0 c1 d0 d1 g0 g1
    have q0 := y3.cell 0
    have q1 := y3.cell 1
    simp at q0 q1
    refine bodyPost_ret (v := _) (by simp [results, Try.results11, go_sem, q0, q1]; with_reducible rfl) rfl ?_
    exact ⟨_, _, rfl, HF.out, b2, _, ⟨es0, rfl, Lsf.of_owns tf_len (by decide) t2, fun e he => ⟨(HE.out e he).1.ext b2, (HE.out e he).2.ext b2⟩⟩, OK.out.mono (by omega)⟩
  have hl0 : 0 < es0.length := by omega
  have e0 : ((es0.length : Int) == 0) = false := beq_eq_false_iff_ne.2 (by omega)
  have hn900 := HN.out
  go_wp2_with fail
  refine (within_any at_ 0 ((es0.length : Int) - 1) _ H2.out (by omega) (by omega) (by omega)).mono ?_
  rintro e w3 ⟨⟨m, rfl, m0, m1⟩, rfl⟩
  clear c0 c1 f1 d0 d1 g0 g1
  generalize w1.setCell ⟨w.heap.size, 1, none⟩ (.slice ta es0.length tc) = w2 at *
  obtain ⟨c0, c1⟩ := y1.cells
  obtain ⟨k, rfl⟩ : ∃ k : Nat, m = k := ⟨m.toNat, by omega⟩
  have hkl : k < es0.length := by omega
  obtain ⟨⟨x, vw0, vs0⟩, hx⟩ := getx hkl
  obtain ⟨gT, rfl⟩ := tform hl0
  obtain ⟨hw0, hs0⟩ := HE.out _ (List.mem_of_getElem? hx)
  have HX := OK.out.1 x (List.mem_map.2 ⟨_, List.mem_of_getElem? hx, rfl⟩)
  have HXX := hidden HX
  clear HX
  have TT : OdT w w2 k es0 (.slice (some ⟨gT, 0, none⟩) es0.length tc) (x, vw0, vs0) := ⟨ot, hx, fun j d _ hd => HE.out d (List.mem_of_getElem? hd), bb⟩
  have hlt1 : (k : Int) < (es0.length : Int) := by omega
  obtain ⟨aw0, nw0, cw0, rfl⟩ := Lsf.isl hw0
  obtain ⟨as0, ns0, cs0, rfl⟩ := Lsf.isl hs0
  have hgT := (ot.lt gT rfl).1
  have hgT2 := (ot.lt gT rfl).2
  have hw9 := y2.lt
  have E9 := (Below.refl w2.heap.size w2).alloc (Nat.le_refl _) (.cells #[] 45)
  have TE9 := hidden (TT.ext E9)
  obtain ⟨c0', c1', c2', c3, c4, g0, f0⟩ := TE9.out.at
  have y19 := y1.ext E9
  have y29 := y2.below E9 y2.lt
  have HO := hidden (owns_lit0 w2 45 4)
  have HLW := hidden ((hw0.ext TT.bb).ext E9)
  have ON := hidden (one_wcs x.ws)
  have LB := hidden (show x.ws.length ≤ 900 ∧ x.ss.length ≤ 900 from ⟨Nat.le_trans HXX.out.2.1 HB.out, Nat.le_trans HXX.out.2.2 HB.out⟩)
  have HS0 := hidden hs0
  clear ot bb hx hw0 hs0 TT y1 y2 tform
  go_wp2_with (at_builtin; refine wpList_appL ekW (news := x.ws) (by kernel_rfl) (.tmp 34) (.tmp 38) rfl w2.heap.size rfl HO.out rfl HLW.out ON.out (by have := LB.out; omega) (by simp) ?_)
  intro v1 w3 q1 q2 q3
  try simp only [Nat.zero_add, List.nil_append] at q1
  have B := (Below.refl w2.heap.size w2).alloc (Nat.le_refl _) (.cells #[] 45)
  replace B := B.grown q2 (by simp) (fun g hg => by simp [Value.ownBlock] at hg; omega)
  have T3 := TE9.out.grown q2 (fun g hg e => by simp [Value.ownBlock] at hg e; omega) (fun g hg => by simp [Value.ownBlock] at hg; omega)
  have y1 : BxA w3 w.heap.size fr _ := Blk.grownL y19 q2 (fun e => by simp [Value.ownBlock] at e; omega)
  have y2 := y29.grownL q2 (fun e => by simp [Value.ownBlock] at e; omega)
  clear c0 c1 c0' c1' c2' c3 c4 g0 f0 HO HLW ON q2 q3 y19 y29 TE9 E9
  obtain ⟨c0', c1', c2', c3, c4, g0, f0⟩ := T3.at
  obtain ⟨aw, cw, rfl, cw1, cw2, formw⟩ := owns_sl q1
  have f3 := f0 3
  have hz3 := B.size
  have T4 := T3.set (j := 3) (u := .slice aw x.ws.length cw) (x, .slice aw x.ws.length cw, .slice as0 ns0 cs0) (by decide) rfl
  have ow := owns_set2 (u := .slice aw x.ws.length cw) (owns_le (base' := w.heap.size + 1 + 1) q1 (by omega)) gT (k * 5 + 3) (T3.ne q1 (by decide) gT rfl)
  replace y1 : BxA (w3.setCell ⟨gT, k * 5 + 3, none⟩ (.slice aw x.ws.length cw)) w.heap.size fr _ := Blk.set_neW (g := gT) y1 (by omega) (k * 5 + 3) (.slice aw x.ws.length cw)
  replace y2 := Blk.set_neW (g := gT) y2 (by omega) (k * 5 + 3) (.slice aw x.ws.length cw)
  have hz4 : (w3.setCell ⟨gT, k * 5 + 3, none⟩ (.slice aw x.ws.length cw)).heap.size = w3.heap.size := by simp [World.setCell]
  have hM4 : (es0.set k (x, .slice aw x.ws.length cw, .slice as0 ns0 cs0)).map (·.1) = es0.map (·.1) := map_set_same T3.hk
  have HM4 := hidden hM4
  clear hM4
  have E9 := (Below.refl _ (w3.setCell ⟨gT, k * 5 + 3, none⟩ (.slice aw x.ws.length cw))).alloc (Nat.le_refl _) (.cells #[] 48)
  have T9 := hidden (T4.ext E9)
  obtain ⟨-, -, -, -, d4, -, -⟩ := T9.out.at
  have y19 := y1.ext E9
  have y29 := y2.below E9 y2.lt
  have ow9 := owns_belowS ow E9
  have HO0 := owns_lit0 (w3.setCell ⟨gT, k * 5 + 3, none⟩ (.slice aw x.ws.length cw)) 48 2
  rw [hz4] at HO0
  have HO := hidden HO0
  have HLS := hidden ((HS0.out.ext T4.bb).ext E9)
  have ON := hidden (one_scs x.ss)
  clear y1 y2 ow T4 HO0 T3 q1 B
  go_wp2_with (at_builtin; refine wpList_appL ekS (news := x.ss) (by kernel_rfl) (.tmp 43) (.tmp 47) rfl w3.heap.size rfl HO.out rfl HLS.out ON.out (by have := LB.out; omega) (by simp) ?_)
  intro v1 w5 q1 q2 q3
  try simp only [Nat.zero_add, List.nil_append] at q1
  generalize (w3.setCell ⟨gT, k * 5 + 3, none⟩ (.slice aw x.ws.length cw)) = w4 at *
  have B := (Below.refl w4.heap.size w4).alloc (Nat.le_refl _) (.cells #[] 48)
  replace B := B.grown q2 (by simp) (fun g hg => by simp [Value.ownBlock] at hg; omega)
  have T5 := T9.out.grown q2 (fun g hg e => by simp [Value.ownBlock] at hg e; omega) (fun g hg => by simp [Value.ownBlock] at hg; omega)
  have y1 : BxA w5 w.heap.size fr _ := Blk.grownL y19 q2 (fun e => by simp [Value.ownBlock] at e; omega)
  have y2 := y29.grownL q2 (fun e => by simp [Value.ownBlock] at e; omega)
  have ow5 := ow9.kept q2 (by
    rcases hb : Value.ownBlock (.slice aw x.ws.length cw) with _ | g
    · exact .inl rfl
    · refine .inr (fun e => ?_)
      have h1 := (ow9.lt _ hb).2
      have h2 := owns_ne ow9 HO.out (by decide) g hb
      exact h2 e.symm)
  clear c0' c1' c2' c3 c4 g0 f0 HO HLS ON q2 q3 y19 y29 T9 E9 ow9 d4 f3
  obtain ⟨c0', c1', c2', c3, c4, g0, f0⟩ := T5.at
  obtain ⟨as1, cs1, rfl, cs2, cs3, forms⟩ := owns_sl q1
  have f4 := f0 4
  have hz5 := B.size
  have T6 := T5.set (j := 4) (u := .slice as1 x.ss.length cs1) (x, .slice aw x.ws.length cw, .slice as1 x.ss.length cs1) (by decide) rfl
  have ow := owns_set2 (u := .slice as1 x.ss.length cs1) ow5 gT (k * 5 + 4) (T5.ne ow5 (by decide) gT rfl)
  have os := owns_set2 (u := .slice as1 x.ss.length cs1) (owns_le (base' := w.heap.size + 1 + 1) q1 (by omega)) gT (k * 5 + 4) (T5.ne q1 (by decide) gT rfl)
  replace y1 : BxA (w5.setCell ⟨gT, k * 5 + 4, none⟩ (.slice as1 x.ss.length cs1)) w.heap.size fr _ := Blk.set_neW (g := gT) y1 (by omega) (k * 5 + 4) (.slice as1 x.ss.length cs1)
  replace y2 := Blk.set_neW (g := gT) y2 (by omega) (k * 5 + 4) (.slice as1 x.ss.length cs1)
  rw [List.set_set] at T6
  clear T5 ow5 q1
  go_wp2_with fail
  refine (within_any n 0 5 _ H3.out (by omega) (by omega) (by omega)).mono ?_
  rintro e w6 ⟨⟨wi9, rfl, wi0, wi1⟩, rfl⟩
  obtain ⟨wi, rfl⟩ : ∃ k : Nat, wi9 = k := ⟨wi9.toNat, by omega⟩
  go_wp2_with fail
  refine (within_any n 0 2 _ H3.out (by omega) (by omega) (by omega)).mono ?_
  rintro e w6 ⟨⟨si9, rfl, si0, si1⟩, rfl⟩
  obtain ⟨si, rfl⟩ : ∃ k : Nat, si9 = k := ⟨si9.toNat, by omega⟩
  go_wp2_with fail
  refine (within_any what 0 13 _ H1.out (by omega) (by omega) (by omega)).mono ?_
  rintro e w6 ⟨⟨r, rfl, r0, r1⟩, rfl⟩
  have HM : Hid ((es0.set k (x, .slice aw x.ws.length cw, .slice as1 x.ss.length cs1)).map (·.1) = es0.map (·.1)) := by
    have h := HM4.out
    rw [List.map_set] at h ⊢
    exact h
  have HOK : Hid (OkTb b ((es0.set k (x, .slice aw x.ws.length cw, .slice as1 x.ss.length cs1)).map (·.1))) := by
    show OkTb b _
    rw [HM.out]; exact OK.out
  clear c0' c1' c2' c3 c4 g0 f0 f4 hz5 B HM HM4 OK HE
  generalize w5.setCell ⟨gT, k * 5 + 4, none⟩ (.slice as1 x.ss.length cs1) = wr at *
  generalize es0.set k (x, .slice aw x.ws.length cw, .slice as1 x.ss.length cs1) = es at *
  obtain ⟨c0', c1', c2', c3, c4, g0, f0⟩ := T6.at
  obtain ⟨c0, c1⟩ := y1.cells
  have d0 := y2.cell 0
  have d1 := y2.cell 1
  simp only [List.getElem?_cons_succ, List.getElem?_cons_zero] at d0 d1
  have d2 := y2.frozen 0
  have d3 := y2.frozen 1
  have HXN := hidden HXX.out.1
  have HXB := hidden HXX.out.2
  clear HXX HS0 hz3 hz4 hw9 e0 hn900
  have hr : r = 0 ∨ r = 1 ∨ r = 2 ∨ r = 3 ∨ r = 4 ∨ r = 5 ∨ r = 6 ∨ r = 7 ∨ r = 8 ∨ r = 9 ∨ r = 10 ∨ r = 11 ∨ r = 12 ∨ r = 13 := by omega
  rcases hr with rfl | rfl | rfl | rfl | rfl | rfl | rfl | rfl | rfl | rfl | rfl | rfl | rfl | rfl
  · -- case 0
    have g9 : wr.frozen? ⟨w.heap.size, 0, none⟩ = false := Blk.frozen y1 0
    go_wp2
    have T7 := T6.put w.heap.size 0 (.int .i64 n) (Nat.le_refl _) (fun e => by have := (T6.ot.lt _ e).1; omega)
    have ow7 := owns_set2 (u := .int .i64 n) ow w.heap.size 0 (fun e => by have := (ow.lt _ e).1; omega)
    have os7 := owns_set2 (u := .int .i64 n) os w.heap.size 0 (fun e => by have := (os.lt _ e).1; omega)
    replace y2 := y2.set_neW (g := w.heap.size) (by omega) 0 (.int .i64 n)
    have y3 := (y2.set 0 (.int .i64 n)).set 1 (.slice (some ⟨gT, 0, none⟩) es0.length tc)
    have q0 := y3.cell 0
    have q1 := y3.cell 1
    simp at q0 q1
    refine bodyPost_ret (v := _) (by simp [results, Try.results11, go_sem, q0, q1]; with_reducible rfl) rfl ?_
    exact ⟨_, _, rfl, OddR.of H3.out T7 ow7 os7 (HOK.out.mono (Nat.le_succ _)) _ _ rfl⟩
  · -- case 1
    go_wp2
    have T7 : OdT w (wr.setCell ⟨gT, k * 5, none⟩ (.int .i64 n)) k _ _ _ := T6.set (j := 0) (u := (.int .i64 n)) ({ x with u := n }, .slice aw x.ws.length cw, .slice as1 x.ss.length cs1) (by decide) rfl
    replace y1 : BxA (wr.setCell ⟨gT, k * 5, none⟩ (.int .i64 n)) w.heap.size fr _ := Blk.set_neW (g := gT) y1 (by omega) (k * 5) (.int .i64 n)
    replace y2 := Blk.set_neW (g := gT) y2 (by omega) (k * 5) (.int .i64 n)
    have ow7 := owns_set2 (u := (.int .i64 n)) ow gT (k * 5) (T6.ne ow (by decide) gT rfl)
    have os7 := owns_set2 (u := (.int .i64 n)) os gT (k * 5) (T6.ne os (by decide) gT rfl)
    have y3 := (y2.set 0 (.int .i64 fr)).set 1 (.slice (some ⟨gT, 0, none⟩) es0.length tc)
    have q0 := y3.cell 0
    have q1 := y3.cell 1
    simp at q0 q1
    refine bodyPost_ret (v := _) (by simp [results, Try.results11, go_sem, q0, q1]; with_reducible rfl) rfl ?_
    exact ⟨_, _, rfl, OddR.of HF.out T7 ow7 os7 (by rw [List.map_set]; exact HOK.out.set k ⟨⟨H3.out, HXN.out.f, HXN.out.q, HXN.out.ws, HXN.out.ss⟩, Nat.le_succ_of_le HXB.out.1, Nat.le_succ_of_le HXB.out.2⟩) _ _ rfl⟩
  · -- case 2
    have f2 := f0 2
    go_wp2
    have T7 : OdT w (wr.setCell ⟨gT, k * 5 + 2, none⟩ (.int .i64 n)) k _ _ _ := T6.set (j := 2) (u := (.int .i64 n)) ({ x with q := n }, .slice aw x.ws.length cw, .slice as1 x.ss.length cs1) (by decide) rfl
    replace y1 : BxA (wr.setCell ⟨gT, k * 5 + 2, none⟩ (.int .i64 n)) w.heap.size fr _ := Blk.set_neW (g := gT) y1 (by omega) (k * 5 + 2) (.int .i64 n)
    replace y2 := Blk.set_neW (g := gT) y2 (by omega) (k * 5 + 2) (.int .i64 n)
    have ow7 := owns_set2 (u := (.int .i64 n)) ow gT (k * 5 + 2) (T6.ne ow (by decide) gT rfl)
    have os7 := owns_set2 (u := (.int .i64 n)) os gT (k * 5 + 2) (T6.ne os (by decide) gT rfl)
    have y3 := (y2.set 0 (.int .i64 fr)).set 1 (.slice (some ⟨gT, 0, none⟩) es0.length tc)
    have q0 := y3.cell 0
    have q1 := y3.cell 1
    simp at q0 q1
    refine bodyPost_ret (v := _) (by simp [results, Try.results11, go_sem, q0, q1]; with_reducible rfl) rfl ?_
    exact ⟨_, _, rfl, OddR.of HF.out T7 ow7 os7 (by rw [List.map_set]; exact HOK.out.set k ⟨⟨HXN.out.u, HXN.out.f, H3.out, HXN.out.ws, HXN.out.ss⟩, Nat.le_succ_of_le HXB.out.1, Nat.le_succ_of_le HXB.out.2⟩) _ _ rfl⟩
  · -- case 3
    have f1 := f0 1
    go_wp2
    have T7 : OdT w (wr.setCell ⟨gT, k * 5 + 1, none⟩ (.int .u32 (n % 4294967296))) k _ _ _ := T6.set (j := 1) (u := (.int .u32 (n % 4294967296))) ({ x with f := n % 4294967296 }, .slice aw x.ws.length cw, .slice as1 x.ss.length cs1) (by decide) rfl
    replace y1 : BxA (wr.setCell ⟨gT, k * 5 + 1, none⟩ (.int .u32 (n % 4294967296))) w.heap.size fr _ := Blk.set_neW (g := gT) y1 (by omega) (k * 5 + 1) (.int .u32 (n % 4294967296))
    replace y2 := Blk.set_neW (g := gT) y2 (by omega) (k * 5 + 1) (.int .u32 (n % 4294967296))
    have ow7 := owns_set2 (u := (.int .u32 (n % 4294967296))) ow gT (k * 5 + 1) (T6.ne ow (by decide) gT rfl)
    have os7 := owns_set2 (u := (.int .u32 (n % 4294967296))) os gT (k * 5 + 1) (T6.ne os (by decide) gT rfl)
    have y3 := (y2.set 0 (.int .i64 fr)).set 1 (.slice (some ⟨gT, 0, none⟩) es0.length tc)
    have q0 := y3.cell 0
    have q1 := y3.cell 1
    simp at q0 q1
    refine bodyPost_ret (v := _) (by simp [results, Try.results11, go_sem, q0, q1]; with_reducible rfl) rfl ?_
    exact ⟨_, _, rfl, OddR.of HF.out T7 ow7 os7 (by rw [List.map_set]; exact HOK.out.set k ⟨⟨HXN.out.u, ⟨Int.emod_nonneg _ (by decide), Int.emod_lt_of_pos _ (by decide)⟩, HXN.out.q, HXN.out.ws, HXN.out.ss⟩, Nat.le_succ_of_le HXB.out.1, Nat.le_succ_of_le HXB.out.2⟩) _ _ rfl⟩
  · -- case 4
    have E9 := (Below.refl wr.heap.size wr).alloc (Nat.le_refl _) (.cells #[.int .i64 n, .int .i64 72] 48)
    have T9 := T6.ext E9
    have y19 := y1.ext E9
    have y29 := y2.below E9 y2.lt
    have ow9 := owns_belowS ow E9
    have os9 := owns_belowS os E9
    have O9 := hidden os9
    have Y9 := hidden y19
    have Z9 := hidden y29
    have OO := hidden ow9
    have TT := hidden T9
    have LB2 := LB.out
    have wr2 := y2.lt
    clear E9 T9 y19 y29 ow9 os9 y1 y2 ow os T6
    go_wp2_with (at_builtin; refine wpList_pushL (v := .slice as1 x.ss.length cs1) rfl (.tmp 102) (.tmp 105) 41 48 rfl (w.heap.size + 1 + 1) 2 16 (.agg #[.int .i64 0, .int .i64 0]) Try.underlying41 info_slot rfl (by decide) rfl O9.out _ 1 [.int .i64 n, .int .i64 72] rfl ?h0 rfl one_sf ?h1 ?h2 ?h3 ?h4)
    case h0 => exact Bx.new wr 48 n 72
    case h1 => omega
    case h2 => unfold maxLen; omega
    case h3 => simp; omega
    case h4 =>
      intro v9 w9 q1 q2 q3
      have T10 := TT.out.grown q2 (TT.out.ne O9.out (by decide)) (fun g hg => by have := (O9.out.lt g hg).1; omega)
      have y1 : BxA w9 w.heap.size fr _ := Blk.grownL Y9.out q2 (fun e => by have := (O9.out.lt _ e).1; omega)
      have y2 := Z9.out.grownL q2 (fun e => by have := (O9.out.lt _ e).1; omega)
      have oo := OO.out.kept q2 (owns_nr OO.out O9.out (by decide))
      have oq : w9.ownsRow (w.heap.size + 1 + 1) 48 2 v9 (x.ss ++ [(n, 72)]).length ((x.ss ++ [(n, 72)]).flatMap sf) := by rw [List.length_append, List.flatMap_append]; exact q1
      obtain ⟨ln, hln⟩ : ∃ ln : SL, x.ss ++ [(n, 72)] = ln := ⟨_, rfl⟩
      rw [hln] at oq
      obtain ⟨aq, cq, rfl, -⟩ := owns_sl oq
      have HLN := hidden hln
      clear hln
      clear c0' c1' c2' c3 c4 g0 f0 c0 c1 d0 d1 d2 d3 q1 q2 q3 O9 Y9 Z9 OO TT
      obtain ⟨c0', c1', c2', c3, c4, g0, f0⟩ := T10.at
      obtain ⟨c0, c1⟩ := y1.cells
      have d0 := y2.cell 0
      have d1 := y2.cell 1
      simp only [List.getElem?_cons_succ, List.getElem?_cons_zero] at d0 d1
      have d2 := y2.frozen 0
      have d3 := y2.frozen 1
      have f4 := f0 4
      go_wp2
      have T7 := T10.set (j := 4) (u := .slice aq ln.length cq) ({ x with ss := ln }, .slice aw x.ws.length cw, .slice aq ln.length cq) (by decide) rfl
      replace y1 : BxA (w9.setCell ⟨gT, k * 5 + 4, none⟩ (.slice aq ln.length cq)) w.heap.size fr _ := Blk.set_neW (g := gT) y1 (by omega) (k * 5 + 4) (.slice aq ln.length cq)
      replace y2 := Blk.set_neW (g := gT) y2 (by omega) (k * 5 + 4) (.slice aq ln.length cq)
      have o8 := owns_set2 (u := .slice aq ln.length cq) oo gT (k * 5 + 4) (T10.ne oo (by decide) gT rfl)
      have o9 := owns_set2 (u := .slice aq ln.length cq) oq gT (k * 5 + 4) (T10.ne oq (by decide) gT rfl)
      have y3 := (y2.set 0 (.int .i64 fr)).set 1 (.slice (some ⟨gT, 0, none⟩) es0.length tc)
      have q0 := y3.cell 0
      have q1 := y3.cell 1
      simp at q0 q1
      refine bodyPost_ret (v := _) (by simp [results, Try.results11, go_sem, q0, q1]; with_reducible rfl) rfl ?_
      exact ⟨_, _, rfl, OddR.of HF.out T7 o8 o9 (by rw [List.map_set]; exact HOK.out.set k ⟨⟨HXN.out.u, HXN.out.f, HXN.out.q, HXN.out.ws, (by rw [← HLN.out]; exact HXN.out.ss.push ⟨H3.out, by unfold i64; omega⟩)⟩, Nat.le_succ_of_le HXB.out.1, (by rw [← HLN.out]; have := HXB.out.2; simp; omega)⟩) _ _ rfl⟩
  · -- case 5
    obtain ⟨m1, e1, b1⟩ := maskN n 2 (by omega) 3 rfl
    obtain ⟨m2, e2, b2⟩ := maskN at_ 10 (by omega) 1023 rfl
    obtain ⟨m3, e3, b3⟩ := maskN n 9 (by omega) 511 rfl
    obtain ⟨m4, e4, b4⟩ := maskN at_ 5 (by omega) 31 rfl
    have E9 := (Below.refl wr.heap.size wr).alloc (Nat.le_refl _) (.cells #[.int .i64 m1, .int .i64 m2, .int .i64 m3, .int .i64 (1 + m4)] 45)
    have T9 := T6.ext E9
    have y19 := y1.ext E9
    have y29 := y2.below E9 y2.lt
    have ow9 := owns_belowS ow E9
    have os9 := owns_belowS os E9
    have O9 := hidden ow9
    have Y9 := hidden y19
    have Z9 := hidden y29
    have OO := hidden os9
    have TT := hidden T9
    have LB2 := LB.out
    have wr2 := y2.lt
    clear E9 T9 y19 y29 ow9 os9 y1 y2 ow os T6
    go_wp2_with (at_builtin; refine wpList_pushL (v := .slice aw x.ws.length cw) rfl (.tmp 115) (.tmp 126) 40 45 rfl (w.heap.size + 1 + 1) 4 32 zW Try.underlying40 info_wn rfl (by decide) rfl O9.out _ 1 [.int .i64 m1, .int .i64 m2, .int .i64 m3, .int .i64 (1 + m4)] rfl ?h0 rfl (one_wf (m1, m2, m3, 1 + m4)) ?h1 ?h2 ?h3 ?h4)
    case h0 => exact blk_wf wr m1 m2 m3 (1 + m4) _ rfl
    case h1 => omega
    case h2 => unfold maxLen; omega
    case h3 => simp; omega
    case h4 =>
      intro v9 w9 q1 q2 q3
      have T10 := TT.out.grown q2 (TT.out.ne O9.out (by decide)) (fun g hg => by have := (O9.out.lt g hg).1; omega)
      have y1 : BxA w9 w.heap.size fr _ := Blk.grownL Y9.out q2 (fun e => by have := (O9.out.lt _ e).1; omega)
      have y2 := Z9.out.grownL q2 (fun e => by have := (O9.out.lt _ e).1; omega)
      have oo := OO.out.kept q2 (owns_nr OO.out O9.out (by decide))
      have oq : w9.ownsRow (w.heap.size + 1 + 1) 45 4 v9 (x.ws ++ [((m1 : Int), (m2 : Int), (m3 : Int), 1 + (m4 : Int))]).length ((x.ws ++ [((m1 : Int), (m2 : Int), (m3 : Int), 1 + (m4 : Int))]).flatMap wf) := by rw [List.length_append, List.flatMap_append]; exact q1
      obtain ⟨ln, hln⟩ : ∃ ln : WL, x.ws ++ [((m1 : Int), (m2 : Int), (m3 : Int), 1 + (m4 : Int))] = ln := ⟨_, rfl⟩
      rw [hln] at oq
      obtain ⟨aq, cq, rfl, -⟩ := owns_sl oq
      have HLN := hidden hln
      clear hln
      clear c0' c1' c2' c3 c4 g0 f0 c0 c1 d0 d1 d2 d3 q1 q2 q3 O9 Y9 Z9 OO TT
      obtain ⟨c0', c1', c2', c3, c4, g0, f0⟩ := T10.at
      obtain ⟨c0, c1⟩ := y1.cells
      have d0 := y2.cell 0
      have d1 := y2.cell 1
      simp only [List.getElem?_cons_succ, List.getElem?_cons_zero] at d0 d1
      have d2 := y2.frozen 0
      have d3 := y2.frozen 1
      have f3 := f0 3
      go_wp2
      have T7 := T10.set (j := 3) (u := .slice aq ln.length cq) ({ x with ws := ln }, .slice aq ln.length cq, .slice as1 x.ss.length cs1) (by decide) rfl
      replace y1 : BxA (w9.setCell ⟨gT, k * 5 + 3, none⟩ (.slice aq ln.length cq)) w.heap.size fr _ := Blk.set_neW (g := gT) y1 (by omega) (k * 5 + 3) (.slice aq ln.length cq)
      replace y2 := Blk.set_neW (g := gT) y2 (by omega) (k * 5 + 3) (.slice aq ln.length cq)
      have o8 := owns_set2 (u := .slice aq ln.length cq) oo gT (k * 5 + 3) (T10.ne oo (by decide) gT rfl)
      have o9 := owns_set2 (u := .slice aq ln.length cq) oq gT (k * 5 + 3) (T10.ne oq (by decide) gT rfl)
      have y3 := (y2.set 0 (.int .i64 fr)).set 1 (.slice (some ⟨gT, 0, none⟩) es0.length tc)
      have q0 := y3.cell 0
      have q1 := y3.cell 1
      simp at q0 q1
      refine bodyPost_ret (v := _) (by simp [results, Try.results11, go_sem, q0, q1]; with_reducible rfl) rfl ?_
      exact ⟨_, _, rfl, OddR.of HF.out T7 o9 o8 (by rw [List.map_set]; exact HOK.out.set k ⟨⟨HXN.out.u, HXN.out.f, HXN.out.q, (by rw [← HLN.out]; exact HXN.out.ws.push (by unfold i64; omega)), HXN.out.ss⟩, (by rw [← HLN.out]; have := HXB.out.1; simp; omega), Nat.le_succ_of_le HXB.out.2⟩) _ _ rfl⟩
  · -- case 6
    by_cases hlt : wi < x.ws.length
    · have hlt' : (wi : Int) < (x.ws.length : Int) := by omega
      obtain ⟨gw, rfl⟩ := formw (by omega)
      obtain ⟨⟨s9, v9, p9, n9⟩, hx⟩ := getx hlt
      obtain ⟨e0, e1, e2, e3, h0, hj⟩ := win_at ow hx
      have h2' := hj 2
      have hgw := (ow.lt gw rfl).1
      have HV : i64 n := H3.out
      obtain ⟨i1, i2, i3, i4⟩ := HXN.out.ws.at hx
      have HXX := hidden hx
      clear hx
      go_wp2
      have ow7 : (wr.setCell ⟨gw, wi * 4 + 2, none⟩ (.int .i64 n)).ownsRow (w.heap.size + 1 + 1) 45 4 (.slice (some ⟨gw, 0, none⟩) x.ws.length cw) (x.ws.set wi (s9, v9, n, n9)).length ((x.ws.set wi (s9, v9, n, n9)).flatMap wf) := by
        rw [List.length_set]
        exact rec_set wf_len (j := 2) (u := .int .i64 n) (s9, v9, n, n9) ow HXX.out (by decide) rfl
      have oth7 := owns_set2 (u := .int .i64 n) os gw (wi * 4 + 2) (owns_ne ow os (by decide) gw rfl)
      have T7 := (T6.put gw (wi * 4 + 2) (.int .i64 n) (by omega) (fun e => T6.ne ow (by decide) gT rfl e.symm)).re ({ x with ws := x.ws.set wi (s9, v9, n, n9) }, .slice (some ⟨gw, 0, none⟩) x.ws.length cw, .slice as1 x.ss.length cs1) rfl
      replace y2 := Blk.set_neW (g := gw) y2 (by omega) (wi * 4 + 2) (.int .i64 n)
      have y3 := (y2.set 0 (.int .i64 fr)).set 1 (.slice (some ⟨gT, 0, none⟩) es0.length tc)
      have q0 := y3.cell 0
      have q1 := y3.cell 1
      simp at q0 q1
      refine bodyPost_ret (v := _) (by simp [results, Try.results11, go_sem, q0, q1]; with_reducible rfl) rfl ?_
      exact ⟨_, _, rfl, OddR.of HF.out T7 ow7 oth7 (by rw [List.map_set]; exact HOK.out.set k ⟨⟨HXN.out.u, HXN.out.f, HXN.out.q, (HXN.out.ws.put wi ⟨i1, i2, HV, i4⟩), HXN.out.ss⟩, (by have := HXB.out.1; simp; omega), Nat.le_succ_of_le HXB.out.2⟩) _ _ rfl⟩
    · have hlt' : ¬ ((wi : Int) < (x.ws.length : Int)) := by omega
      go_wp2
      have y3 := (y2.set 0 (.int .i64 fr)).set 1 (.slice (some ⟨gT, 0, none⟩) es0.length tc)
      have q0 := y3.cell 0
      have q1 := y3.cell 1
      simp at q0 q1
      refine bodyPost_ret (v := _) (by simp [results, Try.results11, go_sem, q0, q1]; with_reducible rfl) rfl ?_
      exact ⟨_, _, rfl, OddR.of HF.out T6 ow os (HOK.out.mono (Nat.le_succ _)) _ _ rfl⟩
  · -- case 7
    by_cases hlt : wi < x.ws.length
    · have hlt' : (wi : Int) < (x.ws.length : Int) := by omega
      obtain ⟨gw, rfl⟩ := formw (by omega)
      obtain ⟨⟨s9, v9, p9, n9⟩, hx⟩ := getx hlt
      obtain ⟨e0, e1, e2, e3, h0, hj⟩ := win_at ow hx
      have h1' := hj 1
      have hgw := (ow.lt gw rfl).1
      have HV : i64 n := H3.out
      obtain ⟨i1, i2, i3, i4⟩ := HXN.out.ws.at hx
      have HXX := hidden hx
      clear hx
      go_wp2
      have ow7 : (wr.setCell ⟨gw, wi * 4 + 1, none⟩ (.int .i64 n)).ownsRow (w.heap.size + 1 + 1) 45 4 (.slice (some ⟨gw, 0, none⟩) x.ws.length cw) (x.ws.set wi (s9, n, p9, n9)).length ((x.ws.set wi (s9, n, p9, n9)).flatMap wf) := by
        rw [List.length_set]
        exact rec_set wf_len (j := 1) (u := .int .i64 n) (s9, n, p9, n9) ow HXX.out (by decide) rfl
      have oth7 := owns_set2 (u := .int .i64 n) os gw (wi * 4 + 1) (owns_ne ow os (by decide) gw rfl)
      have T7 := (T6.put gw (wi * 4 + 1) (.int .i64 n) (by omega) (fun e => T6.ne ow (by decide) gT rfl e.symm)).re ({ x with ws := x.ws.set wi (s9, n, p9, n9) }, .slice (some ⟨gw, 0, none⟩) x.ws.length cw, .slice as1 x.ss.length cs1) rfl
      replace y2 := Blk.set_neW (g := gw) y2 (by omega) (wi * 4 + 1) (.int .i64 n)
      have y3 := (y2.set 0 (.int .i64 fr)).set 1 (.slice (some ⟨gT, 0, none⟩) es0.length tc)
      have q0 := y3.cell 0
      have q1 := y3.cell 1
      simp at q0 q1
      refine bodyPost_ret (v := _) (by simp [results, Try.results11, go_sem, q0, q1]; with_reducible rfl) rfl ?_
      exact ⟨_, _, rfl, OddR.of HF.out T7 ow7 oth7 (by rw [List.map_set]; exact HOK.out.set k ⟨⟨HXN.out.u, HXN.out.f, HXN.out.q, (HXN.out.ws.put wi ⟨i1, HV, i3, i4⟩), HXN.out.ss⟩, (by have := HXB.out.1; simp; omega), Nat.le_succ_of_le HXB.out.2⟩) _ _ rfl⟩
    · have hlt' : ¬ ((wi : Int) < (x.ws.length : Int)) := by omega
      go_wp2
      have y3 := (y2.set 0 (.int .i64 fr)).set 1 (.slice (some ⟨gT, 0, none⟩) es0.length tc)
      have q0 := y3.cell 0
      have q1 := y3.cell 1
      simp at q0 q1
      refine bodyPost_ret (v := _) (by simp [results, Try.results11, go_sem, q0, q1]; with_reducible rfl) rfl ?_
      exact ⟨_, _, rfl, OddR.of HF.out T6 ow os (HOK.out.mono (Nat.le_succ _)) _ _ rfl⟩
  · -- case 8
    by_cases hlt : wi < x.ws.length
    · have hlt' : (wi : Int) < (x.ws.length : Int) := by omega
      obtain ⟨gw, rfl⟩ := formw (by omega)
      obtain ⟨⟨s9, v9, p9, n9⟩, hx⟩ := getx hlt
      obtain ⟨e0, e1, e2, e3, h0, hj⟩ := win_at ow hx
      have h3' := hj 3
      have hgw := (ow.lt gw rfl).1
      have HV : i64 n := H3.out
      obtain ⟨i1, i2, i3, i4⟩ := HXN.out.ws.at hx
      have HXX := hidden hx
      clear hx
      go_wp2
      have ow7 : (wr.setCell ⟨gw, wi * 4 + 3, none⟩ (.int .i64 n)).ownsRow (w.heap.size + 1 + 1) 45 4 (.slice (some ⟨gw, 0, none⟩) x.ws.length cw) (x.ws.set wi (s9, v9, p9, n)).length ((x.ws.set wi (s9, v9, p9, n)).flatMap wf) := by
        rw [List.length_set]
        exact rec_set wf_len (j := 3) (u := .int .i64 n) (s9, v9, p9, n) ow HXX.out (by decide) rfl
      have oth7 := owns_set2 (u := .int .i64 n) os gw (wi * 4 + 3) (owns_ne ow os (by decide) gw rfl)
      have T7 := (T6.put gw (wi * 4 + 3) (.int .i64 n) (by omega) (fun e => T6.ne ow (by decide) gT rfl e.symm)).re ({ x with ws := x.ws.set wi (s9, v9, p9, n) }, .slice (some ⟨gw, 0, none⟩) x.ws.length cw, .slice as1 x.ss.length cs1) rfl
      replace y2 := Blk.set_neW (g := gw) y2 (by omega) (wi * 4 + 3) (.int .i64 n)
      have y3 := (y2.set 0 (.int .i64 fr)).set 1 (.slice (some ⟨gT, 0, none⟩) es0.length tc)
      have q0 := y3.cell 0
      have q1 := y3.cell 1
      simp at q0 q1
      refine bodyPost_ret (v := _) (by simp [results, Try.results11, go_sem, q0, q1]; with_reducible rfl) rfl ?_
      exact ⟨_, _, rfl, OddR.of HF.out T7 ow7 oth7 (by rw [List.map_set]; exact HOK.out.set k ⟨⟨HXN.out.u, HXN.out.f, HXN.out.q, (HXN.out.ws.put wi ⟨i1, i2, i3, HV⟩), HXN.out.ss⟩, (by have := HXB.out.1; simp; omega), Nat.le_succ_of_le HXB.out.2⟩) _ _ rfl⟩
    · have hlt' : ¬ ((wi : Int) < (x.ws.length : Int)) := by omega
      go_wp2
      have y3 := (y2.set 0 (.int .i64 fr)).set 1 (.slice (some ⟨gT, 0, none⟩) es0.length tc)
      have q0 := y3.cell 0
      have q1 := y3.cell 1
      simp at q0 q1
      refine bodyPost_ret (v := _) (by simp [results, Try.results11, go_sem, q0, q1]; with_reducible rfl) rfl ?_
      exact ⟨_, _, rfl, OddR.of HF.out T6 ow os (HOK.out.mono (Nat.le_succ _)) _ _ rfl⟩
  · -- case 9
    by_cases hlt : si < x.ss.length
    · have hlt' : (si : Int) < (x.ss.length : Int) := by omega
      obtain ⟨gw, rfl⟩ := forms (by omega)
      obtain ⟨⟨p9, n9⟩, hx⟩ := getx hlt
      obtain ⟨e0, e1, h0, hj⟩ := slo_at os hx
      have h0' := hj 0
      have hgw := (os.lt gw rfl).1
      have HV : i64 n := H3.out
      obtain ⟨i1, i2⟩ := HXN.out.ss.get hx
      have HXX := hidden hx
      clear hx
      go_wp2
      have ow7 : (wr.setCell ⟨gw, si * 2, none⟩ (.int .i64 n)).ownsRow (w.heap.size + 1 + 1) 48 2 (.slice (some ⟨gw, 0, none⟩) x.ss.length cs1) (x.ss.set si (n, n9)).length ((x.ss.set si (n, n9)).flatMap sf) := by
        rw [List.length_set]
        exact rec_set sf_len (j := 0) (u := .int .i64 n) (n, n9) os HXX.out (by decide) rfl
      have oth7 := owns_set2 (u := .int .i64 n) ow gw (si * 2) (owns_ne os ow (by decide) gw rfl)
      have T7 := (T6.put gw (si * 2) (.int .i64 n) (by omega) (fun e => T6.ne os (by decide) gT rfl e.symm)).re ({ x with ss := x.ss.set si (n, n9) }, .slice aw x.ws.length cw, .slice (some ⟨gw, 0, none⟩) x.ss.length cs1) rfl
      replace y2 := Blk.set_neW (g := gw) y2 (by omega) (si * 2) (.int .i64 n)
      have y3 := (y2.set 0 (.int .i64 fr)).set 1 (.slice (some ⟨gT, 0, none⟩) es0.length tc)
      have q0 := y3.cell 0
      have q1 := y3.cell 1
      simp at q0 q1
      refine bodyPost_ret (v := _) (by simp [results, Try.results11, go_sem, q0, q1]; with_reducible rfl) rfl ?_
      exact ⟨_, _, rfl, OddR.of HF.out T7 oth7 ow7 (by rw [List.map_set]; exact HOK.out.set k ⟨⟨HXN.out.u, HXN.out.f, HXN.out.q, HXN.out.ws, (HXN.out.ss.put si ⟨HV, i2⟩)⟩, Nat.le_succ_of_le HXB.out.1, (by have := HXB.out.2; simp; omega)⟩) _ _ rfl⟩
    · have hlt' : ¬ ((si : Int) < (x.ss.length : Int)) := by omega
      go_wp2
      have y3 := (y2.set 0 (.int .i64 fr)).set 1 (.slice (some ⟨gT, 0, none⟩) es0.length tc)
      have q0 := y3.cell 0
      have q1 := y3.cell 1
      simp at q0 q1
      refine bodyPost_ret (v := _) (by simp [results, Try.results11, go_sem, q0, q1]; with_reducible rfl) rfl ?_
      exact ⟨_, _, rfl, OddR.of HF.out T6 ow os (HOK.out.mono (Nat.le_succ _)) _ _ rfl⟩
  · -- case 10
    by_cases hlt : si < x.ss.length
    · have hlt' : (si : Int) < (x.ss.length : Int) := by omega
      obtain ⟨gw, rfl⟩ := forms (by omega)
      obtain ⟨⟨p9, n9⟩, hx⟩ := getx hlt
      obtain ⟨e0, e1, h0, hj⟩ := slo_at os hx
      have h1' := hj 1
      have hgw := (os.lt gw rfl).1
      have HV : i64 n := H3.out
      obtain ⟨i1, i2⟩ := HXN.out.ss.get hx
      have HXX := hidden hx
      clear hx
      go_wp2
      have ow7 : (wr.setCell ⟨gw, si * 2 + 1, none⟩ (.int .i64 n)).ownsRow (w.heap.size + 1 + 1) 48 2 (.slice (some ⟨gw, 0, none⟩) x.ss.length cs1) (x.ss.set si (p9, n)).length ((x.ss.set si (p9, n)).flatMap sf) := by
        rw [List.length_set]
        exact rec_set sf_len (j := 1) (u := .int .i64 n) (p9, n) os HXX.out (by decide) rfl
      have oth7 := owns_set2 (u := .int .i64 n) ow gw (si * 2 + 1) (owns_ne os ow (by decide) gw rfl)
      have T7 := (T6.put gw (si * 2 + 1) (.int .i64 n) (by omega) (fun e => T6.ne os (by decide) gT rfl e.symm)).re ({ x with ss := x.ss.set si (p9, n) }, .slice aw x.ws.length cw, .slice (some ⟨gw, 0, none⟩) x.ss.length cs1) rfl
      replace y2 := Blk.set_neW (g := gw) y2 (by omega) (si * 2 + 1) (.int .i64 n)
      have y3 := (y2.set 0 (.int .i64 fr)).set 1 (.slice (some ⟨gT, 0, none⟩) es0.length tc)
      have q0 := y3.cell 0
      have q1 := y3.cell 1
      simp at q0 q1
      refine bodyPost_ret (v := _) (by simp [results, Try.results11, go_sem, q0, q1]; with_reducible rfl) rfl ?_
      exact ⟨_, _, rfl, OddR.of HF.out T7 oth7 ow7 (by rw [List.map_set]; exact HOK.out.set k ⟨⟨HXN.out.u, HXN.out.f, HXN.out.q, HXN.out.ws, (HXN.out.ss.put si ⟨i1, HV⟩)⟩, Nat.le_succ_of_le HXB.out.1, (by have := HXB.out.2; simp; omega)⟩) _ _ rfl⟩
    · have hlt' : ¬ ((si : Int) < (x.ss.length : Int)) := by omega
      go_wp2
      have y3 := (y2.set 0 (.int .i64 fr)).set 1 (.slice (some ⟨gT, 0, none⟩) es0.length tc)
      have q0 := y3.cell 0
      have q1 := y3.cell 1
      simp at q0 q1
      refine bodyPost_ret (v := _) (by simp [results, Try.results11, go_sem, q0, q1]; with_reducible rfl) rfl ?_
      exact ⟨_, _, rfl, OddR.of HF.out T6 ow os (HOK.out.mono (Nat.le_succ _)) _ _ rfl⟩
  · -- case 11
    have HLEN := hidden T6.len
    have hwr := y2.lt
    have TB0 := T6.ext (Below.refl _ _).drew
    have YB0 := y1.drew
    have ZB0 := y2.drew
    have OWB0 := owns_belowS ow (Below.refl _ _).drew
    have OSB0 := owns_belowS os (Below.refl _ _).drew
    clear T6 y1 y2 ow os c0' c1' c2' c3 c4 g0 f0 c0 c1 d0 d1 d2 d3
    go_wp2
    refine c_begin 9 rfl (by kernel_rfl) ?_
    generalize wr.drew = w4 at *
    have xx := Ext.refl w4
    have hw4 := ZB0.lt
    have TB := hidden TB0
    have YB := hidden YB0
    have ZB := hidden ZB0
    have OWB := hidden OWB0
    have OSB := hidden OSB0
    clear TB0 YB0 ZB0 OWB0 OSB0
    refine c_P trivial 0 rfl ?_
    refine c_R (fun w' => Ext w4 w') xx trivial 1 rfl (fun w' hw' => by obtain ⟨q0, q1⟩ := (YB.out.ext hw').cells; go_simp; with_reducible rfl) ?_
    refine c_P ⟨xx, trivial⟩ 2 rfl ?_
    refine c_R (fun _ => True) trivial ⟨xx, trivial⟩ 3 rfl (fun w' _ => by go_simp; with_reducible rfl) ?_
    refine c_R (fun w' => Ext w4 w') xx ⟨trivial, xx, trivial⟩ 4 rfl (fun w' hw' => by obtain ⟨q0, q1, q2, q3, q4, -⟩ := (TB.out.ext hw').at; go_simp; with_reducible rfl) ?_
    refine c_move 5 (by kernel_rfl) (c_op 5 [(3, fun _ => True), (1, fun w' => Ext w4 w')] (by kernel_rfl) rfl (by kernel_rfl) (fun K hK => ?_))
    go_simp
    refine hK.out _ _ ⟨trivial, ((Below.refl _ _).alloc (Nat.le_refl _) _), trivial⟩ ?_
    try simp only [Act.put, List.setIfInBounds_toArray, List.set_cons_zero, List.set_cons_succ]
    clear hK K
    have E9 := (Below.refl w4.heap.size w4).alloc (Nat.le_refl _) (boxT x (.slice aw x.ws.length cw) (.slice as1 x.ss.length cs1))
    have T9 := TB.out.ext E9
    have y19 := YB.out.ext E9
    have y29 := ZB.out.below E9 ZB.out.lt
    have ow9 := owns_belowS OWB.out E9
    have os9 := owns_belowS OSB.out E9
    have HLX : Lsf 5 tf (w4.alloc (boxT x (.slice aw x.ws.length cw) (.slice as1 x.ss.length cs1))) (.slice (some ⟨w4.heap.size, 0, none⟩) 1 1) [(x, .slice aw x.ws.length cw, .slice as1 x.ss.length cs1)] := Lsf.of_blk tf_len 1 rfl (by decide) _ (BxT.new w4 x (.slice aw x.ws.length cw) (.slice as1 x.ss.length cs1)) (fun i e hi j u hu => by
      match i, hi with
      | 0, hi =>
        cases hi
        rw [Nat.zero_mul, Nat.zero_add]
        exact hu)
    have ONX : ∀ u ∈ [(x, Value.slice aw x.ws.length cw, Value.slice as1 x.ss.length cs1)].flatMap tf, u.oneCell' = true := fun u hu => by
      rw [List.flatMap_cons, List.flatMap_nil, List.append_nil] at hu
      exact one_ten u hu
    refine c_move 6 (by kernel_rfl) (c_op 6 [(3, fun _ => True)] (by kernel_rfl) rfl (by kernel_rfl) (fun K hK => ?_))
    refine op_appL ekT (v := .slice (some ⟨gT, 0, none⟩) es0.length tc) (sv := .slice (some ⟨w4.heap.size, 0, none⟩) 1 1) (news := [(x, .slice aw x.ws.length cw, .slice as1 x.ss.length cs1)]) (.tmp 218) (.tmp 222) rfl (w.heap.size + 1 + 1) rfl T9.ot rfl HLX ONX (by have := HLEN.out; have := HN.out; simp; omega) (by simp; omega) ?_
    intro v9 w9 q1 q2 q3
    refine hK.out _ _ ⟨trivial, trivial⟩ ?_
    try simp only [Act.put, List.setIfInBounds_toArray, List.set_cons_zero, List.set_cons_succ]
    clear hK K
    have tl : ∀ q, Value.ownBlock (.slice (some ⟨gT, 0, none⟩) es0.length tc) = some q → w.heap.size + 1 + 1 ≤ q := fun q e => (T9.ot.lt q e).1
    have y1 : BxA w9 w.heap.size fr _ := Blk.grownL y19 q2 (fun e => by have := tl _ e; omega)
    have y2 := y29.grownL q2 (fun e => by have := tl _ e; omega)
    have ow8 := ow9.kept q2 (owns_nr ow9 T9.ot (by decide))
    have os8 := os9.kept q2 (owns_nr os9 T9.ot (by decide))
    have bb := T9.bb.grown q2 T9.bb.size (fun g hg => by have := tl _ hg; omega)
    obtain ⟨aq, cq, rfl, -⟩ := owns_sl q1
    obtain ⟨c0, c1⟩ := y1.cells
    have g9 : w9.frozen? ⟨w.heap.size, 1, none⟩ = false := Blk.frozen y1 1
    refine c_P ⟨trivial, trivial⟩ 7 rfl ?_
    refine c_move 8 (by kernel_rfl) (c_op 8 [] (by kernel_rfl) rfl (by kernel_rfl) (fun K hK => ?_))
    go_simp
    refine hK.out _ _ trivial ?_
    try simp only [Act.put, List.setIfInBounds_toArray, List.set_cons_zero, List.set_cons_succ]
    clear hK K
    refine c_done (by kernel_rfl) ?_
    have y1' : BxA (w9.setCell ⟨w.heap.size, 1, none⟩ (.slice aq (es.length + [(x, Value.slice aw x.ws.length cw, Value.slice as1 x.ss.length cs1)].length) cq)) w.heap.size fr (.slice aq (es.length + [(x, Value.slice aw x.ws.length cw, Value.slice as1 x.ss.length cs1)].length) cq) := Blk.set y1 1 _
    replace y2 := y2.set_neW (g := w.heap.size) (by omega) 1 (.slice aq (es.length + [(x, Value.slice aw x.ws.length cw, Value.slice as1 x.ss.length cs1)].length) cq)
    have lt0 : ∀ {s n : Nat} {t : TypeId} {v : Value} {xs : List Value}, w9.ownsRow (w.heap.size + 1 + 1) t s v n xs → v.ownBlock ≠ some w.heap.size := fun h e => by have := (h.lt _ e).1; omega
    have q1' := owns_set2 (u := .slice aq (es.length + [(x, Value.slice aw x.ws.length cw, Value.slice as1 x.ss.length cs1)].length) cq) q1 w.heap.size 1 (lt0 q1)
    have ow7 := owns_set2 (u := .slice aq (es.length + [(x, Value.slice aw x.ws.length cw, Value.slice as1 x.ss.length cs1)].length) cq) ow8 w.heap.size 1 (lt0 ow8)
    have os7 := owns_set2 (u := .slice aq (es.length + [(x, Value.slice aw x.ws.length cw, Value.slice as1 x.ss.length cs1)].length) cq) os8 w.heap.size 1 (lt0 os8)
    replace bb := bb.setCell (p := ⟨w.heap.size, 1, none⟩) (Nat.le_refl _) (.slice aq (es.length + [(x, Value.slice aw x.ws.length cw, Value.slice as1 x.ss.length cs1)].length) cq)
    clear c0 c1 g9 ow8 os8 y1 lt0 q1 q2 q3 tl
    generalize (w9.setCell ⟨w.heap.size, 1, none⟩ (.slice aq (es.length + [(x, Value.slice aw x.ws.length cw, Value.slice as1 x.ss.length cs1)].length) cq)) = w10 at *
    obtain ⟨c0, c1⟩ := y1'.cells
    have d0 := y2.cell 0
    have d1 := y2.cell 1
    simp only [List.getElem?_cons_succ, List.getElem?_cons_zero] at d0 d1
    have d2 := y2.frozen 0
    have d3 := y2.frozen 1
    go_wp2
    have y3 := (y2.set 0 (.int .i64 fr)).set 1 (.slice aq (es.length + [(x, Value.slice aw x.ws.length cw, Value.slice as1 x.ss.length cs1)].length) cq)
    have q0 := y3.cell 0
    have q1 := y3.cell 1
    simp at q0 q1
    refine bodyPost_ret (v := _) (by simp [results, Try.results11, go_sem, q0, q1]; with_reducible rfl) rfl ?_
    exact ⟨_, _, rfl, OddR.dup HF.out TB.out bb (by simpa [tcs] using q1') ow7 os7 HOK.out _ _ rfl⟩
  · -- case 12
    have f4 := f0 4
    go_wp2
    have T7 := T6.set (j := 4) (u := .slice none 0 0) ({ x with ss := [] }, .slice aw x.ws.length cw, .slice none 0 0) (by decide) rfl
    replace y1 : BxA (wr.setCell ⟨gT, k * 5 + 4, none⟩ (.slice none 0 0)) w.heap.size fr _ := Blk.set_neW (g := gT) y1 (by omega) (k * 5 + 4) (.slice none 0 0)
    replace y2 := Blk.set_neW (g := gT) y2 (by omega) (k * 5 + 4) (.slice none 0 0)
    have ow7 := owns_set2 (u := (.slice none 0 0)) ow gT (k * 5 + 4) (T6.ne ow (by decide) gT rfl)
    have os7 := owns_set2 (u := (.slice none 0 0)) os gT (k * 5 + 4) (T6.ne os (by decide) gT rfl)
    have y3 := (y2.set 0 (.int .i64 fr)).set 1 (.slice (some ⟨gT, 0, none⟩) es0.length tc)
    have q0 := y3.cell 0
    have q1 := y3.cell 1
    simp at q0 q1
    refine bodyPost_ret (v := _) (by simp [results, Try.results11, go_sem, q0, q1]; with_reducible rfl) rfl ?_
    exact ⟨_, _, rfl, OddR.of HF.out T7 ow7 (owns_nilL _ _ _ _) (by rw [List.map_set]; exact HOK.out.set k ⟨⟨HXN.out.u, HXN.out.f, HXN.out.q, HXN.out.ws, (fun x hx => by cases hx)⟩, Nat.le_succ_of_le HXB.out.1, (Nat.zero_le _)⟩) _ _ rfl⟩
  · -- case 13
    obtain ⟨m1, e1, b1⟩ := maskN n 3 (by omega) 7 rfl
    by_cases hlt : wi < x.ws.length
    · have hlt' : (wi : Int) < (x.ws.length : Int) := by omega
      obtain ⟨gw, rfl⟩ := formw (by omega)
      obtain ⟨⟨s9, v9, p9, n9⟩, hx⟩ := getx hlt
      obtain ⟨e0, e1, e2, e3, h0, hj⟩ := win_at ow hx
      have h0' := hj 0
      have hgw := (ow.lt gw rfl).1
      have HV : i64 (m1 : Int) := by unfold i64; omega
      obtain ⟨i1, i2, i3, i4⟩ := HXN.out.ws.at hx
      have HXX := hidden hx
      clear hx
      go_wp2
      have ow7 : (wr.setCell ⟨gw, wi * 4, none⟩ (.int .i64 (m1 : Int))).ownsRow (w.heap.size + 1 + 1) 45 4 (.slice (some ⟨gw, 0, none⟩) x.ws.length cw) (x.ws.set wi ((m1 : Int), v9, p9, n9)).length ((x.ws.set wi ((m1 : Int), v9, p9, n9)).flatMap wf) := by
        rw [List.length_set]
        exact rec_set wf_len (j := 0) (u := .int .i64 (m1 : Int)) ((m1 : Int), v9, p9, n9) ow HXX.out (by decide) rfl
      have oth7 := owns_set2 (u := .int .i64 (m1 : Int)) os gw (wi * 4) (owns_ne ow os (by decide) gw rfl)
      have T7 := (T6.put gw (wi * 4) (.int .i64 (m1 : Int)) (by omega) (fun e => T6.ne ow (by decide) gT rfl e.symm)).re ({ x with ws := x.ws.set wi ((m1 : Int), v9, p9, n9) }, .slice (some ⟨gw, 0, none⟩) x.ws.length cw, .slice as1 x.ss.length cs1) rfl
      replace y2 := Blk.set_neW (g := gw) y2 (by omega) (wi * 4) (.int .i64 (m1 : Int))
      have y3 := (y2.set 0 (.int .i64 fr)).set 1 (.slice (some ⟨gT, 0, none⟩) es0.length tc)
      have q0 := y3.cell 0
      have q1 := y3.cell 1
      simp at q0 q1
      refine bodyPost_ret (v := _) (by simp [results, Try.results11, go_sem, q0, q1]; with_reducible rfl) rfl ?_
      exact ⟨_, _, rfl, OddR.of HF.out T7 ow7 oth7 (by rw [List.map_set]; exact HOK.out.set k ⟨⟨HXN.out.u, HXN.out.f, HXN.out.q, (HXN.out.ws.put wi ⟨HV, i2, i3, i4⟩), HXN.out.ss⟩, (by have := HXB.out.1; simp; omega), Nat.le_succ_of_le HXB.out.2⟩) _ _ rfl⟩
    · have hlt' : ¬ ((wi : Int) < (x.ws.length : Int)) := by omega
      go_wp2
      have y3 := (y2.set 0 (.int .i64 fr)).set 1 (.slice (some ⟨gT, 0, none⟩) es0.length tc)
      have q0 := y3.cell 0
      have q1 := y3.cell 1
      simp at q0 q1
      refine bodyPost_ret (v := _) (by simp [results, Try.results11, go_sem, q0, q1]; with_reducible rfl) rfl ?_
      exact ⟨_, _, rfl, OddR.of HF.out T6 ow os (HOK.out.mono (Nat.le_succ _)) _ _ rfl⟩

end Go.Proofs.Ytffjhimdamdenaa
