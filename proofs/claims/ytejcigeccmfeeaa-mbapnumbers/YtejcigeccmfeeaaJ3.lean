/- The contract of burgagelaw6's play. -/
import Derived.Test.YtejcigeccmfeeaaJ2
import Derived.OrdersHeld
namespace Go.Proofs.Ytejcigeccmfeeaa
open Go.RowKit

theorem Row.off {w : World} {v : Value} {xs : List Value} {F : Nat → Prop} (h : Row w v xs) (hF : ∀ k, F k → w.heap.size ≤ k) (h0 : 0 < xs.length) : Off F v := fun k hk hf => by
  obtain ⟨a, cap, rfl, -, -, -, h3⟩ := h
  rcases h3 with rfl | ⟨b, off, rfl, hc⟩
  · simp at h0
  · have := hc 0 h0
    rw [List.getElem?_eq_getElem h0] at this
    have h1 := lt_of_cell this
    have h2 := hF k hf
    simp [Value.ownBlock] at hk
    omega
theorem Mss.newer {t : TypeId} {N N' : Nat → Prop} {w : World} {base : Nat} {v : Value} {ms : List Ms} (h : Mss t N w base v ms) (hN : ∀ k, N' k → k < base) : Mss t N' w base v ms := by
  obtain ⟨us, h1, h2, h3, h4⟩ := h
  refine ⟨us, h1, h2, fun k hk hn => ?_, fun i m hm => ?_⟩
  · have h5 := (owns_lt h2 hk).1
    have h6 := hN k hn
    omega
  · obtain ⟨u, e, o, r⟩ := h4 i m hm
    refine ⟨u, e, fun k hk hn => ?_, r⟩
    have h5 := (owns_lt r hk).1
    have h6 := hN k hn
    omega
theorem off_two {w : World} {b1 b2 g1 g2 : Nat} {v1 v2 : Value} {x1 x2 : List UInt8} {s1 s2 : Bool} {t1 t2 : TypeId} (h1 : Str t1 w b1 g1 v1 x1 s1) (h2 : Str t2 w b2 g2 v2 x2 s2) (hg : g1 ≠ g2) (ht1 : 5 ≠ t1) (ht2 : 5 ≠ t2) (ha : ∀ k, v1.ownBlock = some k → v2.ownBlock ≠ some k) : ¬ Ft g1 v1 g2 ∧ Off (Ft g1 v1) v2 :=
  ⟨fun h => h.elim (fun h => hg h.symm) (fun h => owns_blk h1.own h2.blk ht2 h), fun k hk h => h.elim (fun h => owns_blk h2.own h1.blk ht1 (by rw [hk, h])) (fun h => ha k h hk)⟩

set_option maxRecDepth 100000 in
set_option maxHeartbeats 4000000 in
theorem play_any (vr : Value) (xss : List (List UInt8)) (w : World) (hr : RowsB w vr xss) (hlen : ∀ i, (xss.getD i []).length ≤ 2000000000000) :
    Calls Try.prog 9 #[vr] w fun e w' => e = .returned (.bool true) ∧ Below w.heap.size w w' := by
  obtain ⟨ar, cr, rfl, h1, h2, -⟩ := id hr.at
  unfold maxLen at h2
  have HR : Hid (∀ i, i < xss.length → ∃ b off u, ar = some ⟨b, off, none⟩ ∧ w.cell? ⟨b, off + i, none⟩ = some u ∧ Row w u ((xss.getD i []).map bV)) := fun i hi => by
    obtain ⟨a', c', e, -, -, q⟩ := hr.at
    simp only [Value.slice.injEq] at e
    obtain ⟨rfl, -, rfl⟩ := e
    obtain ⟨b, off, e1, q2⟩ := q i hi
    obtain ⟨u, q3, q4⟩ := q2 i hi
    exact ⟨b, off, u, e1, q3, q4⟩
  have HL := hidden hlen
  clear hr hlen
  generalize xss.length = lx at *
  go_enter Try.func9, Try.ntmps9
  go_wp2_with fail
  refine (new_any _).mono ?_
  rintro e w1 ⟨rfl, rfl⟩
  have T1 := Str.new w 58 w.heap.size
  have D1 : Below w.heap.size w (w.alloc (.cells #[.slice none 0 0, .bool false] 58)) := (Below.refl _ _).alloc (Nat.le_refl _) _
  have G1 := T1.blk.lt
  generalize w.alloc (.cells #[.slice none 0 0, .bool false] 58) = w1 at *
  go_wp2
  have A1 : Below w1.heap.size w1 (w1.alloc (.cells #[.slice none 0 0, .bool false] 51)) := (Below.refl _ _).alloc (Nat.le_refl _) _
  have T2 := Str.new w1 51 w.heap.size
  replace T1 := T1.ext A1
  replace D1 := D1.trans (A1.mono D1.size)
  clear A1
  generalize w1.alloc (.cells #[.slice none 0 0, .bool false] 51) = w2 at *
  generalize hg2 : w1.heap.size = g2 at *
  clear hg2
  generalize hg1 : w.heap.size = g1 at *
  have HG1 := hidden hg1
  clear hg1
  go_loopw [5] (fun z5 wr => ∃ (i : Nat) (v1 v2 : Value) (wait : List UInt8) (shut : Bool), i ≤ lx ∧ i ≤ 40 ∧ z5 = .int .i64 (i : Int) ∧ Str 58 wr g1 g1 v1 wait shut ∧ Str 51 wr g1 g2 v2 wait shut ∧ Hid (OkW wait) ∧ Hid (∀ k, v1.ownBlock = some k → v2.ownBlock ≠ some k) ∧ Below g1 w wr) (fun i _ => 40 - (intOf i).toNat)
  case atStart => exact ⟨0, _, _, [], false, Nat.zero_le _, Nat.zero_le _, rfl, T1, T2, OkW.nil, (fun k h => by cases h), D1⟩
  case round =>
    clear T1 T2 D1
    obtain ⟨i, v1, v2, wait, shut, hi, hi2, rfl, T1, T2, HO, HA, D⟩ := hrel
    by_cases hlt : i < lx ∧ i < 40
    · obtain ⟨l1, l2⟩ := hlt
      have l1' : (i : Int) < (lx : Int) := by omega
      have l2' : (i : Int) < 40 := by omega
      obtain ⟨b, off, u, rfl, cu0, ru0⟩ := HR.out i l1
      have HLi := HL.out i
      generalize xss.getD i [] = bs at *
      obtain ⟨au, cu, e, -⟩ := id ru0
      subst e
      simp only [List.length_map] at cu0 ru0
      have hwg : w.heap.size = g1 := HG1.out
      have CU := hidden (fun w' (B : Below g1 w w') => (B.cell (p := ⟨b, off + i, none⟩) (by show b < g1; have := lt_of_cell cu0; omega)).trans cu0)
      have RU := hidden (fun w' (B : Below g1 w w') => ru0.below (by rw [hwg]; exact B))
      have FU := hidden (fun (F : Nat → Prop) (hF : ∀ k, F k → g1 ≤ k) (h0 : 0 < bs.length) => ru0.off (F := F) (by rw [hwg]; exact hF) (by simpa using h0))
      clear cu0 ru0 hwg HR HL
      have SL := (smRun_le bs ⟨wait, shut, []⟩).2
      simp only [List.length_nil] at SL
      have HO2 := hidden (OkW.many bs ⟨wait, shut, []⟩ HO.out)
      have P1 := hidden (fun vb w h1 h2 h3 => sput_any g1 g1 v1 vb wait shut bs w h1 h2 h3 (Nat.le_refl _) HO.out HLi)
      have P2 := hidden (fun vb w h1 h2 => rput_any g1 g2 v2 vb wait shut bs w h1 h2 (by omega) HO.out HLi)
      generalize smRun ⟨wait, shut, []⟩ bs = S at *
      go_wp2
      refine c_begin 37 rfl (by kernel_rfl) ?_
      have ED := (Below.refl wr.heap.size wr).drew
      have zr := T1.blk.lt
      replace T1 := T1.ext ED
      replace T2 := T2.ext ED
      replace D := D.trans (ED.mono (by omega))
      clear ED
      generalize wr.drew = c0 at *
      have cu0 := CU.out _ D
      refine c_pure trivial (by kernel_rfl) (fun _ _ _ d _ h => by cases d <;> exact h) 0 rfl (by kernel_rfl) (by kernel_rfl) (fun w' => by go_simp; with_reducible rfl) ?_; try simp only [Act.put, List.setIfInBounds_toArray, List.set_cons_zero, List.set_cons_succ]
      refine c_pure trivial (by kernel_rfl) (fun _ _ _ d _ h => by cases d <;> exact h) 1 rfl (by kernel_rfl) (by kernel_rfl) (fun w' => by go_simp; with_reducible rfl) ?_; try simp only [Act.put, List.setIfInBounds_toArray, List.set_cons_zero, List.set_cons_succ]
      refine c_pure trivial (by kernel_rfl) (fun _ _ _ d _ h => by cases d <;> exact h) 2 rfl (by kernel_rfl) (by kernel_rfl) (fun w' => by go_simp; with_reducible rfl) ?_; try simp only [Act.put, List.setIfInBounds_toArray, List.set_cons_zero, List.set_cons_succ]
      refine c_pure trivial (by kernel_rfl) (fun _ _ _ d _ h => by cases d <;> exact h) 3 rfl (by kernel_rfl) (by kernel_rfl) (fun w' => by go_simp; with_reducible rfl) ?_; try simp only [Act.put, List.setIfInBounds_toArray, List.set_cons_zero, List.set_cons_succ]
      refine c_pure trivial (by kernel_rfl) (fun _ _ _ d _ h => by cases d <;> exact h) 4 rfl (by kernel_rfl) (by kernel_rfl) (fun w' => by go_simp; with_reducible rfl) ?_; try simp only [Act.put, List.setIfInBounds_toArray, List.set_cons_zero, List.set_cons_succ]
      refine c_pure trivial (by kernel_rfl) (fun _ _ _ d _ h => by cases d <;> exact h) 5 rfl (by kernel_rfl) (by kernel_rfl) (fun w' => by go_simp; with_reducible rfl) ?_; try simp only [Act.put, List.setIfInBounds_toArray, List.set_cons_zero, List.set_cons_succ]
      refine c_pure trivial (by kernel_rfl) (fun _ _ _ d _ h => by cases d <;> exact h) 6 rfl (by kernel_rfl) (by kernel_rfl) (fun w' => by go_simp; with_reducible rfl) ?_; try simp only [Act.put, List.setIfInBounds_toArray, List.set_cons_zero, List.set_cons_succ]
      refine c_pure trivial (by kernel_rfl) (fun _ _ _ d _ h => by cases d <;> exact h) 9 rfl (by kernel_rfl) (by kernel_rfl) (fun w' => by go_simp; with_reducible rfl) ?_; try simp only [Act.put, List.setIfInBounds_toArray, List.set_cons_zero, List.set_cons_succ]
      refine c_pure trivial (by kernel_rfl) (fun _ _ _ d _ h => by cases d <;> exact h) 10 rfl (by kernel_rfl) (by kernel_rfl) (fun w' => by go_simp; with_reducible rfl) ?_; try simp only [Act.put, List.setIfInBounds_toArray, List.set_cons_zero, List.set_cons_succ]
      refine c_pure trivial (by kernel_rfl) (fun _ _ _ d _ h => by cases d <;> exact h) 11 rfl (by kernel_rfl) (by kernel_rfl) (fun w' => by go_simp; with_reducible rfl) ?_; try simp only [Act.put, List.setIfInBounds_toArray, List.set_cons_zero, List.set_cons_succ]
      refine c_pure trivial (by kernel_rfl) (fun _ _ _ d _ h => by cases d <;> exact h) 12 rfl (by kernel_rfl) (by kernel_rfl) (fun w' => by go_simp; with_reducible rfl) ?_; try simp only [Act.put, List.setIfInBounds_toArray, List.set_cons_zero, List.set_cons_succ]
      refine c_read (fun w' => w'.cell? ⟨b, off + i, none⟩ = some (.slice au bs.length cu)) cu0 trivial (by kernel_rfl) (fun _ _ _ d _ h => by cases d <;> exact h) 7 rfl (by kernel_rfl) (by kernel_rfl) (fun w' hx => by go_simp; with_reducible rfl) ?_; try simp only [Act.put, List.setIfInBounds_toArray, List.set_cons_zero, List.set_cons_succ]
      refine c_read (fun w' => w'.cell? ⟨b, off + i, none⟩ = some (.slice au bs.length cu)) cu0 ⟨cu0, trivial⟩ (by kernel_rfl) (fun _ _ _ d _ h => by cases d <;> exact h) 13 rfl (by kernel_rfl) (by kernel_rfl) (fun w' hx => by go_simp; with_reducible rfl) ?_; try simp only [Act.put, List.setIfInBounds_toArray, List.set_cons_zero, List.set_cons_succ]
      refine c_move 8 (by kernel_rfl) (c_op 8 [(13, (fun w' => w'.cell? ⟨b, off + i, none⟩ = some (.slice au bs.length cu)))] (by kernel_rfl) rfl (by kernel_rfl) (fun K hK => ?_))
      go_wp2_with fail
      refine (P1.out _ _ T1 (RU.out _ D) (FU.out _ (T1.foot (Nat.le_refl _)))).mono ?_
      rintro e c1 ⟨v3, vo, rfl, T3, Mo, K3, F3⟩
      obtain ⟨n2, o2⟩ := off_two T1 T2 (by omega) (by decide) (by decide) HA.out
      have z3 := K3.size
      have D3 := D.trans (K3.below g1 (by have := T1.blk.lt; omega) (T1.foot (Nat.le_refl _)))
      have T4 := T2.kp K3 n2 o2
      have hT2 := hidden T2.footlt
      have HA3 : Hid (∀ k, v3.ownBlock = some k → v2.ownBlock ≠ some k) := fun k h h2 => by
        rcases F3 k h with h1 | h1
        · exact HA.out k h1 h2
        · have := (owns_lt T2.own h2).2; omega
      have cu1 := CU.out _ D3
      obtain ⟨ao, co, eo, -⟩ := Mo.len
      subst eo
      go_simp
      refine hK.out _ _ ⟨cu1, trivial⟩ ?_
      clear K hK
      try simp only [Act.put, List.setIfInBounds_toArray, List.set_cons_zero, List.set_cons_succ]
      clear T1 T2 D K3 F3 n2 o2 cu0 HA P1
      refine c_move 14 (by kernel_rfl) (c_op 14 [] (by kernel_rfl) rfl (by kernel_rfl) (fun K hK => ?_))
      go_wp2_with fail
      refine (P2.out _ _ T4 (RU.out _ D3)).mono ?_
      rintro e c2 ⟨v4, vq, rfl, T5, Mq, K5, F5⟩
      obtain ⟨n3, o3⟩ := off_two T4 T3 (by omega) (by decide) (by decide) (fun k h h2 => HA3.out k h2 h)
      have z5 := K5.size
      have D5 := D3.trans (K5.below g1 (by have := T3.blk.lt; omega) (T4.foot (by omega)))
      have T6 := T3.kp K5 n3 o3
      have M7 := (Mo.newer hT2.out).kp K5 (fun k h => h)
      have HA5 : Hid (∀ k, v3.ownBlock = some k → v4.ownBlock ≠ some k) := fun k h h2 => by
        rcases F5 k h2 with h1 | h1
        · exact HA3.out k h h1
        · have := (owns_lt T3.own h).2; omega
      obtain ⟨aq, cq, eq, -⟩ := Mq.len
      subst eq
      go_simp
      refine hK.out _ _ trivial ?_
      clear K hK
      try simp only [Act.put, List.setIfInBounds_toArray, List.set_cons_zero, List.set_cons_succ]
      clear T3 T4 D3 K5 F5 n3 o3 cu1 HA3 P2 Mo hT2
      refine c_move 15 (by kernel_rfl) (c_op 15 [] (by kernel_rfl) rfl (by kernel_rfl) (fun K hK => ?_))
      go_wp2_with fail
      refine (msgs_any _ _ S.out _ _ _ _ _ M7 Mq (by omega)).mono ?_
      rintro e c3 ⟨rfl, nq, rfl⟩
      have EN : Below c2.heap.size c2 (c2.drewN nq) := below_drewn0 _ _ _
      replace T5 := T5.ext EN
      replace T6 := T6.ext EN
      replace D5 := D5.trans (EN.mono (by have := T6.blk.lt; simp [World.drewN] at this; omega))
      clear EN M7 Mq
      generalize c2.drewN nq = c3 at *
      go_simp
      refine hK.out _ _ trivial ?_
      clear K hK
      try simp only [Act.put, List.setIfInBounds_toArray, List.set_cons_zero, List.set_cons_succ]
      obtain ⟨a3, c3', e3⟩ := T6.slice
      subst e3
      obtain ⟨a4, c4, e4⟩ := T5.slice
      subst e4
      have f1 := cell_of (i := 1) T5.blk rfl
      have f2 := cell_of (i := 0) T5.blk rfl
      have CC := hidden (closed_any _ _ _ _ T6.blk)
      have CL := hidden (len_any _ _ _ _ _ _ T6.blk)
      generalize hLW : S.wait.length = LW at *
      generalize hSH : S.shut = SH at *
      refine c_pure trivial (by kernel_rfl) (fun _ _ _ d _ h => by cases d <;> exact h) 16 rfl (by kernel_rfl) (by kernel_rfl) (fun w' => by go_simp; with_reducible rfl) ?_; try simp only [Act.put, List.setIfInBounds_toArray, List.set_cons_zero, List.set_cons_succ]
      refine c_pure trivial (by kernel_rfl) (fun _ _ _ d _ h => by cases d <;> exact h) 17 rfl (by kernel_rfl) (by kernel_rfl) (fun w' => by go_simp; with_reducible rfl) ?_; try simp only [Act.put, List.setIfInBounds_toArray, List.set_cons_zero, List.set_cons_succ]
      refine c_pure trivial (by kernel_rfl) (fun _ _ _ d _ h => by cases d <;> exact h) 18 rfl (by kernel_rfl) (by kernel_rfl) (fun w' => by go_simp; with_reducible rfl) ?_; try simp only [Act.put, List.setIfInBounds_toArray, List.set_cons_zero, List.set_cons_succ]
      refine c_pure trivial (by kernel_rfl) (fun _ _ _ d _ h => by cases d <;> exact h) 19 rfl (by kernel_rfl) (by kernel_rfl) (fun w' => by go_simp; with_reducible rfl) ?_; try simp only [Act.put, List.setIfInBounds_toArray, List.set_cons_zero, List.set_cons_succ]
      refine c_pure trivial (by kernel_rfl) (fun _ _ _ d _ h => by cases d <;> exact h) 21 rfl (by kernel_rfl) (by kernel_rfl) (fun w' => by go_simp; with_reducible rfl) ?_; try simp only [Act.put, List.setIfInBounds_toArray, List.set_cons_zero, List.set_cons_succ]
      refine c_pure trivial (by kernel_rfl) (fun _ _ _ d _ h => by cases d <;> exact h) 22 rfl (by kernel_rfl) (by kernel_rfl) (fun w' => by go_simp; with_reducible rfl) ?_; try simp only [Act.put, List.setIfInBounds_toArray, List.set_cons_zero, List.set_cons_succ]
      refine c_pure trivial (by kernel_rfl) (fun _ _ _ d _ h => by cases d <;> exact h) 23 rfl (by kernel_rfl) (by kernel_rfl) (fun w' => by go_simp; with_reducible rfl) ?_; try simp only [Act.put, List.setIfInBounds_toArray, List.set_cons_zero, List.set_cons_succ]
      refine c_read (fun w' => w'.cell? ⟨g2, 1, none⟩ = some (.bool SH)) f1 trivial (by kernel_rfl) (fun _ _ _ d _ h => by cases d <;> exact h) 24 rfl (by kernel_rfl) (by kernel_rfl) (fun w' hx => by go_simp; with_reducible rfl) ?_; try simp only [Act.put, List.setIfInBounds_toArray, List.set_cons_zero, List.set_cons_succ]
      refine c_move 20 (by kernel_rfl) (c_op 20 [(24, (fun w' => w'.cell? ⟨g2, 1, none⟩ = some (.bool SH)))] (by kernel_rfl) rfl (by kernel_rfl) (fun K hK => ?_))
      go_wp2_with fail
      refine CC.out.mono ?_
      rintro e c4x ⟨rfl, rfl⟩

      go_simp
      refine hK.out _ _ ⟨f1, trivial⟩ ?_
      clear K hK
      try simp only [Act.put, List.setIfInBounds_toArray, List.set_cons_zero, List.set_cons_succ]
      refine c_pure ⟨f1, trivial⟩ (by kernel_rfl) (fun _ _ _ d _ h => by cases d <;> exact h) 25 rfl (by kernel_rfl) (by kernel_rfl) (fun w' => by go_simp; with_reducible rfl) ?_; try simp only [Act.put, List.setIfInBounds_toArray, List.set_cons_zero, List.set_cons_succ]
      refine c_pure ⟨f1, trivial⟩ (by kernel_rfl) (fun _ _ _ d _ h => by cases d <;> exact h) 26 rfl (by kernel_rfl) (by kernel_rfl) (fun w' => by go_simp; with_reducible rfl) ?_; try simp only [Act.put, List.setIfInBounds_toArray, List.set_cons_zero, List.set_cons_succ]
      refine c_pure ⟨f1, trivial⟩ (by kernel_rfl) (fun _ _ _ d _ h => by cases d <;> exact h) 27 rfl (by kernel_rfl) (by kernel_rfl) (fun w' => by go_simp; with_reducible rfl) ?_; try simp only [Act.put, List.setIfInBounds_toArray, List.set_cons_zero, List.set_cons_succ]
      refine c_pure ⟨f1, trivial⟩ (by kernel_rfl) (fun _ _ _ d _ h => by cases d <;> exact h) 28 rfl (by kernel_rfl) (by kernel_rfl) (fun w' => by go_simp; with_reducible rfl) ?_; try simp only [Act.put, List.setIfInBounds_toArray, List.set_cons_zero, List.set_cons_succ]
      refine c_pure ⟨f1, trivial⟩ (by kernel_rfl) (fun _ _ _ d _ h => by cases d <;> exact h) 30 rfl (by kernel_rfl) (by kernel_rfl) (fun w' => by go_simp; with_reducible rfl) ?_; try simp only [Act.put, List.setIfInBounds_toArray, List.set_cons_zero, List.set_cons_succ]
      refine c_pure ⟨f1, trivial⟩ (by kernel_rfl) (fun _ _ _ d _ h => by cases d <;> exact h) 31 rfl (by kernel_rfl) (by kernel_rfl) (fun w' => by go_simp; with_reducible rfl) ?_; try simp only [Act.put, List.setIfInBounds_toArray, List.set_cons_zero, List.set_cons_succ]
      refine c_pure ⟨f1, trivial⟩ (by kernel_rfl) (fun _ _ _ d _ h => by cases d <;> exact h) 32 rfl (by kernel_rfl) (by kernel_rfl) (fun w' => by go_simp; with_reducible rfl) ?_; try simp only [Act.put, List.setIfInBounds_toArray, List.set_cons_zero, List.set_cons_succ]
      refine c_read (fun w' => w'.cell? ⟨g2, 0, none⟩ = some (.slice a4 LW c4)) f2 ⟨f1, trivial⟩ (by kernel_rfl) (fun _ _ _ d _ h => by cases d <;> exact h) 33 rfl (by kernel_rfl) (by kernel_rfl) (fun w' hx => by go_simp; with_reducible rfl) ?_; try simp only [Act.put, List.setIfInBounds_toArray, List.set_cons_zero, List.set_cons_succ]
      refine c_pure ⟨f2, f1, trivial⟩ (by kernel_rfl) (fun _ _ _ d _ h => by cases d <;> exact h) 34 rfl (by kernel_rfl) (by kernel_rfl) (fun w' => by go_simp; with_reducible rfl) ?_; try simp only [Act.put, List.setIfInBounds_toArray, List.set_cons_zero, List.set_cons_succ]
      refine c_move 29 (by kernel_rfl) (c_op 29 [(33, (fun w' => w'.cell? ⟨g2, 0, none⟩ = some (.slice a4 LW c4))), (24, (fun w' => w'.cell? ⟨g2, 1, none⟩ = some (.bool SH)))] (by kernel_rfl) rfl (by kernel_rfl) (fun K hK => ?_))
      go_wp2_with fail
      refine CL.out.mono ?_
      rintro e c4x ⟨rfl, rfl⟩

      go_simp
      refine hK.out _ _ ⟨f2, f1, trivial⟩ ?_
      clear K hK
      try simp only [Act.put, List.setIfInBounds_toArray, List.set_cons_zero, List.set_cons_succ]
      refine c_pure ⟨f2, f1, trivial⟩ (by kernel_rfl) (fun _ _ _ d _ h => by cases d <;> exact h) 35 rfl (by kernel_rfl) (by kernel_rfl) (fun w' => by go_simp; with_reducible rfl) ?_; try simp only [Act.put, List.setIfInBounds_toArray, List.set_cons_zero, List.set_cons_succ]
      refine c_pure ⟨f2, f1, trivial⟩ (by kernel_rfl) (fun _ _ _ d _ h => by cases d <;> exact h) 36 rfl (by kernel_rfl) (by kernel_rfl) (fun w' => by go_simp; with_reducible rfl) ?_; try simp only [Act.put, List.setIfInBounds_toArray, List.set_cons_zero, List.set_cons_succ]
      refine c_done (by kernel_rfl) ?_
      rw [← hSH] at T5 T6
      rw [← hLW] at T5 T6 HA5
      clear f1 f2 CC CL hLW hSH
      by_cases hm : i % 3 = 2
      · have m1 : ((i : Int) % 3 == 2) = true := by rw [beq_iff_eq]; omega
        have m2 : ((i : Int).tmod 3 == 2) = true := by rw [beq_iff_eq, Int.tmod_eq_emod_of_nonneg (by omega)]; omega
        go_wp2_with fail
        refine (open_any _ _ _ _ T6.blk).mono ?_
        rintro e c5 ⟨rfl, rfl⟩
        obtain ⟨T7, K7⟩ := T6.opened (by decide)
        obtain ⟨n7, o7⟩ := off_two T6 T5 (by omega) (by decide) (by decide) HA5.out
        have T8 := T5.kp K7 n7 o7
        have D7 := D5.trans (K7.below g1 (by have := T6.blk.lt; omega) (T6.foot (Nat.le_refl _)))
        clear T6 T5 K7 n7 o7 D5
        generalize c3.setCell ⟨g1, 1, none⟩ (.bool false) = c5 at *
        go_wp2_with fail
        refine (ropen_any _ _ _ _ T8.blk).mono ?_
        rintro e c6 ⟨rfl, rfl⟩
        obtain ⟨T9, K9⟩ := T8.opened (by decide)
        obtain ⟨n9, o9⟩ := off_two T8 T7 (by omega) (by decide) (by decide) (fun k h h2 => HA5.out k h2 h)
        have TA := T7.kp K9 n9 o9
        have D9 := D7.trans (K9.below g1 (by have := T7.blk.lt; omega) (T8.foot (by omega)))
        clear T7 T8 K9 n9 o9 D7
        generalize c5.setCell ⟨g2, 1, none⟩ (.bool false) = c6 at *
        go_wp2
        go_roundw
        case rel => exact ⟨i + 1, _, _, S.wait, false, by omega, by omega, by go_num, TA, T9, HO2, HA5, D9⟩
        case measure => simp [intOf]; omega
      · have m1 : ((i : Int) % 3 == 2) = false := by rw [beq_eq_false_iff_ne]; omega
        have m2 : ((i : Int).tmod 3 == 2) = false := by rw [beq_eq_false_iff_ne, Int.tmod_eq_emod_of_nonneg (by omega)]; omega
        go_wp2
        go_roundw
        case rel => exact ⟨i + 1, _, _, S.wait, S.shut, by omega, by omega, by go_num, T6, T5, HO2, HA5, D5⟩
        case measure => simp [intOf]; omega
    · have hc : ¬ ((i : Int) < (lx : Int)) ∨ ((i : Int) < (lx : Int) ∧ ¬ ((i : Int) < 40)) := by omega
      obtain ⟨a3, c3', e3⟩ := T1.slice
      subst e3
      obtain ⟨a4, c4, e4⟩ := T2.slice
      subst e4
      clear HR HL
      rcases hc with hc | ⟨hc, hc2⟩
      all_goals
        go_wp2
        refine c_begin 22 rfl (by kernel_rfl) ?_
        have zr := T1.blk.lt
        have ED := (Below.refl wr.heap.size wr).drew
        replace T1 := T1.ext ED
        replace T2 := T2.ext ED
        replace D := D.trans (ED.mono (by omega))
        clear ED
        generalize wr.drew = c0 at *
        have f1 := cell_of (i := 1) T2.blk rfl
        have f2 := cell_of (i := 0) T2.blk rfl
        have CC := hidden (closed_any _ _ _ _ T1.blk)
        have CL := hidden (len_any _ _ _ _ _ _ T1.blk)
        generalize wait.length = LW at *
        generalize shut = SH at *
        refine c_pure trivial (by kernel_rfl) (fun _ _ _ d _ h => by cases d <;> exact h) 0 rfl (by kernel_rfl) (by kernel_rfl) (fun w' => by go_simp; with_reducible rfl) ?_; try simp only [Act.put, List.setIfInBounds_toArray, List.set_cons_zero, List.set_cons_succ]
        refine c_pure trivial (by kernel_rfl) (fun _ _ _ d _ h => by cases d <;> exact h) 1 rfl (by kernel_rfl) (by kernel_rfl) (fun w' => by go_simp; with_reducible rfl) ?_; try simp only [Act.put, List.setIfInBounds_toArray, List.set_cons_zero, List.set_cons_succ]
        refine c_pure trivial (by kernel_rfl) (fun _ _ _ d _ h => by cases d <;> exact h) 2 rfl (by kernel_rfl) (by kernel_rfl) (fun w' => by go_simp; with_reducible rfl) ?_; try simp only [Act.put, List.setIfInBounds_toArray, List.set_cons_zero, List.set_cons_succ]
        refine c_pure trivial (by kernel_rfl) (fun _ _ _ d _ h => by cases d <;> exact h) 3 rfl (by kernel_rfl) (by kernel_rfl) (fun w' => by go_simp; with_reducible rfl) ?_; try simp only [Act.put, List.setIfInBounds_toArray, List.set_cons_zero, List.set_cons_succ]
        refine c_pure trivial (by kernel_rfl) (fun _ _ _ d _ h => by cases d <;> exact h) 5 rfl (by kernel_rfl) (by kernel_rfl) (fun w' => by go_simp; with_reducible rfl) ?_; try simp only [Act.put, List.setIfInBounds_toArray, List.set_cons_zero, List.set_cons_succ]
        refine c_pure trivial (by kernel_rfl) (fun _ _ _ d _ h => by cases d <;> exact h) 6 rfl (by kernel_rfl) (by kernel_rfl) (fun w' => by go_simp; with_reducible rfl) ?_; try simp only [Act.put, List.setIfInBounds_toArray, List.set_cons_zero, List.set_cons_succ]
        refine c_pure trivial (by kernel_rfl) (fun _ _ _ d _ h => by cases d <;> exact h) 7 rfl (by kernel_rfl) (by kernel_rfl) (fun w' => by go_simp; with_reducible rfl) ?_; try simp only [Act.put, List.setIfInBounds_toArray, List.set_cons_zero, List.set_cons_succ]
        refine c_read (fun w' => w'.cell? ⟨g2, 1, none⟩ = some (.bool SH)) f1 trivial (by kernel_rfl) (fun _ _ _ d _ h => by cases d <;> exact h) 8 rfl (by kernel_rfl) (by kernel_rfl) (fun w' hx => by go_simp; with_reducible rfl) ?_; try simp only [Act.put, List.setIfInBounds_toArray, List.set_cons_zero, List.set_cons_succ]
        refine c_move 4 (by kernel_rfl) (c_op 4 [(8, (fun w' => w'.cell? ⟨g2, 1, none⟩ = some (.bool SH)))] (by kernel_rfl) rfl (by kernel_rfl) (fun K hK => ?_))
        go_wp2_with fail
        refine CC.out.mono ?_
        rintro e c4x ⟨rfl, rfl⟩

        go_simp
        refine hK.out _ _ ⟨f1, trivial⟩ ?_
        clear K hK
        try simp only [Act.put, List.setIfInBounds_toArray, List.set_cons_zero, List.set_cons_succ]
        refine c_pure ⟨f1, trivial⟩ (by kernel_rfl) (fun _ _ _ d _ h => by cases d <;> exact h) 9 rfl (by kernel_rfl) (by kernel_rfl) (fun w' => by go_simp; with_reducible rfl) ?_; try simp only [Act.put, List.setIfInBounds_toArray, List.set_cons_zero, List.set_cons_succ]
        refine c_pure ⟨f1, trivial⟩ (by kernel_rfl) (fun _ _ _ d _ h => by cases d <;> exact h) 10 rfl (by kernel_rfl) (by kernel_rfl) (fun w' => by go_simp; with_reducible rfl) ?_; try simp only [Act.put, List.setIfInBounds_toArray, List.set_cons_zero, List.set_cons_succ]
        refine c_pure ⟨f1, trivial⟩ (by kernel_rfl) (fun _ _ _ d _ h => by cases d <;> exact h) 11 rfl (by kernel_rfl) (by kernel_rfl) (fun w' => by go_simp; with_reducible rfl) ?_; try simp only [Act.put, List.setIfInBounds_toArray, List.set_cons_zero, List.set_cons_succ]
        refine c_pure ⟨f1, trivial⟩ (by kernel_rfl) (fun _ _ _ d _ h => by cases d <;> exact h) 12 rfl (by kernel_rfl) (by kernel_rfl) (fun w' => by go_simp; with_reducible rfl) ?_; try simp only [Act.put, List.setIfInBounds_toArray, List.set_cons_zero, List.set_cons_succ]
        refine c_pure ⟨f1, trivial⟩ (by kernel_rfl) (fun _ _ _ d _ h => by cases d <;> exact h) 14 rfl (by kernel_rfl) (by kernel_rfl) (fun w' => by go_simp; with_reducible rfl) ?_; try simp only [Act.put, List.setIfInBounds_toArray, List.set_cons_zero, List.set_cons_succ]
        refine c_pure ⟨f1, trivial⟩ (by kernel_rfl) (fun _ _ _ d _ h => by cases d <;> exact h) 15 rfl (by kernel_rfl) (by kernel_rfl) (fun w' => by go_simp; with_reducible rfl) ?_; try simp only [Act.put, List.setIfInBounds_toArray, List.set_cons_zero, List.set_cons_succ]
        refine c_pure ⟨f1, trivial⟩ (by kernel_rfl) (fun _ _ _ d _ h => by cases d <;> exact h) 16 rfl (by kernel_rfl) (by kernel_rfl) (fun w' => by go_simp; with_reducible rfl) ?_; try simp only [Act.put, List.setIfInBounds_toArray, List.set_cons_zero, List.set_cons_succ]
        refine c_read (fun w' => w'.cell? ⟨g2, 0, none⟩ = some (.slice a4 LW c4)) f2 ⟨f1, trivial⟩ (by kernel_rfl) (fun _ _ _ d _ h => by cases d <;> exact h) 17 rfl (by kernel_rfl) (by kernel_rfl) (fun w' hx => by go_simp; with_reducible rfl) ?_; try simp only [Act.put, List.setIfInBounds_toArray, List.set_cons_zero, List.set_cons_succ]
        refine c_pure ⟨f2, f1, trivial⟩ (by kernel_rfl) (fun _ _ _ d _ h => by cases d <;> exact h) 18 rfl (by kernel_rfl) (by kernel_rfl) (fun w' => by go_simp; with_reducible rfl) ?_; try simp only [Act.put, List.setIfInBounds_toArray, List.set_cons_zero, List.set_cons_succ]
        refine c_move 13 (by kernel_rfl) (c_op 13 [(17, (fun w' => w'.cell? ⟨g2, 0, none⟩ = some (.slice a4 LW c4))), (8, (fun w' => w'.cell? ⟨g2, 1, none⟩ = some (.bool SH)))] (by kernel_rfl) rfl (by kernel_rfl) (fun K hK => ?_))
        go_wp2_with fail
        refine CL.out.mono ?_
        rintro e c4x ⟨rfl, rfl⟩

        go_simp
        refine hK.out _ _ ⟨f2, f1, trivial⟩ ?_
        clear K hK
        try simp only [Act.put, List.setIfInBounds_toArray, List.set_cons_zero, List.set_cons_succ]
        refine c_pure ⟨f2, f1, trivial⟩ (by kernel_rfl) (fun _ _ _ d _ h => by cases d <;> exact h) 19 rfl (by kernel_rfl) (by kernel_rfl) (fun w' => by go_simp; with_reducible rfl) ?_; try simp only [Act.put, List.setIfInBounds_toArray, List.set_cons_zero, List.set_cons_succ]
        refine c_pure ⟨f2, f1, trivial⟩ (by kernel_rfl) (fun _ _ _ d _ h => by cases d <;> exact h) 20 rfl (by kernel_rfl) (by kernel_rfl) (fun w' => by go_simp; with_reducible rfl) ?_; try simp only [Act.put, List.setIfInBounds_toArray, List.set_cons_zero, List.set_cons_succ]
        refine c_pure ⟨f2, f1, trivial⟩ (by kernel_rfl) (fun _ _ _ d _ h => by cases d <;> exact h) 21 rfl (by kernel_rfl) (by kernel_rfl) (fun w' => by go_simp; with_reducible rfl) ?_; try simp only [Act.put, List.setIfInBounds_toArray, List.set_cons_zero, List.set_cons_succ]
        refine c_done (by kernel_rfl) ?_
        go_wp2
        go_ret
        exact ⟨rfl, by rw [HG1.out]; exact D⟩

end Go.Proofs.Ytejcigeccmfeeaa

namespace Go.Proofs.Ytejcigeccmfeeaa

/-- a request -/
structure Rq where
  fn : Int
  loc : Int
  cnt : Int
  wat : Int
  sub : Int
  bits : List Bool
  vals : List UInt16
  land : UInt16
  lor : UInt16
  deriving DecidableEq

def zeroQ : Rq := ⟨0, 0, 0, 0, 0, [], [], 0, 0⟩

def knownB (f : Int) : Bool := decide (f = 1 ∨ f = 2 ∨ f = 3 ∨ f = 4 ∨ f = 5 ∨ f = 6 ∨ f = 8 ∨ f = 15 ∨ f = 16 ∨ f = 17 ∨ f = 22 ∨ f = 23)
def numB (n : Int) : Bool := decide (0 ≤ n ∧ n ≤ 65535)

/-- what a function has not is zero -/
def formP (q : Rq) : Prop :=
  ((q.fn = 1 ∨ q.fn = 2 ∨ q.fn = 3 ∨ q.fn = 4 ∨ q.fn = 5 ∨ q.fn = 6 ∨ q.fn = 15 ∨ q.fn = 16 ∨ q.fn = 22 ∨ q.fn = 23) ∨ q.loc = 0) ∧
  ((q.fn = 1 ∨ q.fn = 2 ∨ q.fn = 3 ∨ q.fn = 4 ∨ q.fn = 15 ∨ q.fn = 16 ∨ q.fn = 23) ∨ q.cnt = 0) ∧
  (q.fn = 23 ∨ q.wat = 0) ∧ (q.fn = 8 ∨ q.sub = 0) ∧ ((q.fn = 5 ∨ q.fn = 15) ∨ q.bits = []) ∧
  ((q.fn = 6 ∨ q.fn = 8 ∨ q.fn = 16 ∨ q.fn = 23) ∨ q.vals = []) ∧ (q.fn = 22 ∨ (q.land = 0 ∧ q.lor = 0))
instance (q : Rq) : Decidable (formP q) := by unfold formP; infer_instance

def listB (q : Rq) : Bool :=
  if q.fn = 5 then decide (q.bits.length = 1)
  else if q.fn = 6 then decide (q.vals.length = 1)
  else if q.fn = 8 then decide (q.vals.length = 1)
  else if q.fn = 15 then decide ((q.bits.length : Int) = q.cnt ∧ q.bits.length ≤ 2040)
  else if q.fn = 16 then decide ((q.vals.length : Int) = q.cnt ∧ q.vals.length ≤ 127)
  else if q.fn = 23 then decide (q.vals.length ≤ 127)
  else true

def rightE (q : Rq) : Int :=
  if knownB q.fn = false then 15
  else if ¬ formP q then 12
  else if (numB q.loc && numB q.wat && numB q.sub && numB q.cnt) = false then 12
  else if listB q = false then 12
  else 0

def pw (n : Int) : List UInt8 := [hiB (wOf n), loB (wOf n)]
def cntL (l : List UInt8) : List UInt8 := UInt8.ofNat l.length :: l

def bodyQ (q : Rq) : List UInt8 :=
  if q.fn = 1 ∨ q.fn = 2 ∨ q.fn = 3 ∨ q.fn = 4 then pw q.loc ++ pw q.cnt
  else if q.fn = 5 then pw q.loc ++ pw (if q.bits.getD 0 false then 65280 else 0)
  else if q.fn = 6 then pw q.loc ++ pw (q.vals.getD 0 0).toNat
  else if q.fn = 8 then pw q.sub ++ pw (q.vals.getD 0 0).toNat
  else if q.fn = 15 then pw q.loc ++ pw q.cnt ++ cntL (packL q.bits)
  else if q.fn = 16 then pw q.loc ++ pw q.cnt ++ cntL (bytesL q.vals)
  else if q.fn = 22 then pw q.loc ++ pw q.land.toNat ++ pw q.lor.toNat
  else if q.fn = 23 then pw q.loc ++ pw q.cnt ++ pw q.wat ++ pw q.vals.length ++ cntL (bytesL q.vals)
  else []

def bytesQ (q : Rq) : List UInt8 := UInt8.ofNat (q.fn % 256).toNat :: bodyQ q

def tailL (b : List UInt8) (k : Nat) : List UInt8 := if b.length ≤ k ∨ b.length - k - 1 ≠ (b.getD k 0).toNat then [] else b.drop (k + 1)
def fnOf (b : List UInt8) : Int := (b.getD 0 0).toNat

/-- what pdu takes bytes for -/
def gP (b : List UInt8) : Rq :=
  if fnOf b = 1 ∨ fnOf b = 2 ∨ fnOf b = 3 ∨ fnOf b = 4 then ⟨fnOf b, getN b 1, getN b 3, 0, 0, [], [], 0, 0⟩
  else if fnOf b = 5 then ⟨fnOf b, getN b 1, 0, 0, 0, [getN b 3 == 65280], [], 0, 0⟩
  else if fnOf b = 6 then ⟨fnOf b, getN b 1, 0, 0, 0, [], [wOf (getN b 3)], 0, 0⟩
  else if fnOf b = 8 then ⟨fnOf b, 0, 0, 0, getN b 1, [], [wOf (getN b 3)], 0, 0⟩
  else if fnOf b = 15 then ⟨fnOf b, getN b 1, getN b 3, 0, 0, openR (tailL b 5) (getN b 3), [], 0, 0⟩
  else if fnOf b = 16 then ⟨fnOf b, getN b 1, getN b 3, 0, 0, [], wordsR (tailL b 5), 0, 0⟩
  else if fnOf b = 22 then ⟨fnOf b, getN b 1, 0, 0, 0, [], [], wOf (getN b 3), wOf (getN b 5)⟩
  else if fnOf b = 23 then ⟨fnOf b, getN b 1, getN b 3, getN b 5, 0, [], wordsR (tailL b 9), 0, 0⟩
  else ⟨fnOf b, 0, 0, 0, 0, [], [], 0, 0⟩

/-- what the document's answer takes them for -/
def wordsAt (b : List UInt8) (k : Nat) : List UInt16 := if b.length ≤ k then [] else wordsR (b.drop k)
def gR (b : List UInt8) : Rq :=
  if fnOf b = 1 ∨ fnOf b = 2 ∨ fnOf b = 3 ∨ fnOf b = 4 then ⟨fnOf b, getN b 1, getN b 3, 0, 0, [], [], 0, 0⟩
  else if fnOf b = 5 then ⟨fnOf b, getN b 1, 0, 0, 0, [getN b 3 != 0], [], 0, 0⟩
  else if fnOf b = 6 then ⟨fnOf b, getN b 1, 0, 0, 0, [], wordsAt b 3, 0, 0⟩
  else if fnOf b = 8 then ⟨fnOf b, 0, 0, 0, getN b 1, [], wordsAt b 3, 0, 0⟩
  else if fnOf b = 15 then ⟨fnOf b, getN b 1, getN b 3, 0, 0, (if b.length ≤ 6 then [] else openR (b.drop 6) (getN b 3)), [], 0, 0⟩
  else if fnOf b = 16 then ⟨fnOf b, getN b 1, getN b 3, 0, 0, [], wordsAt b 6, 0, 0⟩
  else if fnOf b = 22 then ⟨fnOf b, getN b 1, 0, 0, 0, [], [], wOf (getN b 3), wOf (getN b 5)⟩
  else if fnOf b = 23 then ⟨fnOf b, getN b 1, getN b 3, getN b 5, 0, [], wordsAt b 10, 0, 0⟩
  else ⟨fnOf b, 0, 0, 0, 0, [], [], 0, 0⟩

theorem wOf_small (n : Int) (h : numB n = true) : ((wOf n).toNat : Int) = n := by
  rw [wOf_nat]; simp [numB] at h; omega
theorem wOf_val (x : UInt16) : wOf (x.toNat : Int) = x := by
  apply UInt16.toNat_inj.1
  have := wOf_nat (x.toNat : Int)
  have := x.toNat_lt
  omega
theorem pw_mk (n : Int) (h : numB n = true) : ((mkW (hiB (wOf n)) (loB (wOf n))).toNat : Int) = n := by rw [mkW_hi_lo]; exact wOf_small n h
theorem val_num (x : UInt16) : numB (x.toNat : Int) = true := by
  have := x.toNat_lt; simp [numB]; omega

theorem known_cases {f : Int} (h : knownB f = true) : f = 1 ∨ f = 2 ∨ f = 3 ∨ f = 4 ∨ f = 5 ∨ f = 6 ∨ f = 8 ∨ f = 15 ∨ f = 16 ∨ f = 17 ∨ f = 22 ∨ f = 23 := of_decide_eq_true h

theorem right_parts {q : Rq} (h : rightE q = 0) : knownB q.fn = true ∧ formP q ∧ (numB q.loc = true ∧ numB q.wat = true ∧ numB q.sub = true ∧ numB q.cnt = true) ∧ listB q = true := by
  unfold rightE at h
  split at h
  · cases h
  · rename_i h1
    split at h
    · cases h
    · rename_i h2
      split at h
      · cases h
      · rename_i h3
        split at h
        · cases h
        · rename_i h4
          refine ⟨by simpa using h1, Decidable.not_not.1 h2, ?_, by simpa using h4⟩
          simp only [Bool.not_eq_false, Bool.and_eq_true] at h3
          exact ⟨h3.1.1.1, h3.1.1.2, h3.1.2, h3.2⟩

/-- bytes at places -/
theorem getN_at (b : List UInt8) (k : Nat) (h : k + 2 ≤ b.length) : getN b (k : Int) = (mkW (b.getD k 0) (b.getD (k + 1) 0)).toNat := by
  unfold getN
  rw [if_pos (by omega)]
  simp

theorem getN1 (f x y : UInt8) (r : List UInt8) : getN (f :: x :: y :: r) 1 = (mkW x y).toNat := by
  unfold getN; rw [if_pos (by simp only [List.length_cons]; omega)]; simp
theorem getN3 (f a b x y : UInt8) (r : List UInt8) : getN (f :: a :: b :: x :: y :: r) 3 = (mkW x y).toNat := by
  unfold getN; rw [if_pos (by simp only [List.length_cons]; omega)]; simp
theorem getN5 (f a b c d x y : UInt8) (r : List UInt8) : getN (f :: a :: b :: c :: d :: x :: y :: r) 5 = (mkW x y).toNat := by
  unfold getN; rw [if_pos (by simp only [List.length_cons]; omega)]; simp
theorem tail5 (f a b c d n : UInt8) (l : List UInt8) (h : n.toNat = l.length) : tailL (f :: a :: b :: c :: d :: n :: l) 5 = l := by
  unfold tailL; rw [if_neg (by simp [h])]; simp
theorem tail9 (f a b c d g i j k n : UInt8) (l : List UInt8) (h : n.toNat = l.length) : tailL (f :: a :: b :: c :: d :: g :: i :: j :: k :: n :: l) 9 = l := by
  unfold tailL; rw [if_neg (by simp [h])]; simp
theorem wordsR_bytes (l : List UInt16) : wordsR (bytesL l) = l := by
  unfold wordsR; rw [if_pos (by rw [bytesL_len]; omega), wordsL_bytesL]
theorem bytesL_nil {l : List UInt16} (h : (bytesL l).length = 0) : l = [] := by
  rw [bytesL_len] at h; exact List.length_eq_zero_iff.1 (by omega)
theorem packL_nil {l : List Bool} (h : (packL l).length = 0) : l = [] := by
  rw [packL_len] at h; exact List.length_eq_zero_iff.1 (by omega)

theorem one_of_len {α : Type} {l : List α} (h : l.length = 1) : ∃ x, l = [x] := by
  match l, h with
  | [x], _ => exact ⟨x, rfl⟩

/-- a right request's bytes are taken for it -/
theorem gP_bytes (q : Rq) (h : rightE q = 0) : gP (bytesQ q) = q := by
  obtain ⟨hk, hf, ⟨n1, n2, n3, n4⟩, hl⟩ := right_parts h
  clear h
  obtain ⟨f, a, c, p, s, bs, vs, m, o⟩ := q
  simp only at hk n1 n2 n3 n4
  have m1 := pw_mk a n1
  have m2 := pw_mk p n2
  have m3 := pw_mk s n3
  have m4 := pw_mk c n4
  rcases known_cases hk with rfl | rfl | rfl | rfl | rfl | rfl | rfl | rfl | rfl | rfl | rfl | rfl
  all_goals
    clear hk
    simp [formP] at hf
    simp [listB] at hl
  · obtain ⟨rfl, rfl, rfl, rfl, rfl, rfl⟩ := hf
    simp [gP, bytesQ, bodyQ, fnOf, pw, getN1, getN3, m1, m4]
  · obtain ⟨rfl, rfl, rfl, rfl, rfl, rfl⟩ := hf
    simp [gP, bytesQ, bodyQ, fnOf, pw, getN1, getN3, m1, m4]
  · obtain ⟨rfl, rfl, rfl, rfl, rfl, rfl⟩ := hf
    simp [gP, bytesQ, bodyQ, fnOf, pw, getN1, getN3, m1, m4]
  · obtain ⟨rfl, rfl, rfl, rfl, rfl, rfl⟩ := hf
    simp [gP, bytesQ, bodyQ, fnOf, pw, getN1, getN3, m1, m4]
  · obtain ⟨rfl, rfl, rfl, rfl, rfl, rfl⟩ := hf
    obtain ⟨x, rfl⟩ := one_of_len hl
    cases x
    · simp [gP, bytesQ, bodyQ, fnOf, pw, getN1, getN3, m1]
      decide
    · simp [gP, bytesQ, bodyQ, fnOf, pw, getN1, getN3, m1]
      decide
  · obtain ⟨rfl, rfl, rfl, rfl, rfl, rfl⟩ := hf
    obtain ⟨x, rfl⟩ := one_of_len hl
    rw [mkW_hi_lo] at m1
    simp [gP, bytesQ, bodyQ, fnOf, pw, getN1, getN3, m1, mkW_hi_lo, wOf_val]
  · obtain ⟨rfl, rfl, rfl, rfl, rfl, rfl⟩ := hf
    obtain ⟨x, rfl⟩ := one_of_len hl
    rw [mkW_hi_lo] at m3
    simp [gP, bytesQ, bodyQ, fnOf, pw, getN1, getN3, m3, mkW_hi_lo, wOf_val]
  · obtain ⟨rfl, rfl, rfl, rfl, rfl⟩ := hf
    obtain ⟨hl1, hl2⟩ := hl
    have e : (UInt8.ofNat (packL bs).length).toNat = (packL bs).length := by
      rw [UInt8.toNat_ofNat', packL_len]; omega
    have e3 : openR (packL bs) c = bs := by rw [← hl1, openR_yes (openOk_packL bs)]; simpa using openL_packL bs
    simp [gP, bytesQ, bodyQ, fnOf, pw, cntL, getN1, getN3, m1, m4]
    rw [tail5 _ _ _ _ _ _ _ e]
    exact e3
  · obtain ⟨rfl, rfl, rfl, rfl, rfl⟩ := hf
    obtain ⟨hl1, hl2⟩ := hl
    have e : (UInt8.ofNat (bytesL vs).length).toNat = (bytesL vs).length := by
      rw [UInt8.toNat_ofNat', bytesL_len]; omega
    simp [gP, bytesQ, bodyQ, fnOf, pw, cntL, getN1, getN3, m1, m4]
    rw [tail5 _ _ _ _ _ _ _ e]
    exact wordsR_bytes vs
  · obtain ⟨rfl, rfl, rfl, rfl, rfl, rfl, rfl, rfl⟩ := hf
    simp [gP, bytesQ, bodyQ, fnOf]
  · obtain ⟨rfl, rfl, rfl, rfl, rfl⟩ := hf
    rw [mkW_hi_lo] at m1
    simp [gP, bytesQ, bodyQ, fnOf, pw, getN1, getN3, getN5, m1, mkW_hi_lo, wOf_val]
  · obtain ⟨rfl, rfl, rfl, rfl⟩ := hf
    have e : (UInt8.ofNat (bytesL vs).length).toNat = (bytesL vs).length := by
      rw [UInt8.toNat_ofNat', bytesL_len]; omega
    simp [gP, bytesQ, bodyQ, fnOf, pw, cntL, getN1, getN3, getN5, m1, m2, m4]
    rw [tail9 _ _ _ _ _ _ _ _ _ _ _ e]
    exact wordsR_bytes vs

theorem gR_bytes (q : Rq) (h : rightE q = 0) : gR (bytesQ q) = q := by
  obtain ⟨hk, hf, ⟨n1, n2, n3, n4⟩, hl⟩ := right_parts h
  clear h
  obtain ⟨f, a, c, p, s, bs, vs, m, o⟩ := q
  simp only at hk n1 n2 n3 n4
  have m1 := pw_mk a n1
  have m2 := pw_mk p n2
  have m3 := pw_mk s n3
  have m4 := pw_mk c n4
  rcases known_cases hk with rfl | rfl | rfl | rfl | rfl | rfl | rfl | rfl | rfl | rfl | rfl | rfl
  all_goals
    clear hk
    simp [formP] at hf
    simp [listB] at hl
  · obtain ⟨rfl, rfl, rfl, rfl, rfl, rfl⟩ := hf
    simp [gR, bytesQ, bodyQ, fnOf, pw, getN1, getN3, m1, m4]
  · obtain ⟨rfl, rfl, rfl, rfl, rfl, rfl⟩ := hf
    simp [gR, bytesQ, bodyQ, fnOf, pw, getN1, getN3, m1, m4]
  · obtain ⟨rfl, rfl, rfl, rfl, rfl, rfl⟩ := hf
    simp [gR, bytesQ, bodyQ, fnOf, pw, getN1, getN3, m1, m4]
  · obtain ⟨rfl, rfl, rfl, rfl, rfl, rfl⟩ := hf
    simp [gR, bytesQ, bodyQ, fnOf, pw, getN1, getN3, m1, m4]
  · obtain ⟨rfl, rfl, rfl, rfl, rfl, rfl⟩ := hf
    obtain ⟨x, rfl⟩ := one_of_len hl
    cases x
    · simp [gR, bytesQ, bodyQ, fnOf, pw, getN1, getN3, m1]
      decide
    · simp [gR, bytesQ, bodyQ, fnOf, pw, getN1, getN3, m1]
      decide
  · obtain ⟨rfl, rfl, rfl, rfl, rfl, rfl⟩ := hf
    obtain ⟨x, rfl⟩ := one_of_len hl
    rw [mkW_hi_lo] at m1
    simp [gR, bytesQ, bodyQ, fnOf, pw, getN1, m1, mkW_hi_lo, wOf_val, wordsAt, wordsR, wordsL]
  · obtain ⟨rfl, rfl, rfl, rfl, rfl, rfl⟩ := hf
    obtain ⟨x, rfl⟩ := one_of_len hl
    rw [mkW_hi_lo] at m3
    simp [gR, bytesQ, bodyQ, fnOf, pw, getN1, m3, mkW_hi_lo, wOf_val, wordsAt, wordsR, wordsL]
  · obtain ⟨rfl, rfl, rfl, rfl, rfl⟩ := hf
    obtain ⟨hl1, hl2⟩ := hl
    have e3 : openR (packL bs) c = bs := by rw [← hl1, openR_yes (openOk_packL bs)]; simpa using openL_packL bs
    simp [gR, bytesQ, bodyQ, fnOf, pw, cntL, getN1, getN3, m1, m4]
    split
    · rename_i h0
      exact (packL_nil (by rw [h0]; rfl)).symm
    · exact e3
  · obtain ⟨rfl, rfl, rfl, rfl, rfl⟩ := hf
    obtain ⟨hl1, hl2⟩ := hl
    simp [gR, bytesQ, bodyQ, fnOf, pw, cntL, getN1, getN3, m1, m4, wordsAt, wordsR_bytes]
    intro h0
    exact bytesL_nil (by rw [h0]; rfl)
  · obtain ⟨rfl, rfl, rfl, rfl, rfl, rfl, rfl, rfl⟩ := hf
    simp [gR, bytesQ, bodyQ, fnOf]
  · obtain ⟨rfl, rfl, rfl, rfl, rfl⟩ := hf
    rw [mkW_hi_lo] at m1
    simp [gR, bytesQ, bodyQ, fnOf, pw, getN1, getN3, getN5, m1, mkW_hi_lo, wOf_val]
  · obtain ⟨rfl, rfl, rfl, rfl⟩ := hf
    simp [gR, bytesQ, bodyQ, fnOf, pw, cntL, getN1, getN3, getN5, m1, m2, m4, wordsAt, wordsR_bytes]
    intro h0
    exact bytesL_nil (by rw [h0]; rfl)

/-- the right request whose bytes are b -/
def isQ (b : List UInt8) (q : Rq) : Prop := rightE q = 0 ∧ bytesQ q = b
theorem isQ_one {b : List UInt8} {p q : Rq} (hp : isQ b p) (hq : isQ b q) : p = q := by
  rw [← gP_bytes p hp.1, ← gP_bytes q hq.1, hp.2, hq.2]
open Classical in
noncomputable def readQ (b : List UInt8) : Rq := if h : ∃ q, isQ b q then Classical.choose h else zeroQ
open Classical in
noncomputable def readE (b : List UInt8) : Int := if b = [] then 13 else if knownB (fnOf b) = false then 15 else if ∃ q, isQ b q then 0 else 12
theorem readQ_is {b : List UInt8} {q : Rq} (h : isQ b q) : readQ b = q := by
  have hx : ∃ q, isQ b q := ⟨q, h⟩
  unfold readQ
  rw [dif_pos hx]
  exact isQ_one (Classical.choose_spec hx) h
theorem readQ_no {b : List UInt8} (h : ¬ ∃ q, isQ b q) : readQ b = zeroQ := by
  unfold readQ; rw [dif_neg h]
theorem fn_bytes {b : List UInt8} {q : Rq} (h : isQ b q) : b ≠ [] ∧ fnOf b = q.fn ∧ knownB q.fn = true := by
  obtain ⟨hr, rfl⟩ := h
  obtain ⟨hk, -⟩ := right_parts hr
  refine ⟨by simp [bytesQ], ?_, hk⟩
  have := known_cases hk
  simp only [fnOf, bytesQ, List.getD_cons_zero, UInt8.toNat_ofNat']
  omega
theorem readE_is {b : List UInt8} {q : Rq} (h : isQ b q) : readE b = 0 := by
  obtain ⟨h1, h2, h3⟩ := fn_bytes h
  have hx : ∃ q, isQ b q := ⟨q, h⟩
  simp [readE, h1, h2, h3, hx]
theorem readE_short : readE [] = 13 := by simp [readE]
theorem readE_fn {b : List UInt8} (h0 : b ≠ []) (h : knownB (fnOf b) = false) : readE b = 15 := by simp [readE, h0, h]
theorem readE_form {b : List UInt8} (h0 : b ≠ []) (h : knownB (fnOf b) = true) (hn : ¬ ∃ q, isQ b q) : readE b = 12 := by simp only [readE, h0, h, hn]; simp
theorem readQ_short : readQ [] = zeroQ := readQ_no (fun ⟨_, h⟩ => (fn_bytes h).1 rfl)
theorem readQ_fn {b : List UInt8} (h : knownB (fnOf b) = false) : readQ b = zeroQ := readQ_no (fun ⟨q, hq⟩ => by
  obtain ⟨-, h2, h3⟩ := fn_bytes hq
  rw [h2, h3] at h; cases h)
theorem noP {b : List UInt8} (h : ¬ isQ b (gP b)) : ¬ ∃ q, isQ b q := by
  rintro ⟨q, hq⟩
  have := gP_bytes q hq.1
  rw [hq.2] at this
  rw [this] at h
  exact h hq
theorem noR {b : List UInt8} (h : ¬ isQ b (gR b)) : ¬ ∃ q, isQ b q := by
  rintro ⟨q, hq⟩
  have := gR_bytes q hq.1
  rw [hq.2] at this
  rw [this] at h
  exact h hq

end Go.Proofs.Ytejcigeccmfeeaa

namespace Go.Proofs.Ytejcigeccmfeeaa
open Go.RowKit

end Go.Proofs.Ytejcigeccmfeeaa

namespace Go.Proofs.Ytejcigeccmfeeaa
open Go.RowKit

abbrev rqV (f a c p s : Int) (vb vv : Value) (m o : UInt16) : Value := .agg #[.int .i64 f, .int .i64 a, .int .i64 c, .int .i64 p, .int .i64 s, vb, vv, wV m, wV o]
/-- v is the request q -/
def IsRq (w : World) (v : Value) (q : Rq) : Prop := ∃ vb vv, v = rqV q.fn q.loc q.cnt q.wat q.sub vb vv q.land q.lor ∧ Row w vb (q.bits.map Value.bool) ∧ Row w vv (q.vals.map wV)
theorem IsRq.below {w w' : World} {v : Value} {q : Rq} (h : IsRq w v q) (hb : Below w.heap.size w w') : IsRq w' v q := by
  obtain ⟨vb, vv, rfl, h1, h2⟩ := h
  exact ⟨vb, vv, rfl, h1.below hb, h2.below hb⟩

theorem known_no {f : Int} (h : knownB f = false) : (f == 1) = false ∧ (f == 2) = false ∧ (f == 3) = false ∧ (f == 4) = false ∧ (f == 5) = false ∧ (f == 6) = false ∧ (f == 8) = false ∧ (f == 15) = false ∧ (f == 16) = false ∧ (f == 17) = false ∧ (f == 22) = false ∧ (f == 23) = false := by
  have := of_decide_eq_false h
  simp only [not_or] at this
  simp only [beq_eq_false_iff_ne]
  exact this

end Go.Proofs.Ytejcigeccmfeeaa

namespace Go.Proofs.Ytejcigeccmfeeaa
open Go.RowKit

/-- a request without what its function has -/
def othersQ (q : Rq) : Rq :=
  if q.fn = 1 ∨ q.fn = 2 ∨ q.fn = 3 ∨ q.fn = 4 then ⟨0, 0, 0, q.wat, q.sub, q.bits, q.vals, q.land, q.lor⟩
  else if q.fn = 5 then ⟨0, 0, q.cnt, q.wat, q.sub, [], q.vals, q.land, q.lor⟩
  else if q.fn = 6 then ⟨0, 0, q.cnt, q.wat, q.sub, q.bits, [], q.land, q.lor⟩
  else if q.fn = 8 then ⟨0, q.loc, q.cnt, q.wat, 0, q.bits, [], q.land, q.lor⟩
  else if q.fn = 15 then ⟨0, 0, 0, q.wat, q.sub, [], q.vals, q.land, q.lor⟩
  else if q.fn = 16 then ⟨0, 0, 0, q.wat, q.sub, q.bits, [], q.land, q.lor⟩
  else if q.fn = 22 then ⟨0, 0, q.cnt, q.wat, q.sub, q.bits, q.vals, 0, 0⟩
  else if q.fn = 23 then ⟨0, 0, 0, 0, q.sub, q.bits, [], q.land, q.lor⟩
  else ⟨0, q.loc, q.cnt, q.wat, q.sub, q.bits, q.vals, q.land, q.lor⟩

theorem others_form (q : Rq) (hk : knownB q.fn = true) : othersQ q = zeroQ ↔ formP q := by
  obtain ⟨f, a, c, p, s, bs, vs, m, o⟩ := q
  simp only at hk
  rcases known_cases hk with rfl | rfl | rfl | rfl | rfl | rfl | rfl | rfl | rfl | rfl | rfl | rfl <;> simp [othersQ, zeroQ, formP]

end Go.Proofs.Ytejcigeccmfeeaa

namespace Go.Proofs.Ytejcigeccmfeeaa
open Go.RowKit

theorem rq_ext (q r : Rq) : (q = r) ↔ (q.fn = r.fn ∧ q.loc = r.loc ∧ q.cnt = r.cnt ∧ q.wat = r.wat ∧ q.sub = r.sub ∧ q.bits = r.bits ∧ q.vals = r.vals ∧ q.land = r.land ∧ q.lor = r.lor) := by
  obtain ⟨a1, a2, a3, a4, a5, a6, a7, a8, a9⟩ := q
  obtain ⟨b1, b2, b3, b4, b5, b6, b7, b8, b9⟩ := r
  simp
theorem u16_beq (x y : UInt16) : ((x.toNat : Int) == (y.toNat : Int)) = decide (x = y) := by
  rw [Bool.eq_iff_iff]; simp; constructor
  · intro h; exact UInt16.toNat_inj.1 (by omega)
  · intro h; rw [h]

end Go.Proofs.Ytejcigeccmfeeaa

namespace Go.Proofs.Ytejcigeccmfeeaa
open Go.RowKit

theorem zero_is (w : World) : IsRq w (rqV 0 0 0 0 0 (.slice none 0 0) (.slice none 0 0) 0 0) zeroQ := ⟨_, _, rfl, Row.nil w, Row.nil w⟩
theorem IsRq.slices {w : World} {v : Value} {q : Rq} (h : IsRq w v q) : ∃ ab capb av capv, v = rqV q.fn q.loc q.cnt q.wat q.sub (.slice ab q.bits.length capb) (.slice av q.vals.length capv) q.land q.lor ∧ q.bits.length ≤ 9223372036854775807 ∧ q.vals.length ≤ 9223372036854775807 := by
  obtain ⟨vb, vv, rfl, hb, hv⟩ := h
  obtain ⟨ab, capb, rfl, h1, h2, -⟩ := hb
  obtain ⟨av, capv, rfl, h3, h4, -⟩ := hv
  simp only [List.length_map] at h1 h3 ⊢
  unfold maxLen at h2 h4
  exact ⟨ab, capb, av, capv, rfl, by omega, by omega⟩
theorem rightE_12 {q : Rq} (hk : knownB q.fn = true) (h : ¬ formP q ∨ (numB q.loc && numB q.wat && numB q.sub && numB q.cnt) = false ∨ listB q = false) : rightE q = 12 := by
  unfold rightE
  rw [if_neg (by rw [hk]; simp)]
  by_cases h1 : formP q
  · rw [if_neg (by simp [h1])]
    by_cases h2 : (numB q.loc && numB q.wat && numB q.sub && numB q.cnt) = false
    · rw [if_pos h2]
    · rw [if_neg h2]
      rcases h with h | h | h
      · exact absurd h1 h
      · exact absurd h h2
      · rw [if_pos h]
  · rw [if_pos h1]
theorem rightE_0 {q : Rq} (hk : knownB q.fn = true) (h1 : formP q) (h2 : (numB q.loc && numB q.wat && numB q.sub && numB q.cnt) = true) (h3 : listB q = true) : rightE q = 0 := by
  unfold rightE
  rw [if_neg (by rw [hk]; simp), if_neg (by simp [h1]), if_neg (by rw [h2]; simp), if_neg (by rw [h3]; simp)]

end Go.Proofs.Ytejcigeccmfeeaa

namespace Go.Proofs.Ytejcigeccmfeeaa
open Go.RowKit

/-- numbers, two bytes each -/
def pwL (l : List Int) : List UInt8 := l.flatMap pw
theorem pwL_len (l : List Int) : (pwL l).length = 2 * l.length := by
  induction l with
  | nil => rfl
  | cons x r ih => simp [pwL, pw] at ih ⊢; omega
theorem pwL_take (l : List Int) (k : Nat) (h : k < l.length) : pwL (l.take (k + 1)) = pwL (l.take k) ++ [hiB (wOf (l.getD k 0)), loB (wOf (l.getD k 0))] := by
  rw [List.take_succ_eq_append_getElem h]
  unfold pwL
  rw [List.flatMap_append]
  simp [pw, List.getD_eq_getElem?_getD, h]

abbrev iV (n : Int) : Value := .int .i64 n

end Go.Proofs.Ytejcigeccmfeeaa

namespace Go.Proofs.Ytejcigeccmfeeaa
open Go.RowKit

/-- a request's nine cells in block g -/
structure Box (w : World) (g : Nat) (f a c p s : Int) (vb vv : Value) (m o : UInt16) : Prop where
  lt : g < w.heap.size
  c0 : w.cell? ⟨g, 0, none⟩ = some (.int .i64 f)
  c1 : w.cell? ⟨g, 1, none⟩ = some (.int .i64 a)
  c2 : w.cell? ⟨g, 2, none⟩ = some (.int .i64 c)
  c3 : w.cell? ⟨g, 3, none⟩ = some (.int .i64 p)
  c4 : w.cell? ⟨g, 4, none⟩ = some (.int .i64 s)
  c5 : w.cell? ⟨g, 5, none⟩ = some vb
  c6 : w.cell? ⟨g, 6, none⟩ = some vv
  c7 : w.cell? ⟨g, 7, none⟩ = some (.int .u16 m.toNat)
  c8 : w.cell? ⟨g, 8, none⟩ = some (.int .u16 o.toNat)
theorem Box.below {w w' : World} {g : Nat} {f a c p s : Int} {vb vv : Value} {m o : UInt16} (h : Box w g f a c p s vb vv m o) {B : Nat} (hb : Below B w w') (hg : g < B) : Box w' g f a c p s vb vv m o := by
  have e : ∀ i, w'.cell? ⟨g, i, none⟩ = w.cell? ⟨g, i, none⟩ := fun i => hb.cell (p := ⟨g, i, none⟩) hg
  exact ⟨Nat.lt_of_lt_of_le h.lt hb.size, (e 0).trans h.c0, (e 1).trans h.c1, (e 2).trans h.c2, (e 3).trans h.c3, (e 4).trans h.c4, (e 5).trans h.c5, (e 6).trans h.c6, (e 7).trans h.c7, (e 8).trans h.c8⟩
theorem Box.ext {w w' : World} {g : Nat} {f a c p s : Int} {vb vv : Value} {m o : UInt16} (h : Box w g f a c p s vb vv m o) (hb : Below w.heap.size w w') : Box w' g f a c p s vb vv m o := h.below hb h.lt
theorem Box.new (w : World) (f a c p s : Int) (vb vv : Value) (m o : UInt16) (t : TypeId) : Box (w.alloc (.cells #[.int .i64 f, .int .i64 a, .int .i64 c, .int .i64 p, .int .i64 s, vb, vv, .int .u16 m.toNat, .int .u16 o.toNat] t)) w.heap.size f a c p s vb vv m o := by
  have X := Blk.new w t [.int .i64 f, .int .i64 a, .int .i64 c, .int .i64 p, .int .i64 s, vb, vv, .int .u16 m.toNat, .int .u16 o.toNat]
  exact ⟨by simp, X.cell 0, X.cell 1, X.cell 2, X.cell 3, X.cell 4, X.cell 5, X.cell 6, X.cell 7, X.cell 8⟩

def bytesR (q : Rq) : List UInt8 := if rightE q = 0 then bytesQ q else []
theorem bytesR_0 {q : Rq} (h : rightE q = 0) : bytesR q = bytesQ q := by simp [bytesR, h]
theorem bytesR_no {q : Rq} (h : rightE q ≠ 0) : bytesR q = [] := by simp [bytesR, h]

end Go.Proofs.Ytejcigeccmfeeaa

namespace Go.Proofs.Ytejcigeccmfeeaa
open Go.RowKit

theorem row_ints (w : World) (l : List Int) (n : Nat) (hn : n = l.length) (h : n ≤ 1000) (C : Array Value) (hC : C = (l.map iV).toArray) : Row (w.alloc (.cells C 3)) (.slice (some ⟨w.heap.size, 0, none⟩) n n) (l.map iV) := by
  subst hC; exact row_new w (l.map iV) 3 n (by simpa using hn) (by unfold maxLen; omega)
theorem row_byte (w : World) (x : UInt8) (n : Int) (h : n = x.toNat) : Row (w.alloc (.cells #[.int .u8 n] 5)) (.slice (some ⟨w.heap.size, 0, none⟩) 1 1) ([x].map bV) := by
  subst h; exact row_new w _ 5 1 rfl (by decide)
theorem numB_in {n : Int} (h : numB n = true) : -9223372036854775808 ≤ n ∧ n ≤ 9223372036854775807 := by simp [numB] at h; omega
theorem val_in (x : UInt16) : -9223372036854775808 ≤ (x.toNat : Int) ∧ (x.toNat : Int) ≤ 9223372036854775807 := numB_in (val_num x)
theorem all_in1 {a b : Int} (h1 : -9223372036854775808 ≤ a ∧ a ≤ 9223372036854775807) (h2 : -9223372036854775808 ≤ b ∧ b ≤ 9223372036854775807) : ∀ i, i < [a, b].length → -9223372036854775808 ≤ [a, b].getD i 0 ∧ [a, b].getD i 0 ≤ 9223372036854775807 := by
  intro i hi
  match i, hi with
  | 0, _ => exact h1
  | 1, _ => exact h2
theorem all_in3 {a b c : Int} (h1 : -9223372036854775808 ≤ a ∧ a ≤ 9223372036854775807) (h2 : -9223372036854775808 ≤ b ∧ b ≤ 9223372036854775807) (h3 : -9223372036854775808 ≤ c ∧ c ≤ 9223372036854775807) : ∀ i, i < [a, b, c].length → -9223372036854775808 ≤ [a, b, c].getD i 0 ∧ [a, b, c].getD i 0 ≤ 9223372036854775807 := by
  intro i hi
  match i, hi with
  | 0, _ => exact h1
  | 1, _ => exact h2
  | 2, _ => exact h3
theorem all_in4 {a b c d : Int} (h1 : -9223372036854775808 ≤ a ∧ a ≤ 9223372036854775807) (h2 : -9223372036854775808 ≤ b ∧ b ≤ 9223372036854775807) (h3 : -9223372036854775808 ≤ c ∧ c ≤ 9223372036854775807) (h4 : -9223372036854775808 ≤ d ∧ d ≤ 9223372036854775807) : ∀ i, i < [a, b, c, d].length → -9223372036854775808 ≤ [a, b, c, d].getD i 0 ∧ [a, b, c, d].getD i 0 ≤ 9223372036854775807 := by
  intro i hi
  match i, hi with
  | 0, _ => exact h1
  | 1, _ => exact h2
  | 2, _ => exact h3
  | 3, _ => exact h4

end Go.Proofs.Ytejcigeccmfeeaa

namespace Go.Proofs.Ytejcigeccmfeeaa
open Go.RowKit

theorem Row.empty (w : World) (a : Option Addr) (cap : Nat) (h : a = none → cap = 0) (h2 : cap ≤ maxLen) : Row w (.slice a 0 cap) [] := ⟨a, cap, rfl, Nat.zero_le _, h2, h, .inl rfl⟩

theorem Row.drop {w : World} {a : Option Addr} {n cap : Nat} {xs : List Value} (h : Row w (.slice a n cap) xs) (k : Nat) (hk : k ≤ n) (b off : Nat) (ha : a = some ⟨b, off, none⟩) : Row w (.slice (some ⟨b, off + k, none⟩) (n - k) (cap - k)) (xs.drop k) := by
  obtain ⟨a', cap', e, h1, h2, h3, h4⟩ := h
  simp only [Value.slice.injEq] at e
  obtain ⟨rfl, rfl, rfl⟩ := e
  have hl : (xs.drop k).length = xs.length - k := by simp
  refine ⟨_, _, by rw [hl], by omega, by omega, (fun h => by cases h), ?_⟩
  rcases h4 with rfl | ⟨b', off', e, hc⟩
  · exact .inl (by simp)
  · rw [ha] at e
    simp only [Option.some.injEq, Addr.mk.injEq] at e
    obtain ⟨rfl, rfl, -⟩ := e
    refine .inr ⟨b, off + k, rfl, fun i hi => ?_⟩
    rw [hl] at hi
    rw [Nat.add_assoc, hc (k + i) (by omega), List.getElem?_drop]

end Go.Proofs.Ytejcigeccmfeeaa

namespace Go.Proofs.Ytejcigeccmfeeaa
open Go.RowKit

section
variable {P : Program} {ops : Array Oper} {Q : Exit → Act → World → Prop} {S : World → Prop} {n : Nat} {listed : Array Bool} {i : Nat} {a : Act} {w : World}
  {dst : Option Tmp} {op : Op} {ty : TypeId} {pos : String} {after : Array Edge} {guard : Option (Nat × Bool)} {v : Value}

/-- the beginning -/
theorem h_begin {id : Nat} (k : Nat) (hk : ops.size = k) (hm : P.follows .mixedOrders = true) (h : wpAnyH P .any ops Q (fun _ => True) k (Array.replicate k false) a w.drew) : (Code.region id ops true).wp P Q a w := by
  subst hk
  exact wp_region_held hm h

theorem h_pure (hS : S w) (hs : Region.noSelect ops = true) (hQ : ∀ c a w d v, Q (.panic c) (Act.put a d v) w → Q (.panic c) a w) (i : Nat) (hi : ops[i]? = some ⟨dst, op, ty, pos, after, guard⟩)
    (hc : (Region.free .any ops listed i && (Region.ready .any ops listed).contains i) = true) (hw : Region.wanted ⟨dst, op, ty, pos, after, guard⟩ (yielded ops a.tmps) = true)
    (hv : ∀ w', (execOp a.eval ⟨dst, op, ty, pos, after, guard⟩).run P w' = .ok (.value v) w') (h : wpAnyH P .any ops Q S n (listed.setIfInBounds i true) (a.put dst v) w) : wpAnyH P .any ops Q S (n + 1) listed a w := by
  simp only [Bool.and_eq_true] at hc
  exact wpAnyH_take hi hs hc.1 hc.2 (fun c a w => hQ c a w _ _) (.inl ⟨hw, fun w' _ => hv w'⟩) hS h

theorem h_skip (hS : S w) (hs : Region.noSelect ops = true) (hQ : ∀ c a w d v, Q (.panic c) (Act.put a d v) w → Q (.panic c) a w) (i : Nat) (hi : ops[i]? = some ⟨dst, op, ty, pos, after, guard⟩)
    (hc : (Region.free .any ops listed i && (Region.ready .any ops listed).contains i) = true) (hw : Region.wanted ⟨dst, op, ty, pos, after, guard⟩ (yielded ops a.tmps) = false)
    (h : wpAnyH P .any ops Q S n (listed.setIfInBounds i true) (a.put dst undef) w) : wpAnyH P .any ops Q S (n + 1) listed a w := by
  simp only [Bool.and_eq_true] at hc
  exact wpAnyH_take hi hs hc.1 hc.2 (fun c a w => hQ c a w _ _) (.inr ⟨hw, rfl⟩) hS h

theorem h_read (S' : World → Prop) (hS : ∀ w', S' w' → S w') (hS' : S' w) (hs : Region.noSelect ops = true) (hQ : ∀ c a w d v, Q (.panic c) (Act.put a d v) w → Q (.panic c) a w) (i : Nat) (hi : ops[i]? = some ⟨dst, op, ty, pos, after, guard⟩)
    (hc : (Region.free .any ops listed i && (Region.ready .any ops listed).contains i) = true) (hw : Region.wanted ⟨dst, op, ty, pos, after, guard⟩ (yielded ops a.tmps) = true)
    (hv : ∀ w', S' w' → (execOp a.eval ⟨dst, op, ty, pos, after, guard⟩).run P w' = .ok (.value v) w') (h : wpAnyH P .any ops Q S' n (listed.setIfInBounds i true) (a.put dst v) w) : wpAnyH P .any ops Q S (n + 1) listed a w := by
  simp only [Bool.and_eq_true] at hc
  exact held_mono hS _ _ _ _ (wpAnyH_take hi hs hc.1 hc.2 (fun c a w => hQ c a w _ _) (.inl ⟨hw, hv⟩) hS' h)

theorem h_op (i : Nat) (hi : ops[i]? = some ⟨dst, op, ty, pos, after, guard⟩) (hw : Region.wanted ⟨dst, op, ty, pos, after, guard⟩ (yielded ops a.tmps) = true)
    (h : ∀ K : Act → World → Prop, Hid (∀ a' w', S w' → wpAnyH P .any ops Q S n (listed.setIfInBounds i true) a' w' → K a' w') → Oper.wp P ⟨dst, op, ty, pos, after, guard⟩ a w K Q) :
    wpOp P ops Q i (fun a' w' => S w' ∧ wpAnyH P .any ops Q S n (listed.setIfInBounds i true) a' w') a w := by
  unfold wpOp
  simp only [hi, hw, if_true]
  exact .inl (h _ (fun a' w' h1 h2 => ⟨h1, h2⟩))

theorem h_move (i : Nat) (hr : Region.ready .any ops listed = [i]) (h : wpOp P ops Q i (fun a' w' => S w' ∧ wpAnyH P .any ops Q S n (listed.setIfInBounds i true) a' w') a w) : wpAnyH P .any ops Q S (n + 1) listed a w :=
  wpAnyH_all hr (by simp) (fun j hj => by simp only [List.mem_singleton] at hj; subst hj; exact h)
theorem h_move2 (i j : Nat) (hr : Region.ready .any ops listed = [i, j]) (h : wpOp P ops Q i (fun a' w' => S w' ∧ wpAnyH P .any ops Q S n (listed.setIfInBounds i true) a' w') a w)
    (h2 : wpOp P ops Q j (fun a' w' => S w' ∧ wpAnyH P .any ops Q S n (listed.setIfInBounds j true) a' w') a w) : wpAnyH P .any ops Q S (n + 1) listed a w :=
  wpAnyH_all hr (by simp) (fun k hk => by
    simp only [List.mem_cons, List.not_mem_nil, or_false] at hk
    rcases hk with rfl | rfl
    · exact h
    · exact h2)
theorem h_move3 (i j l : Nat) (hr : Region.ready .any ops listed = [i, j, l]) (h : wpOp P ops Q i (fun a' w' => S w' ∧ wpAnyH P .any ops Q S n (listed.setIfInBounds i true) a' w') a w)
    (h2 : wpOp P ops Q j (fun a' w' => S w' ∧ wpAnyH P .any ops Q S n (listed.setIfInBounds j true) a' w') a w)
    (h3 : wpOp P ops Q l (fun a' w' => S w' ∧ wpAnyH P .any ops Q S n (listed.setIfInBounds l true) a' w') a w) : wpAnyH P .any ops Q S (n + 1) listed a w :=
  wpAnyH_all hr (by simp) (fun k hk => by
    simp only [List.mem_cons, List.not_mem_nil, or_false] at hk
    rcases hk with rfl | rfl | rfl
    · exact h
    · exact h2
    · exact h3)
theorem h_done (hr : Region.ready .any ops listed = []) (h : Q .normal a w) : wpAnyH P .any ops Q S n listed a w := wpAnyH_done hr h n
end
end Go.Proofs.Ytejcigeccmfeeaa

namespace Go.Proofs.Ytejcigeccmfeeaa
open Go.RowKit

/-- a request whose lists are new memory, or none -/
def NewQ (base : Nat) (v : Value) : Prop := ∃ x0 x1 x2 x3 x4 vb vv x7 x8, v = .agg #[x0, x1, x2, x3, x4, vb, vv, x7, x8] ∧ NewV base vb ∧ NewV base vv
theorem NewQ.le {base base' : Nat} {v : Value} (h : NewQ base v) (hb : base' ≤ base) : NewQ base' v := by
  obtain ⟨x0, x1, x2, x3, x4, vb, vv, x7, x8, e, h1, h2⟩ := h
  exact ⟨x0, x1, x2, x3, x4, vb, vv, x7, x8, e, h1.le hb, h2.le hb⟩
theorem NewQ.parts {base : Nat} {x0 x1 x2 x3 x4 vb vv x7 x8 : Value} (h : NewQ base (.agg #[x0, x1, x2, x3, x4, vb, vv, x7, x8])) : NewV base vb ∧ NewV base vv := by
  obtain ⟨_, _, _, _, _, _, _, _, _, e, h1, h2⟩ := h
  simp only [Value.agg.injEq, Array.mk.injEq, List.cons.injEq] at e
  obtain ⟨-, -, -, -, -, rfl, rfl, -⟩ := e
  exact ⟨h1, h2⟩
theorem Blk.set_ne {w : World} {g g' : Nat} {e : TypeId} {xs : List Value} (h : Blk w g' e xs) (hne : g ≠ g') (i : Nat) (v : Value) : Blk (w.setCell ⟨g, i, none⟩ v) g' e xs := by
  unfold Blk at h ⊢
  simp only [World.setCell, Array.getElem?_modify, hne, if_false]
  exact h
/-- a row in the newest block stays when another block is stored into -/
theorem Row.setCell_ne {w : World} {g n c : Nat} {xs : List Value} {q : Addr} {v : Value} (h : Row w (.slice (some ⟨g, 0, none⟩) n c) xs) (hq : q.block ≠ g) (hs : q.spot = none) : Row (w.setCell q v) (.slice (some ⟨g, 0, none⟩) n c) xs := by
  obtain ⟨a, cap, e, h1, h2, h3, h4⟩ := h
  simp only [Value.slice.injEq] at e
  obtain ⟨rfl, rfl, rfl⟩ := e
  refine ⟨_, _, rfl, h1, h2, h3, ?_⟩
  rcases h4 with rfl | ⟨b, off, e, hc⟩
  · exact .inl rfl
  · simp only [Option.some.injEq, Addr.mk.injEq] at e
    obtain ⟨rfl, rfl, -⟩ := e
    refine .inr ⟨_, _, rfl, fun i hi => ?_⟩
    rw [← hc i hi]
    obtain ⟨qb, qo, qs⟩ := q
    simp only at hq hs
    subst hs
    simp only [World.cell?, World.setCell, Array.getElem?_modify, hq, if_false]
theorem wOf_wrap (n : Int) : ((wOf n).toNat : Int) = n % 65536 := wOf_nat n
theorem row_one_w (w : World) (n : Int) (h : 0 ≤ n ∧ n ≤ 65535) (g : Nat) (hg : g = w.heap.size) : Row (w.alloc (.cells #[.int .u16 n] 66)) (.slice (some ⟨g, 0, none⟩) 1 1) ([wOf n].map wV) := by
  subst hg
  have : [wOf n].map wV = [.int .u16 n] := by simp [wV, wOf_wrap]; omega
  rw [this]; exact row_new w _ 66 1 rfl (by decide)
theorem row_one_b (w : World) (x : Bool) (g : Nat) (hg : g = w.heap.size) : Row (w.alloc (.cells #[.bool x] 4)) (.slice (some ⟨g, 0, none⟩) 1 1) ([x].map Value.bool) := by subst hg; exact row_new w _ 4 1 rfl (by decide)
theorem getN_in (bs : List UInt8) (n : Int) : 0 ≤ getN bs n ∧ getN bs n ≤ 65535 := by
  unfold getN
  split
  · have := (mkW (bs.getD n.toNat 0) (bs.getD (n.toNat + 1) 0)).toNat_lt; omega
  · omega

end Go.Proofs.Ytejcigeccmfeeaa

namespace Go.Proofs.Ytejcigeccmfeeaa
open Go.RowKit

theorem blk_world {W : World} {g : Nat} {e : TypeId} {xs : List Value} (_ : Blk W g e xs) {P : World → Prop} (h : P W) : P W := h
theorem Blk.new_at (w : World) (e : TypeId) (xs : List Value) (g : Nat) (hg : g = w.heap.size) : Blk (w.alloc (.cells xs.toArray e)) g e xs := by subst hg; exact Blk.new w e xs
theorem tail_len (b : List UInt8) (k : Nat) : (tailL b k).length ≤ 255 := by
  unfold tailL
  split
  · simp
  · rename_i h
    simp only [not_or, Decidable.not_not] at h
    have := (b.getD k 0).toNat_lt
    rw [List.length_drop]; omega

end Go.Proofs.Ytejcigeccmfeeaa

namespace Go.Proofs.Ytejcigeccmfeeaa
open Go.RowKit

end Go.Proofs.Ytejcigeccmfeeaa

namespace Go.Proofs.Ytejcigeccmfeeaa
open Go.RowKit

/-- below B only block g has changed -/
structure Dev (B g : Nat) (w w' : World) : Prop where
  os : w'.os = w.os
  tape : w'.tape = w.tape
  output : w'.output = w.output
  size : w.heap.size ≤ w'.heap.size
  block : ∀ k, k < B → k ≠ g → w'.heap[k]? = w.heap[k]?
theorem Dev.refl (B g : Nat) (w : World) : Dev B g w w := ⟨rfl, rfl, rfl, Nat.le_refl _, fun _ _ _ => rfl⟩
theorem Dev.trans {B g : Nat} {a b c : World} (h : Dev B g a b) (k : Dev B g b c) : Dev B g a c :=
  ⟨k.os.trans h.os, k.tape.trans h.tape, k.output.trans h.output, Nat.le_trans h.size k.size, fun i h1 h2 => (k.block i h1 h2).trans (h.block i h1 h2)⟩
theorem Dev.of_below {B g : Nat} {w w' : World} (h : Below B w w') : Dev B g w w' := ⟨h.os, h.tape, h.output, h.size, fun k hk _ => h.block k hk⟩
theorem Dev.setCell {B g : Nat} {a w : World} (h : Dev B g a w) {p : Addr} (hp : B ≤ p.block) (v : Value) : Dev B g a (w.setCell p v) := by
  refine h.trans (Dev.of_below ((Below.refl B w).setCell hp v))
theorem Dev.alloc {B g : Nat} {a w : World} (h : Dev B g a w) (hB : B ≤ w.heap.size) (o : Obj) : Dev B g a (w.alloc o) :=
  h.trans (Dev.of_below ((Below.refl B w).alloc hB o))
theorem Dev.drew {B g : Nat} {a w : World} (h : Dev B g a w) : Dev B g a w.drew := ⟨h.os, h.tape, h.output, h.size, h.block⟩
theorem Dev.drewN {B g : Nat} {a w : World} (h : Dev B g a w) (n : Nat) : Dev B g a (w.drewN n) := ⟨h.os, h.tape, h.output, h.size, h.block⟩
theorem Dev.mono {B B' g : Nat} {a w : World} (h : Dev B g a w) (hb : B' ≤ B) : Dev B' g a w := ⟨h.os, h.tape, h.output, h.size, fun k hk hg => h.block k (by omega) hg⟩
theorem Dev.below {B B' g : Nat} {a w : World} (h : Dev B g a w) (hb : B' ≤ B) (hg : B' ≤ g) : Below B' a w := ⟨h.os, h.tape, h.output, h.size, fun k hk => h.block k (by omega) (by omega)⟩
theorem Blk.dev {w w' : World} {B g k : Nat} {e : TypeId} {xs : List Value} (h : Blk w k e xs) (hd : Dev B g w w') (hk : k < B) (hg : k ≠ g) : Blk w' k e xs := (hd.block k hk hg).trans h

/-- a slice that lies below B, and not in block g -/
def Old (B g : Nat) (v : Value) : Prop := ∀ a n c, v = .slice (some a) n c → a.block < B ∧ a.block ≠ g
theorem Row.dev {w w' : World} {B g : Nat} {v : Value} {xs : List Value} (h : Row w v xs) (ho : xs = [] ∨ Old B g v) (hd : Dev B g w w') : Row w' v xs := by
  obtain ⟨a, cap, rfl, h1, h2, h3, h4⟩ := h
  refine ⟨_, _, rfl, h1, h2, h3, ?_⟩
  rcases ho with rfl | ho
  · exact .inl rfl
  rcases h4 with rfl | ⟨b, off, rfl, hc⟩
  · exact .inl rfl
  · obtain ⟨o1, o2⟩ := ho _ _ _ rfl
    refine .inr ⟨_, _, rfl, fun i hi => ?_⟩
    rw [← hc i hi]
    exact World.cell?_of_block (a := ⟨b, off + i, none⟩) (hd.block b o1 o2)

/-- block g is a tape of the numbers l -/
structure Tap (B : Nat) (w : World) (g : Nat) (l : List Int) : Prop where
  ex : ∃ (vL : Value) (k : Nat), k ≤ l.length ∧ Blk w g 46 [vL, .int .i64 k] ∧ Row w vL (l.map iV) ∧ (l.map iV = [] ∨ Old B g vL)
  inn : ∀ i, i < l.length → -9223372036854775808 ≤ l.getD i 0 ∧ l.getD i 0 ≤ 9223372036854775807
  lt : g < B
theorem Tap.below {B : Nat} {w w' : World} {g : Nat} {l : List Int} (h : Tap B w g l) (hb : Below B w w') : Tap B w' g l := by
  obtain ⟨⟨vL, k, hk, hX, hR, ho⟩, hi, hl⟩ := h
  exact ⟨⟨vL, k, hk, hX.below hb hl, hR.dev ho (Dev.of_below hb), ho⟩, hi, hl⟩

theorem functions_any (w : World) : Calls Try.prog 40 #[] w fun e w' => e = .returned (.slice (some ⟨w.heap.size, 0, none⟩) 12 12) ∧ w.alloc (.cells #[.int .i64 1, .int .i64 2, .int .i64 3, .int .i64 4, .int .i64 5, .int .i64 6, .int .i64 8, .int .i64 15, .int .i64 16, .int .i64 17, .int .i64 22, .int .i64 23] 3) = w' := by
  go_enter Try.func40, Try.ntmps40
  go_wp2
  go_ret
  exact ⟨rfl, rfl⟩

set_option maxHeartbeats 1000000 in
theorem next_any (B g : Nat) (l : List Int) (n : Int) (w : World) (hT : Tap B w g l) (hB : B ≤ w.heap.size) (hn : 1 ≤ n ∧ n ≤ 1000000) :
    Calls Try.prog 20 #[.pointer (some ⟨g, 0, none⟩), .int .i64 n] w fun e w' => ∃ m, e = .returned (.int .i64 m) ∧ 0 ≤ m ∧ m < n ∧ Tap B w' g l ∧ w'.heap.size = w.heap.size ∧ Dev w.heap.size g w w' := by
  obtain ⟨⟨vL, k, hk, X, hR, ho⟩, hi, hl⟩ := hT
  obtain ⟨n1, n2⟩ := hn
  have c0 : w.cell? ⟨g, 0, none⟩ = some vL := X.cell 0
  have c1 : w.cell? ⟨g, 1, none⟩ = some (.int .i64 k) := X.cell 1
  have f0 := X.frozen
  have hT0 := hidden (show Tap B w g l from ⟨⟨vL, k, hk, X, hR, ho⟩, hi, hl⟩)
  obtain ⟨a, cap, rfl, -⟩ := id hR
  obtain ⟨hll, hc, hm, hcell⟩ := hR.at
  simp only [List.length_map] at hll hc hR hcell c0 ⊢ ho X
  unfold maxLen at hm
  by_cases hlt : k < l.length
  · obtain ⟨b, off, rfl, hcl⟩ := hcell k 0 hlt
    have cx := hcl k hlt
    have ho' := ho.resolve_left (fun h => by have := congrArg List.length h; simp at this; rw [this] at hlt; simp at hlt)
    obtain ⟨o1, o2⟩ := ho' _ _ _ rfl
    simp only at o1 o2
    clear ho'
    obtain ⟨i1, i2⟩ := hi k hlt
    have HTN : Hid (∀ w', Blk w' g 46 [.slice (some ⟨b, off, none⟩) l.length cap, .int .i64 ((k : Int) + 1)] → Dev B g w w' → Tap B w' g l) := fun w' hX hd =>
      ⟨⟨_, k + 1, by omega, by simpa using hX, hR.dev ho hd, ho⟩, hi, hl⟩
    have HX := hidden (X.set 1 (.int .i64 ((k : Int) + 1)))
    clear hcl hcell hi
    generalize l.getD k 0 = x at *
    have t1 : ¬ ((l.length : Int) ≤ (k : Int)) := by omega
    have t2 : ¬ (n < 1) := by omega
    have t3 : (k : Int) < (l.length : Int) := by omega
    have hn0 : (n == 0) = false := by rw [beq_eq_false_iff_ne]; omega
    go_enter Try.func20, Try.ntmps20
    go_wp2
    go_quiet (fail)
    go_wp2
    refine wp_region_pi [(0, true), (1, true), (2, true), (3, true), (4, true), (5, true), (6, true), (7, true), (8, true), (9, true), (10, true), (12, true), (11, false), (13, true), (14, true)] (by kernel_rfl) (by kernel_rfl) (by kernel_rfl) (fun _ _ _ d _ h => by cases d <;> exact h) ?_
    have Y := ((X.drewN nq).set 1 (.int .i64 ((k : Int) + 1))).drew
    have D : Dev w.heap.size g w ((w.drewN nq).setCell ⟨g, 1, none⟩ (.int .i64 ((k : Int) + 1))).drew :=
      ⟨rfl, rfl, rfl, by simp [World.drew, World.drewN, World.setCell], fun j _ hj => by simp [World.drew, World.drewN, World.setCell, Array.getElem?_modify, Ne.symm hj]⟩
    have Sz : ((w.drewN nq).setCell ⟨g, 1, none⟩ (.int .i64 ((k : Int) + 1))).drew.heap.size = w.heap.size := by simp [World.drew, World.drewN, World.setCell]
    have cb : ((w.drewN nq).setCell ⟨g, 1, none⟩ (.int .i64 ((k : Int) + 1))).drew.cell? ⟨b, off + k, none⟩ = some (iV x) := by
      rw [← cx]; exact World.cell?_of_block (a := ⟨b, off + k, none⟩) (D.block b (lt_of_cell cx) o2)
    clear X f0 c0 c1 cx HX
    generalize ((w.drewN nq).setCell ⟨g, 1, none⟩ (.int .i64 ((k : Int) + 1))).drew = w2 at *
    have x2 := Ext.refl w2
    have RD : Hid (∀ w', Ext w2 w' → w'.cell? ⟨g, 0, none⟩ = some (.slice (some ⟨b, off, none⟩) l.length cap) ∧ w'.cell? ⟨g, 1, none⟩ = some (.int .i64 ((k : Int) + 1)) ∧ w'.cell? ⟨b, off + k, none⟩ = some (iV x)) := fun w' hx =>
      ⟨(Y.below hx Y.lt).cell 0, (Y.below hx Y.lt).cell 1, by rw [← cb]; exact World.cell?_of_block (a := ⟨b, off + k, none⟩) (hx.block b (lt_of_cell cb))⟩
    have a1 : (k : Int) + 1 - 1 = (k : Int) := by omega
    have wk : IntKind.i64.wrap (k : Int) = (k : Int) := by rw [IntKind.wrap_i64]; omega
    have wk1 : IntKind.i64.wrap ((k : Int) + 1) = (k : Int) + 1 := by rw [IntKind.wrap_i64]; omega
    iterate 12 (first | (refine pi_pure x2 rfl (by kernel_rfl) (fun w' => by go_simp; with_reducible rfl) ?_; try simp only [Act.put, List.setIfInBounds_toArray, List.set_cons_zero, List.set_cons_succ]) | (refine pi_read x2 rfl (by kernel_rfl) (fun w' hx => by obtain ⟨y0, y1, y2⟩ := RD.out w' hx; go_simp; with_reducible rfl) ?_; try simp only [Act.put, List.setIfInBounds_toArray, List.set_cons_zero, List.set_cons_succ]))
    refine pi_move rfl (by kernel_rfl) (fun K hK => ?_)
    go_wp2_with fail
    refine (within_any x 0 1073741824 _ ⟨i1, i2⟩ (by decide) (by decide) (by decide)).mono ?_
    rintro e w3 ⟨⟨m, rfl, m1, m2⟩, rfl⟩
    go_simp
    refine hK.out _ _ x2 ?_
    clear K hK
    try simp only [Act.put, List.setIfInBounds_toArray, List.set_cons_zero, List.set_cons_succ]
    have r1 := Int.tmod_nonneg n m1
    have r2 := Int.tmod_lt_of_pos m (show 0 < n by omega)
    have hnz : ¬ n = 0 := by omega
    have wm : IntKind.i64.wrap (m.tmod n) = m.tmod n := by rw [IntKind.wrap_i64]; omega
    iterate 2 (refine pi_pure x2 rfl (by kernel_rfl) (fun w' => by go_simp; with_reducible rfl) ?_; try simp only [Act.put, List.setIfInBounds_toArray, List.set_cons_zero, List.set_cons_succ])
    refine pi_nil ?_
    have RR := hidden (show 0 ≤ m.tmod n ∧ m.tmod n < n from ⟨r1, r2⟩)
    clear r1 r2 RD cb
    go_wp2
    go_ret
    exact ⟨_, rfl, RR.out.1, RR.out.2, HTN.out _ Y (D.mono (by have := Y.lt; omega)), Sz, D⟩
  · have t1 : (l.length : Int) ≤ (k : Int) := by omega
    go_enter Try.func20, Try.ntmps20
    go_wp2
    go_quiet (fail)
    go_wp2
    go_ret
    refine ⟨0, rfl, by omega, by omega, hT0.out.below ?_, rfl, ?_⟩
    · exact below_drewn0 _ _ _
    · exact (Dev.refl _ _ _).drewN _

end Go.Proofs.Ytejcigeccmfeeaa

namespace Go.Proofs.Ytejcigeccmfeeaa
open Go.RowKit

def cntB (q : Rq) : Bool :=
  if q.fn = 1 ∨ q.fn = 2 then decide (1 ≤ q.cnt ∧ q.cnt ≤ 2000)
  else if q.fn = 3 ∨ q.fn = 4 then decide (1 ≤ q.cnt ∧ q.cnt ≤ 125)
  else if q.fn = 15 then decide (1 ≤ q.cnt ∧ q.cnt ≤ 1968)
  else if q.fn = 16 then decide (1 ≤ q.cnt ∧ q.cnt ≤ 123)
  else if q.fn = 23 then decide (1 ≤ q.cnt ∧ q.cnt ≤ 125) && decide (1 ≤ (q.vals.length : Int) ∧ (q.vals.length : Int) ≤ 121)
  else true
def countsB (q : Rq) : Bool := decide (rightE q = 0) && cntB q

end Go.Proofs.Ytejcigeccmfeeaa

namespace Go.Proofs.Ytejcigeccmfeeaa
open Go.RowKit

def kq1 : Rq := ⟨23, 3, 6, 14, 0, [], [255, 1], 0, 0⟩
def kq2 : Rq := ⟨5, 172, 0, 0, 0, [true], [], 0, 0⟩
def kb1 : List UInt8 := [23, 0, 3, 0, 6, 0, 14, 0, 2, 4, 0, 255, 0, 1]
def kb2 : List UInt8 := [5, 0, 172, 255, 0]
theorem k_r1 : rightE kq1 = 0 := by decide +kernel
theorem k_r2 : rightE kq2 = 0 := by decide +kernel
theorem k_b1 : bytesQ kq1 = kb1 := by decide +kernel
theorem k_b2 : bytesQ kq2 = kb2 := by decide +kernel
theorem k_is : isQ kb1 kq1 := ⟨k_r1, k_b1⟩
theorem k_e3 : readE [1, 0, 0, 0] = 12 := readE_form (by decide) (by decide +kernel) (noP (fun h => absurd h.2 (by decide +kernel)))
theorem k_q3 : readQ [1, 0, 0, 0] = zeroQ := readQ_no (noP (fun h => absurd h.2 (by decide +kernel)))
theorem k_e2 : readE [7] = 15 := readE_fn (by decide) (by decide +kernel)
theorem k_q2 : readQ [7] = zeroQ := readQ_fn (by decide +kernel)
theorem k_c1 : countsB kq1 = true := by decide +kernel
theorem k_c2 : countsB ⟨1, 0, 0, 0, 0, [], [], 0, 0⟩ = false := by decide +kernel
theorem k_c3 : countsB zeroQ = false := by decide +kernel
theorem k_r4 : rightE ⟨17, 1, 0, 0, 0, [], [], 0, 0⟩ = 12 := by decide +kernel
theorem row_bytes (w : World) (xs : List UInt8) (C : Array Value) (hC : C = (xs.map bV).toArray) (n : Nat) (hn : n = xs.length) (h : n ≤ 1000) (g : Nat) (hg : g = w.heap.size) : Row (w.alloc (.cells C 5)) (.slice (some ⟨g, 0, none⟩) n n) (xs.map bV) := by
  subst hC hg; exact row_new w (xs.map bV) 5 n (by simpa using hn) (by unfold maxLen; omega)

end Go.Proofs.Ytejcigeccmfeeaa

namespace Go.Proofs.Ytejcigeccmfeeaa
open Go.RowKit

theorem open_i64s {H : Type} {enc : TypeId × Value → H} {P : Program} {w : World} {base : Nat} {held : Bool} {t e : TypeId} {a : Option Addr} {len cap : Nat} {d : DataW H} {p : List MemPlace} (ht : P.underlying t = some (.slice e)) (he : P.underlying e = some (.int .i64)) (hc : P.cellsOf e = 1)
    (h : DataW.Trod enc P w base (fun _ => true) held t (.slice a len cap) d p) : ∃ xs : List Int, Row w (.slice a len cap) (xs.map iV) ∧ lenIs d xs.length ∧ ∀ n ∈ xs, -9223372036854775808 ≤ n ∧ n ≤ 9223372036854775807 := by
  obtain ⟨zs, hr, hd, hw⟩ := open_row ht he hc h
  exact ⟨zs, hr, hd, fun n hn => bounds_i64 (hw n hn)⟩

/-- the contract of Request, as a hypothesis (it is proved in T2) -/
def ReqOk : Prop := ∀ (B g : Nat) (l : List Int) (w : World), Tap B w g l → B ≤ w.heap.size →
    Calls Try.prog 31 #[.pointer (some ⟨g, 0, none⟩)] w fun e w' => ∃ v', e = .returned v' ∧ ∃ q, IsRq w' v' q ∧ rightE q = 0 ∧ q.bits.length ≤ 30 ∧ (q.vals.length ≤ 30 ∧ q.cnt ≤ 30) ∧ NewQ B v' ∧ Dev B g w w'

theorem tap_new (w : World) (a : Option Addr) (n cap : Nat) (l : List Int) (h : Row w (.slice a n cap) (l.map iV)) (hi : ∀ x ∈ l, -9223372036854775808 ≤ x ∧ x ≤ 9223372036854775807) :
    Tap (w.heap.size + 1) (w.alloc (.cells #[.slice a n cap, .int .i64 0] 46)) w.heap.size l := by
  have hb : Below w.heap.size w (w.alloc (.cells #[.slice a n cap, .int .i64 0] 46)) := (Below.refl _ _).alloc (Nat.le_refl _) _
  refine ⟨⟨.slice a n cap, 0, Nat.zero_le _, Blk.new w 46 [.slice a n cap, .int .i64 0], h.below hb, ?_⟩, fun i hl => ?_, by omega⟩
  · by_cases h0 : l = []
    · left; rw [h0]; rfl
    · right
      intro a' n' c' e
      simp only [Value.slice.injEq] at e
      obtain ⟨rfl, -, -⟩ := e
      obtain ⟨a2, cap2, e, -, -, -, h4⟩ := h
      simp only [Value.slice.injEq] at e
      obtain ⟨rfl, -, -⟩ := e
      rcases h4 with h4 | ⟨b, off, e, hc⟩
      · exact absurd (by simpa using h4) h0
      · cases e
        have hp : 0 < (l.map iV).length := by rw [List.length_map]; exact List.length_pos_iff.2 h0
        have := hc 0 hp
        rw [List.getElem?_eq_getElem hp] at this
        have := lt_of_cell this
        exact ⟨by simp only; omega, by simp only; omega⟩
  · have : l.getD i 0 ∈ l := by
      rw [List.getD_eq_getElem?_getD, List.getElem?_eq_getElem hl]; exact List.getElem_mem hl
    exact hi _ this

end Go.Proofs.Ytejcigeccmfeeaa

namespace Go.Proofs.Ytejcigeccmfeeaa
open Go.RowKit

theorem info_int6 : (Try.prog.info? 3).map (fun i => (i.zero, i.size, i.bytes)) = some (some (.int .i64 0), 1, 8) := by kernel_rfl
theorem Tap.up {B B' : Nat} {w : World} {g : Nat} {l : List Int} (h : Tap B w g l) (hb : B ≤ B') : Tap B' w g l := by
  obtain ⟨⟨vL, k, hk, hX, hR, ho⟩, hi, hl⟩ := h
  exact ⟨⟨vL, k, hk, hX, hR, ho.imp id (fun h a n c e => ⟨Nat.lt_of_lt_of_le (h a n c e).1 hb, (h a n c e).2⟩)⟩, hi, Nat.lt_of_lt_of_le hl hb⟩
def lenW : Value → Nat
  | .slice _ n _ => n
  | _ => 0
theorem info_row6 : (Try.prog.info? 27).map (fun i => (i.zero, i.size, i.bytes)) = some (some (.slice none 0 0), 1, 24) := by kernel_rfl
/-- the contract of Message, as a hypothesis -/
def TmsgOk : Prop := ∀ (B g : Nat) (l : List Int) (u : Int) (w : World), Tap B w g l → B ≤ w.heap.size →
    Calls Try.prog 19 #[.pointer (some ⟨g, 0, none⟩), .int .i64 u] w fun e w' => ∃ (v' : Value) (bs : List UInt8), e = .returned v' ∧ Row w' v' (bs.map bV) ∧ 1 ≤ bs.length ∧ bs.length ≤ 300 ∧ Tap B w' g l ∧ Dev w.heap.size g w w'
theorem owns_devB {w w' : World} {base g : Nat} {e : TypeId} {v : Value} {n : Nat} {xs : List Value} (h : w.ownsRow base e 1 v n xs) (hd : Dev w.heap.size g w w') (hg : g < base) : w'.ownsRow base e 1 v n xs := by
  refine h.kept (w' := w') (row := some g) ⟨hd.os, hd.tape, hd.output, hd.size, fun k hk hne => hd.block k hk (fun e => hne (by rw [e]))⟩ ?_
  rcases h.2 with ⟨rfl, -⟩ | ⟨g', cap, cur, rfl, hb, -⟩
  · simp [Value.ownBlock]
  · simp [Value.ownBlock]; omega

set_option maxRecDepth 100000 in
set_option maxHeartbeats 4000000 in
theorem cuts_any (hM : TmsgOk) (vt vn : Value) (l ns : List Int) (w : World) (ht : Row w vt (l.map iV)) (hti : ∀ x ∈ l, -9223372036854775808 ≤ x ∧ x ≤ 9223372036854775807) (hv : Row w vn (ns.map (Value.int .i64))) (hns : ∀ x ∈ ns, -9223372036854775808 ≤ x ∧ x ≤ 9223372036854775807) :
    Calls Try.prog 7 #[vt, vn] w fun e w' => ∃ (v' : Value) (xss : List (List UInt8)), e = .returned v' ∧ RowsB w' v' xss ∧ 0 < xss.length ∧ xss.length ≤ 100 ∧ (∀ i, (xss.getD i []).length ≤ 1800) ∧ Below w.heap.size w w' := by
  obtain ⟨at', ct, rfl, -⟩ := id ht
  obtain ⟨an, cn, rfl, -⟩ := id hv
  obtain ⟨-, k1, k2, k3⟩ := hv.at
  unfold maxLen at k2
  simp only [List.length_map] at ht hv k1 k3 ⊢
  have HN := hidden (fun i (hi : i < ns.length) => mem_getD hns i hi)
  have HNC := hidden k3
  have HM := hidden hM
  have TP := hidden (tap_new w at' l.length ct l ht hti)
  clear hns k3 hv ht hti hM
  go_enter Try.func7, Try.ntmps7
  go_wp2
  have TP' := TP.out
  have D0 : Below w.heap.size w (w.alloc (.cells #[.slice at' l.length ct, .int .i64 0] 46)) := (Below.refl _ _).alloc (Nat.le_refl _) _
  have HS0 : Hid ((w.alloc (.cells #[.slice at' l.length ct, .int .i64 0] 46)).heap.size = w.heap.size + 1) := by show _ = _; simp
  generalize w.alloc (.cells #[.slice at' l.length ct, .int .i64 0] 46) = w0 at *
  clear TP
  go_loopw [6, 7] (fun z6 z7 wr => ∃ (k : Nat) (bs : List UInt8), k ≤ 6 ∧ z7 = .int .i64 (k : Int) ∧ bs.length ≤ k * 300 ∧ k ≤ bs.length ∧ wr.ownsRow w0.heap.size 5 1 z6 bs.length (bs.map bV) ∧ Tap w0.heap.size wr w.heap.size l ∧ Below w.heap.size w wr ∧ w0.heap.size ≤ wr.heap.size) (fun _ i _ => 6 - (intOf i).toNat)
  case atStart => exact ⟨0, [], by omega, rfl, by simp, by simp, World.ownsRow_nil _ _ _ _, TP'.up (by have := HS0.out; omega), D0, Nat.le_refl _⟩
  case round =>
    clear TP' D0
    obtain ⟨k, bs, hk, rfl, hbl, hbl2, ho, T, D, hz⟩ := hrel
    have hw0 : w.heap.size < w0.heap.size := by have := HS0.out; omega
    by_cases hlt : k < 6
    · have hlt' : (k : Int) < 6 := by omega
      go_wp2_with fail
      refine (next_any w0.heap.size w.heap.size l 4 _ T hz (by decide)).mono ?_
      rintro e w2 ⟨m, rfl, m0, m1, T2, S2, D2⟩
      replace ho := owns_devB ho D2 (by omega)
      replace D := D.trans (D2.below (by omega) (Nat.le_refl _))
      clear T D2
      have wm : IntKind.i64.wrap (1 + m) = 1 + m := by rw [IntKind.wrap_i64]; omega
      go_wp2_with fail
      refine (HM.out w0.heap.size w.heap.size l (1 + m) _ T2 (by omega)).mono ?_
      rintro e w3 ⟨v3, ps, rfl, R3, p1, p2, T3, D3⟩
      have z3 := D3.size
      replace ho := owns_devB ho D3 (by omega)
      replace D := D.trans (D3.below (by omega) (Nat.le_refl _))
      clear T2 D3
      obtain ⟨a3, c3, rfl, -⟩ := id R3
      simp only [List.length_map] at R3
      go_wp2_with (at_builtin; refine wpList_app rfl (.tmp 18) (.tmp 23) 27 rfl w0.heap.size 5 (.int .u8 0) 1 Try.underlying27 info_u8 rfl rfl ho rfl R3 (one_bytes ps) (by simp [maxLen]; omega) (by simp; omega) (by omega) ?_)
      intro v4 w4 o4 hg4
      have K4 : Kp (fun k => w0.heap.size ≤ k) w3 w4 := (Kp.refl _ w3).grown hg4 (fun k _ h => (ho.lt k h).1)
      have B4 : Below w0.heap.size w3 w4 := K4.below _ (by omega) (fun k h => h)
      replace T3 := T3.below B4
      replace D := D.trans (B4.mono (by omega))
      have z4 := K4.size
      replace o4 : w4.ownsRow w0.heap.size 5 1 v4 (bs ++ ps).length ((bs ++ ps).map bV) := by simpa using o4
      obtain ⟨a4, c4, rfl⟩ : ∃ a c, v4 = .slice a (bs ++ ps).length c := by
        obtain ⟨a, c, e, -⟩ := Row.of_owns o4
        exact ⟨a, c, by simpa using e⟩
      clear hg4 ho K4 B4 R3
      go_wp2
      go_roundw
      case rel => exact ⟨k + 1, bs ++ ps, by omega, by go_num, by simp; omega, by simp; omega, o4, T3, D, by omega⟩
      case measure => simp [intOf]; omega
    · have : k = 6 := by omega
      subst this
      have hnl : Hid (bs.length ≤ 1800) := by show _ ≤ _; omega
      have hpos : Hid (0 < bs.length) := by show _ < _; omega
      obtain ⟨a0, c0, rfl⟩ : ∃ a c, u6 = .slice a bs.length c := by
        obtain ⟨a, c, e, -⟩ := Row.of_owns ho
        exact ⟨a, c, by simpa using e⟩
      have RA := Row.of_owns ho
      clear hbl hbl2 ho T HM hk
      generalize bs = TT at *
      obtain ⟨wL, hwL⟩ : ∃ wL, wL = wr := ⟨_, rfl⟩
      subst hwL
      have hlt' : ¬ ((6 : Nat) : Int) < 6 := by omega
      clear hlt
      have H0 : Hid (∃ (i d : Nat) (vs : List Value) (xss : List (List UInt8)), d ≤ TT.length ∧ Value.int .i64 0 = .int .i64 (i : Int) ∧ i ≤ 31 ∧ (i ≤ 30 ∨ d = TT.length) ∧ (xss.length = i ∧ (i = 0 → d = 0)) ∧ Row wL (.slice a0 TT.length c0) ((TT.drop d).map bV) ∧ wL.ownsRow wL.heap.size 27 1 (.slice none 0 0) xss.length vs ∧ Hid (∀ j, j < xss.length → ∃ y, vs[j]? = some y ∧ Row wL y ((xss.getD j []).map bV)) ∧ Hid (∀ j, (xss.getD j []).length ≤ 1800) ∧ Below wL.heap.size wL wL) :=
        ⟨0, 0, [], [], Nat.zero_le _, rfl, Nat.zero_le _, .inl (Nat.zero_le _), ⟨rfl, fun _ => rfl⟩, by simpa using RA, World.ownsRow_nil _ _ _ _, (fun j h => by simp at h), (fun j => by simp), Below.refl _ _⟩
      clear RA
      go_wp2
      go_loopw [6, 8, 9, 10] (fun z6 z8 z9 _ wr => ∃ (i d : Nat) (vs : List Value) (xss : List (List UInt8)), d ≤ TT.length ∧ z9 = .int .i64 (i : Int) ∧ i ≤ 31 ∧ (i ≤ 30 ∨ d = TT.length) ∧ (xss.length = i ∧ (i = 0 → d = 0)) ∧ Row wL z6 ((TT.drop d).map bV) ∧ wr.ownsRow wL.heap.size 27 1 z8 xss.length vs ∧ Hid (∀ j, j < xss.length → ∃ y, vs[j]? = some y ∧ Row wL y ((xss.getD j []).map bV)) ∧ Hid (∀ j, (xss.getD j []).length ≤ 1800) ∧ Below wL.heap.size wL wr) (fun z6 _ z9 _ _ => 31 - (intOf z9).toNat + lenW z6)
      case atStart => exact H0.out
      case round =>
        clear H0
        obtain ⟨i, d, vs, xss, hd, rfl, hi, hid, ⟨hxi, hi0⟩, hra, ho, HX, HLn, hb⟩ := hrel
        obtain ⟨a6, c6, rfl⟩ : ∃ a c, u6 = .slice a (TT.length - d) c := by
          obtain ⟨a, c, e, -⟩ := hra
          exact ⟨a, c, by simpa using e⟩
        have HXI := hidden hxi
        have hxl : xss.length ≤ 31 := by omega
        clear hxi
        by_cases hdl : d < TT.length
        · have hrl : (0 : Int) < ((TT.length - d : Nat) : Int) := by omega
          obtain ⟨rem, hrem⟩ : ∃ rem, TT.length - d = rem := ⟨_, rfl⟩
          have hrd : Hid (d + rem = TT.length) := by show _ = _; omega
          have hrl' : rem ≤ 1800 := by have := hnl.out; omega
          rw [hrem] at hra hrl
          have hTd : Hid ((TT.drop d).length = rem) := by show _ = _; simp; omega
          obtain ⟨b6, o6, rfl⟩ : ∃ b o, a6 = some ⟨b, o, none⟩ := by
            obtain ⟨a, c, e, -, -, -, h⟩ := hra
            simp only [Value.slice.injEq] at e
            rcases h with h | ⟨b, o, h, -⟩
            · have := congrArg List.length h
              simp at this
              omega
            · exact ⟨b, o, by rw [e.1, h]⟩
          have hc6 : rem ≤ c6 ∧ c6 ≤ 9223372036854775807 := by
            obtain ⟨a, c, e, h1, h2, -⟩ := hra
            simp only [Value.slice.injEq] at e
            obtain ⟨-, e2, rfl⟩ := e
            unfold maxLen at h2
            omega
          obtain ⟨hc61, hc62⟩ := hc6
          have hcase : (∃ q : Nat, q ≤ rem ∧ ((i : Int) < (ns.length : Int) ∧ (i : Int) < 30)) ∨ (∃ q : Nat, q = rem ∧ (¬ ((i : Int) < (ns.length : Int)) ∨ ((i : Int) < (ns.length : Int) ∧ ¬ ((i : Int) < 30)))) := by
            by_cases h : (i : Int) < (ns.length : Int) ∧ (i : Int) < 30
            · exact .inl ⟨0, Nat.zero_le _, h⟩
            · exact .inr ⟨rem, rfl, by omega⟩
          have FIN : Hid (∀ (q : Nat), q ≤ rem → (i < 30 ∨ q = rem) → i + 1 ≤ 31 ∧ (i + 1 ≤ 30 ∨ d + q = TT.length) ∧ d + q ≤ TT.length) := fun q h1 h2 => by
            have := hrd.out
            omega
          rcases hcase with ⟨-, -, hi1, hi2⟩ | ⟨q, hq, hi1 | ⟨hi1, hi2⟩⟩
          · obtain ⟨bn, on, rfl, hcn⟩ := HNC.out i 0 (by omega)
            have cn' := cell_step (hcn i (by omega)) (D.trans (hb.mono D.size))
            have hni := HN.out i (by omega)
            generalize ns.getD i 0 = ni at *
            go_wp2_with fail
            refine (within_any ni 0 20 _ hni (by decide) (by decide) (by decide)).mono ?_
            rintro e wx ⟨⟨m, rfl, m0, m1⟩, rfl⟩
            obtain ⟨m', rfl⟩ : ∃ m' : Nat, m = (m' : Int) := ⟨m.toNat, by omega⟩
            obtain ⟨q, hq⟩ : ∃ q, min rem m' = q := ⟨_, rfl⟩
            have hmin : (if (m' : Int) < (rem : Int) then (m' : Int) else (rem : Int)) = (q : Int) := by split <;> omega
            have hmin2 : (if m' < rem then (m' : Int) else (rem : Int)) = (q : Int) := by split <;> omega
            have hqr : q ≤ rem := by omega
            have hfin := hidden (FIN.out q hqr (.inl (by omega)))
            have hqc : q ≤ c6 := by omega
            have hqc' : (q : Int) ≤ (c6 : Int) := by omega
            have hqr' : (q : Int) ≤ (rem : Int) := by omega
            clear hq FIN hcn
            obtain ⟨ad, had⟩ : ∃ ad, (if c6 = q then some (⟨b6, o6, none⟩ : Addr) else some ⟨b6, o6 + q, none⟩) = ad := ⟨_, rfl⟩
            have h1 : RowO (fun _ => False) wL (.slice (some ⟨b6, o6, none⟩) rem c6) ((TT.drop d).map bV) := ⟨hra, fun k hk => ⟨fun h => h, by
              simp [Value.ownBlock] at hk
              subst hk
              exact hra.lt (by have := hTd.out; simp at this ⊢; omega)⟩⟩
            have hcut := (h1.cut q hqr).1
            rw [had, ← List.map_drop, List.drop_drop] at hcut
            have hpq := hra.take q hqr
            rw [← List.map_take] at hpq
            have hpl : ((TT.drop d).take q).length ≤ 1800 := by have := hTd.out; have := hnl.out; simp; omega
            clear h1
            have AL : Below wr.heap.size wr (wr.alloc (.cells #[.slice (some ⟨b6, o6, none⟩) q c6] 27)) := (Below.refl _ _).alloc (Nat.le_refl _) _
            have O8 := ho.alloc (.cells #[.slice (some ⟨b6, o6, none⟩) q c6] 27)
            have zr := hb.size
            go_wp2_with (at_builtin; refine wpList_push rfl (.tmp 47) (.tmp 51) 23 rfl wL.heap.size 27 (.slice none 0 0) 24 Try.underlying23 info_row6 rfl rfl O8 wr.heap.size 1 (.slice (some ⟨b6, o6, none⟩) q c6) rfl (cell_lit _ _ _) rfl (by unfold maxLen; omega) (by omega) (by simp; omega) ?_)
            intro v8 w8 o8 hg8 _
            have B8 : Below wL.heap.size wL w8 := (hb.alloc (by omega) _).grown hg8 (by simp; omega) (fun k hk => (O8.lt k hk).1)
            obtain ⟨a8, c8, rfl⟩ : ∃ a c, v8 = .slice a (xss.length + 1) c := by
              obtain ⟨a, c, e, -⟩ := Row.of_owns o8
              have := o8.1
              exact ⟨a, c, by rw [e]; congr 1; omega⟩
            have HX8 : Hid (∀ j, j < (xss ++ [(TT.drop d).take q]).length → ∃ y, (vs ++ [Value.slice (some ⟨b6, o6, none⟩) q c6])[j]? = some y ∧ Row wL y (((xss ++ [(TT.drop d).take q]).getD j []).map bV)) := fun j hj => by
              have hvl : vs.length = xss.length := by have := ho.1; omega
              by_cases hlt : j < xss.length
              · obtain ⟨y, e, r⟩ := HX.out j hlt
                refine ⟨y, by rw [List.getElem?_append_left (by omega)]; exact e, ?_⟩
                rw [List.getD_eq_getElem?_getD, List.getElem?_append_left hlt, ← List.getD_eq_getElem?_getD]; exact r
              · have hj' : j = xss.length := by simp at hj; omega
                subst hj'
                refine ⟨.slice (some ⟨b6, o6, none⟩) q c6, by rw [← hvl]; simp, ?_⟩
                rw [show (xss ++ [(TT.drop d).take q]).getD xss.length [] = (TT.drop d).take q by simp]
                exact hpq
            have HLn8 : Hid (∀ j, ((xss ++ [(TT.drop d).take q]).getD j []).length ≤ 1800) := fun j => by
              by_cases hlt : j < xss.length
              · rw [List.getD_eq_getElem?_getD, List.getElem?_append_left hlt, ← List.getD_eq_getElem?_getD]; exact HLn.out j
              · by_cases hj' : j = xss.length
                · subst hj'
                  rw [show (xss ++ [(TT.drop d).take q]).getD xss.length [] = (TT.drop d).take q by simp]; exact hpl
                · rw [List.getD_eq_getElem?_getD, List.getElem?_eq_none (by simp; omega)]; simp
            clear O8 AL hg8 hra hpq ho hb
            go_wp2
            go_roundw
            case rel => exact ⟨i + 1, d + q, vs ++ [.slice (some ⟨b6, o6, none⟩) q c6], xss ++ [(TT.drop d).take q], hfin.out.2.2, by go_num, hfin.out.1, hfin.out.2.1, ⟨by simp; exact HXI.out, fun h => by omega⟩, hcut, by simpa using o8, HX8, HLn8, B8⟩
            case measure => simp [intOf, lenW]; omega
          · have hqr : q ≤ rem := by omega
            have hfin := hidden (FIN.out q hqr (.inr hq))
            have hqc : q ≤ c6 := by omega
            have hqc' : (q : Int) ≤ (c6 : Int) := by omega
            have hqr' : (q : Int) ≤ (rem : Int) := by omega
            clear FIN
            subst hq
            obtain ⟨ad, had⟩ : ∃ ad, (if c6 = q then some (⟨b6, o6, none⟩ : Addr) else some ⟨b6, o6 + q, none⟩) = ad := ⟨_, rfl⟩
            have h1 : RowO (fun _ => False) wL (.slice (some ⟨b6, o6, none⟩) q c6) ((TT.drop d).map bV) := ⟨hra, fun k hk => ⟨fun h => h, by
              simp [Value.ownBlock] at hk
              subst hk
              exact hra.lt (by have := hTd.out; simp at this ⊢; omega)⟩⟩
            have hcut := (h1.cut q hqr).1
            rw [had, ← List.map_drop, List.drop_drop, Nat.sub_self] at hcut
            have hpq := hra.take q hqr
            rw [← List.map_take] at hpq
            have hpl : ((TT.drop d).take q).length ≤ 1800 := by have := hTd.out; have := hnl.out; simp; omega
            clear h1
            have AL : Below wr.heap.size wr (wr.alloc (.cells #[.slice (some ⟨b6, o6, none⟩) q c6] 27)) := (Below.refl _ _).alloc (Nat.le_refl _) _
            have O8 := ho.alloc (.cells #[.slice (some ⟨b6, o6, none⟩) q c6] 27)
            have zr := hb.size
            go_wp2_with (at_builtin; refine wpList_push rfl (.tmp 47) (.tmp 51) 23 rfl wL.heap.size 27 (.slice none 0 0) 24 Try.underlying23 info_row6 rfl rfl O8 wr.heap.size 1 (.slice (some ⟨b6, o6, none⟩) q c6) rfl (cell_lit _ _ _) rfl (by unfold maxLen; omega) (by omega) (by simp; omega) ?_)
            intro v8 w8 o8 hg8 _
            have B8 : Below wL.heap.size wL w8 := (hb.alloc (by omega) _).grown hg8 (by simp; omega) (fun k hk => (O8.lt k hk).1)
            obtain ⟨a8, c8, rfl⟩ : ∃ a c, v8 = .slice a (xss.length + 1) c := by
              obtain ⟨a, c, e, -⟩ := Row.of_owns o8
              have := o8.1
              exact ⟨a, c, by rw [e]; congr 1; omega⟩
            have HX8 : Hid (∀ j, j < (xss ++ [(TT.drop d).take q]).length → ∃ y, (vs ++ [Value.slice (some ⟨b6, o6, none⟩) q c6])[j]? = some y ∧ Row wL y (((xss ++ [(TT.drop d).take q]).getD j []).map bV)) := fun j hj => by
              have hvl : vs.length = xss.length := by have := ho.1; omega
              by_cases hlt : j < xss.length
              · obtain ⟨y, e, r⟩ := HX.out j hlt
                refine ⟨y, by rw [List.getElem?_append_left (by omega)]; exact e, ?_⟩
                rw [List.getD_eq_getElem?_getD, List.getElem?_append_left hlt, ← List.getD_eq_getElem?_getD]; exact r
              · have hj' : j = xss.length := by simp at hj; omega
                subst hj'
                refine ⟨.slice (some ⟨b6, o6, none⟩) q c6, by rw [← hvl]; simp, ?_⟩
                rw [show (xss ++ [(TT.drop d).take q]).getD xss.length [] = (TT.drop d).take q by simp]
                exact hpq
            have HLn8 : Hid (∀ j, ((xss ++ [(TT.drop d).take q]).getD j []).length ≤ 1800) := fun j => by
              by_cases hlt : j < xss.length
              · rw [List.getD_eq_getElem?_getD, List.getElem?_append_left hlt, ← List.getD_eq_getElem?_getD]; exact HLn.out j
              · by_cases hj' : j = xss.length
                · subst hj'
                  rw [show (xss ++ [(TT.drop d).take q]).getD xss.length [] = (TT.drop d).take q by simp]; exact hpl
                · rw [List.getD_eq_getElem?_getD, List.getElem?_eq_none (by simp; omega)]; simp
            clear O8 AL hg8 hra hpq ho hb
            go_wp2
            go_roundw
            case rel => exact ⟨i + 1, d + q, vs ++ [.slice (some ⟨b6, o6, none⟩) q c6], xss ++ [(TT.drop d).take q], hfin.out.2.2, by go_num, hfin.out.1, hfin.out.2.1, ⟨by simp; exact HXI.out, fun h => by omega⟩, hcut, by simpa using o8, HX8, HLn8, B8⟩
            case measure => simp [intOf, lenW]; omega
          · have hqr : q ≤ rem := by omega
            have hfin := hidden (FIN.out q hqr (.inr hq))
            have hqc : q ≤ c6 := by omega
            have hqc' : (q : Int) ≤ (c6 : Int) := by omega
            have hqr' : (q : Int) ≤ (rem : Int) := by omega
            clear FIN
            subst hq
            obtain ⟨ad, had⟩ : ∃ ad, (if c6 = q then some (⟨b6, o6, none⟩ : Addr) else some ⟨b6, o6 + q, none⟩) = ad := ⟨_, rfl⟩
            have h1 : RowO (fun _ => False) wL (.slice (some ⟨b6, o6, none⟩) q c6) ((TT.drop d).map bV) := ⟨hra, fun k hk => ⟨fun h => h, by
              simp [Value.ownBlock] at hk
              subst hk
              exact hra.lt (by have := hTd.out; simp at this ⊢; omega)⟩⟩
            have hcut := (h1.cut q hqr).1
            rw [had, ← List.map_drop, List.drop_drop, Nat.sub_self] at hcut
            have hpq := hra.take q hqr
            rw [← List.map_take] at hpq
            have hpl : ((TT.drop d).take q).length ≤ 1800 := by have := hTd.out; have := hnl.out; simp; omega
            clear h1
            have AL : Below wr.heap.size wr (wr.alloc (.cells #[.slice (some ⟨b6, o6, none⟩) q c6] 27)) := (Below.refl _ _).alloc (Nat.le_refl _) _
            have O8 := ho.alloc (.cells #[.slice (some ⟨b6, o6, none⟩) q c6] 27)
            have zr := hb.size
            go_wp2_with (at_builtin; refine wpList_push rfl (.tmp 47) (.tmp 51) 23 rfl wL.heap.size 27 (.slice none 0 0) 24 Try.underlying23 info_row6 rfl rfl O8 wr.heap.size 1 (.slice (some ⟨b6, o6, none⟩) q c6) rfl (cell_lit _ _ _) rfl (by unfold maxLen; omega) (by omega) (by simp; omega) ?_)
            intro v8 w8 o8 hg8 _
            have B8 : Below wL.heap.size wL w8 := (hb.alloc (by omega) _).grown hg8 (by simp; omega) (fun k hk => (O8.lt k hk).1)
            obtain ⟨a8, c8, rfl⟩ : ∃ a c, v8 = .slice a (xss.length + 1) c := by
              obtain ⟨a, c, e, -⟩ := Row.of_owns o8
              have := o8.1
              exact ⟨a, c, by rw [e]; congr 1; omega⟩
            have HX8 : Hid (∀ j, j < (xss ++ [(TT.drop d).take q]).length → ∃ y, (vs ++ [Value.slice (some ⟨b6, o6, none⟩) q c6])[j]? = some y ∧ Row wL y (((xss ++ [(TT.drop d).take q]).getD j []).map bV)) := fun j hj => by
              have hvl : vs.length = xss.length := by have := ho.1; omega
              by_cases hlt : j < xss.length
              · obtain ⟨y, e, r⟩ := HX.out j hlt
                refine ⟨y, by rw [List.getElem?_append_left (by omega)]; exact e, ?_⟩
                rw [List.getD_eq_getElem?_getD, List.getElem?_append_left hlt, ← List.getD_eq_getElem?_getD]; exact r
              · have hj' : j = xss.length := by simp at hj; omega
                subst hj'
                refine ⟨.slice (some ⟨b6, o6, none⟩) q c6, by rw [← hvl]; simp, ?_⟩
                rw [show (xss ++ [(TT.drop d).take q]).getD xss.length [] = (TT.drop d).take q by simp]
                exact hpq
            have HLn8 : Hid (∀ j, ((xss ++ [(TT.drop d).take q]).getD j []).length ≤ 1800) := fun j => by
              by_cases hlt : j < xss.length
              · rw [List.getD_eq_getElem?_getD, List.getElem?_append_left hlt, ← List.getD_eq_getElem?_getD]; exact HLn.out j
              · by_cases hj' : j = xss.length
                · subst hj'
                  rw [show (xss ++ [(TT.drop d).take q]).getD xss.length [] = (TT.drop d).take q by simp]; exact hpl
                · rw [List.getD_eq_getElem?_getD, List.getElem?_eq_none (by simp; omega)]; simp
            clear O8 AL hg8 hra hpq ho hb
            go_wp2
            go_roundw
            case rel => exact ⟨i + 1, d + q, vs ++ [.slice (some ⟨b6, o6, none⟩) q c6], xss ++ [(TT.drop d).take q], hfin.out.2.2, by go_num, hfin.out.1, hfin.out.2.1, ⟨by simp; exact HXI.out, fun h => by omega⟩, hcut, by simpa using o8, HX8, HLn8, B8⟩
            case measure => simp [intOf, lenW]; omega
        · have z0 : TT.length - d = 0 := by omega
          rw [z0] at hra
          have RF : RowsB wr u8 xss := ⟨vs, Row.of_owns ho, by have := ho.1; omega, fun j hj => by
            obtain ⟨y, e, r⟩ := HX.out j hj
            exact ⟨y, e, r.below hb⟩⟩
          have hxp : Hid (0 < xss.length) := by
            show _ < _
            have h1 := hpos.out
            have h2 := HXI.out
            rcases Nat.eq_zero_or_pos i with h | h
            · have := hi0 h; omega
            · omega
          have D9 := D.trans (hb.mono D.size)
          clear hra ho HX hb
          go_wp2
          go_ret
          exact ⟨_, xss, rfl, RF, hxp.out, by omega, HLn.out, D9⟩

set_option maxRecDepth 100000 in
set_option maxHeartbeats 1000000 in
theorem tape_law6 (k : Nat) (w : World) (hk : k ≤ 1000) :
    Calls Try.prog 8 #[.int .i64 k] w fun e w' => ∃ v', e = .returned v' ∧ ∃ l : List Int, Row w' v' (l.map iV) ∧ (∀ x ∈ l, -9223372036854775808 ≤ x ∧ x ≤ 9223372036854775807) ∧ Below w.heap.size w w' := by
  go_enter Try.func8, Try.ntmps8
  go_wp2
  go_loopw [3, 4] (fun z i wr => ∃ (j : Nat) (l : List Int), j ≤ 900 ∧ i = .int .i64 j ∧ wr.ownsRow w.heap.size 3 1 z j (l.map iV) ∧ Hid (∀ x ∈ l, -9223372036854775808 ≤ x ∧ x ≤ 9223372036854775807) ∧ Below w.heap.size w wr) (fun _ i _ => 900 - (intOf i).toNat)
  case atStart => exact ⟨0, [], by omega, rfl, World.ownsRow_nil _ _ _ _, fun x hx => by simp at hx, Below.refl _ _⟩
  case round =>
    obtain ⟨j, l, hj, rfl, ho, HL, hb⟩ := hrel
    have hz := hb.size
    by_cases hlt : j < 900
    · have hlt' : (j : Int) < 900 := by omega
      have p1 : (j : Int) * j ≤ 810000 := by
        have := Nat.mul_le_mul hj hj
        have e : ((j * j : Nat) : Int) = (j : Int) * j := by simp
        omega
      have p0 : 0 ≤ (j : Int) * j := by
        have e : ((j * j : Nat) : Int) = (j : Int) * j := by simp
        omega
      have p3 : (j : Int) * k ≤ 900000 := by
        have := Nat.mul_le_mul hj hk
        have e : ((j * k : Nat) : Int) = (j : Int) * k := by simp
        omega
      have p2 : 0 ≤ (j : Int) * k := by
        have e : ((j * k : Nat) : Int) = (j : Int) * k := by simp
        omega
      obtain ⟨t, ht⟩ : ∃ t, ((j : Int) * j * 7 + (k : Int) * 41 + (j : Int) * k) % 211 = t := ⟨_, rfl⟩
      have t0 : 0 ≤ t := by omega
      have t1 : t ≤ 210 := by omega
      have RN := row_new wr [.int .i64 t] 3 1 rfl (by decide)
      go_wp2_with (at_builtin; refine wpList_app rfl (.tmp 9) (.tmp 22) 22 rfl w.heap.size 3 (.int .i64 0) 8 Try.underlying22 info_int6 rfl rfl (ho.alloc _) rfl RN (by intro u hu; simp at hu; subst hu; rfl) (by simp [maxLen]; omega) (by simp; omega) (by simp; omega) ?_)
      intro v7 w7 ho7 hg7
      have B7 := (hb.alloc hz (.cells #[.int .i64 t] 3)).grown hg7 (by simp; omega) (fun k hk => (ho.lt k hk).1)
      clear ht p0 p1 p2 p3 RN
      go_wp2
      go_roundw
      case rel => exact ⟨j + 1, l ++ [t], by omega, by go_num, by simpa using ho7, fun y hy => by
        rcases List.mem_append.1 hy with h | h
        · exact HL.out y h
        · simp at h; omega, B7⟩
      case measure => simp [intOf]; omega
    · have hlt' : ¬ (j : Int) < 900 := by omega
      go_wp2
      go_ret
      exact ⟨_, rfl, l, Row.of_owns ho, HL.out, hb⟩
end Go.Proofs.Ytejcigeccmfeeaa

namespace Go.Proofs.Ytejcigeccmfeeaa
open Go.RowKit

theorem RowsB.ex {w : World} {v : Value} {xss : List (List UInt8)} (h : RowsB w v xss) : ∃ a cap vs, v = .slice a xss.length cap ∧ xss.length ≤ cap ∧ cap ≤ maxLen ∧ vs.length = xss.length ∧ Row w (.slice a xss.length cap) vs ∧ ∀ i, i < xss.length → ∃ u, vs[i]? = some u ∧ Row w u ((xss.getD i []).map bV) := by
  obtain ⟨vs, h1, h2, h3⟩ := h
  obtain ⟨a, cap, e, h4, h5, -⟩ := id h1
  rw [h2] at e h4
  exact ⟨a, cap, vs, e, h4, h5, h2, e ▸ h1, h3⟩
theorem one_slices {w : World} {vs : List Value} {xss : List (List UInt8)} (hl : vs.length = xss.length) (h : ∀ i, i < xss.length → ∃ u, vs[i]? = some u ∧ Row w u ((xss.getD i []).map bV)) : ∀ u ∈ vs, u.oneCell' = true := fun u hu => by
  obtain ⟨j, hj, e⟩ := List.getElem_of_mem hu
  obtain ⟨y, e1, r⟩ := h j (by omega)
  rw [List.getElem?_eq_getElem hj, e] at e1
  obtain ⟨a, c, e2, -⟩ := r
  rw [Option.some.inj e1, e2]; rfl
/-- one row ahead, the first one left out -/
theorem RowsB.swap {w : World} {v x : Value} {vs : List Value} {xss : List (List UInt8)} {X : List UInt8} (hr : Row w v ([x] ++ vs.drop 1)) (hx : Row w x (X.map bV)) (hl : vs.length = xss.length) (h : ∀ i, i < xss.length → ∃ u, vs[i]? = some u ∧ Row w u ((xss.getD i []).map bV)) : RowsB w v (X :: xss.drop 1) := by
  refine ⟨_, hr, by simp [hl], fun i hi => ?_⟩
  cases i with
  | zero => exact ⟨x, rfl, by simpa using hx⟩
  | succ i =>
    obtain ⟨u, e, r⟩ := h (i + 1) (by simp at hi; omega)
    refine ⟨u, by simpa [Nat.add_comm] using e, ?_⟩
    have e2 : (X :: xss.drop 1).getD (i + 1) [] = xss.getD (i + 1) [] := by
      simp [List.getD_eq_getElem?_getD]
    rw [e2]; exact r
theorem swap_len (X : List UInt8) (xss : List (List UInt8)) (n : Nat) (hX : X.length ≤ n) (h : ∀ i, (xss.getD i []).length ≤ n) : ∀ i, ((X :: xss.drop 1).getD i []).length ≤ n
  | 0 => by simpa using hX
  | i + 1 => by
    have := h (i + 1)
    simpa [List.getD_eq_getElem?_getD, Nat.add_comm] using this
/-- a cell of a row of one's own is set -/
theorem own_set {w : World} {base g n cap : Nat} {X : List UInt8} (h : w.ownsRow base 5 1 (.slice (some ⟨g, 0, none⟩) n cap) n (X.map bV)) (k : Nat) (hk : k < n) (y : UInt8) :
    w.cell? ⟨g, k, none⟩ = some (bV (X.getD k 0)) ∧ w.frozen? ⟨g, k, none⟩ = false ∧ Row (w.setCell ⟨g, k, none⟩ (bV y)) (.slice (some ⟨g, 0, none⟩) n cap) ((X.set k y).map bV) ∧ Below base w (w.setCell ⟨g, k, none⟩ (bV y)) := by
  have hl : X.length = n := by have := h.1; simp at this; omega
  rcases id h.2 with ⟨e, -⟩ | ⟨g', cap', cur, e, hb, hg, hle, hm, hs, ht⟩
  · cases e
  · simp only [Value.slice.injEq, Option.some.injEq, Addr.mk.injEq] at e
    obtain ⟨⟨rfl, -, -⟩, -, rfl⟩ := e
    have BX : Blk w g 5 cur.toList := by unfold Blk; simpa using hg
    have hc := h.cellAt k (by omega)
    refine ⟨by rw [hc]; simp [List.getD_eq_getElem?_getD, show k < X.length by omega], BX.frozen k, ?_, (Below.refl _ _).setCell (p := ⟨g, k, none⟩) hb _⟩
    have BY := BX.set k (bV y)
    refine ⟨some ⟨g, 0, none⟩, cap, by simp [hl], by simp [hl]; omega, hm, (fun h => by cases h), .inr ⟨g, 0, rfl, fun i hi => ?_⟩⟩
    have hi' : i < n := by simp at hi; omega
    rw [Nat.zero_add, BY.cell i]
    have e3 : cur.toList[i]? = (X.map bV)[i]? := by
      rw [← ht, List.getElem?_take, if_pos (by omega)]
    rw [List.map_set, List.getElem?_set, List.getElem?_set, e3]
    simp [hl, hs]
    split <;> simp_all
    omega

set_option maxRecDepth 100000 in
set_option maxHeartbeats 4000000 in
theorem plays_law (hM : TmsgOk) (vt vn vr : Value) (l ns : List Int) (xss : List (List UInt8)) (at0 : Int) (tu : Int) (id un : Int) (w : World) (ht : Row w vt (l.map iV)) (hti : ∀ x ∈ l, -9223372036854775808 ≤ x ∧ x ≤ 9223372036854775807) (hv : Row w vn (ns.map (Value.int .i64))) (hns : ∀ x ∈ ns, -9223372036854775808 ≤ x ∧ x ≤ 9223372036854775807)
    (hr : RowsB w vr xss) (hrl : ∀ i, (xss.getD i []).length ≤ 2000000000000) (ha : -9223372036854775808 ≤ at0 ∧ at0 ≤ 9223372036854775807) (hid : -9223372036854775808 ≤ id ∧ id ≤ 9223372036854775807) (htu : 0 ≤ tu ∧ tu ≤ 255) :
    Calls Try.prog 4 #[vt, vn, vr, .int .i64 at0, .int .u8 tu, .int .i64 id, .int .i64 un] w fun e w' => e = .returned (.bool true) ∧ Below w.heap.size w w' := by
  have CC := hidden (cuts_any hM vt vn l ns w ht hti hv hns)
  have HR := hidden hr
  have HRL := hidden hrl
  obtain ⟨ar, cr, -, er, -⟩ := hr.ex
  subst er
  obtain ⟨at', ct, rfl, -⟩ := _root_.id ht
  obtain ⟨an, cn, rfl, -⟩ := _root_.id hv
  obtain ⟨tb, htb⟩ : ∃ tb : UInt8, tu = (tb.toNat : Int) := ⟨UInt8.ofNat tu.toNat, by rw [UInt8.toNat_ofNat']; omega⟩
  subst htb
  clear ht hti hv hns hr hrl hM htu
  simp only [List.length_map] at CC ⊢
  go_enter Try.func4, Try.ntmps4
  go_wp2_with fail
  refine CC.out.mono ?_
  rintro e w1 ⟨v1, yss, rfl, R1, y1, y2, yl, D1⟩
  clear CC
  obtain ⟨a1, c1, vs, rfl, hc1, hc2, hvl, RV, hvs⟩ := R1.ex
  unfold maxLen at hc2
  obtain ⟨u0, hu0, r0⟩ := hvs 0 y1
  obtain ⟨b1, o1, rfl, hcell⟩ : ∃ b o, a1 = some ⟨b, o, none⟩ ∧ w1.cell? ⟨b, o, none⟩ = some u0 := by
    obtain ⟨a, c, e, -, -, -, h⟩ := RV
    simp only [Value.slice.injEq] at e
    obtain ⟨rfl, -, -⟩ := e
    rcases h with h | ⟨b, o, h, hc⟩
    · rw [h] at hvl; simp at hvl; omega
    · exact ⟨b, o, h, by have := hc 0 (by omega); rw [Nat.add_zero] at this; rw [this, hu0]⟩
  have yl0 := yl 0
  generalize yss.getD 0 [] = X at *
  obtain ⟨ax, cx, rfl, -⟩ := _root_.id r0
  simp only [List.length_map] at r0 hcell hu0
  have A1 : Below w1.heap.size w1 (w1.alloc (.cells #[] 5)) := (Below.refl _ _).alloc (Nat.le_refl _) _
  have O1 : (w1.alloc (.cells #[] 5)).ownsRow w1.heap.size 5 1 (.slice (some ⟨w1.heap.size, 0, none⟩) 0 0) 0 [] :=
    ⟨rfl, .inr ⟨w1.heap.size, 0, #[], rfl, Nat.le_refl _, heap_alloc_new w1 _, Nat.zero_le _, by unfold maxLen; omega, by simp, by simp⟩⟩
  have hcell1 := cell_step hcell A1
  have y1' : (0 : Int) < (yss.length : Int) := by omega
  go_wp2_with (at_builtin; refine wpList_app rfl (.tmp 21) (.tmp 24) 27 rfl w1.heap.size 5 (.int .u8 0) 1 Try.underlying27 info_u8 rfl rfl O1 rfl (r0.below A1) (one_bytes X) (by simp [maxLen]; omega) (by simp; omega) (by simp) ?_)
  intro v2 w2 o2 hg2
  have B2 : Below w1.heap.size w1 w2 := A1.grown hg2 (by simp) (fun k hk => (O1.lt k hk).1)
  replace o2 : w2.ownsRow w1.heap.size 5 1 v2 X.length (X.map bV) := by simpa using o2
  obtain ⟨a2, c2, rfl⟩ : ∃ a c, v2 = .slice a X.length c := by
    obtain ⟨a, c, e, -⟩ := Row.of_owns o2
    exact ⟨a, c, by simpa using e⟩
  clear A1 O1 hg2 hcell1 hcell r0 hu0
  rcases Nat.lt_or_ge 0 X.length with hx0 | hx0
  focus
    obtain ⟨g2, c2', e2, hg2⟩ := owns_some o2 hx0
    simp only [Value.slice.injEq] at e2
    obtain ⟨rfl, -, -⟩ := e2
    have hx0' : (0 : Int) < (X.length : Int) := by omega
    have wl1 : IntKind.i64.wrap ((X.length : Int) - 1) = (X.length : Int) - 1 := by rw [IntKind.wrap_i64]; omega
    go_wp2_with fail
    refine (within_any at0 0 ((X.length : Int) - 1) _ ha (by decide) (by omega) (by omega)).mono ?_
    rintro e wx ⟨⟨m, rfl, m0, m1⟩, rfl⟩
    obtain ⟨m', rfl⟩ : ∃ m' : Nat, m = (m' : Int) := ⟨m.toNat, by omega⟩
    have hm' : (m' : Int) < (X.length : Int) := by omega
    obtain ⟨q1, q2, q3, q4⟩ := own_set o2 m' (by omega) (X.getD m' 0 ^^^ tb)
    generalize X.getD m' 0 = xx at *
    have hxor := xor_u8 xx tb
    have ey : bV (xx ^^^ tb) = .int .u8 ((xx.toNat ^^^ tb.toNat : Nat) : Int) := by simp [bV]
    rw [ey] at q3 q4
    clear ey
    have hx1 := xx.toNat_lt
    have hx2 : xx.toNat ^^^ tb.toNat < 256 := by have := (xx ^^^ tb).toNat_lt; simpa using this
    go_upto_region 5 with fail
    have hX' : Hid ((X.set m' (xx ^^^ tb)).length = X.length) := by show _ = _; simp
    have RX := q3
    have B3 := B2.trans q4
    clear q1 q2 q3 q4 hxor o2 B2
    generalize X.set m' (xx ^^^ tb) = X' at *
    generalize w2.setCell ⟨g2, m', none⟩ (.int .u8 ((xx.toNat ^^^ tb.toNat : Nat) : Int)) = w3 at *
    obtain ⟨a2, ha2⟩ : ∃ a2, a2 = some (⟨g2, 0, none⟩ : Addr) := ⟨_, rfl⟩
    rw [← ha2] at RX ⊢
    clear ha2
  rotate_left
  focus
    have hx0' : ¬ (0 : Int) < (X.length : Int) := by omega
    go_upto_region 5 with fail
    have hX' : Hid (X.length = X.length) := rfl
    have B3 := B2
    obtain ⟨X', hX2⟩ : ∃ X', X' = X := ⟨_, rfl⟩
    have RX : Row w2 (.slice a2 X.length c2) (X'.map bV) := by rw [hX2]; exact Row.of_owns o2
    replace hX' : Hid (X'.length = X.length) := by rw [hX2]; rfl
    clear hX2 o2 B2
    obtain ⟨w3, hw3⟩ : ∃ w3, w3 = w2 := ⟨_, rfl⟩
    subst hw3
  all_goals
    have RL := R1.ext B3
    have hrows := HR.out.ext (D1.trans (B3.mono D1.size))
    have D3 := D1.trans (B3.mono D1.size)
    have RV3 := RV.below B3
    have HV3 : Hid (∀ i, i < yss.length → ∃ u, vs[i]? = some u ∧ Row w3 u ((yss.getD i []).map bV)) := fun i hi => by
      obtain ⟨u, e, r⟩ := hvs i hi
      exact ⟨u, e, r.below B3⟩
    have HYL := hidden yl
    have hXl := hX'.out
    have HXL := hX'
    clear hvs yl R1 RV D1 HR hXl
    have A5 : Below w3.heap.size w3 (w3.alloc (.cells #[.int .i64 id, .int .i64 un, .slice a2 X.length c2] 30)) := (Below.refl _ _).alloc (Nat.le_refl _) _
    have X5 := Blk.new w3 30 [.int .i64 id, .int .i64 un, .slice a2 X.length c2]
    go_wp2
    refine wp_region_pi [(0, true), (1, false), (2, true), (3, true), (5, true), (6, true), (4, false), (7, false), (8, false), (9, true), (10, true), (11, true), (12, false), (13, true), (14, true), (15, true), (18, true), (19, true), (20, true), (21, true), (16, false), (17, true), (22, false), (23, true), (24, true), (25, true), (26, true), (27, false), (28, true), (29, true)] (by kernel_rfl) (by kernel_rfl) (by kernel_rfl) (fun _ _ _ d _ h => by cases d <;> exact h) ?_
    have ED := below_then A5 (Below.refl (w3.alloc (.cells #[.int .i64 id, .int .i64 un, .slice a2 X.length c2] 30)).heap.size (w3.alloc (.cells #[.int .i64 id, .int .i64 un, .slice a2 X.length c2] 30))).drew
    replace RL := RL.ext ED
    replace hrows := hrows.ext ED
    replace RX := RX.below ED
    replace RV3 := RV3.below ED
    replace HV3 : Hid (∀ i, i < yss.length → ∃ u, vs[i]? = some u ∧ Row (w3.alloc (.cells #[.int .i64 id, .int .i64 un, .slice a2 X.length c2] 30)).drew u ((yss.getD i []).map bV)) := fun i hi => by
      obtain ⟨u, e, r⟩ := HV3.out i hi
      exact ⟨u, e, r.below ED⟩
    replace D3 := D3.trans (ED.mono D3.size)
    replace X5 := X5.drew
    have hg5 := X5.lt
    generalize hg17 : w3.heap.size = g17 at *
    clear ED A5 B3 hg17
    generalize (w3.alloc (.cells #[.int .i64 id, .int .i64 un, .slice a2 X.length c2] 30)).drew = c0 at *
    have x0 := Ext.refl c0
    obtain ⟨ad, had⟩ : ∃ ad, (if c1 = 1 then some (⟨b1, o1, none⟩ : Addr) else some ⟨b1, o1 + 1, none⟩) = ad := ⟨_, rfl⟩
    have HCUT : Hid (∀ w', Row w' (.slice (some ⟨b1, o1, none⟩) yss.length c1) vs → Row w' (.slice ad (yss.length - 1) (c1 - 1)) (vs.drop 1)) := fun w' h => by
      have h1 : RowO (fun _ => False) w' (.slice (some ⟨b1, o1, none⟩) yss.length c1) vs := ⟨h, fun k hk => ⟨fun h => h, by
        simp [Value.ownBlock] at hk
        subst hk
        exact h.lt (by omega)⟩⟩
      have := (h1.cut 1 (by omega)).1
      rwa [had] at this
    have y1'' : (1 : Int) ≤ (yss.length : Int) := by omega
    refine pi_pure x0 rfl (by kernel_rfl) (fun w' => by go_simp; with_reducible rfl) ?_; try simp only [Act.put, List.setIfInBounds_toArray, List.set_cons_zero, List.set_cons_succ]
    refine pi_move rfl (by kernel_rfl) (fun K hK => ?_)
    go_wp2_with fail
    refine (play_any _ yss _ RL (fun i => by have := HYL.out i; omega)).mono ?_
    rintro e c2w ⟨rfl, E1⟩
    go_simp
    refine hK.out _ _ E1 ?_
    clear K hK
    try simp only [Act.put, List.setIfInBounds_toArray, List.set_cons_zero, List.set_cons_succ]
    refine pi_pure E1 rfl (by kernel_rfl) (fun w' => by go_simp; with_reducible rfl) ?_; try simp only [Act.put, List.setIfInBounds_toArray, List.set_cons_zero, List.set_cons_succ]
    refine pi_pure E1 rfl (by kernel_rfl) (fun w' => by go_simp; with_reducible rfl) ?_; try simp only [Act.put, List.setIfInBounds_toArray, List.set_cons_zero, List.set_cons_succ]
    refine pi_pure E1 rfl (by kernel_rfl) (fun w' => by go_simp; with_reducible rfl) ?_; try simp only [Act.put, List.setIfInBounds_toArray, List.set_cons_zero, List.set_cons_succ]
    refine pi_pure E1 rfl (by kernel_rfl) (fun w' => by go_simp; with_reducible rfl) ?_; try simp only [Act.put, List.setIfInBounds_toArray, List.set_cons_zero, List.set_cons_succ]
    have RX1 := RX.below E1
    have RC1 := HCUT.out _ (RV3.below E1)
    refine pi_move rfl (by kernel_rfl) (fun K hK => ?_)
    have L1 : Below c2w.heap.size c2w (c2w.alloc (.cells #[.slice a2 X.length c2] 27)) := (Below.refl _ _).alloc (Nat.le_refl _) _
    have OL : (c2w.alloc (.cells #[.slice a2 X.length c2] 27)).ownsRow c2w.heap.size 27 1 (.slice (some ⟨c2w.heap.size, 0, none⟩) 1 1) 1 [.slice a2 X.length c2] :=
      ⟨rfl, .inr ⟨c2w.heap.size, 1, #[.slice a2 X.length c2], rfl, Nat.le_refl _, heap_alloc_new c2w _, Nat.le_refl _, by decide, rfl, rfl⟩⟩
    have E2 := Ext.trans E1 L1
    go_simp
    refine hK.out _ _ E2 ?_
    clear K hK
    try simp only [Act.put, List.setIfInBounds_toArray, List.set_cons_zero, List.set_cons_succ]
    have H1 := hidden (one_slices hvl HV3.out)
    refine pi_move rfl (by kernel_rfl) (fun K hK => ?_)
    refine wp_app (.tmp 48) (.tmp 50) 23 rfl c2w.heap.size 27 (.slice none 0 0) 24 Try.underlying23 info_row6 rfl rfl OL rfl (RC1.below L1) (fun u hu => H1.out u (List.mem_of_mem_drop hu)) (by simp [maxLen]; omega) (by simp; omega) (by simp) ?_
    intro v51 c3 o51 hg51
    have E3' : Below c2w.heap.size c2w c3 := L1.grown hg51 (by simp) (fun k hk => (OL.lt k hk).1)
    have E3 := Ext.trans E1 E3'
    refine hK.out _ _ E3 ?_
    clear K hK
    try simp only [Act.put, List.setIfInBounds_toArray, List.set_cons_zero, List.set_cons_succ]
    have RS : RowsB c3 v51 (X' :: yss.drop 1) := RowsB.swap (Row.of_owns o51) (RX.below E3) hvl (fun i hi => by
      obtain ⟨u, e, r⟩ := HV3.out i hi
      exact ⟨u, e, r.below E3⟩)
    have HSL := hidden (swap_len X' yss 2000000000000 (by have := HXL.out; omega) (fun i => by have := HYL.out i; omega))
    clear L1 OL o51 hg51 RC1 RX1 E2 H1
    refine pi_move rfl (by kernel_rfl) (fun K hK => ?_)
    go_wp2_with fail
    refine (play_any _ _ _ RS HSL.out).mono ?_
    rintro e c4 ⟨rfl, E4'⟩
    have E4 := Ext.trans E3 E4'
    go_simp
    refine hK.out _ _ E4 ?_
    clear K hK
    try simp only [Act.put, List.setIfInBounds_toArray, List.set_cons_zero, List.set_cons_succ]
    refine pi_pure E4 rfl (by kernel_rfl) (fun w' => by go_simp; with_reducible rfl) ?_; try simp only [Act.put, List.setIfInBounds_toArray, List.set_cons_zero, List.set_cons_succ]
    refine pi_pure E4 rfl (by kernel_rfl) (fun w' => by go_simp; with_reducible rfl) ?_; try simp only [Act.put, List.setIfInBounds_toArray, List.set_cons_zero, List.set_cons_succ]
    refine pi_pure E4 rfl (by kernel_rfl) (fun w' => by go_simp; with_reducible rfl) ?_; try simp only [Act.put, List.setIfInBounds_toArray, List.set_cons_zero, List.set_cons_succ]
    refine pi_move rfl (by kernel_rfl) (fun K hK => ?_)
    go_wp2_with fail
    refine (play_any _ xss _ (hrows.ext E4) HRL.out).mono ?_
    rintro e c5 ⟨rfl, E5'⟩
    have E5 := Ext.trans E4 E5'
    go_simp
    refine hK.out _ _ E5 ?_
    clear K hK
    try simp only [Act.put, List.setIfInBounds_toArray, List.set_cons_zero, List.set_cons_succ]
    refine pi_pure E5 rfl (by kernel_rfl) (fun w' => by go_simp; with_reducible rfl) ?_; try simp only [Act.put, List.setIfInBounds_toArray, List.set_cons_zero, List.set_cons_succ]
    refine pi_pure E5 rfl (by kernel_rfl) (fun w' => by go_simp; with_reducible rfl) ?_; try simp only [Act.put, List.setIfInBounds_toArray, List.set_cons_zero, List.set_cons_succ]
    replace X5 := X5.below E5 X5.lt
    replace RX := RX.below E5
    replace D3 := D3.trans (E5.mono D3.size)
    have RD := hidden (fun w' (hx : Ext c5 w') => (⟨cell_of (i := 0) (X5.below hx X5.lt) rfl, cell_of (i := 1) (X5.below hx X5.lt) rfl, cell_of (i := 2) (X5.below hx X5.lt) rfl⟩ : _ ∧ _ ∧ _))
    refine pi_read E5 rfl (by kernel_rfl) (fun w' hx => by obtain ⟨y0, y1, y2⟩ := RD.out w' hx; go_simp; with_reducible rfl) ?_; try simp only [Act.put, List.setIfInBounds_toArray, List.set_cons_zero, List.set_cons_succ]
    have x5 := Ext.refl c5
    refine pi_pure x5 rfl (by kernel_rfl) (fun w' => by go_simp; with_reducible rfl) ?_; try simp only [Act.put, List.setIfInBounds_toArray, List.set_cons_zero, List.set_cons_succ]
    refine pi_pure x5 rfl (by kernel_rfl) (fun w' => by go_simp; with_reducible rfl) ?_; try simp only [Act.put, List.setIfInBounds_toArray, List.set_cons_zero, List.set_cons_succ]
    refine pi_pure x5 rfl (by kernel_rfl) (fun w' => by go_simp; with_reducible rfl) ?_; try simp only [Act.put, List.setIfInBounds_toArray, List.set_cons_zero, List.set_cons_succ]
    refine pi_pure x5 rfl (by kernel_rfl) (fun w' => by go_simp; with_reducible rfl) ?_; try simp only [Act.put, List.setIfInBounds_toArray, List.set_cons_zero, List.set_cons_succ]
    refine pi_move rfl (by kernel_rfl) (fun K hK => ?_)
    go_wp2_with fail
    refine (mbytes_any id un _ X' _ hid RX).mono ?_
    rintro e c6 ⟨v60, rfl, o60, E6⟩
    have R60 := Row.of_owns o60
    go_simp
    refine hK.out _ _ E6 ?_
    clear K hK
    try simp only [Act.put, List.setIfInBounds_toArray, List.set_cons_zero, List.set_cons_succ]
    have HC1 := hidden (fun w' (hx : Ext c6 w') => conv_row (P := Try.prog) (R60.below hx) 27 9 5 Try.underlying27 Try.underlying5 Try.underlying9)
    refine pi_read E6 rfl (by kernel_rfl) (fun w' hx => by have y0 := HC1.out w' hx; go_simp; with_reducible rfl) ?_; try simp only [Act.put, List.setIfInBounds_toArray, List.set_cons_zero, List.set_cons_succ]
    refine pi_move rfl (by kernel_rfl) (fun K hK => ?_)
    go_wp2_with fail
    refine (r5bytes_any id un _ X' _ hid (RX.below E6)).mono ?_
    rintro e c7 ⟨v66, rfl, o66, E7⟩
    have R66 := Row.of_owns o66
    go_simp
    refine hK.out _ _ E7 ?_
    clear K hK
    try simp only [Act.put, List.setIfInBounds_toArray, List.set_cons_zero, List.set_cons_succ]
    have HC2 := hidden (fun w' (hx : Ext c7 w') => conv_row (P := Try.prog) (R66.below hx) 27 9 5 Try.underlying27 Try.underlying5 Try.underlying9)
    refine pi_read E7 rfl (by kernel_rfl) (fun w' hx => by have y0 := HC2.out w' hx; go_simp; with_reducible rfl) ?_; try simp only [Act.put, List.setIfInBounds_toArray, List.set_cons_zero, List.set_cons_succ]
    have x7 := Ext.refl c7
    refine pi_pure x7 rfl (by kernel_rfl) (fun w' => by go_simp; with_reducible rfl) ?_; try simp only [Act.put, List.setIfInBounds_toArray, List.set_cons_zero, List.set_cons_succ]
    refine pi_pure x7 rfl (by kernel_rfl) (fun w' => by go_simp; with_reducible rfl) ?_; try simp only [Act.put, List.setIfInBounds_toArray, List.set_cons_zero, List.set_cons_succ]
    refine pi_pure x7 rfl (by kernel_rfl) (fun w' => by go_simp; with_reducible rfl) ?_; try simp only [Act.put, List.setIfInBounds_toArray, List.set_cons_zero, List.set_cons_succ]
    refine pi_move rfl (by kernel_rfl) (fun K hK => ?_)
    go_wp2_with fail
    refine (known_any _).mono ?_
    rintro e c8 ⟨rfl, E8⟩
    go_simp
    refine hK.out _ _ E8 ?_
    clear K hK
    try simp only [Act.put, List.setIfInBounds_toArray, List.set_cons_zero, List.set_cons_succ]
    refine pi_pure E8 rfl (by kernel_rfl) (fun w' => by go_simp; with_reducible rfl) ?_; try simp only [Act.put, List.setIfInBounds_toArray, List.set_cons_zero, List.set_cons_succ]
    refine pi_pure E8 rfl (by kernel_rfl) (fun w' => by go_simp; with_reducible rfl) ?_; try simp only [Act.put, List.setIfInBounds_toArray, List.set_cons_zero, List.set_cons_succ]
    refine pi_nil ?_
    have D9 := D3.trans ((Ext.trans (Ext.trans E6 E7) E8).mono D3.size)
    go_wp2
    go_ret
    exact ⟨rfl, D9⟩

end Go.Proofs.Ytejcigeccmfeeaa
