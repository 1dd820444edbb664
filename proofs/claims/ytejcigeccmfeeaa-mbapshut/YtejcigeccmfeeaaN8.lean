/- The walk of burgagelaw6's MbapShut. -/
import Derived.Test.YtejcigeccmfeeaaN7
namespace Go.Proofs.Ytejcigeccmfeeaa
open Go.RowKit

theorem shut_1 : smRun ⟨[], false, []⟩ [0, 1, 0, 0, 0, 255] = ⟨[], true, []⟩ := rfl
theorem shut_2 (p : List UInt8) (h1 : 1 ≤ p.length) (h2 : p.length ≤ 253) : smRun ⟨[], false, []⟩ (mbytesL 5 9 p) = ⟨[], false, [⟨5, 9, p⟩]⟩ := by
  have e : mbytesL 5 9 p = msgL 5 9 p ++ [] := by unfold mbytesL; rw [if_neg (by omega)]; simp
  rw [e, run_bytes [] 5 9 p [] h1 h2]
  rfl

set_option maxHeartbeats 2000000 in
theorem shut_law (vr vh : Value) (xss : List (List UInt8)) (hs : List UInt8) (w : World) (hr : RowsB w vr xss) (hv : Row w vh (hs.map bV)) :
    Calls Try.prog 6 #[vr, vh] w fun e w' => e = .returned (.bool true) ∧ Below w.heap.size w w' := by
  obtain ⟨ar, cr, rfl, h1, h2, -⟩ := id hr.at
  obtain ⟨ah, ch, rfl, -⟩ := id hv
  obtain ⟨-, k1, k2, -⟩ := hv.at
  unfold maxLen at h2 k2
  simp only [List.length_map] at hv k1 ⊢
  obtain ⟨n, hn⟩ : ∃ n, min hs.length 60 = n := ⟨_, rfl⟩
  have hmin : (if (60 : Int) < (hs.length : Int) then (60 : Int) else (hs.length : Int)) = (n : Int) := by split <;> omega
  have hn1 : n ≤ hs.length := by omega
  have hn2 : n ≤ 60 := by omega
  have HT := hidden (fun w' (h : Row w' (.slice ah hs.length ch) (hs.map bV)) => (show Row w' (.slice ah n ch) ((hs.take n).map bV) by have := h.take n (by omega); rwa [← List.map_take] at this))
  have hql : (hs.take n).length = n := by simp; omega
  have HM := hidden (shut_2 (1 :: hs.take n) (by simp) (by simp; omega))
  generalize hs.take n = Q at *
  have HR : Hid (∀ w', Below w.heap.size w w' → ∀ i, i < xss.length → ∃ b off u, ar = some ⟨b, off, none⟩ ∧ w'.cell? ⟨b, off + i, none⟩ = some u ∧ Row w' u ((xss.getD i []).map bV)) := fun w' hb i hi => by
    obtain ⟨a', c', e, -, -, q⟩ := (hr.ext hb).at
    simp only [Value.slice.injEq] at e
    obtain ⟨rfl, -, rfl⟩ := e
    obtain ⟨b, off, e1, q2⟩ := q i hi
    obtain ⟨u, q3, q4⟩ := q2 i hi
    exact ⟨b, off, u, e1, q3, q4⟩
  clear hn hr
  generalize hs.length = lh at *
  generalize xss.length = lx at *
  go_enter Try.func6, Try.ntmps6
  go_wp2_with fail
  refine (new_any _).mono ?_
  rintro e w1 ⟨rfl, rfl⟩
  have T1 := Str.new w 58 w.heap.size
  have D1 : Below w.heap.size w (w.alloc (.cells #[.slice none 0 0, .bool false] 58)) := (Below.refl _ _).alloc (Nat.le_refl _) _
  generalize w.alloc (.cells #[.slice none 0 0, .bool false] 58) = w1 at *
  have L1 : Below w1.heap.size w1 (w1.alloc (.cells #[.int .u8 0, .int .u8 1, .int .u8 0, .int .u8 0, .int .u8 0, .int .u8 255] 5)) := (Below.refl _ _).alloc (Nat.le_refl _) _
  have R1 : RowO (Ft w.heap.size (.slice none 0 0)) _ _ _ := RowO.new w1 [.int .u8 0, .int .u8 1, .int .u8 0, .int .u8 0, .int .u8 0, .int .u8 255] 5 6 rfl (by decide) (fun h => by have := T1.footlt _ h; omega)
  replace T1 := T1.ext L1
  replace D1 := D1.trans (L1.mono D1.size)
  clear L1
  go_wp2_with fail
  generalize w1.alloc (.cells #[.int .u8 0, .int .u8 1, .int .u8 0, .int .u8 0, .int .u8 0, .int .u8 255] 5) = w2 at *
  refine (sput_eq (bs := [0, 1, 0, 0, 0, 255]) _ shut_1 T1 R1 (Nat.le_refl _) OkW.nil (by decide)).mono ?_
  rintro e w3 ⟨v3, vn, rfl, T3, Mn, K3, F3⟩
  have D3 := D1.trans (K3.below w.heap.size D1.size (T1.foot (Nat.le_refl _)))
  obtain ⟨an, cn, rfl, -⟩ := Mn.at
  clear Mn T1 D1 K3 F3 R1
  go_wp2_with fail
  refine (closed_any _ _ _ _ T3.blk).mono ?_
  rintro e w4 ⟨rfl, rfl⟩
  go_wp2
  go_loopw [6] (fun z6 wr => ∃ k : Nat, k ≤ lx ∧ k ≤ 20 ∧ z6 = .int .i64 (k : Int) ∧ w3 = wr) (fun i _ => 20 - (intOf i).toNat)
  case atStart => exact ⟨0, Nat.zero_le _, Nat.zero_le _, rfl, rfl⟩
  case round =>
    obtain ⟨k, hk, hk2, rfl, rfl⟩ := hrel
    by_cases hlt : k < lx ∧ k < 20
    · obtain ⟨l1, l2⟩ := hlt
      have l1' : (k : Int) < (lx : Int) := by omega
      have l2' : (k : Int) < 20 := by omega
      obtain ⟨b, off, u, rfl, cu, ru⟩ := HR.out _ D3 k l1
      obtain ⟨au, cu', e, -⟩ := id ru
      subst e
      simp only [List.length_map] at cu ru
      obtain ⟨a3, c3, e3⟩ := T3.slice
      subst e3
      go_wp2_with fail
      refine (sput_shut _ _ _ _ _ T3.blk ru).mono ?_
      rintro e w4 ⟨rfl, rfl⟩
      go_wp2_with fail
      refine (len_any _ _ _ _ _ _ T3.blk).mono ?_
      rintro e w4 ⟨rfl, rfl⟩
      go_wp2_with fail
      refine (closed_any _ _ _ _ T3.blk).mono ?_
      rintro e w4 ⟨rfl, rfl⟩
      go_wp2
      go_roundw
      case rel => exact ⟨k + 1, by omega, by omega, by go_num, trivial⟩
      case measure => simp [intOf]; omega
    · have hc : ¬ ((k : Int) < (lx : Int)) ∨ ((k : Int) < (lx : Int) ∧ ¬ ((k : Int) < 20)) := by omega
      rcases hc with hc | ⟨hc, hc2⟩
      all_goals
        clear HR
        go_wp2_with fail
        refine (open_any _ _ _ _ T3.blk).mono ?_
        rintro e w5 ⟨rfl, rfl⟩
        obtain ⟨T5, K5⟩ := T3.opened (by decide)
        have D5 := D3.trans (K5.below w.heap.size D3.size (T3.foot (Nat.le_refl _)))
        clear K5
        generalize w3.setCell ⟨w.heap.size, 1, none⟩ (.bool false) = w5 at *
        have A5 : Below w5.heap.size w5 (w5.alloc (.cells #[.int .u8 1] 5)) := (Below.refl _ _).alloc (Nat.le_refl _) _
        have RH := HT.out _ (hv.below (D5.trans (A5.mono D5.size)))
        have OL : (w5.alloc (.cells #[.int .u8 1] 5)).ownsRow w5.heap.size 5 1 (.slice (some ⟨w5.heap.size, 0, none⟩) 1 1) 1 [.int .u8 1] :=
          ⟨rfl, .inr ⟨w5.heap.size, 1, #[.int .u8 1], rfl, Nat.le_refl _, heap_alloc_new w5 _, Nat.le_refl _, by decide, rfl, rfl⟩⟩
        go_wp2_with (at_builtin; refine wpList_app rfl (.tmp 48) (.tmp 53) 27 rfl w5.heap.size 5 (.int .u8 0) 1 Try.underlying27 info_u8 rfl rfl OL rfl RH (one_bytes Q) (by simp [maxLen]; omega) (by simp; omega) (by simp) ?_)
        intro v6 w6 ho6 hg6
        have B6 : Below w5.heap.size w5 w6 := A5.grown hg6 (by simp) (fun k hk => (OL.lt k hk).1)
        have RP : RowO (Ft w.heap.size v3) w6 v6 (((1 : UInt8) :: Q).map bV) := RowO.of_owns ho6 (fun k h1 h2 h => by have := T5.footlt k h; omega)
        obtain ⟨a6, c6, e6⟩ : ∃ a c, v6 = .slice a (1 + n) c := by
          obtain ⟨a, c, e, -⟩ := RP.1
          exact ⟨a, c, by rw [e]; simp [hql]; omega⟩
        subst e6
        have T6 := T5.ext B6
        have D6 := D5.trans (B6.mono D5.size)
        clear T5 D5 B6 A5 RH OL ho6 hg6 HT hv
        have T6f := hidden T6.footlt
        have A6 : Below w6.heap.size w6 (w6.alloc (.cells #[.int .i64 5, .int .i64 9, .slice a6 (1 + n) c6] 30)) := (Below.refl _ _).alloc (Nat.le_refl _) _
        have X6 := Blk.new w6 30 [.int .i64 5, .int .i64 9, .slice a6 (1 + n) c6]
        replace T6 := T6.ext A6
        replace D6 := D6.trans (A6.mono D6.size)
        replace RP := RP.ext A6
        have g7 := X6.lt
        clear A6
        have T7f := hidden T6.footlt
        go_wp2_with fail
        generalize w6.alloc (.cells #[.int .i64 5, .int .i64 9, .slice a6 (1 + n) c6] 30) = w7 at *
        refine (mbytes_any 5 9 _ (1 :: Q) _ (by decide) RP.1).mono ?_
        rintro e w8 ⟨v8, rfl, o8, B8⟩
        replace T6 := T6.ext B8
        replace RP := RP.ext B8
        replace X6 := X6.below B8 X6.lt
        have RB : RowO (Ft w.heap.size v3) w8 v8 _ := RowO.of_owns o8 (fun k h1 h2 h => by have := T7f.out k h; omega)
        have hbl : (mbytesL 5 9 (1 :: Q)).length ≤ 2000000000000 := by
          unfold mbytesL; split
          · simp
          · rw [msgL_len]; simp; omega
        have D8 := D6.trans (B8.mono D6.size)
        clear D6 B8 o8
        go_wp2_with fail
        refine (sput_eq _ HM.out T6 RB (Nat.le_refl _) OkW.nil hbl).mono ?_
        rintro e w9 ⟨v9, vl, rfl, T9, Ml, K9, F9⟩
        replace RP := RP.put K9 F9
        replace X6 := X6.kp K9 (fun h => by have := T6f.out _ h; omega)
        have D9 := D8.trans (K9.below w.heap.size D8.size (T6.foot (Nat.le_refl _)))
        clear D8 T6 K9 F9 RB T6f T7f g7
        obtain ⟨al, cl, rfl, hml⟩ := Ml.at
        obtain ⟨bl, ul, rfl, y0, y1, y2, y3⟩ := hml 0 _ rfl
        clear hml
        simp only [Nat.mul_zero, Nat.zero_add] at y0 y1 y2
        have lb := lt_of_cell y0
        obtain ⟨aul, cul, rfl, -⟩ := id y3
        have hpl : ((1 : UInt8) :: Q).length = 1 + n := by simp [hql]; omega
        simp only [List.length_map, hpl] at y2 y3
        obtain ⟨a9, c9, e9⟩ := T9.slice
        subst e9
        simp only [List.length_nil] at T9
        have HCA := hidden (fun w' (h : Row w' (.slice aul (1 + n) cul) (((1 : UInt8) :: Q).map bV)) => conv_row (P := Try.prog) h 27 9 5 Try.underlying27 Try.underlying5 Try.underlying9)
        have HCB := hidden (fun w' (h : Row w' (.slice a6 (1 + n) c6) (((1 : UInt8) :: Q).map bV)) => conv_row (P := Try.prog) h 27 9 5 Try.underlying27 Try.underlying5 Try.underlying9)
        clear Ml hpl
        go_wp2
        refine wp_region_pi [(0, true), (1, true), (2, true), (3, true), (4, true), (5, true), (6, true), (7, true), (8, true), (9, true), (10, true), (11, true), (12, true), (13, true), (14, true), (15, true), (16, true), (17, true), (18, true), (19, true), (20, true), (21, true), (22, true), (23, true), (24, true), (25, true), (26, true), (27, true), (28, true), (29, true), (30, false), (31, true), (32, true), (33, true), (34, true), (35, false), (36, true), (37, true), (38, true), (39, false), (40, true), (41, true)] (by kernel_rfl) (by kernel_rfl) (by kernel_rfl) (fun _ _ _ d _ h => by cases d <;> exact h) ?_
        have ED := (Below.refl w9.heap.size w9).drew
        replace RP := RP.ext ED
        replace X6 := X6.below ED X6.lt
        replace T9 := T9.ext ED
        replace D9 := D9.trans (ED.mono D9.size)
        replace y0 := (ED.cell (p := ⟨bl, 0, none⟩) lb).trans y0
        replace y1 := (ED.cell (p := ⟨bl, 1, none⟩) lb).trans y1
        replace y2 := (ED.cell (p := ⟨bl, 2, none⟩) lb).trans y2
        replace y3 := y3.below ED
        replace lb := Nat.lt_of_lt_of_le lb ED.size
        clear ED
        generalize w9.drew = c0 at *
        have x0 := Ext.refl c0
        have RD := hidden (fun w' (hx : Ext c0 w') => (⟨(hx.cell (p := ⟨bl, 0, none⟩) lb).trans y0, (hx.cell (p := ⟨bl, 1, none⟩) lb).trans y1, (hx.cell (p := ⟨bl, 2, none⟩) lb).trans y2, HCA.out w' (y3.below hx), cell_of (i := 2) (X6.below hx X6.lt) rfl, HCB.out w' (RP.1.below hx)⟩ : _ ∧ _ ∧ _ ∧ _ ∧ _ ∧ _))
        clear y0 y1 y2 y3 HCA HCB
        iterate 30 (first | (refine pi_pure x0 rfl (by kernel_rfl) (fun w' => by go_simp; with_reducible rfl) ?_; try simp only [Act.put, List.setIfInBounds_toArray, List.set_cons_zero, List.set_cons_succ]) | (refine pi_read x0 rfl (by kernel_rfl) (fun w' hx => by obtain ⟨y0, y1, y2, y3, y4, y5⟩ := RD.out w' hx; go_simp; with_reducible rfl) ?_; try simp only [Act.put, List.setIfInBounds_toArray, List.set_cons_zero, List.set_cons_succ]))
        refine pi_move rfl (by kernel_rfl) (fun K hK => ?_)
        go_wp2_with fail
        refine (closed_any _ _ _ _ T9.blk).mono ?_
        rintro e c1 ⟨rfl, rfl⟩
        go_simp
        refine hK.out _ _ x0 ?_
        clear K hK
        try simp only [Act.put, List.setIfInBounds_toArray, List.set_cons_zero, List.set_cons_succ]
        iterate 4 (first | (refine pi_pure x0 rfl (by kernel_rfl) (fun w' => by go_simp; with_reducible rfl) ?_; try simp only [Act.put, List.setIfInBounds_toArray, List.set_cons_zero, List.set_cons_succ]) | (refine pi_read x0 rfl (by kernel_rfl) (fun w' hx => by obtain ⟨y0, y1, y2, y3, y4, y5⟩ := RD.out w' hx; go_simp; with_reducible rfl) ?_; try simp only [Act.put, List.setIfInBounds_toArray, List.set_cons_zero, List.set_cons_succ]))
        refine pi_move rfl (by kernel_rfl) (fun K hK => ?_)
        go_wp2_with fail
        refine (len_any _ _ _ _ _ _ T9.blk).mono ?_
        rintro e c1 ⟨rfl, rfl⟩
        go_simp
        refine hK.out _ _ x0 ?_
        clear K hK
        try simp only [Act.put, List.setIfInBounds_toArray, List.set_cons_zero, List.set_cons_succ]
        iterate 3 (first | (refine pi_pure x0 rfl (by kernel_rfl) (fun w' => by go_simp; with_reducible rfl) ?_; try simp only [Act.put, List.setIfInBounds_toArray, List.set_cons_zero, List.set_cons_succ]) | (refine pi_read x0 rfl (by kernel_rfl) (fun w' hx => by obtain ⟨y0, y1, y2, y3, y4, y5⟩ := RD.out w' hx; go_simp; with_reducible rfl) ?_; try simp only [Act.put, List.setIfInBounds_toArray, List.set_cons_zero, List.set_cons_succ]))
        refine pi_move rfl (by kernel_rfl) (fun K hK => ?_)
        go_wp2_with fail
        refine (known_any _).mono ?_
        rintro e c2 ⟨rfl, E2⟩
        go_simp
        refine hK.out _ _ E2 ?_
        clear K hK
        try simp only [Act.put, List.setIfInBounds_toArray, List.set_cons_zero, List.set_cons_succ]
        iterate 2 (first | (refine pi_pure E2 rfl (by kernel_rfl) (fun w' => by go_simp; with_reducible rfl) ?_; try simp only [Act.put, List.setIfInBounds_toArray, List.set_cons_zero, List.set_cons_succ]) | (refine pi_read E2 rfl (by kernel_rfl) (fun w' hx => by obtain ⟨y0, y1, y2, y3, y4, y5⟩ := RD.out w' hx; go_simp; with_reducible rfl) ?_; try simp only [Act.put, List.setIfInBounds_toArray, List.set_cons_zero, List.set_cons_succ]))
        refine pi_nil ?_
        have D10 := D9.trans (E2.mono D9.size)
        go_wp2
        go_ret
        exact ⟨rfl, D10⟩

end Go.Proofs.Ytejcigeccmfeeaa
