/- RtuBack: a frame is read as it was made; frames with silence between come one by one. The walk. -/
import Derived.Test.YtfbmejfnblopgaaFN
import Derived.Test.YtfbmejfnblopgaaF6
import Derived.Test.YtfbmejfnblopgaaF7
namespace Go.Proofs.Ytfbmejfnblopgaa
open Go.RowKit

abbrev sV (x : List UInt8) : Value := .string ⟨x.toArray⟩
theorem info_str : (Try.prog.info? 9).map (fun i => (i.zero, i.size, i.bytes)) = some (some (.string .empty), 1, 16) := by kernel_rfl

theorem owns_apart' {w : World} {base base' e1 e2 : Nat} {v1 v2 : Value} {n1 n2 : Nat} {xs ys : List Value} (h1 : w.ownsRow base e1 1 v1 n1 xs) (h2 : w.ownsRow base' e2 1 v2 n2 ys) (he : e1 ≠ e2) : v1.ownBlock = none ∨ v1.ownBlock ≠ v2.ownBlock :=
  owns_apart (owns_base' h1 (Nat.min_le_left base base')) (owns_base' h2 (Nat.min_le_right base base')) he

set_option maxRecDepth 100000 in
set_option maxHeartbeats 1000000 in
theorem back5_walk (vr : Value) (xss : List (List UInt8)) (at0 : Int) (w : World) (ha0 : -9223372036854775808 ≤ at0 ∧ at0 ≤ 9223372036854775807) (hv : RowsB w vr xss) :
    Calls Try.prog 5 #[.int .i64 at0, vr] w fun e w' => e = .returned (.bool true) ∧ Below w.heap.size w w' := by
  obtain ⟨ar, cr, rfl, k1, k2, k3⟩ := hv.at
  unfold maxLen at k2
  have K3 := hidden k3
  clear k3 hv
  generalize xss.length = lx at *
  go_enter Try.func5, Try.ntmps5
  go_wp2_with fail
  refine (within_any at0 0 246 _ ha0 (by omega) (by omega) (by omega)).mono ?_
  rintro e wx ⟨⟨m, rfl, hm0, hm2⟩, rfl⟩
  obtain ⟨a, hae⟩ : ∃ a, 1 + m = a := ⟨_, rfl⟩
  have ha1 : 1 ≤ a := by omega
  have ha2 : a ≤ 247 := by omega
  go_wp2
  clear hae hm0 hm2
  go_loopw [6, 7, 8, 9, 10] (fun z6 z7 z8 z9 z10 wr => ∃ (i : Nat) (ts : List Int) (b : List UInt8) (F : List (List UInt8)) (now : Int), i ≤ 12 ∧ z10 = .int .i64 i ∧ z9 = .int .i64 now ∧ 0 ≤ now ∧ now ≤ 50 * (i : Int) ∧ b.length ≤ 50 * i ∧
    wr.ownsRow w.heap.size 5 1 z6 b.length (b.map bV) ∧ wr.ownsRow w.heap.size 2 1 z7 b.length (ts.map lV) ∧ wr.ownsRow w.heap.size 9 1 z8 i (F.map sV) ∧ Hid (∀ x ∈ ts, -9223372036854775808 ≤ x ∧ x ≤ 9223372036854775807) ∧ Hid (OuterI F ts b now) ∧ Below w.heap.size w wr) (fun _ _ _ _ i _ => 12 - (intOf i).toNat)
  case atStart => exact ⟨0, [], [], [], 0, by omega, rfl, rfl, by omega, by omega, by simp, World.ownsRow_nil _ _ _ _, World.ownsRow_nil _ _ _ _, World.ownsRow_nil _ _ _ _, fun x hx => by simp at hx, .inl ⟨rfl, rfl⟩, Below.refl _ _⟩
  case round =>
    obtain ⟨i, ts, b, F, now, hi, rfl, rfl, n0, n1, hbl, ho6, ho7, ho8, HT, HO, hb⟩ := hrel
    obtain ⟨wo, hwo⟩ : ∃ wo, wo = wr := ⟨_, rfl⟩
    subst hwo
    by_cases hc1 : i < lx ∧ i < 12
    · obtain ⟨h1, h2⟩ := hc1
      have h1' : (i : Int) < (lx : Int) := by omega
      have h2' : (i : Int) < 12 := by omega
      obtain ⟨br, orr, rfl, q⟩ := K3.out i h1
      obtain ⟨u, e1, s1⟩ := q i h1
      have hbr := lt_of_cell e1
      clear q
      generalize xss.getD i [] = xs at *
      obtain ⟨au, cu, rfl, -⟩ := id s1
      obtain ⟨-, hcu, hmu, -⟩ := s1.at
      simp only [List.length_map] at e1 s1 hcu
      obtain ⟨n, hn⟩ : ∃ n, min xs.length 30 = n := ⟨_, rfl⟩
      have hmin : (if (30 : Int) < (xs.length : Int) then (30 : Int) else (xs.length : Int)) = (n : Int) := by split <;> omega
      have hn30 : n ≤ 30 := by omega
      have hnl : n ≤ xs.length := by omega
      have hnc : n ≤ cu := by omega
      have hp := s1.take n hnl
      rw [← List.map_take] at hp
      have hql : (xs.take n).length = n := by simp; omega
      have HQ := hidden hql
      clear hql hn s1
      generalize xs.take n = Q at *
      generalize xs.length = lb at *
      go_wp2
      refine wp_region_pi [(0, true), (1, true), (3, true), (4, true), (5, true), (6, true), (7, true), (8, true), (9, true), (10, true), (11, true), (12, true), (13, true), (2, false), (14, false), (15, true)] (by kernel_rfl) (by kernel_rfl) (by kernel_rfl) (fun _ _ _ d _ h => by cases d <;> exact h) ?_
      replace hb := hb.drew
      have ho6d : wo.drew.ownsRow w.heap.size 5 1 u6 b.length (b.map bV) := ho6
      have ho7d : wo.drew.ownsRow w.heap.size 2 1 u7 b.length (ts.map lV) := ho7
      have ho8d : wo.drew.ownsRow w.heap.size 9 1 u8 i (F.map sV) := ho8
      clear ho6 ho7 ho8
      generalize wo.drew = wd at *
      have x6 := Ext.refl wd
      have wu : IntKind.u8.wrap (i : Int) = (i : Int) := by rw [IntKind.wrap_u8]; omega
      have e8 : ((UInt8.ofNat i).toNat : Int) = (i : Int) := by rw [UInt8.toNat_ofNat']; omega
      iterate 5 (refine pi_pure x6 rfl (by kernel_rfl) (fun w' => by go_simp; with_reducible rfl) ?_; simp only [Act.put, List.setIfInBounds_toArray, List.set_cons_zero, List.set_cons_succ])
      refine pi_read x6 rfl (by kernel_rfl) (fun w' hy => by have h := ((below_then hb hy).cell (p := ⟨br, orr + i, none⟩) hbr).trans e1; go_simp; with_reducible rfl) ?_
      try simp only [Act.put, List.setIfInBounds_toArray, List.set_cons_zero, List.set_cons_succ]
      iterate 3 (refine pi_pure x6 rfl (by kernel_rfl) (fun w' => by go_simp; with_reducible rfl) ?_; simp only [Act.put, List.setIfInBounds_toArray, List.set_cons_zero, List.set_cons_succ])
      refine pi_read x6 rfl (by kernel_rfl) (fun w' hy => by have h := ((below_then hb hy).cell (p := ⟨br, orr + i, none⟩) hbr).trans e1; go_simp; with_reducible rfl) ?_
      try simp only [Act.put, List.setIfInBounds_toArray, List.set_cons_zero, List.set_cons_succ]
      iterate 3 (refine pi_pure x6 rfl (by kernel_rfl) (fun w' => by go_simp; with_reducible rfl) ?_; simp only [Act.put, List.setIfInBounds_toArray, List.set_cons_zero, List.set_cons_succ])
      refine pi_move rfl (by kernel_rfl) (fun K hK => ?_)
      have x1 : Below wd.heap.size wd (wd.alloc (.cells #[.int .u8 (i : Int)] 5)) := (Below.refl wd.heap.size wd).alloc (Nat.le_refl _) _
      have R1 := (hp.below hb).below x1
      have O1 := World.ownsRow_lit (base := wd.heap.size) (e := 5) (size := 1) wd #[.int .u8 (i : Int)] 1 (Nat.le_refl _) (by decide) rfl
      go_simp
      refine hK.out _ _ x1 ?_
      clear K hK x6
      try simp only [Act.put, List.setIfInBounds_toArray, List.set_cons_zero, List.set_cons_succ]
      refine pi_move rfl (by kernel_rfl) (fun K hK => ?_)
      refine wp_app (.tmp 36) (.tmp 47) 23 rfl wd.heap.size 5 (.int .u8 0) 1 Try.underlying23 info_u8 rfl rfl O1 rfl R1 (one_bytes Q) (by simp [maxLen, HQ.out] <;> omega) (by simp [HQ.out] <;> omega) (by simp) ?_
      intro v2 w2 ho2 hg2
      have x2 := x1.grown hg2 (by simp) (fun k hk => (O1.lt k hk).1)
      have R2 : Row w2 v2 ((UInt8.ofNat i :: Q).map bV) := by
        rw [List.map_cons, bV, e8]; exact Row.of_owns ho2
      refine hK.out _ _ x2 ?_
      clear K hK hg2 ho2 x1 O1 R1
      try simp only [Act.put, List.setIfInBounds_toArray, List.set_cons_zero, List.set_cons_succ]
      have x6 := Ext.refl w2
      refine pi_pure x2 rfl (by kernel_rfl) (fun w' => by go_simp; with_reducible rfl) ?_
      try simp only [Act.put, List.setIfInBounds_toArray, List.set_cons_zero, List.set_cons_succ]
      refine pi_nil ?_
      have ho6 := owns_below ho6d x2
      have ho7 := owns_below ho7d x2
      have ho8 := owns_below ho8d x2
      replace hb := below_then hb x2
      clear ho6d ho7d ho8d x2 x6 hp
      obtain ⟨r1, r2, r3⟩ := rd_frm (a := a) (b := UInt8.ofNat i :: Q) ha1 ha2 (by simp) (by simp [HQ.out]; omega)
      obtain ⟨fe, -⟩ := frm_ok (a := a) (b := UInt8.ofNat i :: Q) ha1 ha2 (by simp) (by simp [HQ.out]; omega)
      have fl := frm_len a (UInt8.ofNat i :: Q) ha1 ha2 (by simp) (by simp [HQ.out]; omega)
      simp only [List.length_cons, HQ.out] at fl
      have hz2 := hb.size
      have C1 := hidden (frame_own a _ (UInt8.ofNat i :: Q) _ ha1 ha2 R2 (by simp) (by simp [HQ.out]; omega))
      simp only [List.length_cons, HQ.out] at C1
      generalize frmL a (UInt8.ofNat i :: Q) = f at *
      generalize UInt8.ofNat i :: Q = pq at *
      have C2 := hidden (fun v' w' h => read_b v' f pq a 0 w' h r2 r3 r1)
      clear r1 r2 r3 fe e8
      have ea : (a != a) = false := by simp
      obtain ⟨N, hN⟩ : ∃ N, f.length = N := ⟨_, rfl⟩
      have hNn : n + 1 + 3 = N := by omega
      rw [hNn] at C1
      clear hNn
      have hN4 : 4 ≤ N := by omega
      have hN34 : N ≤ 34 := by omega
      have HN := hidden hN
      clear fl hN
      go_wp2_with fail
      refine C1.out.mono ?_
      rintro e w3 ⟨v3, B, rfl, hB, ho3, b3⟩
      obtain ⟨g3, c3, rfl, hg3⟩ := owns_some ho3 (by omega)
      have ne6 : u6.ownBlock ≠ some g3 := fun e => by have := (ho6.lt _ e).2; omega
      replace R2 := R2.below b3
      replace ho6 := owns_below ho6 b3
      replace ho7 := owns_below ho7 b3
      replace ho8 := owns_below ho8 b3
      replace hb := below_then hb b3
      clear b3 C1
      go_wp2_with fail
      refine (C2.out _ _ (Row.of_owns ho3)).mono ?_
      rintro e w4 ⟨v4, rfl, hr4, b4⟩
      replace R2 := R2.below b4
      replace ho3 := owns_below ho3 b4
      replace ho6 := owns_below ho6 b4
      replace ho7 := owns_below ho7 b4
      replace ho8 := owns_below ho8 b4
      replace hb := below_then hb b4
      clear b4 C2
      have hc1 := conv_row (P := Try.prog) hr4 23 9 5 Try.underlying23 Try.underlying5 Try.underlying9
      have hc2 := conv_row (P := Try.prog) R2 23 9 5 Try.underlying23 Try.underlying5 Try.underlying9
      have hcN : N ≤ c3 := by obtain ⟨-, h, -⟩ := (Row.of_owns ho3).at; omega
      have hcM : c3 ≤ 9223372036854775807 := by obtain ⟨-, -, h, -⟩ := (Row.of_owns ho3).at; unfold maxLen at h; omega
      go_wp2
      clear hc1 hc2 R2 hr4
      have ol := HO
      go_loopw [6, 7, 9, 83] (fun z6 z7 z9 z83 wr => ∃ (j : Nat) (ts' : List Int) (b' : List UInt8) (now' : Int), j ≤ N ∧ z83 = .int .i64 j ∧ z9 = .int .i64 now' ∧ 0 ≤ now' ∧ now' ≤ 50 * (i : Int) + 4 + (j : Int) ∧ b'.length ≤ 50 * i + j ∧ z6.ownBlock ≠ some g3 ∧
        wr.ownsRow w.heap.size 5 1 z6 b'.length (b'.map bV) ∧ wr.ownsRow w.heap.size 2 1 z7 b'.length (ts'.map lV) ∧ wr.ownsRow w.heap.size 9 1 u8 i (F.map sV) ∧ wr.ownsRow B 5 1 (.slice (some ⟨g3, 0, none⟩) N c3) N (f.map bV) ∧ Hid (∀ x ∈ ts', -9223372036854775808 ≤ x ∧ x ≤ 9223372036854775807) ∧ Hid (InnerI F f j ts' b' now') ∧ Below w.heap.size w wr) (fun _ _ _ z _ => N - (intOf z).toNat)
      case atStart => exact ⟨0, ts, b, now + 4, by omega, rfl, rfl, by omega, by omega, by omega, ne6, ho6, ho7, ho8, ho3, HT.out, outer_begin HO.out, hb⟩
      case round =>
        clear ne6 ho6 ho7 ho8 ho3 hb HT HO ol n0 n1 hbl
        obtain ⟨j, ts', b', now', hj, rfl, rfl, n0, n1, hbl, ne6, ho6, ho7, ho8, ho3, HT, HI, hb⟩ := hrel
        have hz := hb.size
        have hll : ts'.length = b'.length := by have := ho7.1; simpa using this
        by_cases hjN : j < N
        · have hj' : (j : Int) < (N : Int) := by omega
          have hjf : j < f.length := by rw [HN.out]; exact hjN
          have c0 : wr.cell? ⟨g3, j, none⟩ = some (bV (f.getD j 0)) := by rw [ho3.cellAt _ (by omega)]; simp [hjf]
          have HI2 := hidden (inner_step hll hjf HI.out)
          clear HI hjf hll
          generalize f.getD j 0 = x at *
          go_wp2_with (at_builtin; refine wpList_push rfl (.tmp 87) (.tmp 89) 23 rfl w.heap.size 5 (.int .u8 0) 1 Try.underlying23 info_u8 rfl rfl (ho6.alloc _) wr.heap.size 1 (bV x) rfl (cell_lit _ _ _) rfl (by unfold maxLen; omega) (by omega) (by simp; omega) ?_)
          intro v7 w7 ho7a hg7 hat7
          have B7 := (hb.alloc hz (.cells #[bV x] 5)).grown hg7 (by simp; omega) (fun k hk => (ho6.lt k hk).1)
          have hz7 := B7.size
          have hg3lt : g3 < wr.heap.size := by have := (ho3.lt g3 rfl).2; omega
          have ne7 : v7.ownBlock ≠ some g3 := by
            rcases hat7 with e | e
            · rw [e]; exact ne6
            · rw [e]; simp; omega
          have ho3a := ((ho3.alloc (.cells #[bV x] 5)).kept hg7 (.inr (by simp only [Value.ownBlock]; exact fun e => ne6 e.symm)))
          have ho7b := ((ho7.alloc (.cells #[bV x] 5)).kept hg7 (owns_apart ho7 ho6 (by decide)))
          have ho8b := ((ho8.alloc (.cells #[bV x] 5)).kept hg7 (owns_apart ho8 ho6 (by decide)))
          clear hg7 hat7 ho3 ho7 ho8 ho6 c0 ne6
          go_wp2_with (at_builtin; refine wpList_push rfl (.tmp 91) (.tmp 93) 29 rfl w.heap.size 2 (.int .i64 0) 8 Try.underlying29 info_i64 rfl rfl (ho7b.alloc _) w7.heap.size 1 (lV now') rfl (cell_lit _ _ _) rfl (by unfold maxLen; omega) (by omega) (by simp; omega) ?_)
          intro v9 w9 ho9 hg9 hat9
          have B9 := (B7.alloc hz7 (.cells #[lV now'] 2)).grown hg9 (by simp; omega) (fun k hk => (ho7b.lt k hk).1)
          have ho3c := ((ho3a.alloc (.cells #[lV now'] 2)).kept hg9 (owns_apart' ho3a ho7b (by decide)))
          have ho6c := ((ho7a.alloc (.cells #[lV now'] 2)).kept hg9 (owns_apart ho7a ho7b (by decide)))
          have ho8c := ((ho8b.alloc (.cells #[lV now'] 2)).kept hg9 (owns_apart ho8b ho7b (by decide)))
          clear hg9 hat9
          go_wp2
          go_roundw
          case rel => exact ⟨j + 1, ts' ++ [now'], b' ++ [x], now' + 1, by omega, by go_num, by go_num, by omega, by omega, by simp; omega, ne7, by rw [List.length_append, List.map_append]; exact ho6c, by rw [List.length_append, List.map_append]; exact ho9, ho8c, ho3c, fun y hy => by
            rcases List.mem_append.1 hy with h | h
            · exact HT.out y h
            · simp at h; omega, HI2.out, B9⟩
          case measure => simp [intOf]; omega
        · obtain rfl : j = N := by omega
          have hj' : ¬ (j : Int) < (j : Int) := by omega
          have HI2 : Hid (OuterI (F ++ [f]) ts' b' now') := by
            have h := HI.out
            rw [← HN.out] at h
            exact inner_end (by rw [HN.out]; omega) h
          have hc3 := conv_row (P := Try.prog) (Row.of_owns ho3) 23 9 5 Try.underlying23 Try.underlying5 Try.underlying9
          clear HI hll
          go_wp2_with (at_builtin; refine wpList_push rfl (.tmp 98) (.tmp 101) 35 rfl w.heap.size 9 (.string .empty) 16 Try.underlying35 info_str rfl rfl (ho8.alloc _) wr.heap.size 1 (sV f) rfl (cell_lit _ _ _) rfl (by unfold maxLen; omega) (by omega) (by simp; omega) ?_)
          intro v7 w7 ho8a hg7 hat7
          have B7 := (hb.alloc hz (.cells #[sV f] 9)).grown hg7 (by simp; omega) (fun k hk => (ho8.lt k hk).1)
          have ho6a := ((ho6.alloc (.cells #[sV f] 9)).kept hg7 (owns_apart ho6 ho8 (by decide)))
          have ho7a := ((ho7.alloc (.cells #[sV f] 9)).kept hg7 (owns_apart ho7 ho8 (by decide)))
          clear hg7 hat7 hc3
          go_wp2
          go_roundw
          case rel => exact ⟨i + 1, ts', b', F ++ [f], now', by omega, by go_num, rfl, by omega, by omega, by omega, ho6a, ho7a, by rw [List.map_append]; exact ho8a, HT.out, HI2.out, B7⟩
          case measure => simp [intOf]; omega
    · have hcc : ((i : Int) < (lx : Int) ∧ ¬ (i : Int) < 12) ∨ ¬ (i : Int) < (lx : Int) := by omega
      have hll : ts.length = b.length := by have := ho7.1; simpa using this
      have hFl : F.length = i := by have := ho8.1; simpa using this
      have se := outer_split hll HO.out
      have CS := hidden (split_b _ _ ts b F _ (Row.of_owns ho7) (Row.of_owns ho6) (mem_getD HT.out) (by omega) se)
      have R8 := Row.of_owns ho8
      obtain ⟨a8, c8, rfl, -⟩ := id R8
      obtain ⟨-, d1, d2, d3⟩ := R8.at
      unfold maxLen at d2
      simp only [List.length_map, hFl] at R8 d1 d2 d3 CS ⊢
      have D3 := hidden d3
      have HFL := hidden hFl
      have en : ((i : Int) != (i : Int)) = false := by simp
      clear hc1 K3 ho6 ho7 ho8 HT HO hll se hFl d3
      rcases hcc with ⟨h1, h2⟩ | h1
      all_goals
        go_wp2_with fail
        refine CS.out.mono ?_
        rintro e w2 ⟨v2, rfl, hr2, b2⟩
        have hb2 := below_then hb b2
        obtain ⟨a2, c2, rfl, e1, e2, e3⟩ := hr2.at
        unfold maxLen at e2
        have E3 := hidden e3
        rw [HFL.out] at e1 E3 ⊢
        clear CS e3 hr2
        go_wp2
        go_loopw [113] (fun z wr => ∃ j : Nat, j ≤ i ∧ z = .int .i64 j ∧ Below w2.heap.size w2 wr) (fun z _ => i - (intOf z).toNat)
        case atStart => exact ⟨0, Nat.zero_le _, rfl, Below.refl _ _⟩
        case round =>
          obtain ⟨j, hj, rfl, hbj⟩ := hrel
          by_cases hlt : j < i
          · have hlt' : (j : Int) < (i : Int) := by omega
            obtain ⟨g2, o2, rfl, q2⟩ := E3.out j hlt
            obtain ⟨u, f1, f2⟩ := q2 j hlt
            obtain ⟨g8, o8, rfl, q8⟩ := D3.out j [] hlt
            have f8 := q8 j hlt
            clear q2 q8
            generalize F.getD j [] = y at *
            have f8' : w2.cell? ⟨g8, o8 + j, none⟩ = some (sV y) := (b2.cell (p := ⟨g8, o8 + j, none⟩) (lt_of_cell f8)).trans f8
            have hx := hbj.drew
            obtain ⟨ua, uc, rfl, -⟩ := id f2
            have ce1 := fun w' (hy : Ext w2 w') => (hy.cell (p := ⟨g2, o2 + j, none⟩) (lt_of_cell f1)).trans f1
            have ce2 := fun w' (hy : Ext w2 w') => (hy.cell (p := ⟨g8, o8 + j, none⟩) (lt_of_cell f8')).trans f8'
            have cv1 := fun w' (hy : Ext w2 w') => conv_row (P := Try.prog) (f2.below hy) 23 9 5 Try.underlying23 Try.underlying5 Try.underlying9
            simp only [List.length_map] at ce1 cv1
            clear f1 f2 f8 f8'
            go_wp2
            refine wp_region_pi [(0, true), (1, true), (2, true), (3, true), (4, true), (5, true), (6, true), (7, true), (8, true), (9, true)] (by kernel_rfl) (by kernel_rfl) (by kernel_rfl) (fun _ _ _ d _ h => by cases d <;> exact h) ?_
            have x6 := Ext.refl wr.drew
            iterate 3 (refine pi_pure x6 rfl (by kernel_rfl) (fun w' => by go_simp; with_reducible rfl) ?_; simp only [Act.put, List.setIfInBounds_toArray, List.set_cons_zero, List.set_cons_succ])
            refine pi_read x6 rfl (by kernel_rfl) (fun w' hy => by have h := ce1 w' (below_then hx hy); go_simp; with_reducible rfl) ?_
            try simp only [Act.put, List.setIfInBounds_toArray, List.set_cons_zero, List.set_cons_succ]
            refine pi_read x6 rfl (by kernel_rfl) (fun w' hy => by have h := cv1 w' (below_then hx hy); go_simp; with_reducible rfl) ?_
            try simp only [Act.put, List.setIfInBounds_toArray, List.set_cons_zero, List.set_cons_succ]
            iterate 3 (refine pi_pure x6 rfl (by kernel_rfl) (fun w' => by go_simp; with_reducible rfl) ?_; simp only [Act.put, List.setIfInBounds_toArray, List.set_cons_zero, List.set_cons_succ])
            refine pi_read x6 rfl (by kernel_rfl) (fun w' hy => by have h := ce2 w' (below_then hx hy); go_simp; with_reducible rfl) ?_
            try simp only [Act.put, List.setIfInBounds_toArray, List.set_cons_zero, List.set_cons_succ]
            refine pi_pure x6 rfl (by kernel_rfl) (fun w' => by go_simp; with_reducible rfl) ?_
            try simp only [Act.put, List.setIfInBounds_toArray, List.set_cons_zero, List.set_cons_succ]
            refine pi_nil ?_
            clear ce1 ce2 cv1
            go_wp2
            go_roundw
            case rel => exact ⟨j + 1, by omega, by go_num, hx⟩
            case measure => simp [intOf]; omega
          · have hlt' : ¬ (j : Int) < (i : Int) := by omega
            go_wp2_with fail
            refine (known5_any _).mono ?_
            rintro e w9 ⟨rfl, b9⟩
            go_wp2
            go_ret
            exact ⟨rfl, below_then (below_then hb2 hbj) b9⟩

end Go.Proofs.Ytfbmejfnblopgaa
