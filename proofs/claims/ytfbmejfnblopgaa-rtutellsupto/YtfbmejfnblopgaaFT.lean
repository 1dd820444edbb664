/- RtuTells: frames are made, read, parted by silence as the document says, for any. The walk, for what is no longer than a million. -/
import Derived.Test.YtfbmejfnblopgaaFS
namespace Go.Proofs.Ytfbmejfnblopgaa
open Go.RowKit

theorem and_255 (n : Int) : ∃ A : Int, bits BinOp.and IntKind.i64 n 255 = A ∧ 0 ≤ A ∧ A ≤ 255 := by
  refine ⟨n % 256, ?_, by omega, by omega⟩
  have := i64_and_mask n 8 (by decide)
  simpa using this
theorem and_65535 (n : Int) : ∃ A : Int, bits BinOp.and IntKind.i64 n 65535 = A ∧ 0 ≤ A ∧ A ≤ 65535 := by
  refine ⟨n % 65536, ?_, by omega, by omega⟩
  have := i64_and_mask n 16 (by decide)
  simpa using this
theorem and_7 (x : UInt8) : ∃ q : Nat, bits BinOp.and IntKind.u8 (x.toNat : Int) 7 = (q : Int) ∧ q ≤ 7 := by
  refine ⟨x.toNat &&& 7, ?_, Nat.and_le_right⟩
  exact u8_and_nat x.toNat 7 x.toNat_lt (by decide)
theorem xor_any8 (x : UInt8) (T : Nat) (h : T < 256) : ∃ y : UInt8, bits BinOp.xor IntKind.u8 (x.toNat : Int) (T : Int) = (y.toNat : Int) := by
  have hz : x.toNat ^^^ T < 256 := Nat.xor_lt_two_pow (n := 8) x.toNat_lt h
  have hy : (UInt8.ofNat (x.toNat ^^^ T)).toNat = x.toNat ^^^ T := by rw [UInt8.toNat_ofNat']; omega
  exact ⟨UInt8.ofNat (x.toNat ^^^ T), by rw [hy, u8_xor_nat _ _ x.toNat_lt h]⟩

set_option maxRecDepth 100000 in
set_option maxHeartbeats 800000 in
theorem tells5_walk (vb vt vg : Value) (bs gs : List UInt8) (ts : List Int) (ad at' t : Int) (w : World) (had : -9223372036854775808 ≤ ad ∧ ad ≤ 9223372036854775807) (ha : -9223372036854775808 ≤ at' ∧ at' ≤ 9223372036854775807) (ht : 0 ≤ t ∧ t ≤ 255)
    (hv : Row w vb (bs.map bV)) (hts : Row w vt (ts.map lV)) (hgs : Row w vg (gs.map bV)) (r1 : bs.length ≤ 1048576) (_r2 : ts.length ≤ 1048576) (_r3 : gs.length ≤ 1048576) (hr : ∀ i, i < ts.length → -9223372036854775808 ≤ ts.getD i 0 ∧ ts.getD i 0 ≤ 9223372036854775807) :
    Calls Try.prog 4 #[.int .i64 ad, vb, .int .i64 at', .int .u8 t, vt, vg] w fun e w' => e = .returned (.bool true) ∧ Below w.heap.size w w' := by
  obtain ⟨a, cap, rfl, -⟩ := id hv
  obtain ⟨-, hc, hm, -⟩ := hv.at
  obtain ⟨ag, cg, rfl, -⟩ := id hgs
  obtain ⟨-, hcg, hmg, hgc⟩ := hgs.at
  simp only [List.length_map] at hc hv hgs hcg hgc ⊢
  unfold maxLen at hm hmg
  obtain ⟨n, hn⟩ : ∃ n, min bs.length 200 = n := ⟨_, rfl⟩
  have hmin : (if (200 : Int) < (bs.length : Int) then (200 : Int) else (bs.length : Int)) = (n : Int) := by split <;> omega
  have hnl : n ≤ bs.length := by omega
  have hnc : n ≤ cap := by omega
  have hp := hv.take n hnl
  rw [← List.map_take] at hp
  clear hn
  generalize bs.take n = Q at *
  obtain ⟨A, hA, hA0, hA1⟩ := and_255 ad
  obtain ⟨M, hM, hM0, hM1⟩ := and_65535 ad
  obtain ⟨T, rfl⟩ : ∃ T : Nat, t = (T : Int) := ⟨t.toNat, by omega⟩
  have hT : T < 256 := by omega
  have HGC := hidden hgc
  have HR := hidden hr
  have HV := hidden hv
  have HG := hidden hgs
  have HTS := hidden hts
  have C0 := hidden (rframe_any (1 + A) _ Q w (by omega) hp)
  have FL := hidden (frmL_len (1 + A) Q)
  generalize frmL (1 + A) Q = X at *
  generalize frmE (1 + A) Q = xe at *
  clear hgc hr hv hgs hts hp ht
  have HSP := hidden (fun l vl vr w' h1 h2 h3 => splits_any vl vr l bs w' h1 h2 h3 (by omega))
  generalize bs.length = lb at *
  generalize gs.length = lg at *
  go_enter Try.func4, Try.ntmps4
  go_wp2_with fail
  refine C0.out.mono ?_
  rintro e w1 ⟨v1, rfl, hr1, hb1⟩
  clear C0
  obtain ⟨N, hN⟩ : ∃ N, X.length = N := ⟨_, rfl⟩
  have hN2 : N ≤ 256 := by have := FL.out; omega
  have HN := hidden hN
  clear hN FL
  have ho0 := World.ownsRow_made (base := w1.heap.size) (e := 5) (size := 1) w1 #[] 0 (Nat.le_refl _) (Nat.zero_le _) (by simp)
  have hb0 : Below w1.heap.size w1 (w1.alloc (.cells #[] 5)) := (Below.refl _ _).alloc (Nat.le_refl _) _
  have hv0 := hr1.below hb0
  go_wp2_with (at_builtin; refine wpList_app rfl (.tmp 31) (.tmp 32) 23 rfl w1.heap.size 5 (.int .u8 0) 1 Try.underlying23 info_u8 rfl rfl ho0 rfl hv0 (one_bytes X) (by have := HN.out; simp [maxLen]; omega) (by have := HN.out; simp; omega) (by simp) ?_)
  intro v2 w2 ho2 hg2
  have q2 : Below w1.heap.size w1 w2 := hb0.grown hg2 (by simp) (fun k hk => (ho0.lt k hk).1)
  have hz2 := q2.size
  simp only [HN.out] at ho2
  have RN := row_new w2 [.int .u8 1] 5 1 rfl (by decide)
  clear hb0 hv0 hg2 ho0
  go_wp2_with (at_builtin; refine wpList_app rfl (.tmp 33) (.tmp 34) 23 rfl w1.heap.size 5 (.int .u8 0) 1 Try.underlying23 info_u8 rfl rfl (ho2.alloc _) rfl RN (by intro u hu; simp at hu; subst hu; rfl) (by simp [maxLen]; omega) (by simp; omega) (by simp; omega) ?_)
  intro v3 w3 ho3 hg3
  have q3 : Below w1.heap.size w1 w3 := (q2.alloc hz2 _).grown hg3 (by simp; omega) (fun k hk => (ho2.lt k hk).1)
  have ho3' : w3.ownsRow w1.heap.size 5 1 v3 (N + 1) ((X ++ [1]).map bV) := by rw [List.map_append]; exact ho3
  have hYl : (X ++ [(1 : UInt8)]).length = N + 1 := by simp [HN.out]
  clear hg3 RN ho3 ho2 q2 hz2
  generalize X ++ [(1 : UInt8)] = Y at *
  obtain ⟨g, cap4, rfl, hgb⟩ := owns_some ho3' (by omega)
  have HYL := hidden hYl
  go_wp2_with fail
  refine (within_any at' 0 (N : Int) _ ha (by omega) (by omega) (by omega)).mono ?_
  rintro e w' ⟨⟨m, rfl, hm0, hm2⟩, rfl⟩
  obtain ⟨k, rfl⟩ : ∃ k : Nat, m = (k : Int) := ⟨m.toNat, by omega⟩
  have hkY : k < Y.length := by omega
  have c0 : w3.cell? ⟨g, k, none⟩ = some (bV (Y.getD k 0)) := by rw [ho3'.cellAt _ (by omega)]; simp [hkY]
  have f0 := ho3'.frozenAt k
  generalize Y.getD k 0 = x at *
  obtain ⟨y, hy⟩ := xor_any8 x T hT
  have hki : (k : Int) < (N : Int) + 1 := by omega
  have st := ho3'.stored k (.int .u8 (y.toNat : Int))
  rw [← List.map_set (f := bV) (a := y)] at st
  have q5 := q3.grown st.2 q3.size (fun k hk => by cases hk; exact hgb)
  have hZl : (Y.set k y).length = N + 1 := by simp [HYL.out]
  generalize Y.set k y = Z at *
  have r5 := Row.of_owns st.1
  have HZ := hidden hZl
  clear hZl hYl
  generalize hst : w3.setCell ⟨g, k, none⟩ (.int .u8 (y.toNat : Int)) = w5 at *
  have HY := hidden hy
  have hst' : w3.setCell ⟨g, k, none⟩ (.int .u8 (bits BinOp.xor IntKind.u8 (x.toNat : Int) (T : Int))) = w5 := by rw [HY.out]; exact hst
  replace hr1 := hr1.below q5
  have hb5 := below_then hb1 q5
  clear st q3 ho3' hst HY q5 hb1 hy hkY
  go_wp2
  clear c0 f0 hst'
  go_loopw [16, 17, 18] (fun z16 z17 z18 wr => ∃ (i : Nat) (l : List Int) (now : Int), i ≤ 100 ∧ z18 = .int .i64 i ∧ z17 = .int .i64 now ∧ 0 ≤ now ∧ now ≤ 65535 + 7 * (i : Int) ∧ wr.ownsRow w5.heap.size 2 1 z16 i (l.map lV) ∧ Hid (∀ x ∈ l, 0 ≤ x ∧ x ≤ 100000) ∧ Below w5.heap.size w5 wr) (fun _ _ i _ => 100 - (intOf i).toNat)
  case atStart => exact ⟨0, [], M, by omega, rfl, rfl, by omega, by omega, World.ownsRow_nil _ _ _ _, fun x hx => by simp at hx, Below.refl _ _⟩
  case round =>
    obtain ⟨i, l, now, hi, rfl, rfl, n0, n1, ho, HL, hb⟩ := hrel
    have hz := hb.size
    by_cases hc1 : i < lg ∧ i < 100
    · obtain ⟨h1, h2⟩ := hc1
      have h1' : (i : Int) < (lg : Int) := by omega
      have h2' : (i : Int) < 100 := by omega
      obtain ⟨b, off, rfl, hcl⟩ := HGC.out i 0 h1
      have cx := hcl i h1
      have hbb := lt_of_cell cx
      rw [← (below_then hb5 hb).cell (p := ⟨b, off + i, none⟩) hbb] at cx
      clear hcl
      generalize gs.getD i 0 = x at *
      obtain ⟨q, hq, hq7⟩ := and_7 x
      have RN := row_new wr [.int .i64 (now + (q : Int))] 2 1 rfl (by decide)
      go_wp2_with (at_builtin; refine wpList_app rfl (.tmp 67) (.tmp 69) 29 rfl w5.heap.size 2 (.int .i64 0) 8 Try.underlying29 info_i64 rfl rfl (ho.alloc _) rfl RN (by intro u hu; simp at hu; subst hu; rfl) (by simp [maxLen]; omega) (by simp; omega) (by simp; omega) ?_)
      intro v7 w7 ho7 hg7
      have B7 := (hb.alloc hz (.cells #[.int .i64 (now + (q : Int))] 2)).grown hg7 (by simp; omega) (fun k hk => (ho.lt k hk).1)
      go_wp2
      go_roundw
      case rel => exact ⟨i + 1, l ++ [now + (q : Int)], now + (q : Int), by omega, by go_num, rfl, by omega, by omega, by simpa using ho7, fun y hy => by
        rcases List.mem_append.1 hy with h | h
        · exact HL.out y h
        · simp at h; omega, B7⟩
      case measure => simp [intOf]; omega
    · have hcc : ((i : Int) < (lg : Int) ∧ ¬ (i : Int) < 100) ∨ ¬ (i : Int) < (lg : Int) := by omega
      have RS := Row.of_owns ho
      have hll : l.length = i := by have := ho.1; simpa using this
      have HLL := hidden hll
      have HLG := hidden (mem_getD (lo := -9223372036854775808) (hi := 9223372036854775807) (fun n hn => by have := HL.out n hn; omega))
      replace hr1 := hr1.below hb
      replace r5 := r5.below hb
      replace hb5 := below_then hb5 hb
      have r6 := r5.take N (by omega)
      rw [← List.map_take] at r6
      have hsl : (N : Int) ≤ (cap4 : Int) := by
        obtain ⟨-, h, -⟩ := r5.at
        omega
      clear hb ho hll HL hc1 hz
      generalize Z.take N = Z2 at *
      rcases hcc with ⟨h1, h2⟩ | h1
      all_goals
        go_wp2_with fail
        refine (same5_any ad _ bs _ had (HV.out.below hb5)).mono ?_
        rintro e wa ⟨rfl, ba⟩
        replace hr1 := hr1.below ba
        replace r5 := r5.below ba
        replace r6 := r6.below ba
        replace RS := RS.below ba
        replace hb5 := below_then hb5 ba
        clear ba
        go_wp2_with fail
        refine (same5_any (1 + A) _ bs _ (by omega) (HV.out.below hb5)).mono ?_
        rintro e wb ⟨rfl, ba⟩
        replace hr1 := hr1.below ba
        replace r5 := r5.below ba
        replace r6 := r6.below ba
        replace RS := RS.below ba
        replace hb5 := below_then hb5 ba
        clear ba
        go_wp2_with fail
        refine (same5_any 0 _ X _ (by omega) hr1).mono ?_
        rintro e wc ⟨rfl, ba⟩
        replace r5 := r5.below ba
        replace r6 := r6.below ba
        replace RS := RS.below ba
        replace hb5 := below_then hb5 ba
        clear ba hr1
        go_wp2_with fail
        refine (same5_any 0 _ Z _ (by omega) r5).mono ?_
        rintro e wd ⟨rfl, ba⟩
        replace r6 := r6.below ba
        replace RS := RS.below ba
        replace hb5 := below_then hb5 ba
        clear ba r5
        go_wp2_with fail
        refine (same5_any 0 _ Z2 _ (by omega) r6).mono ?_
        rintro e wd ⟨rfl, ba⟩
        replace RS := RS.below ba
        replace hb5 := below_then hb5 ba
        clear ba r6
        go_wp2_with fail
        refine (HSP.out ts _ _ _ (HTS.out.below hb5) (HV.out.below hb5) HR.out).mono ?_
        rintro e wd ⟨rfl, ba⟩
        replace RS := RS.below ba
        replace hb5 := below_then hb5 ba
        clear ba
        go_wp2_with fail
        refine (HSP.out l _ _ _ RS (HV.out.below hb5) HLG.out).mono ?_
        rintro e wd ⟨rfl, ba⟩
        replace hb5 := below_then hb5 ba
        clear ba
        go_wp2_with fail
        refine (known5_any _).mono ?_
        rintro e wd ⟨rfl, ba⟩
        go_wp2
        go_ret
        exact ⟨rfl, below_then hb5 ba⟩

end Go.Proofs.Ytfbmejfnblopgaa
