/- RtuSpoilt: a frame with a byte turned is none; one with a gap within is none. The walk. -/
import Derived.Test.YtfbmejfnblopgaaF5
import Derived.Test.YtfbmejfnblopgaaW1
import Derived.Test.YtfbmejfnblopgaaFU
namespace Go.Proofs.Ytfbmejfnblopgaa
open Go.RowKit

theorem info_i64 : (Try.prog.info? 2).map (fun i => (i.zero, i.size, i.bytes)) = some (some (.int .i64 0), 1, 8) := by kernel_rfl

/-- the time of byte i -/
def tmAt (k : Nat) (d : Int) (i : Nat) : Int := if k ≤ i ∧ 0 < k then (i : Int) + d else i
def tmL (k : Nat) (d : Int) (n : Nat) : List Int := (List.range n).map (tmAt k d)
theorem tmL_get (k : Nat) (d : Int) (n i : Nat) (h : i < n) : (tmL k d n).getD i 0 = tmAt k d i := by simp [tmL, List.getD_eq_getElem?_getD, h]
theorem tmL_succ (k : Nat) (d : Int) (n : Nat) : tmL k d (n + 1) = tmL k d n ++ [tmAt k d n] := by simp [tmL, List.range_succ]
theorem tmL_len (k : Nat) (d : Int) (n : Nat) : (tmL k d n).length = n := by simp [tmL]
theorem tm_state (k : Nat) (d : Int) (hd : 1 ≤ d ∧ d ≤ 2) (n : Nat) (b : List UInt8) : ∀ i, i < n → (spAt (tmL k d n) b i).out = [] ∧ (spAt (tmL k d n) b i).last = tmAt k d i ∧ (spAt (tmL k d n) b i).bad = decide (k ≤ i ∧ 0 < k)
  | 0, h => by
    simp only [spAt, tmL_get k d n 0 h, true_and]
    have : ¬ (k ≤ 0 ∧ 0 < k) := by omega
    simp
  | i + 1, h => by
    obtain ⟨h1, h2, h3⟩ := tm_state k d hd n b i (by omega)
    have e := tmL_get k d n (i + 1) h
    simp only [spAt]
    rw [e]
    by_cases c1 : k ≤ i ∧ 0 < k
    · have f1 : tmAt k d i = (i : Int) + d := by simp [tmAt, c1]
      have f2 : tmAt k d (i + 1) = (i : Int) + 1 + d := by
        have : k ≤ i + 1 ∧ 0 < k := by omega
        simp only [tmAt]; rw [if_pos this]; omega
      have c2 : k ≤ i + 1 ∧ 0 < k := by omega
      rw [step_near (by rw [f2, h2, f1]; omega)]
      refine ⟨h1, ?_, ?_⟩
      · simp only []; rw [f2, h2, f1]; omega
      · simp only []; rw [h3]; simp only [c1, c2, and_self]
    · have f1 : tmAt k d i = (i : Int) := by simp only [tmAt]; rw [if_neg c1]
      by_cases c2 : k ≤ i + 1 ∧ 0 < k
      · have f2 : tmAt k d (i + 1) = (i : Int) + 1 + d := by simp only [tmAt]; rw [if_pos c2]; omega
        rw [step_mid (by rw [f2, h2, f1]; omega) (by rw [f2, h2, f1]; omega)]
        exact ⟨h1, rfl, by simp only [c2, and_self]; rfl⟩
      · have f2 : tmAt k d (i + 1) = (i : Int) + 1 := by simp only [tmAt]; rw [if_neg c2]; omega
        rw [step_near (by rw [f2, h2, f1]; omega)]
        refine ⟨h1, ?_, ?_⟩
        · simp only []; rw [f2, h2, f1]; omega
        · simp only []; rw [h3, decide_eq_false c1, decide_eq_false c2]
theorem tm_split (k : Nat) (d : Int) (hd : 1 ≤ d ∧ d ≤ 2) (b : List UInt8) (h : k < b.length) : ((splitL (tmL k d b.length) b).length : Int) = 1 - (if (1 : Int) < (k : Int) then 1 else (k : Int)) := by
  obtain ⟨h1, h2, h3⟩ := tm_state k d hd b.length b (b.length - 1) (by omega)
  unfold splitL
  rw [tmL_len, Nat.min_self, if_neg (by omega), spEnd, keepL, h1, h3]
  by_cases c : k = 0
  · subst c; simp
  · have : k ≤ b.length - 1 ∧ 0 < k := by omega
    simp only [this, and_self, decide_true, if_true, List.length_nil]
    split <;> omega

theorem or_odd (T : Nat) (h : T < 256) : ∃ q : UInt8, bits BinOp.or IntKind.u8 (T : Int) 1 = (q.toNat : Int) ∧ q ≠ 0 := by
  have hq : T ||| 1 < 256 := Nat.or_lt_two_pow (n := 8) h (by decide)
  have e : (UInt8.ofNat (T ||| 1)).toNat = T ||| 1 := by rw [UInt8.toNat_ofNat']; omega
  refine ⟨UInt8.ofNat (T ||| 1), ?_, ?_⟩
  · rw [e]; exact u8_or_nat T 1 h (by decide)
  · intro h0
    have h1 : (T ||| 1) = 0 := by rw [← e, h0]; rfl
    have h2 := Nat.testBit_or T 1 0
    rw [h1] at h2
    simp at h2
theorem xor_turns (x q : UInt8) (h : q ≠ 0) : ∃ y : UInt8, bits BinOp.xor IntKind.u8 (x.toNat : Int) (q.toNat : Int) = (y.toNat : Int) ∧ y ≠ x := by
  have hz : x.toNat ^^^ q.toNat < 256 := Nat.xor_lt_two_pow (n := 8) x.toNat_lt q.toNat_lt
  have hy : (UInt8.ofNat (x.toNat ^^^ q.toNat)).toNat = x.toNat ^^^ q.toNat := by rw [UInt8.toNat_ofNat']; omega
  refine ⟨UInt8.ofNat (x.toNat ^^^ q.toNat), by rw [hy, u8_xor_nat _ _ x.toNat_lt q.toNat_lt], fun e => h ?_⟩
  have e1 : x.toNat ^^^ q.toNat = x.toNat ^^^ 0 := by rw [← hy, e, Nat.xor_zero]
  exact UInt8.toNat_inj.1 (xor_inj' e1)
theorem and_one8 (T : Nat) (h : T < 256) : bits BinOp.and IntKind.u8 (T : Int) 1 = ((T % 2 : Nat) : Int) := by
  have := u8_and_nat T 1 h (by decide)
  rw [nat_mask1] at this
  exact this
/-- a frame with one byte turned is none -/
theorem turned5 (a : Int) (b : List UInt8) (h : 1 ≤ a) (h' : a ≤ 247) (h0 : 0 < b.length) (h1 : b.length ≤ 253) (k : Nat) (hk : k < (frmL a b).length) (y : UInt8) (hy : y ≠ (frmL a b).getD k 0) : rdE ((frmL a b).set k y) = 14 := by
  have hL := frm_len a b h h' h0 h1
  have e := (frm_ok h h' h0 h1).2
  have hX : crcN (frmL a b) = 0 := by rw [e]; exact crc_seal _
  refine (rd_sum (by simp; omega) (by simp; omega) ?_).1
  unfold unsealOk
  rw [Bool.and_eq_false_iff]
  refine .inr (decide_eq_false fun hz => ?_)
  have := crc_burst (frmL a b) ((frmL a b).set k y) (8 * k) (by simp) (fun i _ hi => ?_) (by rw [hz, hX])
  · apply hy
    rw [← this]
    simp [List.getD_eq_getElem?_getD, hk]
  · unfold bitAt
    have : k ≠ i / 8 := by omega
    rw [List.getD_eq_getElem?_getD, List.getElem?_set_ne this, ← List.getD_eq_getElem?_getD]

set_option maxRecDepth 100000 in
set_option maxHeartbeats 4000000 in
theorem spoilt_walk (v : Value) (bs : List UInt8) (at0 at' t : Int) (w : World) (ha0 : -9223372036854775808 ≤ at0 ∧ at0 ≤ 9223372036854775807) (ha : -9223372036854775808 ≤ at' ∧ at' ≤ 9223372036854775807) (ht : 0 ≤ t ∧ t ≤ 255)
    (hv : Row w v (bs.map bV)) (r1 : bs.length ≤ 140737488351232) :
    Calls Try.prog 6 #[.int .i64 at0, v, .int .i64 at', .int .u8 t] w fun e w' => e = .returned (.bool true) ∧ Below w.heap.size w w' := by
  obtain ⟨a, cap, rfl, -⟩ := id hv
  obtain ⟨-, hc, hm, -⟩ := hv.at
  simp only [List.length_map] at hc hv ⊢
  obtain ⟨n, hn⟩ : ∃ n, min bs.length 100 = n := ⟨_, rfl⟩
  have hmin : (if (100 : Int) < (bs.length : Int) then (100 : Int) else (bs.length : Int)) = (n : Int) := by split <;> omega
  have hn60 : n ≤ 100 := by omega
  have hnl : n ≤ bs.length := by omega
  have hnc : n ≤ cap := by omega
  have hp := hv.take n hnl
  rw [← List.map_take] at hp
  have hql : (bs.take n).length = n := by simp; omega
  have HQ := hidden hql
  clear hql hn
  generalize bs.take n = Q at *
  generalize bs.length = lb at *
  clear hv
  obtain ⟨T, rfl⟩ : ∃ T : Nat, t = (T : Int) := ⟨t.toNat, by omega⟩
  have hT : T < 256 := by omega
  have hA := and_one8 T hT
  obtain ⟨q, hq, hq0⟩ := or_odd T hT
  obtain ⟨d, hd⟩ : ∃ d : Nat, T % 2 = d := ⟨_, rfl⟩
  have hd2 : d ≤ 1 := by omega
  rw [hd] at hA
  clear hd ht
  have x1 : Below w.heap.size w (w.alloc (.cells #[.int .u8 3] 5)) := (Below.refl w.heap.size w).alloc (Nat.le_refl _) _
  have R1 := hp.below x1
  have O1 := World.ownsRow_lit (base := w.heap.size) (e := 5) (size := 1) w #[.int .u8 3] 1 (Nat.le_refl _) (by decide) rfl
  go_enter Try.func6, Try.ntmps6
  go_wp2_with fail
  refine (within_any at0 0 246 _ ha0 (by omega) (by omega) (by omega)).mono ?_
  rintro e wx ⟨⟨m, rfl, hm0, hm2⟩, rfl⟩
  go_wp2_with (at_builtin; refine wpList_app rfl (.tmp 26) (.tmp 31) 23 rfl w.heap.size 5 (.int .u8 0) 1 Try.underlying23 info_u8 rfl rfl O1 rfl R1 (one_bytes Q) (by simp [maxLen, HQ.out] <;> omega) (by simp [HQ.out] <;> omega) (by simp) ?_)
  intro v2 w2 ho2 hg2
  have x2 := x1.grown hg2 (by simp) (fun k hk => (O1.lt k hk).1)
  have R2 : Row w2 v2 ((3 :: Q).map bV) := Row.of_owns ho2
  clear hg2 ho2 x1 O1 R1
  go_wp2_with fail
  obtain ⟨fe, -⟩ := frm_ok (a := 1 + m) (b := 3 :: Q) (by omega) (by omega) (by simp) (by simp [HQ.out]; omega)
  have HB := hidden (turned5 (1 + m) (3 :: Q) (by omega) (by omega) (by simp) (by simp [HQ.out]; omega))
  have HX := hidden (frm_len (1 + m) (3 :: Q) (by omega) (by omega) (by simp) (by simp [HQ.out]; omega))
  refine (frame_b (1 + m) _ (3 :: Q) _ 0 _ (by omega) R2 fe rfl).mono ?_
  rintro e w3 ⟨v3, rfl, hr3, hb3⟩
  replace hb3 := below_then x2 hb3
  clear x2 R2 fe
  generalize frmL (1 + m) (3 :: Q) = X at *
  simp only [List.length_cons, HQ.out] at HX
  obtain ⟨N, hN⟩ : ∃ N, X.length = N := ⟨_, rfl⟩
  have hN4 : 4 ≤ N := by have := HX.out; omega
  have hN6 : N ≤ 104 := by have := HX.out; omega
  have HN := hidden hN
  have TS := hidden (fun k d hd hk => tm_split k d hd X hk)
  rw [hN] at TS HB
  clear hN hm0 hm2 HX HQ hp
  obtain ⟨a1, cap1, rfl, -⟩ := id hr3
  obtain ⟨-, hcp1, hm1, -⟩ := hr3.at
  simp only [List.length_map] at hcp1 hr3 ⊢
  rw [HN.out] at hcp1 hr3 ⊢
  have zl : ¬ ((N : Int) < 4) := by omega
  go_wp2_with fail
  refine (within_any at' 0 ((N : Int) - 1) _ ha (by omega) (by omega) (by omega)).mono ?_
  rintro e w' ⟨⟨m', rfl, hm0, hm2⟩, rfl⟩
  obtain ⟨k, rfl⟩ : ∃ k : Nat, m' = (k : Int) := ⟨m'.toNat, by omega⟩
  have hk : k < N := by omega
  clear zl
  have ho0 := World.ownsRow_made (base := w3.heap.size) (e := 5) (size := 1) w3 #[] 0 (Nat.le_refl _) (Nat.zero_le _) (by simp)
  have hb0 : Below w3.heap.size w3 (w3.alloc (.cells #[] 5)) := (Below.refl _ _).alloc (Nat.le_refl _) _
  have hv0 := hr3.below hb0
  go_wp2_with (at_builtin; refine wpList_app rfl (.tmp 48) (.tmp 49) 23 rfl w3.heap.size 5 (.int .u8 0) 1 Try.underlying23 info_u8 rfl rfl ho0 rfl hv0 (one_bytes X) (by have := HN.out; simp [maxLen]; omega) (by have := HN.out; simp; omega) (by simp) ?_)
  intro v4 w4 ho4 hg4
  simp only [HN.out] at ho4
  have q4 : Below w3.heap.size w3 w4 := hb0.grown hg4 (by simp) (fun k hk => (ho0.lt k hk).1)
  obtain ⟨g, cap4, rfl, hgb⟩ := owns_some ho4 (by omega)
  clear hb0 hv0 hg4 ho0
  have hkX : k < X.length := by rw [HN.out]; exact hk
  have c0 : w4.cell? ⟨g, k, none⟩ = some (bV (X.getD k 0)) := by rw [ho4.cellAt _ (by omega)]; simp [hkX]
  have f0 := ho4.frozenAt k
  obtain ⟨y, hy, hyn⟩ := xor_turns (X.getD k 0) q hq0
  have HT := hidden (HB.out k hk y hyn)
  clear hyn hkX HB
  have HQ := hidden hq
  rw [← hq] at hy
  generalize X.getD k 0 = x at *
  have hki : (k : Int) < (N : Int) := by omega
  have st := ho4.stored k (.int .u8 (y.toNat : Int))
  rw [← List.map_set (f := bV) (a := y)] at st
  have q5 := q4.grown st.2 q4.size (fun k hk => by cases hk; exact hgb)
  have r5 := Row.of_owns st.1
  have HY := hidden hy
  clear hy hq
  generalize hst : w4.setCell ⟨g, k, none⟩ (.int .u8 (y.toNat : Int)) = w5 at *
  have hst' : w4.setCell ⟨g, k, none⟩ (.int .u8 (bits BinOp.xor IntKind.u8 (x.toNat : Int) (bits BinOp.or IntKind.u8 (T : Int) 1))) = w5 := by rw [HY.out]; exact hst
  have C5 := hidden (read_any _ _ w5 r5)
  rw [HT.out] at C5
  generalize rdA (X.set k y) = za at *
  generalize rdP (X.set k y) = zp at *
  have hr5 := hr3.below q5
  have hb5 := below_then hb3 q5
  clear st q4 ho4 r5 hr3 hb3 hst HY HT q5
  go_wp2_with fail
  refine C5.out.mono ?_
  rintro e w6 ⟨v6, rfl, -, hb6⟩
  replace hr5 := hr5.below hb6
  replace hb5 := below_then hb5 hb6
  clear hb6 C5 hst' c0 f0 HQ
  go_wp2
  go_loopw [17, 67] (fun z i wr => ∃ j : Nat, j ≤ N ∧ i = .int .i64 j ∧ wr.ownsRow w6.heap.size 2 1 z j ((tmL k (1 + (d : Int)) j).map lV) ∧ Below w6.heap.size w6 wr) (fun _ i _ => N - (intOf i).toNat)
  case atStart => exact ⟨0, Nat.zero_le _, rfl, World.ownsRow_nil _ _ _ _, Below.refl _ _⟩
  case round =>
    obtain ⟨j, hj, rfl, ho, hb⟩ := hrel
    have hz := hb.size
    by_cases hlt : j < N
    · have hlt' : (j : Int) < (N : Int) := by omega
      have SU := hidden (tmL_succ k (1 + (d : Int)) j)
      have key : ∀ τ : Int, τ = tmAt k (1 + (d : Int)) j → (Row (wr.alloc (.cells #[.int .i64 τ] 2)) (.slice (some ⟨wr.heap.size, 0, none⟩) 1 1) [.int .i64 τ]) := fun τ _ => row_new wr [.int .i64 τ] 2 1 rfl (by decide)
      by_cases hc1 : k ≤ j ∧ 0 < k
      · have e : tmAt k (1 + (d : Int)) j = (j : Int) + (1 + d) := by simp [tmAt, hc1]
        have RN := key _ e.symm
        rw [e] at SU
        obtain ⟨h1, h2⟩ := hc1
        have h1' : (k : Int) ≤ (j : Int) := by omega
        have h2' : (0 : Int) < (k : Int) := by omega
        clear key e
        go_wp2_with (at_builtin; refine wpList_app rfl (.tmp 84) (.tmp 86) 29 rfl w6.heap.size 2 (.int .i64 0) 8 Try.underlying29 info_i64 rfl rfl (ho.alloc _) rfl RN (by intro u hu; simp at hu; subst hu; rfl) (by simp [maxLen]; omega) (by simp; omega) (by simp; omega) ?_)
        intro v7 w7 ho7 hg7
        have B7 := (hb.alloc hz (.cells #[.int .i64 ((j : Int) + (1 + d))] 2)).grown hg7 (by simp; omega) (fun k hk => (ho.lt k hk).1)
        go_wp2
        go_roundw
        case rel => exact ⟨j + 1, by omega, by go_num, by rw [SU.out]; simpa using ho7, B7⟩
        case measure => simp [intOf]; omega
      · have e : tmAt k (1 + (d : Int)) j = (j : Int) := by simp only [tmAt]; rw [if_neg hc1]
        have RN := key _ e.symm
        rw [e] at SU
        have hcc : ((k : Int) ≤ (j : Int) ∧ ¬ (0 : Int) < (k : Int)) ∨ ¬ (k : Int) ≤ (j : Int) := by omega
        clear key e hc1
        rcases hcc with ⟨h1, h2⟩ | h1
        all_goals
          go_wp2_with (at_builtin; refine wpList_app rfl (.tmp 84) (.tmp 86) 29 rfl w6.heap.size 2 (.int .i64 0) 8 Try.underlying29 info_i64 rfl rfl (ho.alloc _) rfl RN (by intro u hu; simp at hu; subst hu; rfl) (by simp [maxLen]; omega) (by simp; omega) (by simp; omega) ?_)
          intro v7 w7 ho7 hg7
          have B7 := (hb.alloc hz (.cells #[.int .i64 (j : Int)] 2)).grown hg7 (by simp; omega) (fun k hk => (ho.lt k hk).1)
          go_wp2
          go_roundw
          case rel => exact ⟨j + 1, by omega, by go_num, by rw [SU.out]; simpa using ho7, B7⟩
          case measure => simp [intOf]; omega
    · obtain rfl : j = N := by omega
      have hlt' : ¬ (j : Int) < (j : Int) := by omega
      have RT := Row.of_owns ho
      replace hr5 := hr5.below hb
      replace hb5 := below_then hb5 hb
      have tk := TS.out k (1 + (d : Int)) (by omega) hk
      have CS := hidden (split_any _ _ (tmL k (1 + (d : Int)) j) X wr RT hr5 (fun i hi => by
        rw [tmL_len] at hi
        rw [tmL_get _ _ _ _ hi]; unfold tmAt; split <;> omega) (by rw [HN.out]; omega))
      generalize splitL (tmL k (1 + (d : Int)) j) X = xss at *
      obtain ⟨μ, hμ⟩ : ∃ μ : Nat, (if 1 < k then (1 : Int) else (k : Int)) = (μ : Int) := ⟨if 1 < k then 1 else k, by split <;> simp⟩
      have hμ2 : (if (1 : Int) < (k : Int) then (1 : Int) else (k : Int)) = (μ : Int) := by rw [← hμ]; split <;> split <;> omega
      have TK : ((xss.length : Int) == 1 - (μ : Int)) = true := by rw [beq_iff_eq, tk, hμ2]
      clear hlt ho hb hz tk TS
      go_wp2_with fail
      refine CS.out.mono ?_
      rintro e w7 ⟨v7, rfl, hr7, hb7⟩
      replace hb7 := below_then hb5 hb7
      obtain ⟨a7, c7, rfl, -⟩ := hr7.at
      clear CS RT hr5 hb5 hr7
      go_wp2_with fail
      refine (known5_any _).mono ?_
      rintro e w8 ⟨rfl, hb8⟩
      clear TK
      go_wp2
      go_ret
      exact ⟨rfl, below_then hb7 hb8⟩

end Go.Proofs.Ytfbmejfnblopgaa
