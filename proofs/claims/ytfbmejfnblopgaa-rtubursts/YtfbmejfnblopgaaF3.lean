/- Contracts of slices.Clone, rtu's keep, silence and Split. -/
import Derived.Test.YtfbmejfnblopgaaF2
import Derived.Test.YtfbmejfnblopgaaK8
namespace Go.Proofs.Ytfbmejfnblopgaa
open Go.RowKit

theorem info_row : (Try.prog.info? 23).map (fun i => (i.zero, i.size, i.bytes)) = some (some (.slice none 0 0), 1, 24) := by kernel_rfl
theorem owns_base' {w : World} {base base' : Nat} {e : TypeId} {v : Value} {n : Nat} {xs : List Value} (h : w.ownsRow base e 1 v n xs) (hb : base' ≤ base) : w.ownsRow base' e 1 v n xs := by
  refine ⟨h.1, ?_⟩
  rcases h.2 with hn | ⟨g, cap, cur, hv, hg, rest⟩
  · exact .inl hn
  · exact .inr ⟨g, cap, cur, hv, Nat.le_trans hb hg, rest⟩

set_option maxHeartbeats 1000000 in
/-- Clone: a row of its own, in new memory -/
theorem clone_own (v : Value) (bs : List UInt8) (w : World) (hv : Row w v (bs.map bV)) (hl : bs.length ≤ 140737488355328) (h0 : 0 < bs.length) :
    Calls Try.prog 29 #[v] w fun e w' => ∃ v', e = .returned v' ∧ w'.ownsRow w.heap.size 5 1 v' bs.length (bs.map bV) ∧ Below w.heap.size w w' := by
  obtain ⟨a, cap, rfl, -, -, hz, -⟩ := id hv
  obtain ⟨h1, h2, h3, h4⟩ := hv.at
  simp only [List.length_map] at hv h1 h4 ⊢
  obtain ⟨b, off, rfl, -⟩ := h4 0 0 h0
  have R1 := hv.below ((Below.refl w.heap.size w).alloc (Nat.le_refl _) (.cells #[] 5))
  have O1 : (w.alloc (.cells #[] 5)).ownsRow w.heap.size 5 1 (.slice (some ⟨w.heap.size, 0, none⟩) 0 0) 0 [] :=
    ⟨rfl, .inr ⟨w.heap.size, 0, #[], rfl, Nat.le_refl _, heap_alloc_new w _, Nat.zero_le _, by unfold maxLen; omega, by simp, by simp⟩⟩
  have en : (binOp BinOp.eql 23 (.slice (some ⟨b, off, none⟩) bs.length cap) (.slice none 0 0)).run Try.prog w = .ok (.bool false) w := by kernel_rfl
  go_enter Try.func29, Try.ntmps29
  go_wp2_with (at_builtin; refine wpList_app rfl (.tmp 5) (.tmp 6) 23 rfl w.heap.size 5 (.int .u8 0) 1 Try.underlying23 info_u8 rfl rfl O1 rfl R1 (one_bytes bs) (by simp [maxLen]; omega) (by simp; omega) (by simp) ?_)
  intro v2 w2 ho2 hg2
  have q := ((Below.refl w.heap.size w).alloc (Nat.le_refl _) (.cells #[] 5)).grown hg2 (by simp) (fun k hk => (O1.lt k hk).1)
  go_wp2
  go_ret
  exact ⟨_, rfl, by simpa using ho2, q⟩

/-- a list of rows of bytes, all of them the call's own -/
def Outs (w : World) (base : Nat) (v : Value) (xss : List (List UInt8)) : Prop :=
  ∃ vs, w.ownsRow base 23 1 v xss.length vs ∧ ∀ i, i < xss.length → ∃ u n, vs[i]? = some u ∧ w.ownsRow base 5 1 u n ((xss.getD i []).map bV)
theorem Outs.nil (w : World) (base : Nat) : Outs w base (.slice none 0 0) [] := ⟨[], World.ownsRow_nil _ _ _ _, fun i hi => by simp at hi⟩
theorem Outs.rows {w : World} {base : Nat} {v : Value} {xss : List (List UInt8)} (h : Outs w base v xss) : RowsB w v xss := by
  obtain ⟨vs, h1, h2⟩ := h
  refine ⟨vs, Row.of_owns h1, by have := h1.1; omega, fun i hi => ?_⟩
  obtain ⟨u, n, e, o⟩ := h2 i hi
  exact ⟨u, e, Row.of_owns o⟩
theorem Outs.ext {w w' : World} {base : Nat} {v : Value} {xss : List (List UInt8)} (h : Outs w base v xss) (hb : Below w.heap.size w w') : Outs w' base v xss := by
  obtain ⟨vs, h1, h2⟩ := h
  refine ⟨vs, owns_below h1 hb, fun i hi => ?_⟩
  obtain ⟨u, n, e, o⟩ := h2 i hi
  exact ⟨u, n, e, owns_below o hb⟩
/-- a row more -/
theorem Outs.push {w w' : World} {base : Nat} {v v' u : Value} {xss : List (List UInt8)} {vs : List Value} {n k : Nat} {x : List UInt8} (h1 : w.ownsRow base 23 1 v xss.length vs) (h2 : ∀ i, i < xss.length → ∃ u n, vs[i]? = some u ∧ w.ownsRow base 5 1 u n ((xss.getD i []).map bV))
    (hu : w.ownsRow base 5 1 u k (x.map bV)) (ho : w'.ownsRow base 23 1 v' n (vs ++ [u])) (hn : n = xss.length + 1) (hg : w.grownBy w' v.ownBlock) : Outs w' base v' (xss ++ [x]) := by
  subst hn
  have keep : ∀ {u n ys}, w.ownsRow base 5 1 u n ys → w'.ownsRow base 5 1 u n ys := fun h => h.kept hg (owns_apart h h1 (by decide))
  have hvl : vs.length = xss.length := by have := h1.1; omega
  refine ⟨vs ++ [u], by simpa using ho, fun i hi => ?_⟩
  by_cases hlt : i < xss.length
  · obtain ⟨y, m, e, o⟩ := h2 i hlt
    refine ⟨y, m, by rw [List.getElem?_append_left (by omega)]; exact e, ?_⟩
    have e2 : (xss ++ [x]).getD i [] = xss.getD i [] := by
      rw [List.getD_eq_getElem?_getD, List.getElem?_append_left hlt, List.getD_eq_getElem?_getD]
    rw [e2]; exact keep o
  · have : i = xss.length := by simp at hi; omega
    subst this
    refine ⟨u, k, by rw [← hvl]; simp, ?_⟩
    have e2 : (xss ++ [x]).getD xss.length [] = x := by simp
    rw [e2]; exact keep hu

set_option maxHeartbeats 1000000 in
theorem keep_any (vo vf : Value) (out : List (List UInt8)) (f : List UInt8) (bad : Bool) (base : Nat) (w : World) (ho : Outs w base vo out) (hf : Row w vf (f.map bV)) (h0 : 0 < f.length) (h1 : f.length ≤ 140737488355328) (h2 : out.length ≤ 5000000000000) (hb : base ≤ w.heap.size) :
    Calls Try.prog 25 #[vo, vf, .bool bad] w fun e w' => ∃ v', e = .returned v' ∧ Outs w' base v' (keepL out f bad) ∧ Below base w w' := by
  cases bad
  · have e : keepL out f false = out ++ [f] := by simp [keepL]
    rw [e]
    obtain ⟨vs, o1, o2⟩ := ho
    have HO := hidden o2
    clear e o2
    have C := hidden (clone_own vf f w hf h1 h0)
    go_enter Try.func25, Try.ntmps25
    go_wp2_with fail
    refine C.out.mono ?_
    rintro e w1 ⟨u, rfl, hu, B1⟩
    have hsz := B1.size
    obtain ⟨g, gc, rfl, -⟩ := owns_some hu h0
    have o1' := (owns_below o1 B1).alloc (.cells #[.slice (some ⟨g, 0, none⟩) f.length gc] 23)
    have R2 := row_new w1 [.slice (some ⟨g, 0, none⟩) f.length gc] 23 1 rfl (by decide)
    go_wp2_with (at_builtin; refine wpList_app rfl (.tmp 9) (.tmp 12) 34 rfl base 23 (.slice none 0 0) 24 Try.underlying34 info_row rfl rfl o1' rfl R2 (by intro z hz; simp at hz; subst hz; rfl) (by simp [maxLen]; omega) (by simp; omega) (by simp; omega) ?_)
    intro v2 w2 ho2 hg2
    have B2 : Below base w w2 := ((B1.mono hb).alloc (by omega) _).grown hg2 (by simp; omega) (fun k hk => (o1'.lt k hk).1)
    go_wp2
    go_ret
    refine ⟨_, rfl, Outs.push o1' (fun i hi => ?_) ((owns_base' hu hb).alloc _) ho2 rfl hg2, B2⟩
    obtain ⟨y, m, e, o⟩ := HO.out i hi
    exact ⟨y, m, e, (owns_below o B1).alloc _⟩
  · have e : keepL out f true = out := by simp [keepL]
    rw [e]
    go_enter Try.func25, Try.ntmps25
    go_wp2
    go_ret
    exact ⟨_, rfl, ho, Below.refl _ _⟩

theorem u64_gap (l n : Int) (h1 : -9223372036854775808 ≤ l) (h2 : l ≤ n) (h3 : n ≤ 9223372036854775807) : IntKind.u64.wrap (IntKind.u64.wrap n - IntKind.u64.wrap l) = n - l := by
  simp only [IntKind.wrap_u64]; omega

set_option maxHeartbeats 1000000 in
theorem silence_any (l n : Int) (w : World) (h1 : -9223372036854775808 ≤ l) (h2 : l ≤ n) (h3 : n ≤ 9223372036854775807) :
    Calls Try.prog 24 #[.int .i64 l, .int .i64 n] w fun e w' => e = .returned (.int .u64 (n - l)) ∧ w = w' := by
  go_enter Try.func24, Try.ntmps24
  go_wp2
  go_ret
  exact ⟨ret_int (u64_gap l n h1 h2 h3), rfl⟩

abbrev lV (n : Int) : Value := .int .i64 n

set_option maxHeartbeats 4000000 in
theorem split_any (vt vb : Value) (ts : List Int) (bs : List UInt8) (w : World) (ht : Row w vt (ts.map lV)) (hv : Row w vb (bs.map bV)) (hr : ∀ i, i < ts.length → -9223372036854775808 ≤ ts.getD i 0 ∧ ts.getD i 0 ≤ 9223372036854775807) (h5 : bs.length ≤ 5000000000000) :
    Calls Try.prog 16 #[vt, vb] w fun e w' => ∃ v', e = .returned v' ∧ RowsB w' v' (splitL ts bs) ∧ Below w.heap.size w w' := by
  obtain ⟨at', ct, rfl, -⟩ := id ht
  obtain ⟨av, cv, rfl, -⟩ := id hv
  obtain ⟨-, k1, k2, k3⟩ := ht.at
  obtain ⟨-, m1, m2, m3⟩ := hv.at
  unfold maxLen at k2 m2
  simp only [List.length_map] at k1 k3 m1 m3 ht hv ⊢
  have HR := hidden hr
  clear hr
  by_cases h0 : min ts.length bs.length = 0
  · have e : splitL ts bs = [] := by simp [splitL, h0]
    rw [e]
    have z : ((min (ts.length : Int) (bs.length : Int)) == 0) = true := by rw [beq_iff_eq]; omega
    have hc : (ts.length : Int) ≤ (bs.length : Int) ∧ ((ts.length : Int) == 0) = true ∨ ¬ (ts.length : Int) ≤ (bs.length : Int) ∧ ((bs.length : Int) == 0) = true := by
      simp only [beq_iff_eq]; omega
    clear e k3 m3 ht hv
    have R0 := hidden (Outs.nil w w.heap.size).rows
    rcases hc with ⟨c1, c2⟩ | ⟨c1, c2⟩
    all_goals
      go_enter Try.func16, Try.ntmps16
      go_wp2
      go_ret
      exact ⟨_, rfl, R0.out, Below.refl _ _⟩
  · have e : splitL ts bs = spEnd (spAt ts bs (min ts.length bs.length - 1)) := by simp [splitL, h0]
    rw [e]
    obtain ⟨n, hn⟩ : ∃ n, min ts.length bs.length = n := ⟨_, rfl⟩
    rw [hn]
    have hn0 : 0 < n := by omega
    have hnt : n ≤ ts.length := by omega
    have hnb : n ≤ bs.length := by omega
    obtain ⟨bt, ot, rfl, hct⟩ := k3 0 0 (by omega)
    obtain ⟨bb, ob, rfl, hcb⟩ := m3 0 0 (by omega)
    have t0 := hct 0 (by omega)
    have HT := hidden hct
    have hlt := lt_of_cell t0
    rw [Nat.add_zero] at t0
    have z : ((n : Int) == 0) = false := by rw [beq_eq_false_iff_ne]; omega
    have SL := hidden (fun k (hk : k < n) => sp_last ts bs (-9223372036854775808) 9223372036854775807 k (fun i hi => HR.out i (by omega)))
    have SO := hidden (sp_out_len ts bs)
    have SN := hidden (sp_now_len ts bs)
    have P0 := hidden (piece_one bs 0 (by omega))
    have PK := hidden (fun k f hk hf hn h => sp_piece ts bs k (by omega) f hf hn hk h)
    have P1 := hidden (piece_one bs)
    have L0 : Hid ((spAt ts bs 0).last = ts.getD 0 0) := rfl
    generalize ts.getD 0 0 = τ at *
    have RT := hidden ht
    have RV := hidden hv
    have hc : ((ts.length : Int) ≤ (bs.length : Int) ∧ n = ts.length) ∨ (¬ (ts.length : Int) ≤ (bs.length : Int) ∧ n = bs.length) := by omega
    clear e k3 m3 ht hv hct hcb h0 hn
    generalize ts.length = lt at *
    generalize bs.length = lb at *
    rcases hc with ⟨c1, c2⟩ | ⟨c1, c2⟩
    all_goals
      subst c2
      go_enter Try.func16, Try.ntmps16
      go_wp2
      go_loopw [6, 7, 8, 9, 10] (fun z6 z7 z8 z9 z10 wr => ∃ k f : Nat, k + 1 ≤ n ∧ f ≤ k ∧ z10 = .int .i64 ((k : Int) + 1) ∧ z8 = .int .i64 (f : Int) ∧ z7 = .int .i64 (spAt ts bs k).last ∧ z9 = .bool (spAt ts bs k).bad ∧ Outs wr w.heap.size z6 (spAt ts bs k).out ∧ Hid ((spAt ts bs k).now = (bs.take (k + 1)).drop f) ∧ Below w.heap.size w wr) (fun _ _ _ _ i _ => n - (intOf i).toNat)
      case atStart => exact ⟨0, 0, by omega, by omega, rfl, rfl, by rw [L0.out], rfl, Outs.nil _ _, P0.out, Below.refl _ _⟩
      case round =>
        obtain ⟨k, f, hk, hf, rfl, rfl, rfl, rfl, ho, HN, hb⟩ := hrel
        have nl := SN.out k
        have ol := SO.out k
        by_cases hlt : k + 1 < n
        · have hlt' : (k : Int) + 1 < (n : Int) := by omega
          obtain ⟨l1, l2⟩ := SL.out k (by omega)
          obtain ⟨r1, r2⟩ := HR.out (k + 1) (by omega)
          have tc := HT.out (k + 1) (by omega)
          rw [← hb.cell (p := ⟨bt, ot + (k + 1), none⟩) (by assumption)] at tc
          have hpc := ((RV.out.below hb).take (k + 1) (by omega)).from f (by omega)
          rw [← List.map_take, ← List.map_drop, ← HN.out] at hpc
          have ST : Hid (spAt ts bs (k + 1) = spStep (spAt ts bs k) (ts.getD (k + 1) 0) (bs.getD (k + 1) 0)) := rfl
          have FAR := hidden (step_far (s := spAt ts bs k) (t := ts.getD (k + 1) 0) (x := bs.getD (k + 1) 0))
          have MID := hidden (step_mid (s := spAt ts bs k) (t := ts.getD (k + 1) 0) (x := bs.getD (k + 1) 0))
          have NEAR := hidden (step_near (s := spAt ts bs k) (t := ts.getD (k + 1) 0) (x := bs.getD (k + 1) 0))
          have PK1 := hidden (PK.out k f (by omega) HN.out hf)
          have P11 := hidden (P1.out (k + 1) (by omega))
          clear HR HT SL SO SN RT RV PK P1 P0 L0 t0 HN
          generalize ts.getD (k + 1) 0 = t at *
          generalize bs.getD (k + 1) 0 = x at *
          generalize spAt ts bs k = s at *
          have hfi : ¬ ((k : Int) + 1 < (f : Int)) := by omega
          by_cases q4 : 4 ≤ t - s.last
          · have E := hidden (ST.out.trans (FAR.out q4))
            clear FAR MID NEAR ST
            have C1 := hidden (fun w => silence_any s.last t w l1 (by omega) r2)
            have u1 : ¬ t ≤ s.last := by omega
            go_wp2_with fail
            refine (C1.out _).mono ?_
            rintro e w1 ⟨rfl, rfl⟩
            go_wp2_with fail
            refine (keep_any _ _ s.out s.now s.bad w.heap.size _ ho hpc (by omega) (by omega) (by omega) hb.size).mono ?_
            rintro e w2 ⟨v2, rfl, ho2, B2⟩
            replace B2 := hb.trans B2
            clear hb ho hpc C1
            go_wp2
            go_roundw
            case rel => exact ⟨k + 1, k + 1, by omega, by omega, by go_num, by go_num, by rw [E.out], by rw [E.out], by rw [E.out]; exact ho2, by rw [E.out]; exact P11.out, B2⟩
            case measure => simp [intOf]; omega
          · by_cases q2 : 2 ≤ t - s.last
            · have E := hidden (ST.out.trans (MID.out (by omega) q2))
              clear FAR MID NEAR ST
              have C1 := hidden (fun w => silence_any s.last t w l1 (by omega) r2)
              have u1 : ¬ t ≤ s.last := by omega
              go_wp2_with fail
              refine (C1.out _).mono ?_
              rintro e w1 ⟨rfl, rfl⟩
              go_wp2
              go_roundw
              case rel => exact ⟨k + 1, f, by omega, by omega, by go_num, rfl, by rw [E.out], by rw [E.out], by rw [E.out]; exact ho, PK1.out (by rw [E.out]), hb⟩
              case measure => simp [intOf]; omega
            · have E := hidden (ST.out.trans (NEAR.out (by omega)))
              clear FAR MID NEAR ST
              rcases Int.lt_trichotomy t s.last with u0 | u0 | u0
              · have em : max t s.last = s.last := by omega
                rw [em] at E
                clear em
                have C1 := hidden (fun w => silence_any s.last s.last w l1 (Int.le_refl _) l2)
                rw [Int.sub_self] at C1
                go_wp2_with fail
                refine (C1.out _).mono ?_
                rintro e w1 ⟨rfl, rfl⟩
                go_wp2
                go_roundw
                case rel => exact ⟨k + 1, f, by omega, by omega, by go_num, rfl, by rw [E.out], by rw [E.out], by rw [E.out]; exact ho, PK1.out (by rw [E.out]), hb⟩
                case measure => simp [intOf]; omega
              · have em : max t s.last = t := by omega
                rw [em] at E
                clear em
                have C1 := hidden (fun w => silence_any t t w r1 (Int.le_refl _) r2)
                rw [Int.sub_self] at C1
                generalize s.last = l at *
                subst u0
                go_wp2_with fail
                refine (C1.out _).mono ?_
                rintro e w1 ⟨rfl, rfl⟩
                go_wp2
                go_roundw
                case rel => exact ⟨k + 1, f, by omega, by omega, by go_num, rfl, by rw [E.out], by rw [E.out], by rw [E.out]; exact ho, PK1.out (by rw [E.out]), hb⟩
                case measure => simp [intOf]; omega
              · have em : max t s.last = t := by omega
                rw [em] at E
                clear em
                have C1 := hidden (fun w => silence_any s.last t w l1 (by omega) r2)
                go_wp2_with fail
                refine (C1.out _).mono ?_
                rintro e w1 ⟨rfl, rfl⟩
                go_wp2
                go_roundw
                case rel => exact ⟨k + 1, f, by omega, by omega, by go_num, rfl, by rw [E.out], by rw [E.out], by rw [E.out]; exact ho, PK1.out (by rw [E.out]), hb⟩
                case measure => simp [intOf]; omega
        · have hk1 : k = n - 1 := by omega
          have hlt' : ¬ (k : Int) + 1 < (n : Int) := by omega
          have HK1 := hidden hk1
          have hpc := ((RV.out.below hb).take n (by omega)).from f (by omega)
          have hnk : k + 1 = n := by omega
          rw [hnk] at HN
          rw [← List.map_take, ← List.map_drop, ← HN.out] at hpc
          clear HR HT SL SO SN RT RV PK P1 P0 L0 t0 HN hk1
          have hfi : ¬ ((n : Int) < (f : Int)) := by omega
          have hfn : f ≤ n := by omega
          go_wp2_with fail
          refine (keep_any _ _ (spAt ts bs k).out (spAt ts bs k).now (spAt ts bs k).bad w.heap.size _ ho hpc (by omega) (by omega) (by omega) hb.size).mono ?_
          rintro e w2 ⟨v2, rfl, ho2, B2⟩
          replace B2 := hb.trans B2
          go_wp2
          go_ret
          exact ⟨_, rfl, by rw [← HK1.out]; exact ho2.rows, B2⟩

end Go.Proofs.Ytfbmejfnblopgaa
