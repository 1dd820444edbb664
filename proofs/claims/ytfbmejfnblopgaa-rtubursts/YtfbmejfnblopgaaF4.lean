/- Contract of the document's own Split. -/
import Derived.Test.YtfbmejfnblopgaaF3
import Derived.Test.YtfbmejfnblopgaaK4
import Derived.Deep.Cut
import Derived.Deep.CutRange
namespace Go.Proofs.Ytfbmejfnblopgaa
open Go.RowKit

set_option maxRecDepth 100000 in
set_option maxHeartbeats 4000000 in
theorem rsplit_any (vt vb : Value) (ts : List Int) (bs : List UInt8) (w : World) (ht : Row w vt (ts.map lV)) (hv : Row w vb (bs.map bV)) (hr : ∀ i, i < ts.length → -9223372036854775808 ≤ ts.getD i 0 ∧ ts.getD i 0 ≤ 9223372036854775807) (h5 : bs.length ≤ 5000000000000) :
    Calls Try.prog 19 #[vt, vb] w fun e w' => ∃ v', e = .returned v' ∧ RowsB w' v' (splitL ts bs) ∧ Below w.heap.size w w' := by
  obtain ⟨at', ct, rfl, -⟩ := id ht
  obtain ⟨av, cv, rfl, -⟩ := id hv
  obtain ⟨-, k1, k2, k3⟩ := ht.at
  obtain ⟨-, m1, m2, m3⟩ := hv.at
  unfold maxLen at k2 m2
  simp only [List.length_map] at k1 k3 m1 m3 ht hv ⊢
  have HR := hidden hr
  have HT := hidden k3
  have HV := hidden m3
  have SE := hidden (splitL_eq ts bs _ rfl)
  have SL := hidden (spS_len ts bs)
  have SF := hidden (fun i => spS_far (ts := ts) (b := bs) (i := i))
  have SM := hidden (fun i => spS_mid (ts := ts) (b := bs) (i := i))
  have SN := hidden (fun i => spS_near (ts := ts) (b := bs) (i := i))
  have LA := hidden (fun i (hi : i ≤ ts.length) => spS_last ts bs i (fun j hj => HR.out j (by omega)))
  clear hr k3 m3 ht hv
  generalize splitL ts bs = out at *
  generalize ts.length = lt at *
  generalize bs.length = lb at *
  go_enter Try.func19, Try.ntmps19
  go_wp2
  go_loopw [5, 6, 7, 8, 9] (fun z5 z6 z7 z8 z9 wr => ∃ i : Nat, i ≤ min lt lb ∧ z9 = .int .i64 (i : Int) ∧ Outs wr w.heap.size z5 (spS ts bs i).out ∧ wr.ownsRow w.heap.size 5 1 z6 (spS ts bs i).now.length ((spS ts bs i).now.map bV) ∧ z7 = .bool (spS ts bs i).bad ∧ z8 = .int .i64 (spS ts bs i).last ∧ Below w.heap.size w wr) (fun _ _ _ _ i _ => min lt lb - (intOf i).toNat)
  case atStart => exact ⟨0, by omega, rfl, Outs.nil _ _, World.ownsRow_nil _ _ _ _, rfl, rfl, Below.refl _ _⟩
  case round =>
    obtain ⟨i, hi, rfl, hO, hN, rfl, rfl, hb⟩ := hrel
    obtain ⟨sl1, sl2, sl3⟩ := SL.out i
    by_cases hlt : i < min lt lb
    · have h1 : (i : Int) < (lt : Int) := by omega
      have h2 : (i : Int) < (lb : Int) := by omega
      obtain ⟨l1, l2⟩ := LA.out i (by omega)
      obtain ⟨r1, r2⟩ := HR.out i (by omega)
      obtain ⟨bt, ot, rfl, hct⟩ := HT.out i 0 (by omega)
      obtain ⟨bb, ob, rfl, hcb⟩ := HV.out i 0 (by omega)
      have tc := hct i (by omega)
      have cx := hcb i (by omega)
      have hbt := lt_of_cell tc
      have hbb := lt_of_cell cx
      rw [← hb.cell (p := ⟨bt, ot + i, none⟩) hbt] at tc
      have TZ : Hid (i = 0 → spS ts bs (i + 1) = ⟨[], [] ++ [bs.getD i 0], false, ts.getD i 0⟩) := fun h => by subst h; exact spS_one ts bs
      have T0 : Hid (i = 0 → (spS ts bs i).out = [] ∧ (spS ts bs i).now = [] ∧ (spS ts bs i).bad = false) := fun h => by subst h; exact ⟨rfl, rfl, rfl⟩
      have TF := hidden (SF.out i)
      have TM := hidden (SM.out i)
      have TN := hidden (SN.out i)
      clear HR HT HV SE SL SF SM SN LA hct hcb
      generalize bs.getD i 0 = x at *
      generalize ts.getD i 0 = t at *
      generalize hsi : spS ts bs i = s at *
      have HSI := hidden hsi
      clear hsi
      go_upto_if 29 with fail
      go_cut [5, 6, 7, 10, 11] from 12 to 57 (fun z5 z6 z7 z10 z11 wx => ∃ (O : List (List UInt8)) (N : List UInt8) (B : Bool) (T : Int), Hid (spS ts bs (i + 1) = ⟨O, N ++ [x], B, T⟩) ∧ z7 = .bool B ∧ z10 = .int .i64 T ∧ N.length ≤ i ∧ Outs wx w.heap.size z5 O ∧ wx.ownsRow w.heap.size 5 1 z6 N.length (N.map bV) ∧ Below w.heap.size w wx)
      case rest =>
        clear hO hN hb tc TZ T0 TF TM TN
        obtain ⟨O, N, B, T, HS, rfl, rfl, hNl, hO, hN, hb⟩ := hcut
        go_wp2
        refine c_begin 12 rfl (by kernel_rfl) ?_
        replace hb := hb.drew
        replace hO := hO.ext ((Below.refl wc.heap.size wc).drew)
        have R6 := (Row.of_owns hN).drew
        clear hN
        generalize wc.drew = wd at *
        refine c_pure trivial (by kernel_rfl) (fun _ _ _ d _ h => by cases d <;> exact h) 1 rfl (by kernel_rfl) (by kernel_rfl) (fun w' => by go_simp; with_reducible rfl) ?_; try simp only [Act.put, List.setIfInBounds_toArray, List.set_cons_zero, List.set_cons_succ]
        refine c_pure trivial (by kernel_rfl) (fun _ _ _ d _ h => by cases d <;> exact h) 3 rfl (by kernel_rfl) (by kernel_rfl) (fun w' => by go_simp; with_reducible rfl) ?_; try simp only [Act.put, List.setIfInBounds_toArray, List.set_cons_zero, List.set_cons_succ]
        refine c_pure trivial (by kernel_rfl) (fun _ _ _ d _ h => by cases d <;> exact h) 4 rfl (by kernel_rfl) (by kernel_rfl) (fun w' => by go_simp; with_reducible rfl) ?_; try simp only [Act.put, List.setIfInBounds_toArray, List.set_cons_zero, List.set_cons_succ]
        refine c_pure trivial (by kernel_rfl) (fun _ _ _ d _ h => by cases d <;> exact h) 5 rfl (by kernel_rfl) (by kernel_rfl) (fun w' => by go_simp; with_reducible rfl) ?_; try simp only [Act.put, List.setIfInBounds_toArray, List.set_cons_zero, List.set_cons_succ]
        refine c_read (fun w' => Below w.heap.size w w') hb trivial (by kernel_rfl) (fun _ _ _ d _ h => by cases d <;> exact h) 6 rfl (by kernel_rfl) (by kernel_rfl) (fun w' hx => by have c := (hx.cell (p := ⟨bb, ob + i, none⟩) hbb).trans cx; go_simp; with_reducible rfl) ?_; try simp only [Act.put, List.setIfInBounds_toArray, List.set_cons_zero, List.set_cons_succ]
        refine c_pure ⟨hb, trivial⟩ (by kernel_rfl) (fun _ _ _ d _ h => by cases d <;> exact h) 9 rfl (by kernel_rfl) (by kernel_rfl) (fun w' => by go_simp; with_reducible rfl) ?_; try simp only [Act.put, List.setIfInBounds_toArray, List.set_cons_zero, List.set_cons_succ]
        have hz := hb.size
        refine c_move2 0 7 (by kernel_rfl) (c_op 0 [(6, (fun w' => Below w.heap.size w w'))] (by kernel_rfl) rfl (by kernel_rfl) (fun K hK => ?_)) (c_op 7 [] (by kernel_rfl) rfl (by kernel_rfl) (fun K hK => ?_))
        · have b1 : Below w.heap.size w (wd.alloc (.cells #[] 5)) := hb.alloc hz _
          have x1 : Below wd.heap.size wd (wd.alloc (.cells #[] 5)) := (Below.refl _ _).alloc (Nat.le_refl _) _
          have O1 := World.ownsRow_made (base := wd.heap.size) (e := 5) (size := 1) wd #[] 0 (Nat.le_refl _) (Nat.zero_le _) (by simp)
          have R61 := R6.below x1
          go_simp
          refine hK.out _ _ ⟨b1, trivial⟩ ?_
          clear K hK
          try simp only [Act.put, List.setIfInBounds_toArray, List.set_cons_zero, List.set_cons_succ]
          refine c_move2 2 7 (by kernel_rfl) (c_op 2 [(6, (fun w' => Below w.heap.size w w'))] (by kernel_rfl) rfl (by kernel_rfl) (fun K hK => ?_)) (c_op 7 [] (by kernel_rfl) rfl (by kernel_rfl) (fun K hK => ?_))
          · refine wp_app (.tmp 48) (.tmp 49) 23 rfl wd.heap.size 5 (.int .u8 0) 1 Try.underlying23 info_u8 rfl rfl O1 rfl R61 (one_bytes N) (by simp [maxLen] <;> omega) (by first | omega | (simp; done) | (simp; omega)) (by first | omega | (simp; done) | (simp; omega)) ?_
            intro v2 w2 ho2 hg2
            have x2 := x1.grown hg2 (by simp) (fun k hk => (O1.lt k hk).1)
            simp only [Nat.zero_add, List.nil_append, List.length_map] at ho2
            refine hK.out _ _ ⟨below_then hb x2, trivial⟩ ?_
            clear K hK
            try simp only [Act.put, List.setIfInBounds_toArray, List.set_cons_zero, List.set_cons_succ]
            refine c_move 7 (by kernel_rfl) (c_op 7 [] (by kernel_rfl) rfl (by kernel_rfl) (fun K hK => ?_))
            have R7 := row_new w2 [bV x] 5 1 rfl (by decide)
            have x3 : Below wd.heap.size wd (w2.alloc (.cells #[bV x] 5)) := x2.alloc x2.size _
            go_simp
            refine hK.out _ _ trivial ?_
            clear K hK
            try simp only [Act.put, List.setIfInBounds_toArray, List.set_cons_zero, List.set_cons_succ]
            refine c_move 8 (by kernel_rfl) (c_op 8 [] (by kernel_rfl) rfl (by kernel_rfl) (fun K hK => ?_))
            have hz2 := x2.size
            refine wp_app (.tmp 50) (.tmp 55) 23 rfl wd.heap.size 5 (.int .u8 0) 1 Try.underlying23 info_u8 rfl rfl (ho2.alloc _) rfl R7 (one_bytes [x]) (by simp [maxLen] <;> omega) (by first | omega | (simp; done) | (simp; omega)) (by first | omega | (simp; done) | (simp; omega)) ?_
            intro v8 w8 ho8 hg8
            have x8 := x3.grown hg8 (by first | omega | (simp; done) | (simp; omega)) (fun k hk => (ho2.lt k hk).1)
            replace ho8 : w8.ownsRow w.heap.size 5 1 v8 (N ++ [x]).length ((N ++ [x]).map bV) := by simpa using owns_base' ho8 hz
            refine hK.out _ _ trivial ?_
            clear K hK
            try simp only [Act.put, List.setIfInBounds_toArray, List.set_cons_zero, List.set_cons_succ]
            replace hO := hO.ext x8
            have b8 := below_then hb x8
            refine c_pure trivial (by kernel_rfl) (fun _ _ _ d _ h => by cases d <;> exact h) 10 rfl (by kernel_rfl) (by kernel_rfl) (fun w' => by go_simp; with_reducible rfl) ?_; try simp only [Act.put, List.setIfInBounds_toArray, List.set_cons_zero, List.set_cons_succ]
            refine c_pure trivial (by kernel_rfl) (fun _ _ _ d _ h => by cases d <;> exact h) 11 rfl (by kernel_rfl) (by kernel_rfl) (fun w' => by go_simp; with_reducible rfl) ?_; try simp only [Act.put, List.setIfInBounds_toArray, List.set_cons_zero, List.set_cons_succ]
            refine c_done (by kernel_rfl) ?_
            clear hb x8 R6 cx
            go_wp2
            go_roundw
            case rel => exact ⟨i + 1, by omega, by go_num, by rw [HS.out]; exact hO, by rw [HS.out]; exact ho8, by rw [HS.out], by rw [HS.out], b8⟩
            case measure => simp [intOf]; omega
          · have O7 : ((wd.alloc (.cells #[] 5)).alloc (.cells #[bV x] 5)).ownsRow wd.heap.size 5 1 (.slice (some ⟨wd.heap.size + 1, 0, none⟩) 1 1) 1 [bV x] := by have h := World.ownsRow_lit (base := wd.heap.size) (e := 5) (size := 1) (wd.alloc (.cells #[] 5)) #[bV x] 1 (by simp) (by decide) rfl; rw [show (wd.alloc (.cells #[] 5)).heap.size = wd.heap.size + 1 by simp] at h; exact h
            have x2 : Below wd.heap.size wd ((wd.alloc (.cells #[] 5)).alloc (.cells #[bV x] 5)) := x1.alloc (by simp) _
            go_simp
            refine hK.out _ _ trivial ?_
            clear K hK
            try simp only [Act.put, List.setIfInBounds_toArray, List.set_cons_zero, List.set_cons_succ]
            refine c_move 2 (by kernel_rfl) (c_op 2 [] (by kernel_rfl) rfl (by kernel_rfl) (fun K hK => ?_))
            have R62 := R6.below x2
            refine wp_app (.tmp 48) (.tmp 49) 23 rfl wd.heap.size 5 (.int .u8 0) 1 Try.underlying23 info_u8 rfl rfl (O1.alloc _) rfl R62 (one_bytes N) (by simp [maxLen] <;> omega) (by first | omega | (simp; done) | (simp; omega)) (by first | omega | (simp; done) | (simp; omega)) ?_
            intro v2 w2 ho2 hg2
            have x3 := x2.grown hg2 (by first | omega | (simp; done) | (simp; omega)) (fun k hk => (O1.lt k hk).1)
            have hg2' : World.grownBy _ w2 (some wd.heap.size) := hg2
            have R7 := Row.of_owns (O7.kept hg2' (.inr (by simp [Value.ownBlock])))
            simp only [Nat.zero_add, List.nil_append, List.length_map] at ho2
            refine hK.out _ _ trivial ?_
            clear K hK
            try simp only [Act.put, List.setIfInBounds_toArray, List.set_cons_zero, List.set_cons_succ]
            refine c_move 8 (by kernel_rfl) (c_op 8 [] (by kernel_rfl) rfl (by kernel_rfl) (fun K hK => ?_))
            have hz2 := x3.size
            refine wp_app (.tmp 50) (.tmp 55) 23 rfl wd.heap.size 5 (.int .u8 0) 1 Try.underlying23 info_u8 rfl rfl ho2 rfl R7 (one_bytes [x]) (by simp [maxLen] <;> omega) (by first | omega | (simp; done) | (simp; omega)) (by first | omega | (simp; done) | (simp; omega)) ?_
            intro v8 w8 ho8 hg8
            have x8 := x3.grown hg8 (by first | omega | (simp; done) | (simp; omega)) (fun k hk => (ho2.lt k hk).1)
            replace ho8 : w8.ownsRow w.heap.size 5 1 v8 (N ++ [x]).length ((N ++ [x]).map bV) := by simpa using owns_base' ho8 hz
            refine hK.out _ _ trivial ?_
            clear K hK
            try simp only [Act.put, List.setIfInBounds_toArray, List.set_cons_zero, List.set_cons_succ]
            replace hO := hO.ext x8
            have b8 := below_then hb x8
            refine c_pure trivial (by kernel_rfl) (fun _ _ _ d _ h => by cases d <;> exact h) 10 rfl (by kernel_rfl) (by kernel_rfl) (fun w' => by go_simp; with_reducible rfl) ?_; try simp only [Act.put, List.setIfInBounds_toArray, List.set_cons_zero, List.set_cons_succ]
            refine c_pure trivial (by kernel_rfl) (fun _ _ _ d _ h => by cases d <;> exact h) 11 rfl (by kernel_rfl) (by kernel_rfl) (fun w' => by go_simp; with_reducible rfl) ?_; try simp only [Act.put, List.setIfInBounds_toArray, List.set_cons_zero, List.set_cons_succ]
            refine c_done (by kernel_rfl) ?_
            clear hb x8 R6 cx
            go_wp2
            go_roundw
            case rel => exact ⟨i + 1, by omega, by go_num, by rw [HS.out]; exact hO, by rw [HS.out]; exact ho8, by rw [HS.out], by rw [HS.out], b8⟩
            case measure => simp [intOf]; omega
        · have O7 := World.ownsRow_lit (base := wd.heap.size) (e := 5) (size := 1) wd #[bV x] 1 (Nat.le_refl _) (by decide) rfl
          have x1 : Below wd.heap.size wd (wd.alloc (.cells #[bV x] 5)) := (Below.refl _ _).alloc (Nat.le_refl _) _
          go_simp
          refine hK.out _ _ trivial ?_
          clear K hK
          try simp only [Act.put, List.setIfInBounds_toArray, List.set_cons_zero, List.set_cons_succ]
          refine c_move 0 (by kernel_rfl) (c_op 0 [] (by kernel_rfl) rfl (by kernel_rfl) (fun K hK => ?_))
          have O1 : ((wd.alloc (.cells #[bV x] 5)).alloc (.cells #[] 5)).ownsRow wd.heap.size 5 1 (.slice (some ⟨wd.heap.size + 1, 0, none⟩) 0 0) 0 [] := by have h := World.ownsRow_made (base := wd.heap.size) (e := 5) (size := 1) (wd.alloc (.cells #[bV x] 5)) #[] 0 (by simp) (Nat.zero_le _) (by simp); rw [show (wd.alloc (.cells #[bV x] 5)).heap.size = wd.heap.size + 1 by simp] at h; exact h
          have x2 : Below wd.heap.size wd ((wd.alloc (.cells #[bV x] 5)).alloc (.cells #[] 5)) := x1.alloc (by simp) _
          have R62 := R6.below x2
          go_simp
          refine hK.out _ _ trivial ?_
          clear K hK
          try simp only [Act.put, List.setIfInBounds_toArray, List.set_cons_zero, List.set_cons_succ]
          refine c_move 2 (by kernel_rfl) (c_op 2 [] (by kernel_rfl) rfl (by kernel_rfl) (fun K hK => ?_))
          refine wp_app (.tmp 48) (.tmp 49) 23 rfl wd.heap.size 5 (.int .u8 0) 1 Try.underlying23 info_u8 rfl rfl O1 rfl R62 (one_bytes N) (by simp [maxLen] <;> omega) (by first | omega | (simp; done) | (simp; omega)) (by first | omega | (simp; done) | (simp; omega)) ?_
          intro v2 w2 ho2 hg2
          have x3 := x2.grown hg2 (by first | omega | (simp; done) | (simp; omega)) (fun k hk => (O1.lt k hk).1)
          have hg2' : World.grownBy _ w2 (some (wd.heap.size + 1)) := hg2
          have R7 := Row.of_owns ((O7.alloc _).kept hg2' (.inr (by simp [Value.ownBlock])))
          simp only [Nat.zero_add, List.nil_append, List.length_map] at ho2
          refine hK.out _ _ trivial ?_
          clear K hK
          try simp only [Act.put, List.setIfInBounds_toArray, List.set_cons_zero, List.set_cons_succ]
          refine c_move 8 (by kernel_rfl) (c_op 8 [] (by kernel_rfl) rfl (by kernel_rfl) (fun K hK => ?_))
          have hz2 := x3.size
          refine wp_app (.tmp 50) (.tmp 55) 23 rfl wd.heap.size 5 (.int .u8 0) 1 Try.underlying23 info_u8 rfl rfl ho2 rfl R7 (one_bytes [x]) (by simp [maxLen] <;> omega) (by first | omega | (simp; done) | (simp; omega)) (by first | omega | (simp; done) | (simp; omega)) ?_
          intro v8 w8 ho8 hg8
          have x8 := x3.grown hg8 (by first | omega | (simp; done) | (simp; omega)) (fun k hk => (ho2.lt k hk).1)
          replace ho8 : w8.ownsRow w.heap.size 5 1 v8 (N ++ [x]).length ((N ++ [x]).map bV) := by simpa using owns_base' ho8 hz
          refine hK.out _ _ trivial ?_
          clear K hK
          try simp only [Act.put, List.setIfInBounds_toArray, List.set_cons_zero, List.set_cons_succ]
          replace hO := hO.ext x8
          have b8 := below_then hb x8
          refine c_pure trivial (by kernel_rfl) (fun _ _ _ d _ h => by cases d <;> exact h) 10 rfl (by kernel_rfl) (by kernel_rfl) (fun w' => by go_simp; with_reducible rfl) ?_; try simp only [Act.put, List.setIfInBounds_toArray, List.set_cons_zero, List.set_cons_succ]
          refine c_pure trivial (by kernel_rfl) (fun _ _ _ d _ h => by cases d <;> exact h) 11 rfl (by kernel_rfl) (by kernel_rfl) (fun w' => by go_simp; with_reducible rfl) ?_; try simp only [Act.put, List.setIfInBounds_toArray, List.set_cons_zero, List.set_cons_succ]
          refine c_done (by kernel_rfl) ?_
          clear hb x8 R6 cx
          go_wp2
          go_roundw
          case rel => exact ⟨i + 1, by omega, by go_num, by rw [HS.out]; exact hO, by rw [HS.out]; exact ho8, by rw [HS.out], by rw [HS.out], b8⟩
          case measure => simp [intOf]; omega
      case first =>
        by_cases hi0 : i = 0
        · obtain ⟨e1, e2, e3⟩ := T0.out hi0
          have E := hidden (TZ.out hi0)
          rw [e1] at hO
          rw [e2] at hN
          rw [e3]
          have hi' : ¬ (0 : Int) < (i : Int) := by omega
          clear TZ T0 TF TM TN e1 e2 e3 hi0
          go_wp2
          go_meet
          case rel => exact ⟨[], [], false, t, E.out, rfl, rfl, by simp, hO, hN, hb⟩
        · have hi' : (0 : Int) < (i : Int) := by omega
          by_cases q4 : 4 ≤ t - s.last
          · have E := hidden (TF.out (by omega) q4)
            have u1 : ¬ t ≤ s.last := by omega
            have G := u64_gap s.last t l1 (by omega) r2
            clear TZ T0 TF TM TN
            cases hbd : s.bad
            · have ek : keepL s.out s.now s.bad = s.out ++ [s.now] := by simp [keepL, hbd]
              rw [hbd] at ek
              rw [hbd, ek] at E
              obtain ⟨vs, o1, o2⟩ := hO
              obtain ⟨g, gc, rfl, -⟩ := owns_some hN (sl3 (by omega))
              have o1' := o1.alloc (.cells #[.slice (some ⟨g, 0, none⟩) s.now.length gc] 23)
              have R2 := row_new wr [.slice (some ⟨g, 0, none⟩) s.now.length gc] 23 1 rfl (by decide)
              have hz := hb.size
              have HO := hidden o2
              clear o2 ek
              go_wp2_with (at_builtin; refine wpList_app rfl (.tmp 42) (.tmp 44) 34 rfl w.heap.size 23 (.slice none 0 0) 24 Try.underlying34 info_row rfl rfl o1' rfl R2 (by intro z hz; simp at hz; subst hz; rfl) (by simp [maxLen]; omega) (by simp; omega) (by simp; omega) ?_)
              intro v2 w2 ho2 hg2
              have B2 : Below w.heap.size w w2 := (hb.alloc hz _).grown hg2 (by simp; omega) (fun k hk => (o1'.lt k hk).1)
              go_wp2
              go_meet
              case rel =>
                refine ⟨_, [], false, t, E.out, rfl, rfl, by simp, Outs.push o1' (fun i hi => ?_) (hN.alloc _) ho2 rfl hg2, World.ownsRow_nil _ _ _ _, B2⟩
                obtain ⟨y, m, e, o⟩ := HO.out i hi
                exact ⟨y, m, e, o.alloc _⟩
            · have ek : keepL s.out s.now s.bad = s.out := by simp [keepL, hbd]
              rw [hbd] at ek
              rw [hbd, ek] at E
              clear ek
              go_wp2
              go_meet
              case rel => exact ⟨_, [], false, t, E.out, rfl, rfl, by simp, hO, World.ownsRow_nil _ _ _ _, hb⟩
          · by_cases q2 : 2 ≤ t - s.last
            · have E := hidden (TM.out (by omega) (by omega) q2)
              have u1 : ¬ t ≤ s.last := by omega
              have G := u64_gap s.last t l1 (by omega) r2
              clear TZ T0 TF TM TN
              go_wp2
              go_meet
              case rel => exact ⟨_, _, true, t, E.out, rfl, rfl, sl2, hO, hN, hb⟩
            · have E := hidden (TN.out (by omega) (by omega))
              clear TZ T0 TF TM TN
              rcases Int.lt_trichotomy t s.last with u0 | u0 | u0
              · have em : max t s.last = s.last := by omega
                rw [em] at E
                clear em
                have G := u64_gap s.last s.last l1 (by omega) l2
                rw [Int.sub_self] at G
                go_wp2
                go_meet
                case rel => exact ⟨_, _, s.bad, _, E.out, rfl, rfl, sl2, hO, hN, hb⟩
              · have em : max t s.last = t := by omega
                rw [em] at E
                clear em
                have G := u64_gap t t r1 (by omega) r2
                rw [Int.sub_self] at G
                generalize s.last = l at *
                subst u0
                go_wp2
                go_meet
                case rel => exact ⟨_, _, s.bad, _, E.out, rfl, rfl, sl2, hO, hN, hb⟩
              · have em : max t s.last = t := by omega
                rw [em] at E
                clear em
                have G := u64_gap s.last t l1 (by omega) r2
                go_wp2
                go_meet
                case rel => exact ⟨_, _, s.bad, _, E.out, rfl, rfl, sl2, hO, hN, hb⟩
    · have hin : i = min lt lb := by omega
      have se := SE.out
      rw [← hin] at se
      have hc : (i : Int) < (lt : Int) ∧ ¬ (i : Int) < (lb : Int) ∨ ¬ (i : Int) < (lt : Int) := by omega
      have hz := hb.size
      clear HR HT HV SE SL SF SM SN LA hin hlt
      generalize spS ts bs i = s at *
      by_cases hn0 : 0 < s.now.length
      · rw [if_pos hn0] at se
        have hn' : (0 : Int) < (s.now.length : Int) := by omega
        obtain ⟨g, gc, rfl, -⟩ := owns_some hN hn0
        cases hbd : s.bad
        · have ek : keepL s.out s.now s.bad = s.out ++ [s.now] := by simp [keepL, hbd]
          rw [ek] at se
          have SE := hidden se
          clear se ek
          obtain ⟨vs, o1, o2⟩ := hO
          have o1' := o1.alloc (.cells #[.slice (some ⟨g, 0, none⟩) s.now.length gc] 23)
          have R2 := row_new wr [.slice (some ⟨g, 0, none⟩) s.now.length gc] 23 1 rfl (by decide)
          have HO := hidden o2
          clear o2
          rcases hc with ⟨c1, c2⟩ | c1
          all_goals
            go_wp2_with (at_builtin; refine wpList_app rfl (.tmp 65) (.tmp 67) 34 rfl w.heap.size 23 (.slice none 0 0) 24 Try.underlying34 info_row rfl rfl o1' rfl R2 (by intro z hz; simp at hz; subst hz; rfl) (by simp [maxLen]; omega) (by simp; omega) (by simp; omega) ?_)
            intro v2 w2 ho2 hg2
            have B2 : Below w.heap.size w w2 := (hb.alloc hz _).grown hg2 (by simp; omega) (fun k hk => (o1'.lt k hk).1)
            go_wp2
            go_ret
            refine ⟨_, rfl, ?_, B2⟩
            rw [SE.out]
            refine (Outs.push o1' (fun i hi => ?_) (hN.alloc _) ho2 rfl hg2).rows
            obtain ⟨y, m, e, o⟩ := HO.out i hi
            exact ⟨y, m, e, o.alloc _⟩
        · have ek : keepL s.out s.now s.bad = s.out := by simp [keepL, hbd]
          rw [ek] at se
          have SE := hidden se
          clear se ek
          rcases hc with ⟨c1, c2⟩ | c1
          all_goals
            go_wp2
            go_ret
            exact ⟨_, rfl, by rw [SE.out]; exact hO.rows, hb⟩
      · rw [if_neg hn0] at se
        have SE := hidden se
        have hn' : ¬ (0 : Int) < (s.now.length : Int) := by omega
        obtain ⟨ga, gc, rfl, -⟩ := Row.of_owns hN
        simp only [List.length_map] at *
        clear se
        rcases hc with ⟨c1, c2⟩ | c1
        all_goals
          go_wp2
          go_ret
          exact ⟨_, rfl, by rw [SE.out]; exact hO.rows, hb⟩

end Go.Proofs.Ytfbmejfnblopgaa
