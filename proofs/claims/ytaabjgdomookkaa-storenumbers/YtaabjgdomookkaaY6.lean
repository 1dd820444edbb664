/- Contract of burgageref8.New. -/
import Derived.Test.YtaabjgdomookkaaY5
namespace Go.Proofs.Ytaabjgdomookkaa
open Go.RowKit

theorem NewR.set {base n g i : Nat} {e t : TypeId} {xs ys : List Value} {v u : Value} {w : World} (h : NewR base e n xs v w) (hb : Blk w g t ys) (he : t ≠ e) : NewR base e n xs v (w.setCell ⟨g, i, none⟩ u) := by
  obtain ⟨g', c, e', h1, h2⟩ := h
  have hne := Hd.neB hb h2 he
  exact ⟨g', c, e', h1, h2.kp (F := (· = g)) (Kp.set (F := (· = g)) (Kp.refl _ w) (p := ⟨g, i, none⟩) (fun _ => rfl) u) (fun x => hne x.symm)⟩
abbrev tR : TypeId := 62
/-- what stands of a new store after k rounds -/
def RNew (base g n k : Nat) (w : World) : Prop := ∃ x0 x1 x2 x3, Blk w g tR [.int .i64 n, x0, x1, x2, x3] ∧
  (1 ≤ k → NewR base 4 n (List.replicate n (.bool false)) x0 w ∧ NewR base 24 n (List.replicate n (.int .u16 0)) x2 w) ∧
  (2 ≤ k → NewR base 4 n (List.replicate n (.bool false)) x1 w ∧ NewR base 24 n (List.replicate n (.int .u16 0)) x3 w ∧ NeV x1 x0 ∧ NeV x3 x2)
abbrev SR (n : Nat) := Sto tR [.int .i64 n]
theorem RNew.sto {base g n : Nat} {w : World} (h : RNew base g n 2 w) (hn : 1 ≤ n ∧ n ≤ 65536) (hg : base ≤ g) : SR n w base w.heap.size g n (Cs.zero n) := by
  obtain ⟨x0, x1, x2, x3, hb, h1, h2⟩ := h
  obtain ⟨⟨g0, c0, rfl, l0, z0⟩, ⟨g2, c2, rfl, l2, z2⟩⟩ := h1 (by omega)
  obtain ⟨⟨g1, c1, rfl, l1, z1⟩, ⟨g3, c3, rfl, l3, z3⟩, n10, n32⟩ := h2 (by omega)
  have q10 := NeV.g n10 rfl rfl
  have q32 := NeV.g n32 rfl rfl
  exact ⟨by simp [Cs.zero], hn, Nat.le_refl _, by decide, ⟨hg, hb.lt⟩, g0, g1, g2, g3, c0, c1, c2, c3, hb, ⟨⟨l0, z0.lt⟩, ⟨l1, z1.lt⟩, ⟨l2, z2.lt⟩, ⟨l3, z3.lt⟩⟩, ⟨q10.symm, q32.symm⟩,
    by rw [Cs.zero, zmap_b]; exact z0, by rw [Cs.zero, zmap_b]; exact z1, by rw [Cs.zero, zmap_v]; exact z2, by rw [Cs.zero, zmap_v]; exact z3⟩

set_option maxHeartbeats 4000000 in
theorem rnew_any (n : Nat) (w : World) (hn : 1 ≤ n ∧ n ≤ 65536) :
    Calls Try.prog 19 #[.int .i64 n] w fun e w' => ∃ g, e = .returned (ptrG g) ∧ SR n w' w.heap.size w'.heap.size g n (Cs.zero n) ∧ Below w.heap.size w w' := by
  have N1 := hidden hn
  obtain ⟨h1, h2⟩ := hn
  have MB := hidden (fun u => mk_zer 23 4 (.bool false) 1 Try.underlying23 info_bool rfl (n : Int) n rfl (by omega) (by omega) u)
  have MV := hidden (fun u => mk_zer 25 24 (.int .u16 0) 2 Try.underlying25 info_u16 rfl (n : Int) n rfl (by omega) (by omega) u)
  have HB := hidden (fun u => Hd.new u n (.bool false) 4 h2)
  have HV := hidden (fun u => Hd.new u n (.int .u16 0) 24 h2)
  have W1 := hidden ((Below.refl w.heap.size w).alloc (Nat.le_refl _) (.cells #[.int .i64 n, .slice none 0 0, .slice none 0 0, .slice none 0 0, .slice none 0 0] tR))
  have W2 := hidden (Blk.new w tR [.int .i64 n, .slice none 0 0, .slice none 0 0, .slice none 0 0, .slice none 0 0])
  clear h1 h2
  go_enter Try.func19, Try.ntmps19
  go_wp2
  go_loopw [8] (fun i wr => ∃ k : Nat, k ≤ 2 ∧ i = .int .i64 k ∧ RNew w.heap.size w.heap.size n k wr ∧ Below w.heap.size w wr) (fun i _ => 2 - (intOf i).toNat)
  case atStart => exact ⟨0, by omega, rfl, ⟨_, _, _, _, W2.out, fun h => by omega, fun h => by omega⟩, W1.out⟩
  case round =>
    obtain ⟨k, hk, rfl, hr, hb⟩ := hrel
    by_cases h2 : k = 2
    · subst h2
      have S := hidden (hr.sto N1.out (Nat.le_refl _))
      clear hr
      go_wp2
      go_ret
      exact ⟨_, rfl, S.out, hb⟩
    · obtain ⟨x0, x1, x2, x3, BX, hr1, hr2⟩ := hr
      have HR1 := hidden hr1
      clear hr1 hr2
      rcases (show k = 0 ∨ k = 1 by omega) with rfl | rfl
      · clear HR1 hk h2
        go_wp2
        try go_upto_region 5 with fail
        refine c_begin 16 rfl (by kernel_rfl) ?_
        replace BX := BX.drew
        replace hb := hb.drew
        generalize wr.drew = wa at *
        clear wr
        refine c_P trivial 0 rfl ?_
        refine c_P trivial 1 rfl ?_
        refine c_P trivial 2 rfl ?_
        refine c_P trivial 3 rfl ?_
        refine c_P trivial 4 rfl ?_
        refine c_P trivial 6 rfl ?_
        refine c_P trivial 8 rfl ?_
        refine c_P trivial 9 rfl ?_
        refine c_P trivial 12 rfl ?_
        refine c_P trivial 13 rfl ?_
        obtain ⟨wr0, hwr0⟩ : ∃ q, q = w.heap.size := ⟨_, rfl⟩
        have hsz : wr0 ≤ wa.heap.size := by rw [hwr0]; exact hb.size
        have HWR := hidden hwr0
        clear hwr0
        refine c_move2 5 7 (by kernel_rfl) (c_op 5 [] (by kernel_rfl) rfl (by kernel_rfl) (fun K hK => ?_)) (c_op 7 [] (by kernel_rfl) rfl (by kernel_rfl) (fun K hK => ?_))
        focus
          have hm := MB.out wa
          go_simp
          clear hm
          have EA := (Below.refl wa.heap.size wa).alloc (Nat.le_refl _) (.cells (zer n (.bool false)) 4)
          have NA : NewR wr0 4 n (List.replicate n (.bool false)) (slG wa.heap.size n n) (wa.alloc (.cells (zer n (.bool false)) 4)) := ⟨_, _, rfl, hsz, HB.out wa⟩
          replace BX := BX.alloc (.cells (zer n (.bool false)) 4)
          replace hb := below_then hb EA
          replace hsz := Nat.le_trans hsz EA.size
          clear EA
          refine hK.out _ _ trivial ?_
          clear K hK
          generalize wa.alloc (.cells (zer n (.bool false)) 4) = wb at *
          generalize wa.heap.size = gA at *
          clear wa
          try simp only [Act.put, List.setIfInBounds_toArray, List.set_cons_zero, List.set_cons_succ]
          refine c_P trivial 10 rfl ?_
          refine c_move2 7 11 (by kernel_rfl) (c_op 7 [] (by kernel_rfl) rfl (by kernel_rfl) (fun K hK => ?_)) (c_op 11 [] (by kernel_rfl) rfl (by kernel_rfl) (fun K hK => ?_))
          focus
            have hm := MV.out wb
            go_simp
            clear hm
            have EA := (Below.refl wb.heap.size wb).alloc (Nat.le_refl _) (.cells (zer n (.int .u16 0)) 24)
            have NV : NewR wr0 24 n (List.replicate n (.int .u16 0)) (slG wb.heap.size n n) (wb.alloc (.cells (zer n (.int .u16 0)) 24)) := ⟨_, _, rfl, hsz, HV.out wb⟩
            replace BX := BX.alloc (.cells (zer n (.int .u16 0)) 24)
            replace hb := below_then hb EA
            replace hsz := Nat.le_trans hsz EA.size
            replace NA := NA.ext EA
            clear EA
            refine hK.out _ _ trivial ?_
            clear K hK
            generalize wb.alloc (.cells (zer n (.int .u16 0)) 24) = wc at *
            generalize wb.heap.size = gV at *
            clear wb
            try simp only [Act.put, List.setIfInBounds_toArray, List.set_cons_zero, List.set_cons_succ]
            refine c_move 11 (by kernel_rfl) (c_op 11 [] (by kernel_rfl) rfl (by kernel_rfl) (fun K hK => ?_))
            have cc : wc.cell? ⟨w.heap.size, 1, none⟩ = some x0 := BX.cell 1
            have ff := BX.frozen 1
            go_simp
            clear cc ff
            replace NA := NewR.set (i := 1) (u := slG gA n n) NA BX (by decide)
            replace NV := NewR.set (i := 1) (u := slG gA n n) NV BX (by decide)
            replace BX := BX.set 1 (slG gA n n)
            replace hb := hb.setCell (p := ⟨w.heap.size, 1, none⟩) (Nat.le_refl _) (slG gA n n)
            replace hsz : wr0 ≤ (wc.setCell ⟨w.heap.size, 1, none⟩ (slG gA n n)).heap.size := by simpa using hsz
            refine hK.out _ _ trivial ?_
            clear K hK
            generalize wc.setCell ⟨w.heap.size, 1, none⟩ (slG gA n n) = wd at *
            clear wc
            try simp only [Act.put, List.setIfInBounds_toArray, List.set_cons_zero, List.set_cons_succ]
            refine c_P trivial 14 rfl ?_
            refine c_move 15 (by kernel_rfl) (c_op 15 [] (by kernel_rfl) rfl (by kernel_rfl) (fun K hK => ?_))
            have cc : wd.cell? ⟨w.heap.size, 3, none⟩ = some x2 := BX.cell 3
            have ff := BX.frozen 3
            go_simp
            clear cc ff
            replace NA := NewR.set (i := 3) (u := slG gV n n) NA BX (by decide)
            replace NV := NewR.set (i := 3) (u := slG gV n n) NV BX (by decide)
            replace BX := BX.set 3 (slG gV n n)
            replace hb := hb.setCell (p := ⟨w.heap.size, 3, none⟩) (Nat.le_refl _) (slG gV n n)
            replace hsz : wr0 ≤ (wd.setCell ⟨w.heap.size, 3, none⟩ (slG gV n n)).heap.size := by simpa using hsz
            refine hK.out _ _ trivial ?_
            clear K hK
            generalize wd.setCell ⟨w.heap.size, 3, none⟩ (slG gV n n) = we at *
            clear wd
            try simp only [Act.put, List.setIfInBounds_toArray, List.set_cons_zero, List.set_cons_succ]
            refine c_done (by kernel_rfl) ?_
            have HW := HWR.out
            rw [HW] at NA NV
            have RN : Hid (RNew w.heap.size w.heap.size n 1 _) := ⟨_, _, _, _, BX, fun _ => ⟨NA, NV⟩, fun h => by omega⟩
            clear BX NA NV HW HWR hsz
            go_wp2
            go_roundw
            case rel => exact ⟨1, by omega, by go_num, RN.out, hb⟩
            case measure => simp [intOf]
          focus
            have cc : wb.cell? ⟨w.heap.size, 1, none⟩ = some x0 := BX.cell 1
            have ff := BX.frozen 1
            go_simp
            clear cc ff
            replace NA := NewR.set (i := 1) (u := slG gA n n) NA BX (by decide)
            replace BX := BX.set 1 (slG gA n n)
            replace hb := hb.setCell (p := ⟨w.heap.size, 1, none⟩) (Nat.le_refl _) (slG gA n n)
            replace hsz : wr0 ≤ (wb.setCell ⟨w.heap.size, 1, none⟩ (slG gA n n)).heap.size := by simpa using hsz
            refine hK.out _ _ trivial ?_
            clear K hK
            generalize wb.setCell ⟨w.heap.size, 1, none⟩ (slG gA n n) = wc at *
            clear wb
            try simp only [Act.put, List.setIfInBounds_toArray, List.set_cons_zero, List.set_cons_succ]
            refine c_move 7 (by kernel_rfl) (c_op 7 [] (by kernel_rfl) rfl (by kernel_rfl) (fun K hK => ?_))
            have hm := MV.out wc
            go_simp
            clear hm
            have EA := (Below.refl wc.heap.size wc).alloc (Nat.le_refl _) (.cells (zer n (.int .u16 0)) 24)
            have NV : NewR wr0 24 n (List.replicate n (.int .u16 0)) (slG wc.heap.size n n) (wc.alloc (.cells (zer n (.int .u16 0)) 24)) := ⟨_, _, rfl, hsz, HV.out wc⟩
            replace BX := BX.alloc (.cells (zer n (.int .u16 0)) 24)
            replace hb := below_then hb EA
            replace hsz := Nat.le_trans hsz EA.size
            replace NA := NA.ext EA
            clear EA
            refine hK.out _ _ trivial ?_
            clear K hK
            generalize wc.alloc (.cells (zer n (.int .u16 0)) 24) = wd at *
            generalize wc.heap.size = gV at *
            clear wc
            try simp only [Act.put, List.setIfInBounds_toArray, List.set_cons_zero, List.set_cons_succ]
            refine c_P trivial 14 rfl ?_
            refine c_move 15 (by kernel_rfl) (c_op 15 [] (by kernel_rfl) rfl (by kernel_rfl) (fun K hK => ?_))
            have cc : wd.cell? ⟨w.heap.size, 3, none⟩ = some x2 := BX.cell 3
            have ff := BX.frozen 3
            go_simp
            clear cc ff
            replace NA := NewR.set (i := 3) (u := slG gV n n) NA BX (by decide)
            replace NV := NewR.set (i := 3) (u := slG gV n n) NV BX (by decide)
            replace BX := BX.set 3 (slG gV n n)
            replace hb := hb.setCell (p := ⟨w.heap.size, 3, none⟩) (Nat.le_refl _) (slG gV n n)
            replace hsz : wr0 ≤ (wd.setCell ⟨w.heap.size, 3, none⟩ (slG gV n n)).heap.size := by simpa using hsz
            refine hK.out _ _ trivial ?_
            clear K hK
            generalize wd.setCell ⟨w.heap.size, 3, none⟩ (slG gV n n) = we at *
            clear wd
            try simp only [Act.put, List.setIfInBounds_toArray, List.set_cons_zero, List.set_cons_succ]
            refine c_done (by kernel_rfl) ?_
            have HW := HWR.out
            rw [HW] at NA NV
            have RN : Hid (RNew w.heap.size w.heap.size n 1 _) := ⟨_, _, _, _, BX, fun _ => ⟨NA, NV⟩, fun h => by omega⟩
            clear BX NA NV HW HWR hsz
            go_wp2
            go_roundw
            case rel => exact ⟨1, by omega, by go_num, RN.out, hb⟩
            case measure => simp [intOf]
        focus
          have hm := MV.out wa
          go_simp
          clear hm
          have EA := (Below.refl wa.heap.size wa).alloc (Nat.le_refl _) (.cells (zer n (.int .u16 0)) 24)
          have NV : NewR wr0 24 n (List.replicate n (.int .u16 0)) (slG wa.heap.size n n) (wa.alloc (.cells (zer n (.int .u16 0)) 24)) := ⟨_, _, rfl, hsz, HV.out wa⟩
          replace BX := BX.alloc (.cells (zer n (.int .u16 0)) 24)
          replace hb := below_then hb EA
          replace hsz := Nat.le_trans hsz EA.size
          clear EA
          refine hK.out _ _ trivial ?_
          clear K hK
          generalize wa.alloc (.cells (zer n (.int .u16 0)) 24) = wb at *
          generalize wa.heap.size = gV at *
          clear wa
          try simp only [Act.put, List.setIfInBounds_toArray, List.set_cons_zero, List.set_cons_succ]
          refine c_move 5 (by kernel_rfl) (c_op 5 [] (by kernel_rfl) rfl (by kernel_rfl) (fun K hK => ?_))
          have hm := MB.out wb
          go_simp
          clear hm
          have EA := (Below.refl wb.heap.size wb).alloc (Nat.le_refl _) (.cells (zer n (.bool false)) 4)
          have NA : NewR wr0 4 n (List.replicate n (.bool false)) (slG wb.heap.size n n) (wb.alloc (.cells (zer n (.bool false)) 4)) := ⟨_, _, rfl, hsz, HB.out wb⟩
          replace BX := BX.alloc (.cells (zer n (.bool false)) 4)
          replace hb := below_then hb EA
          replace hsz := Nat.le_trans hsz EA.size
          replace NV := NV.ext EA
          clear EA
          refine hK.out _ _ trivial ?_
          clear K hK
          generalize wb.alloc (.cells (zer n (.bool false)) 4) = wc at *
          generalize wb.heap.size = gA at *
          clear wb
          try simp only [Act.put, List.setIfInBounds_toArray, List.set_cons_zero, List.set_cons_succ]
          refine c_P trivial 10 rfl ?_
          refine c_move 11 (by kernel_rfl) (c_op 11 [] (by kernel_rfl) rfl (by kernel_rfl) (fun K hK => ?_))
          have cc : wc.cell? ⟨w.heap.size, 1, none⟩ = some x0 := BX.cell 1
          have ff := BX.frozen 1
          go_simp
          clear cc ff
          replace NV := NewR.set (i := 1) (u := slG gA n n) NV BX (by decide)
          replace NA := NewR.set (i := 1) (u := slG gA n n) NA BX (by decide)
          replace BX := BX.set 1 (slG gA n n)
          replace hb := hb.setCell (p := ⟨w.heap.size, 1, none⟩) (Nat.le_refl _) (slG gA n n)
          replace hsz : wr0 ≤ (wc.setCell ⟨w.heap.size, 1, none⟩ (slG gA n n)).heap.size := by simpa using hsz
          refine hK.out _ _ trivial ?_
          clear K hK
          generalize wc.setCell ⟨w.heap.size, 1, none⟩ (slG gA n n) = wd at *
          clear wc
          try simp only [Act.put, List.setIfInBounds_toArray, List.set_cons_zero, List.set_cons_succ]
          refine c_P trivial 14 rfl ?_
          refine c_move 15 (by kernel_rfl) (c_op 15 [] (by kernel_rfl) rfl (by kernel_rfl) (fun K hK => ?_))
          have cc : wd.cell? ⟨w.heap.size, 3, none⟩ = some x2 := BX.cell 3
          have ff := BX.frozen 3
          go_simp
          clear cc ff
          replace NV := NewR.set (i := 3) (u := slG gV n n) NV BX (by decide)
          replace NA := NewR.set (i := 3) (u := slG gV n n) NA BX (by decide)
          replace BX := BX.set 3 (slG gV n n)
          replace hb := hb.setCell (p := ⟨w.heap.size, 3, none⟩) (Nat.le_refl _) (slG gV n n)
          replace hsz : wr0 ≤ (wd.setCell ⟨w.heap.size, 3, none⟩ (slG gV n n)).heap.size := by simpa using hsz
          refine hK.out _ _ trivial ?_
          clear K hK
          generalize wd.setCell ⟨w.heap.size, 3, none⟩ (slG gV n n) = we at *
          clear wd
          try simp only [Act.put, List.setIfInBounds_toArray, List.set_cons_zero, List.set_cons_succ]
          refine c_done (by kernel_rfl) ?_
          have HW := HWR.out
          rw [HW] at NA NV
          have RN : Hid (RNew w.heap.size w.heap.size n 1 _) := ⟨_, _, _, _, BX, fun _ => ⟨NA, NV⟩, fun h => by omega⟩
          clear BX NA NV HW HWR hsz
          go_wp2
          go_roundw
          case rel => exact ⟨1, by omega, by go_num, RN.out, hb⟩
          case measure => simp [intOf]
      · obtain ⟨O0, O2⟩ := HR1.out (by omega)
        clear HR1 hk h2
        go_wp2
        try go_upto_region 5 with fail
        refine c_begin 16 rfl (by kernel_rfl) ?_
        replace BX := BX.drew
        replace hb := hb.drew
        replace O0 := O0.ext (Below.refl _ _).drew
        replace O2 := O2.ext (Below.refl _ _).drew
        generalize wr.drew = wa at *
        clear wr
        refine c_P trivial 0 rfl ?_
        refine c_P trivial 1 rfl ?_
        refine c_P trivial 2 rfl ?_
        refine c_P trivial 3 rfl ?_
        refine c_P trivial 4 rfl ?_
        refine c_P trivial 6 rfl ?_
        refine c_P trivial 8 rfl ?_
        refine c_P trivial 9 rfl ?_
        refine c_P trivial 12 rfl ?_
        refine c_P trivial 13 rfl ?_
        obtain ⟨wr0, hwr0⟩ : ∃ q, q = w.heap.size := ⟨_, rfl⟩
        have hsz : wr0 ≤ wa.heap.size := by rw [hwr0]; exact hb.size
        rw [← hwr0] at O0
        rw [← hwr0] at O2
        have HWR := hidden hwr0
        clear hwr0
        refine c_move2 5 7 (by kernel_rfl) (c_op 5 [] (by kernel_rfl) rfl (by kernel_rfl) (fun K hK => ?_)) (c_op 7 [] (by kernel_rfl) rfl (by kernel_rfl) (fun K hK => ?_))
        focus
          have hm := MB.out wa
          go_simp
          clear hm
          have EA := (Below.refl wa.heap.size wa).alloc (Nat.le_refl _) (.cells (zer n (.bool false)) 4)
          have NA : NewR wr0 4 n (List.replicate n (.bool false)) (slG wa.heap.size n n) (wa.alloc (.cells (zer n (.bool false)) 4)) := ⟨_, _, rfl, hsz, HB.out wa⟩
          have DA := NewR.ne (n' := n) (c' := n) O0 (Nat.le_refl wa.heap.size)
          replace BX := BX.alloc (.cells (zer n (.bool false)) 4)
          replace hb := below_then hb EA
          replace hsz := Nat.le_trans hsz EA.size
          replace O0 := O0.ext EA
          replace O2 := O2.ext EA
          clear EA
          refine hK.out _ _ trivial ?_
          clear K hK
          generalize wa.alloc (.cells (zer n (.bool false)) 4) = wb at *
          generalize wa.heap.size = gA at *
          clear wa
          try simp only [Act.put, List.setIfInBounds_toArray, List.set_cons_zero, List.set_cons_succ]
          refine c_P trivial 10 rfl ?_
          refine c_move2 7 11 (by kernel_rfl) (c_op 7 [] (by kernel_rfl) rfl (by kernel_rfl) (fun K hK => ?_)) (c_op 11 [] (by kernel_rfl) rfl (by kernel_rfl) (fun K hK => ?_))
          focus
            have hm := MV.out wb
            go_simp
            clear hm
            have EA := (Below.refl wb.heap.size wb).alloc (Nat.le_refl _) (.cells (zer n (.int .u16 0)) 24)
            have NV : NewR wr0 24 n (List.replicate n (.int .u16 0)) (slG wb.heap.size n n) (wb.alloc (.cells (zer n (.int .u16 0)) 24)) := ⟨_, _, rfl, hsz, HV.out wb⟩
            have DV := NewR.ne (n' := n) (c' := n) O2 (Nat.le_refl wb.heap.size)
            replace BX := BX.alloc (.cells (zer n (.int .u16 0)) 24)
            replace hb := below_then hb EA
            replace hsz := Nat.le_trans hsz EA.size
            replace O0 := O0.ext EA
            replace O2 := O2.ext EA
            replace NA := NA.ext EA
            clear EA
            refine hK.out _ _ trivial ?_
            clear K hK
            generalize wb.alloc (.cells (zer n (.int .u16 0)) 24) = wc at *
            generalize wb.heap.size = gV at *
            clear wb
            try simp only [Act.put, List.setIfInBounds_toArray, List.set_cons_zero, List.set_cons_succ]
            refine c_move 11 (by kernel_rfl) (c_op 11 [] (by kernel_rfl) rfl (by kernel_rfl) (fun K hK => ?_))
            have cc : wc.cell? ⟨w.heap.size, 2, none⟩ = some x1 := BX.cell 2
            have ff := BX.frozen 2
            go_simp
            clear cc ff
            replace O0 := NewR.set (i := 2) (u := slG gA n n) O0 BX (by decide)
            replace O2 := NewR.set (i := 2) (u := slG gA n n) O2 BX (by decide)
            replace NA := NewR.set (i := 2) (u := slG gA n n) NA BX (by decide)
            replace NV := NewR.set (i := 2) (u := slG gA n n) NV BX (by decide)
            replace BX := BX.set 2 (slG gA n n)
            replace hb := hb.setCell (p := ⟨w.heap.size, 2, none⟩) (Nat.le_refl _) (slG gA n n)
            replace hsz : wr0 ≤ (wc.setCell ⟨w.heap.size, 2, none⟩ (slG gA n n)).heap.size := by simpa using hsz
            refine hK.out _ _ trivial ?_
            clear K hK
            generalize wc.setCell ⟨w.heap.size, 2, none⟩ (slG gA n n) = wd at *
            clear wc
            try simp only [Act.put, List.setIfInBounds_toArray, List.set_cons_zero, List.set_cons_succ]
            refine c_P trivial 14 rfl ?_
            refine c_move 15 (by kernel_rfl) (c_op 15 [] (by kernel_rfl) rfl (by kernel_rfl) (fun K hK => ?_))
            have cc : wd.cell? ⟨w.heap.size, 4, none⟩ = some x3 := BX.cell 4
            have ff := BX.frozen 4
            go_simp
            clear cc ff
            replace O0 := NewR.set (i := 4) (u := slG gV n n) O0 BX (by decide)
            replace O2 := NewR.set (i := 4) (u := slG gV n n) O2 BX (by decide)
            replace NA := NewR.set (i := 4) (u := slG gV n n) NA BX (by decide)
            replace NV := NewR.set (i := 4) (u := slG gV n n) NV BX (by decide)
            replace BX := BX.set 4 (slG gV n n)
            replace hb := hb.setCell (p := ⟨w.heap.size, 4, none⟩) (Nat.le_refl _) (slG gV n n)
            replace hsz : wr0 ≤ (wd.setCell ⟨w.heap.size, 4, none⟩ (slG gV n n)).heap.size := by simpa using hsz
            refine hK.out _ _ trivial ?_
            clear K hK
            generalize wd.setCell ⟨w.heap.size, 4, none⟩ (slG gV n n) = we at *
            clear wd
            try simp only [Act.put, List.setIfInBounds_toArray, List.set_cons_zero, List.set_cons_succ]
            refine c_done (by kernel_rfl) ?_
            have HW := HWR.out
            rw [HW] at NA NV O0 O2
            have RN : Hid (RNew w.heap.size w.heap.size n 2 _) := ⟨_, _, _, _, BX, fun _ => ⟨O0, O2⟩, fun _ => ⟨NA, NV, DA, DV⟩⟩
            clear BX NA NV HW HWR hsz O0 O2 DA DV
            go_wp2
            go_roundw
            case rel => exact ⟨2, by omega, by go_num, RN.out, hb⟩
            case measure => simp [intOf]
          focus
            have cc : wb.cell? ⟨w.heap.size, 2, none⟩ = some x1 := BX.cell 2
            have ff := BX.frozen 2
            go_simp
            clear cc ff
            replace O0 := NewR.set (i := 2) (u := slG gA n n) O0 BX (by decide)
            replace O2 := NewR.set (i := 2) (u := slG gA n n) O2 BX (by decide)
            replace NA := NewR.set (i := 2) (u := slG gA n n) NA BX (by decide)
            replace BX := BX.set 2 (slG gA n n)
            replace hb := hb.setCell (p := ⟨w.heap.size, 2, none⟩) (Nat.le_refl _) (slG gA n n)
            replace hsz : wr0 ≤ (wb.setCell ⟨w.heap.size, 2, none⟩ (slG gA n n)).heap.size := by simpa using hsz
            refine hK.out _ _ trivial ?_
            clear K hK
            generalize wb.setCell ⟨w.heap.size, 2, none⟩ (slG gA n n) = wc at *
            clear wb
            try simp only [Act.put, List.setIfInBounds_toArray, List.set_cons_zero, List.set_cons_succ]
            refine c_move 7 (by kernel_rfl) (c_op 7 [] (by kernel_rfl) rfl (by kernel_rfl) (fun K hK => ?_))
            have hm := MV.out wc
            go_simp
            clear hm
            have EA := (Below.refl wc.heap.size wc).alloc (Nat.le_refl _) (.cells (zer n (.int .u16 0)) 24)
            have NV : NewR wr0 24 n (List.replicate n (.int .u16 0)) (slG wc.heap.size n n) (wc.alloc (.cells (zer n (.int .u16 0)) 24)) := ⟨_, _, rfl, hsz, HV.out wc⟩
            have DV := NewR.ne (n' := n) (c' := n) O2 (Nat.le_refl wc.heap.size)
            replace BX := BX.alloc (.cells (zer n (.int .u16 0)) 24)
            replace hb := below_then hb EA
            replace hsz := Nat.le_trans hsz EA.size
            replace O0 := O0.ext EA
            replace O2 := O2.ext EA
            replace NA := NA.ext EA
            clear EA
            refine hK.out _ _ trivial ?_
            clear K hK
            generalize wc.alloc (.cells (zer n (.int .u16 0)) 24) = wd at *
            generalize wc.heap.size = gV at *
            clear wc
            try simp only [Act.put, List.setIfInBounds_toArray, List.set_cons_zero, List.set_cons_succ]
            refine c_P trivial 14 rfl ?_
            refine c_move 15 (by kernel_rfl) (c_op 15 [] (by kernel_rfl) rfl (by kernel_rfl) (fun K hK => ?_))
            have cc : wd.cell? ⟨w.heap.size, 4, none⟩ = some x3 := BX.cell 4
            have ff := BX.frozen 4
            go_simp
            clear cc ff
            replace O0 := NewR.set (i := 4) (u := slG gV n n) O0 BX (by decide)
            replace O2 := NewR.set (i := 4) (u := slG gV n n) O2 BX (by decide)
            replace NA := NewR.set (i := 4) (u := slG gV n n) NA BX (by decide)
            replace NV := NewR.set (i := 4) (u := slG gV n n) NV BX (by decide)
            replace BX := BX.set 4 (slG gV n n)
            replace hb := hb.setCell (p := ⟨w.heap.size, 4, none⟩) (Nat.le_refl _) (slG gV n n)
            replace hsz : wr0 ≤ (wd.setCell ⟨w.heap.size, 4, none⟩ (slG gV n n)).heap.size := by simpa using hsz
            refine hK.out _ _ trivial ?_
            clear K hK
            generalize wd.setCell ⟨w.heap.size, 4, none⟩ (slG gV n n) = we at *
            clear wd
            try simp only [Act.put, List.setIfInBounds_toArray, List.set_cons_zero, List.set_cons_succ]
            refine c_done (by kernel_rfl) ?_
            have HW := HWR.out
            rw [HW] at NA NV O0 O2
            have RN : Hid (RNew w.heap.size w.heap.size n 2 _) := ⟨_, _, _, _, BX, fun _ => ⟨O0, O2⟩, fun _ => ⟨NA, NV, DA, DV⟩⟩
            clear BX NA NV HW HWR hsz O0 O2 DA DV
            go_wp2
            go_roundw
            case rel => exact ⟨2, by omega, by go_num, RN.out, hb⟩
            case measure => simp [intOf]
        focus
          have hm := MV.out wa
          go_simp
          clear hm
          have EA := (Below.refl wa.heap.size wa).alloc (Nat.le_refl _) (.cells (zer n (.int .u16 0)) 24)
          have NV : NewR wr0 24 n (List.replicate n (.int .u16 0)) (slG wa.heap.size n n) (wa.alloc (.cells (zer n (.int .u16 0)) 24)) := ⟨_, _, rfl, hsz, HV.out wa⟩
          have DV := NewR.ne (n' := n) (c' := n) O2 (Nat.le_refl wa.heap.size)
          replace BX := BX.alloc (.cells (zer n (.int .u16 0)) 24)
          replace hb := below_then hb EA
          replace hsz := Nat.le_trans hsz EA.size
          replace O0 := O0.ext EA
          replace O2 := O2.ext EA
          clear EA
          refine hK.out _ _ trivial ?_
          clear K hK
          generalize wa.alloc (.cells (zer n (.int .u16 0)) 24) = wb at *
          generalize wa.heap.size = gV at *
          clear wa
          try simp only [Act.put, List.setIfInBounds_toArray, List.set_cons_zero, List.set_cons_succ]
          refine c_move 5 (by kernel_rfl) (c_op 5 [] (by kernel_rfl) rfl (by kernel_rfl) (fun K hK => ?_))
          have hm := MB.out wb
          go_simp
          clear hm
          have EA := (Below.refl wb.heap.size wb).alloc (Nat.le_refl _) (.cells (zer n (.bool false)) 4)
          have NA : NewR wr0 4 n (List.replicate n (.bool false)) (slG wb.heap.size n n) (wb.alloc (.cells (zer n (.bool false)) 4)) := ⟨_, _, rfl, hsz, HB.out wb⟩
          have DA := NewR.ne (n' := n) (c' := n) O0 (Nat.le_refl wb.heap.size)
          replace BX := BX.alloc (.cells (zer n (.bool false)) 4)
          replace hb := below_then hb EA
          replace hsz := Nat.le_trans hsz EA.size
          replace O0 := O0.ext EA
          replace O2 := O2.ext EA
          replace NV := NV.ext EA
          clear EA
          refine hK.out _ _ trivial ?_
          clear K hK
          generalize wb.alloc (.cells (zer n (.bool false)) 4) = wc at *
          generalize wb.heap.size = gA at *
          clear wb
          try simp only [Act.put, List.setIfInBounds_toArray, List.set_cons_zero, List.set_cons_succ]
          refine c_P trivial 10 rfl ?_
          refine c_move 11 (by kernel_rfl) (c_op 11 [] (by kernel_rfl) rfl (by kernel_rfl) (fun K hK => ?_))
          have cc : wc.cell? ⟨w.heap.size, 2, none⟩ = some x1 := BX.cell 2
          have ff := BX.frozen 2
          go_simp
          clear cc ff
          replace O0 := NewR.set (i := 2) (u := slG gA n n) O0 BX (by decide)
          replace O2 := NewR.set (i := 2) (u := slG gA n n) O2 BX (by decide)
          replace NV := NewR.set (i := 2) (u := slG gA n n) NV BX (by decide)
          replace NA := NewR.set (i := 2) (u := slG gA n n) NA BX (by decide)
          replace BX := BX.set 2 (slG gA n n)
          replace hb := hb.setCell (p := ⟨w.heap.size, 2, none⟩) (Nat.le_refl _) (slG gA n n)
          replace hsz : wr0 ≤ (wc.setCell ⟨w.heap.size, 2, none⟩ (slG gA n n)).heap.size := by simpa using hsz
          refine hK.out _ _ trivial ?_
          clear K hK
          generalize wc.setCell ⟨w.heap.size, 2, none⟩ (slG gA n n) = wd at *
          clear wc
          try simp only [Act.put, List.setIfInBounds_toArray, List.set_cons_zero, List.set_cons_succ]
          refine c_P trivial 14 rfl ?_
          refine c_move 15 (by kernel_rfl) (c_op 15 [] (by kernel_rfl) rfl (by kernel_rfl) (fun K hK => ?_))
          have cc : wd.cell? ⟨w.heap.size, 4, none⟩ = some x3 := BX.cell 4
          have ff := BX.frozen 4
          go_simp
          clear cc ff
          replace O0 := NewR.set (i := 4) (u := slG gV n n) O0 BX (by decide)
          replace O2 := NewR.set (i := 4) (u := slG gV n n) O2 BX (by decide)
          replace NV := NewR.set (i := 4) (u := slG gV n n) NV BX (by decide)
          replace NA := NewR.set (i := 4) (u := slG gV n n) NA BX (by decide)
          replace BX := BX.set 4 (slG gV n n)
          replace hb := hb.setCell (p := ⟨w.heap.size, 4, none⟩) (Nat.le_refl _) (slG gV n n)
          replace hsz : wr0 ≤ (wd.setCell ⟨w.heap.size, 4, none⟩ (slG gV n n)).heap.size := by simpa using hsz
          refine hK.out _ _ trivial ?_
          clear K hK
          generalize wd.setCell ⟨w.heap.size, 4, none⟩ (slG gV n n) = we at *
          clear wd
          try simp only [Act.put, List.setIfInBounds_toArray, List.set_cons_zero, List.set_cons_succ]
          refine c_done (by kernel_rfl) ?_
          have HW := HWR.out
          rw [HW] at NA NV O0 O2
          have RN : Hid (RNew w.heap.size w.heap.size n 2 _) := ⟨_, _, _, _, BX, fun _ => ⟨O0, O2⟩, fun _ => ⟨NA, NV, DA, DV⟩⟩
          clear BX NA NV HW HWR hsz O0 O2 DA DV
          go_wp2
          go_roundw
          case rel => exact ⟨2, by omega, by go_num, RN.out, hb⟩
          case measure => simp [intOf]

end Go.Proofs.Ytaabjgdomookkaa
