/- The walk of burgagelaw6's MbapNumbers, given the contract of Message. -/
import Derived.Test.YtejcigeccmfeeaaJ3
import Derived.Orders
import Derived.Tactics
import Derived.Deep.Cut
namespace Go.Proofs.Ytejcigeccmfeeaa
open Go.RowKit

theorem xor_pow6 (x : UInt8) (t : Nat) (h : t < 8) : ∃ y : UInt8, bits BinOp.xor IntKind.u8 (x.toNat : Int) ((2 : Int) ^ t % 256) = (y.toNat : Int) := by
  obtain ⟨e, hl⟩ := pow8 t h
  have hz : x.toNat ^^^ 2 ^ t < 256 := Nat.xor_lt_two_pow (n := 8) x.toNat_lt hl
  have hy : (UInt8.ofNat (x.toNat ^^^ 2 ^ t)).toNat = x.toNat ^^^ 2 ^ t := by rw [UInt8.toNat_ofNat']; omega
  exact ⟨UInt8.ofNat (x.toNat ^^^ 2 ^ t), by rw [hy, e, u8_xor_nat _ _ x.toNat_lt hl]⟩

set_option maxRecDepth 100000 in
set_option maxHeartbeats 4000000 in
theorem mnumbers_law (hM : TmsgOk) (w : World) : Calls Try.prog 3 #[] w fun e w' => e = .returned (.bool true) ∧ Below w.heap.size w w' := by
  have HM := hidden hM
  clear hM
  go_enter Try.func3, Try.ntmps3
  go_wp2
  go_loopw [1, 2, 3, 4, 5] (fun z1 _ _ _ _ wr => ∃ k : Nat, k ≤ 40 ∧ z1 = .int .i64 (k : Int) ∧ Below w.heap.size w wr) (fun i _ _ _ _ _ => 40 - (intOf i).toNat)
  case atStart => exact ⟨0, by omega, rfl, Below.refl _ _⟩
  case round =>
    obtain ⟨k, hk, rfl, hb⟩ := hrel
    by_cases hlt : k < 40
    · have hlt' : (k : Int) < 40 := by omega
      obtain ⟨wo, hwo⟩ : ∃ wo, wo = wr := ⟨_, rfl⟩
      subst hwo
      have zo := hb.size
      go_wp2
      go_loopw [2, 3] (fun z i wr => ∃ (j : Nat) (l : List Int), j ≤ 30 ∧ i = .int .i64 (j : Int) ∧ wr.ownsRow wo.heap.size 3 1 z j (l.map (Value.int .i64)) ∧ Hid (∀ x ∈ l, -9223372036854775808 ≤ x ∧ x ≤ 9223372036854775807) ∧ Below wo.heap.size wo wr) (fun _ i _ => 30 - (intOf i).toNat)
      case atStart => exact ⟨0, [], by omega, rfl, World.ownsRow_nil _ _ _ _, (fun x hx => by simp at hx), Below.refl _ _⟩
      case round =>
        obtain ⟨j, l, hj, rfl, ho, HL, hbj⟩ := hrel
        have hz := hbj.size
        by_cases hlj : j < 30
        · have hlj' : (j : Int) < 30 := by omega
          have p3 : (j : Int) * k ≤ 1200 := by
            have := Nat.mul_le_mul hj hk
            have e : ((j * k : Nat) : Int) = (j : Int) * k := by simp
            omega
          have p2 : 0 ≤ (j : Int) * k := by
            have e : ((j * k : Nat) : Int) = (j : Int) * k := by simp
            omega
          obtain ⟨t, ht⟩ : ∃ t, ((j : Int) * k + (k : Int)) % 21 = t := ⟨_, rfl⟩
          have t0 : 0 ≤ t := by omega
          have t1 : t ≤ 20 := by omega
          have RN := row_new wr [.int .i64 t] 3 1 rfl (by decide)
          go_wp2_with (at_builtin; refine wpList_app rfl (.tmp 16) (.tmp 23) 22 rfl wo.heap.size 3 (.int .i64 0) 8 Try.underlying22 info_int6 rfl rfl (ho.alloc _) rfl RN (by intro u hu; simp at hu; subst hu; rfl) (by simp [maxLen]; omega) (by simp; omega) (by simp; omega) ?_)
          intro v7 w7 ho7 hg7
          have B7 := (hbj.alloc hz (.cells #[.int .i64 t] 3)).grown hg7 (by simp; omega) (fun k hk => (ho.lt k hk).1)
          clear ht p2 p3 RN
          go_wp2
          go_roundw
          case rel => exact ⟨j + 1, l ++ [t], by omega, by go_num, by simpa using ho7, fun y hy => by
            rcases List.mem_append.1 hy with h | h
            · exact HL.out y h
            · simp at h; omega, B7⟩
          case measure => simp [intOf]; omega
        · have hlj' : ¬ (j : Int) < 30 := by omega
          obtain ⟨an, cn, rfl⟩ : ∃ a c, u2 = .slice a j c := by
            obtain ⟨a, c, e, -⟩ := Row.of_owns ho
            have := ho.1
            exact ⟨a, c, by rw [e]; congr 1; omega⟩
          have RN := Row.of_owns ho
          clear ho hlj
          replace hb := hb.trans (hbj.mono hb.size)
          clear hbj zo hz
          go_wp2_with fail
          refine (tape_law6 k _ (by omega)).mono ?_
          rintro e w1 ⟨v1, rfl, lt, Rt, hti, B1⟩
          obtain ⟨at', ct, rfl, -⟩ := id Rt
          simp only [List.length_map] at Rt
          go_wp2_with fail
          refine (cuts_any HM.out _ _ lt l _ Rt hti (RN.below B1) HL.out).mono ?_
          rintro e w2 ⟨v2, yss, rfl, R2, y1, y2, yl, B2⟩
          replace hb := hb.trans ((below_then B1 B2).mono hb.size)
          clear B1 B2 Rt RN hti HL
          obtain ⟨a1, c1, vs, rfl, hc1, hc2, hvl, RV, hvs⟩ := R2.ex
          unfold maxLen at hc2
          go_wp2_with fail
          refine (play_any _ yss _ R2 (fun i => by have := yl i; omega)).mono ?_
          rintro e w3 ⟨rfl, B3⟩
          have z2 := hb.size
          replace hb := hb.trans (B3.mono hb.size)
          replace RV := RV.below B3
          replace hvs : ∀ i, i < yss.length → ∃ u, vs[i]? = some u ∧ Row w3 u ((yss.getD i []).map bV) := fun i hi => by
            obtain ⟨u, e, r⟩ := hvs i hi
            exact ⟨u, e, r.below B3⟩
          clear R2 B3
          obtain ⟨u0, hu0, r0⟩ := hvs 0 y1
          obtain ⟨b1, o1, rfl, hcell⟩ : ∃ b o, a1 = some ⟨b, o, none⟩ ∧ w3.cell? ⟨b, o, none⟩ = some u0 := by
            obtain ⟨a, c, e, -, -, -, h⟩ := RV
            simp only [Value.slice.injEq] at e
            obtain ⟨rfl, -, -⟩ := e
            rcases h with h | ⟨b, o, h, hc⟩
            · rw [h] at hvl; simp at hvl; omega
            · exact ⟨b, o, h, by have := hc 0 (by omega); rw [Nat.add_zero] at this; rw [this, hu0]⟩
          have HVS := hidden hvs
          have HYL := hidden yl
          have yl0 := yl 0
          clear hvs yl
          generalize yss.getD 0 [] = X at *
          obtain ⟨ax, cx, rfl, -⟩ := id r0
          simp only [List.length_map] at r0 hcell hu0
          have A1 : Below w3.heap.size w3 (w3.alloc (.cells #[] 5)) := (Below.refl _ _).alloc (Nat.le_refl _) _
          have O1 : (w3.alloc (.cells #[] 5)).ownsRow w3.heap.size 5 1 (.slice (some ⟨w3.heap.size, 0, none⟩) 0 0) 0 [] :=
            ⟨rfl, .inr ⟨w3.heap.size, 0, #[], rfl, Nat.le_refl _, heap_alloc_new w3 _, Nat.zero_le _, by unfold maxLen; omega, by simp, by simp⟩⟩
          have hcell1 := cell_step hcell A1
          have y1' : (0 : Int) < (yss.length : Int) := by omega
          go_wp2_with (at_builtin; refine wpList_app rfl (.tmp 32) (.tmp 35) 27 rfl w3.heap.size 5 (.int .u8 0) 1 Try.underlying27 info_u8 rfl rfl O1 rfl (r0.below A1) (one_bytes X) (by simp [maxLen]; omega) (by simp; omega) (by simp) ?_)
          intro v4 w4 o4 hg4
          have B4 : Below w3.heap.size w3 w4 := A1.grown hg4 (by simp) (fun k hk => (O1.lt k hk).1)
          replace o4 : w4.ownsRow w3.heap.size 5 1 v4 X.length (X.map bV) := by simpa using o4
          obtain ⟨a2, c2, rfl⟩ : ∃ a c, v4 = .slice a X.length c := by
            obtain ⟨a, c, e, -⟩ := Row.of_owns o4
            exact ⟨a, c, by simpa using e⟩
          clear A1 O1 hg4 hcell1 hcell r0 hu0
          rcases Nat.lt_or_ge 0 X.length with hx0 | hx0
          focus
            obtain ⟨g2, c2', e2, hg2⟩ := owns_some o4 hx0
            simp only [Value.slice.injEq] at e2
            obtain ⟨rfl, -, -⟩ := e2
            have hx0' : (0 : Int) < (X.length : Int) := by omega
            have hxn : ((X.length : Int) == 0) = false := by rw [beq_eq_false_iff_ne]; omega
            have hmk : k % X.length < X.length := Nat.mod_lt _ hx0
            have hmk' : ((k : Int) % (X.length : Int)) < (X.length : Int) := Int.emod_lt_of_pos _ (by omega)
            have hmk0 : 0 ≤ (k : Int) % (X.length : Int) := Int.emod_nonneg _ (by omega)
            obtain ⟨y, hy⟩ := xor_pow6 (X.getD (k % X.length) 0) (k % 8) (by omega)
            have HY := hidden hy
            obtain ⟨q1, q2, q3, q4⟩ := own_set o4 (k % X.length) hmk y
            generalize X.getD (k % X.length) 0 = xx at *
            have hx1 := xx.toNat_lt
            obtain ⟨wz, hwz⟩ : ∃ wz, w4.setCell ⟨g2, k % X.length, none⟩ (.int .u8 (y.toNat : Int)) = wz := ⟨_, rfl⟩
            rw [bV, hwz] at q3 q4
            have hwz' : w4.setCell ⟨g2, k % X.length, none⟩ (.int .u8 (bits BinOp.xor IntKind.u8 (xx.toNat : Int) ((2 : Int) ^ (k % 8) % 256))) = wz := by rw [HY.out]; exact hwz
            clear hy hwz
            go_upto_region 15 with fail
            have hX' : Hid ((X.set (k % X.length) y).length = X.length) := by show _ = _; simp
            have RX := q3
            have B5 := B4.trans q4
            clear q1 q2 q3 q4 hwz' HY o4 B4
            generalize X.set (k % X.length) y = X' at *
            obtain ⟨w5, hw5⟩ : ∃ w5, w5 = wz := ⟨_, rfl⟩
            subst hw5
            obtain ⟨a2, ha2⟩ : ∃ a2, a2 = some (⟨g2, 0, none⟩ : Addr) := ⟨_, rfl⟩
            rw [← ha2] at RX ⊢
            clear ha2
          rotate_left
          focus
            have hx0' : ¬ (0 : Int) < (X.length : Int) := by omega
            go_upto_region 15 with fail
            have B5 := B4
            obtain ⟨X', hX2⟩ : ∃ X', X' = X := ⟨_, rfl⟩
            have RX : Row w4 (.slice a2 X.length c2) (X'.map bV) := by rw [hX2]; exact Row.of_owns o4
            have hX' : Hid (X'.length = X.length) := by rw [hX2]; rfl
            clear hX2 o4 B4
            obtain ⟨w5, hw5⟩ : ∃ w5, w5 = w4 := ⟨_, rfl⟩
            subst hw5
          all_goals
            replace hb := hb.trans (B5.mono hb.size)
            replace RV := RV.below B5
            replace HVS : Hid (∀ i, i < yss.length → ∃ u, vs[i]? = some u ∧ Row w5 u ((yss.getD i []).map bV)) := fun i hi => by
              obtain ⟨u, e, r⟩ := HVS.out i hi
              exact ⟨u, e, r.below B5⟩
            clear B5
            have H1 := hidden (one_slices hvl HVS.out)
            obtain ⟨ad, had⟩ : ∃ ad, (if c1 = 1 then some (⟨b1, o1, none⟩ : Addr) else some ⟨b1, o1 + 1, none⟩) = ad := ⟨_, rfl⟩
            have RC : Row w5 (.slice ad (yss.length - 1) (c1 - 1)) (vs.drop 1) := by
              have h1 : RowO (fun _ => False) w5 (.slice (some ⟨b1, o1, none⟩) yss.length c1) vs := ⟨RV, fun k hk => ⟨fun h => h, by
                simp [Value.ownBlock] at hk
                subst hk
                exact RV.lt (by omega)⟩⟩
              have := (h1.cut 1 (by omega)).1
              rwa [had] at this
            have y1'' : (1 : Int) ≤ (yss.length : Int) := by omega
            have L1 : Below w5.heap.size w5 (w5.alloc (.cells #[.slice a2 X.length c2] 27)) := (Below.refl _ _).alloc (Nat.le_refl _) _
            have OL : (w5.alloc (.cells #[.slice a2 X.length c2] 27)).ownsRow w5.heap.size 27 1 (.slice (some ⟨w5.heap.size, 0, none⟩) 1 1) 1 [.slice a2 X.length c2] :=
              ⟨rfl, .inr ⟨w5.heap.size, 1, #[.slice a2 X.length c2], rfl, Nat.le_refl _, heap_alloc_new w5 _, Nat.le_refl _, by decide, rfl, rfl⟩⟩
            go_wp2_with (at_builtin; refine wpList_app rfl (.tmp 54) (.tmp 56) 23 rfl w5.heap.size 27 (.slice none 0 0) 24 Try.underlying23 info_row6 rfl rfl OL rfl (RC.below L1) (fun u hu => H1.out u (List.mem_of_mem_drop hu)) (by simp [maxLen]; omega) (by simp; omega) (by simp) ?_)
            intro v57 w6 o57 hg57
            have E6 : Below w5.heap.size w5 w6 := L1.grown hg57 (by simp) (fun k hk => (OL.lt k hk).1)
            have RS : RowsB w6 v57 (X' :: yss.drop 1) := RowsB.swap (by have h := Row.of_owns o57; simpa using h) (RX.below E6) hvl (fun i hi => by
              obtain ⟨u, e, r⟩ := HVS.out i hi
              exact ⟨u, e, r.below E6⟩)
            have HSL := hidden (swap_len X' yss 2000000000000 (by have := hX'.out; omega) (fun i => by have := HYL.out i; omega))
            replace hb := hb.trans (E6.mono hb.size)
            clear L1 OL o57 hg57 RC E6 H1 RV HVS RX HYL
            go_wp2_with fail
            refine (play_any _ _ _ RS HSL.out).mono ?_
            rintro e w7 ⟨rfl, E7⟩
            replace hb := hb.trans (E7.mono hb.size)
            clear E7 RS HSL
            go_wp2
            go_roundw
            case rel => exact ⟨k + 1, by omega, by go_num, hb⟩
            case measure => simp [intOf]; omega
    · have hlt' : ¬ (k : Int) < 40 := by omega
      clear hlt hk HM
      go_wp2
      go_loopw [6, 7] (fun z6 _ wr => ∃ n : Nat, n ≤ 306 ∧ z6 = .int .i64 (n : Int) ∧ Below w.heap.size w wr) (fun i _ _ => 307 - (intOf i).toNat)
      case atStart => exact ⟨0, by omega, rfl, hb⟩
      case round =>
        clear hb
        obtain ⟨n, hn, rfl, hb⟩ := hrel
        by_cases hln : n < 300
        · have hln' : (n : Int) < 300 := by omega
          have w999 : IntKind.i64.wrap ((n : Int) * 999) = (n : Int) * 999 := by rw [IntKind.wrap_i64]; omega
          have hmk := mk_zer 27 5 (.int .u8 0) 1 Try.underlying27 info_u8 rfl (n : Int) n rfl (by omega) (by omega) wr
          have RZ := zeros_row wr n (by unfold maxLen; omega)
          have AZ : Below wr.heap.size wr (wr.alloc (.cells (zer n (.int .u8 0)) 5)) := (Below.refl _ _).alloc (Nat.le_refl _) _
          have hgz : wr.heap.size < (wr.alloc (.cells (zer n (.int .u8 0)) 5)).heap.size := by simp
          have RZL : Hid ((List.replicate n (0 : UInt8)).length = n) := by show _ = _; simp
          generalize List.replicate n (0 : UInt8) = Z at *
          generalize wr.alloc (.cells (zer n (.int .u8 0)) 5) = wa at *
          have AM : Below wa.heap.size wa (wa.alloc (.cells #[.int .i64 ((n : Int) * 999), .int .i64 (n : Int), .slice (some ⟨wr.heap.size, 0, none⟩) n n] 30)) := (Below.refl _ _).alloc (Nat.le_refl _) _
          have XM := Blk.new wa 30 [.int .i64 ((n : Int) * 999), .int .i64 (n : Int), .slice (some ⟨wr.heap.size, 0, none⟩) n n]
          go_wp2
          refine c_begin 26 rfl (by kernel_rfl) ?_
          have ED := below_then AM (Below.refl (wa.alloc (.cells #[.int .i64 ((n : Int) * 999), .int .i64 (n : Int), .slice (some ⟨wr.heap.size, 0, none⟩) n n] 30)).heap.size _).drew
          have EA := below_then AZ ED
          replace XM := XM.drew
          replace RZ := RZ.below ED
          replace hb := hb.trans (EA.mono hb.size)
          generalize hg7 : wa.heap.size = g7 at *
          clear ED EA AM AZ hg7 hmk
          generalize (wa.alloc (.cells #[.int .i64 ((n : Int) * 999), .int .i64 (n : Int), .slice (some ⟨wr.heap.size, 0, none⟩) n n] 30)).drew = c0 at *
          generalize hgr : wr.heap.size = gr at *
          clear hgr
          have x0 := Ext.refl c0
          have RD := hidden (fun w' (hx : Ext c0 w') => (⟨cell_of (i := 0) (XM.below hx XM.lt) rfl, cell_of (i := 1) (XM.below hx XM.lt) rfl, cell_of (i := 2) (XM.below hx XM.lt) rfl⟩ : _ ∧ _ ∧ _))
          refine c_read (fun w' => Ext c0 w') x0 trivial (by kernel_rfl) (fun _ _ _ d _ h => by cases d <;> exact h) 0 rfl (by kernel_rfl) (by kernel_rfl) (fun w' hx => by obtain ⟨y0, y1, y2⟩ := RD.out w' hx; go_simp; with_reducible rfl) ?_; try simp only [Act.put, List.setIfInBounds_toArray, List.set_cons_zero, List.set_cons_succ]
          refine c_pure ⟨x0, trivial⟩ (by kernel_rfl) (fun _ _ _ d _ h => by cases d <;> exact h) 3 rfl (by kernel_rfl) (by kernel_rfl) (fun w' => by go_simp; with_reducible rfl) ?_; try simp only [Act.put, List.setIfInBounds_toArray, List.set_cons_zero, List.set_cons_succ]
          refine c_read (fun w' => Ext c0 w') x0 ⟨x0, trivial⟩ (by kernel_rfl) (fun _ _ _ d _ h => by cases d <;> exact h) 4 rfl (by kernel_rfl) (by kernel_rfl) (fun w' hx => by obtain ⟨y0, y1, y2⟩ := RD.out w' hx; go_simp; with_reducible rfl) ?_; try simp only [Act.put, List.setIfInBounds_toArray, List.set_cons_zero, List.set_cons_succ]
          refine c_pure ⟨x0, x0, trivial⟩ (by kernel_rfl) (fun _ _ _ d _ h => by cases d <;> exact h) 5 rfl (by kernel_rfl) (by kernel_rfl) (fun w' => by go_simp; with_reducible rfl) ?_; try simp only [Act.put, List.setIfInBounds_toArray, List.set_cons_zero, List.set_cons_succ]
          refine c_read (fun w' => Ext c0 w') x0 ⟨x0, x0, trivial⟩ (by kernel_rfl) (fun _ _ _ d _ h => by cases d <;> exact h) 6 rfl (by kernel_rfl) (by kernel_rfl) (fun w' hx => by obtain ⟨y0, y1, y2⟩ := RD.out w' hx; go_simp; with_reducible rfl) ?_; try simp only [Act.put, List.setIfInBounds_toArray, List.set_cons_zero, List.set_cons_succ]
          refine c_pure ⟨x0, x0, x0, trivial⟩ (by kernel_rfl) (fun _ _ _ d _ h => by cases d <;> exact h) 7 rfl (by kernel_rfl) (by kernel_rfl) (fun w' => by go_simp; with_reducible rfl) ?_; try simp only [Act.put, List.setIfInBounds_toArray, List.set_cons_zero, List.set_cons_succ]
          refine c_read (fun w' => Ext c0 w') x0 ⟨x0, x0, x0, trivial⟩ (by kernel_rfl) (fun _ _ _ d _ h => by cases d <;> exact h) 8 rfl (by kernel_rfl) (by kernel_rfl) (fun w' hx => by obtain ⟨y0, y1, y2⟩ := RD.out w' hx; go_simp; with_reducible rfl) ?_; try simp only [Act.put, List.setIfInBounds_toArray, List.set_cons_zero, List.set_cons_succ]
          refine c_pure ⟨x0, x0, x0, x0, trivial⟩ (by kernel_rfl) (fun _ _ _ d _ h => by cases d <;> exact h) 9 rfl (by kernel_rfl) (by kernel_rfl) (fun w' => by go_simp; with_reducible rfl) ?_; try simp only [Act.put, List.setIfInBounds_toArray, List.set_cons_zero, List.set_cons_succ]
          refine c_move 1 (by kernel_rfl) (c_op 1 [(8, (fun w' => Ext c0 w')), (6, (fun w' => Ext c0 w')), (4, (fun w' => Ext c0 w'))] (by kernel_rfl) rfl (by kernel_rfl) (fun K hK => ?_))
          go_wp2_with fail
          refine (mbytes_any ((n : Int) * 999) (n : Int) _ Z _ (by omega) RZ).mono ?_
          rintro e c1 ⟨v71, rfl, o71, b1⟩
          have R71 := Row.of_owns o71
          have e1 : Ext c0 c1 := b1
          have x1 := Ext.refl c1
          have HC1 := hidden (fun w' (hx : Ext c1 w') => conv_row (P := Try.prog) (R71.below hx) 27 9 5 Try.underlying27 Try.underlying5 Try.underlying9)
          go_simp
          refine hK.out _ _ ⟨e1, e1, e1, trivial⟩ ?_
          clear K hK
          try simp only [Act.put, List.setIfInBounds_toArray, List.set_cons_zero, List.set_cons_succ]
          refine c_read (fun w' => Ext c1 w') x1 ⟨e1, e1, e1, trivial⟩ (by kernel_rfl) (fun _ _ _ d _ h => by cases d <;> exact h) 2 rfl (by kernel_rfl) (by kernel_rfl) (fun w' hx => by have y0 := HC1.out w' hx; go_simp; with_reducible rfl) ?_; try simp only [Act.put, List.setIfInBounds_toArray, List.set_cons_zero, List.set_cons_succ]
          refine c_move 10 (by kernel_rfl) (c_op 10 [(2, (fun w' => Ext c1 w')), (8, (fun w' => Ext c0 w')), (6, (fun w' => Ext c0 w')), (4, (fun w' => Ext c0 w'))] (by kernel_rfl) rfl (by kernel_rfl) (fun K hK => ?_))
          go_wp2_with fail
          refine (r5bytes_any ((n : Int) * 999) (n : Int) _ Z _ (by omega) (RZ.below e1)).mono ?_
          rintro e c2 ⟨v80, rfl, o80, b2⟩
          have R80 := Row.of_owns o80
          have f2 : Ext c1 c2 := b2
          have e2 := Ext.trans e1 f2
          have x2 := Ext.refl c2
          have HC2 := hidden (fun w' (hx : Ext c2 w') => conv_row (P := Try.prog) (R80.below hx) 27 9 5 Try.underlying27 Try.underlying5 Try.underlying9)
          go_simp
          refine hK.out _ _ ⟨f2, e2, e2, e2, trivial⟩ ?_
          clear K hK
          try simp only [Act.put, List.setIfInBounds_toArray, List.set_cons_zero, List.set_cons_succ]
          refine c_read (fun w' => Ext c2 w') x2 ⟨f2, e2, e2, e2, trivial⟩ (by kernel_rfl) (fun _ _ _ d _ h => by cases d <;> exact h) 11 rfl (by kernel_rfl) (by kernel_rfl) (fun w' hx => by have y0 := HC2.out w' hx; go_simp; with_reducible rfl) ?_; try simp only [Act.put, List.setIfInBounds_toArray, List.set_cons_zero, List.set_cons_succ]
          have wn8 : IntKind.u8.wrap ((n : Int) / 256) = (n : Int) / 256 := by rw [IntKind.wrap_u8]; omega
          have wn0 : IntKind.u8.wrap (n : Int) = (n : Int) % 256 := by rw [IntKind.wrap_u8]
          refine c_pure ⟨x2, f2, e2, e2, e2, trivial⟩ (by kernel_rfl) (fun _ _ _ d _ h => by cases d <;> exact h) 12 rfl (by kernel_rfl) (by kernel_rfl) (fun w' => by go_simp; with_reducible rfl) ?_; try simp only [Act.put, List.setIfInBounds_toArray, List.set_cons_zero, List.set_cons_succ]
          refine c_pure ⟨x2, f2, e2, e2, e2, trivial⟩ (by kernel_rfl) (fun _ _ _ d _ h => by cases d <;> exact h) 13 rfl (by kernel_rfl) (by kernel_rfl) (fun w' => by go_simp; with_reducible rfl) ?_; try simp only [Act.put, List.setIfInBounds_toArray, List.set_cons_zero, List.set_cons_succ]
          refine c_pure ⟨x2, f2, e2, e2, e2, trivial⟩ (by kernel_rfl) (fun _ _ _ d _ h => by cases d <;> exact h) 14 rfl (by kernel_rfl) (by kernel_rfl) (fun w' => by go_simp; with_reducible rfl) ?_; try simp only [Act.put, List.setIfInBounds_toArray, List.set_cons_zero, List.set_cons_succ]
          refine c_pure ⟨x2, f2, e2, e2, e2, trivial⟩ (by kernel_rfl) (fun _ _ _ d _ h => by cases d <;> exact h) 15 rfl (by kernel_rfl) (by kernel_rfl) (fun w' => by go_simp; with_reducible rfl) ?_; try simp only [Act.put, List.setIfInBounds_toArray, List.set_cons_zero, List.set_cons_succ]
          refine c_pure ⟨x2, f2, e2, e2, e2, trivial⟩ (by kernel_rfl) (fun _ _ _ d _ h => by cases d <;> exact h) 16 rfl (by kernel_rfl) (by kernel_rfl) (fun w' => by go_simp; with_reducible rfl) ?_; try simp only [Act.put, List.setIfInBounds_toArray, List.set_cons_zero, List.set_cons_succ]
          refine c_pure ⟨x2, f2, e2, e2, e2, trivial⟩ (by kernel_rfl) (fun _ _ _ d _ h => by cases d <;> exact h) 17 rfl (by kernel_rfl) (by kernel_rfl) (fun w' => by go_simp; with_reducible rfl) ?_; try simp only [Act.put, List.setIfInBounds_toArray, List.set_cons_zero, List.set_cons_succ]
          refine c_pure ⟨x2, f2, e2, e2, e2, trivial⟩ (by kernel_rfl) (fun _ _ _ d _ h => by cases d <;> exact h) 18 rfl (by kernel_rfl) (by kernel_rfl) (fun w' => by go_simp; with_reducible rfl) ?_; try simp only [Act.put, List.setIfInBounds_toArray, List.set_cons_zero, List.set_cons_succ]
          refine c_read (fun w' => Ext c2 w') x2 ⟨x2, f2, e2, e2, e2, trivial⟩ (by kernel_rfl) (fun _ _ _ d _ h => by cases d <;> exact h) 20 rfl (by kernel_rfl) (by kernel_rfl) (fun w' hx => by obtain ⟨y0, y1, y2⟩ := RD.out w' (Ext.trans e2 hx); go_simp; with_reducible rfl) ?_; try simp only [Act.put, List.setIfInBounds_toArray, List.set_cons_zero, List.set_cons_succ]
          obtain ⟨P6, hP6, hP6l⟩ : ∃ P6 : List UInt8, ([.int .u8 0, .int .u8 1, .int .u8 0, .int .u8 0, .int .u8 ((n : Int) / 256), .int .u8 ((n : Int) % 256)] : List Value) = P6.map bV ∧ P6.length = 6 := by
            refine ⟨[0, 1, 0, 0, bOf ((n : Int) / 256), bOf (n : Int)], ?_, rfl⟩
            have h1 := bOf_V ((n : Int) / 256)
            have h2 := bOf_V (n : Int)
            rw [show (n : Int) / 256 % 256 = (n : Int) / 256 by omega] at h1
            simp only [List.map_cons, List.map_nil, ← h1, ← h2]
            rfl
          have HP6 := hidden hP6
          have HP6l := hidden hP6l
          clear hP6 hP6l
          refine c_move2 19 21 (by kernel_rfl) (c_op 19 [(20, (fun w' => Ext c2 w')), (11, (fun w' => Ext c2 w')), (2, (fun w' => Ext c1 w')), (8, (fun w' => Ext c0 w')), (6, (fun w' => Ext c0 w')), (4, (fun w' => Ext c0 w'))] (by kernel_rfl) rfl (by kernel_rfl) (fun K hK => ?_)) (c_op 21 [(11, (fun w' => Ext c2 w')), (2, (fun w' => Ext c1 w')), (8, (fun w' => Ext c0 w')), (6, (fun w' => Ext c0 w')), (4, (fun w' => Ext c0 w'))] (by kernel_rfl) rfl (by kernel_rfl) (fun K hK => ?_))
          focus
            have p2 := x2
            have N19 : Ext c2 (c2.alloc (.cells #[.int .u8 0, .int .u8 1, .int .u8 0, .int .u8 0, .int .u8 ((n : Int) / 256), .int .u8 ((n : Int) % 256)] 5)) := (Below.refl c2.heap.size c2).alloc (Nat.le_refl _) _
            have R6 := row_new c2 [.int .u8 0, .int .u8 1, .int .u8 0, .int .u8 0, .int .u8 ((n : Int) / 256), .int .u8 ((n : Int) % 256)] 5 6 rfl (by decide)
            have q2 := Ext.trans p2 N19
            have q1 := Ext.trans f2 q2
            have q0 := Ext.trans e2 q2
            go_simp
            refine hK.out _ _ ⟨q2, q2, q1, q0, q0, q0, trivial⟩ ?_
            clear K hK
            try simp only [Act.put, List.setIfInBounds_toArray, List.set_cons_zero, List.set_cons_succ]
            generalize c2.alloc (.cells #[.int .u8 0, .int .u8 1, .int .u8 0, .int .u8 0, .int .u8 ((n : Int) / 256), .int .u8 ((n : Int) % 256)] 5) = c3 at *
            generalize hg6 : c2.heap.size = g6 at *
            clear hg6 p2
            have p2 := q2
            clear q0 q1 q2
            refine c_move 21 (by kernel_rfl) (c_op 21 [(11, (fun w' => Ext c2 w')), (2, (fun w' => Ext c1 w')), (8, (fun w' => Ext c0 w')), (6, (fun w' => Ext c0 w')), (4, (fun w' => Ext c0 w'))] (by kernel_rfl) rfl (by kernel_rfl) (fun K hK => ?_))
            go_wp2_with fail
            refine (mbytes_any ((n : Int) * 999) (n : Int) _ Z _ (by omega) (RZ.below (Ext.trans e2 p2))).mono ?_
            rintro e c4 ⟨v91, rfl, o91, b91⟩
            have R91 := Row.of_owns o91
            have N21 : Ext c3 c4 := b91
            have q2 := Ext.trans p2 N21
            have q1 := Ext.trans f2 q2
            have q0 := Ext.trans e2 q2
            go_simp
            refine hK.out _ _ ⟨q2, q1, q0, q0, q0, trivial⟩ ?_
            clear K hK
            try simp only [Act.put, List.setIfInBounds_toArray, List.set_cons_zero, List.set_cons_succ]
            replace R6 := R6.below N21
            clear p2 N21 N19
          rotate_left
          focus
            have p2 := x2
            go_wp2_with fail
            refine (mbytes_any ((n : Int) * 999) (n : Int) _ Z _ (by omega) (RZ.below (Ext.trans e2 p2))).mono ?_
            rintro e c3 ⟨v91, rfl, o91, b91⟩
            have R91 := Row.of_owns o91
            have N21 : Ext c2 c3 := b91
            have q2 := Ext.trans p2 N21
            have q1 := Ext.trans f2 q2
            have q0 := Ext.trans e2 q2
            go_simp
            refine hK.out _ _ ⟨q2, q1, q0, q0, q0, trivial⟩ ?_
            clear K hK
            try simp only [Act.put, List.setIfInBounds_toArray, List.set_cons_zero, List.set_cons_succ]
            clear p2
            have p2 := q2
            clear q0 q1 q2
            refine c_move 19 (by kernel_rfl) (c_op 19 [(11, (fun w' => Ext c2 w')), (2, (fun w' => Ext c1 w')), (8, (fun w' => Ext c0 w')), (6, (fun w' => Ext c0 w')), (4, (fun w' => Ext c0 w'))] (by kernel_rfl) rfl (by kernel_rfl) (fun K hK => ?_))
            have N19 : Ext c3 (c3.alloc (.cells #[.int .u8 0, .int .u8 1, .int .u8 0, .int .u8 0, .int .u8 ((n : Int) / 256), .int .u8 ((n : Int) % 256)] 5)) := (Below.refl c3.heap.size c3).alloc (Nat.le_refl _) _
            have R6 := row_new c3 [.int .u8 0, .int .u8 1, .int .u8 0, .int .u8 0, .int .u8 ((n : Int) / 256), .int .u8 ((n : Int) % 256)] 5 6 rfl (by decide)
            have q2 := Ext.trans p2 N19
            have q1 := Ext.trans f2 q2
            have q0 := Ext.trans e2 q2
            go_simp
            refine hK.out _ _ ⟨q2, q1, q0, q0, q0, trivial⟩ ?_
            clear K hK
            try simp only [Act.put, List.setIfInBounds_toArray, List.set_cons_zero, List.set_cons_succ]
            replace R91 := R91.below N19
            replace o91 := owns_below o91 N19
            generalize c3.alloc (.cells #[.int .u8 0, .int .u8 1, .int .u8 0, .int .u8 0, .int .u8 ((n : Int) / 256), .int .u8 ((n : Int) % 256)] 5) = c4 at *
            generalize hg6 : c3.heap.size = g6 at *
            clear hg6 p2 N19 N21
          all_goals
            have hML : Hid ((mbytesL ((n : Int) * 999) (n : Int) Z).length ≤ 1000) := by
              show _ ≤ _
              unfold mbytesL
              split
              · simp
              · rw [msgL_len]; omega
            generalize mbytesL ((n : Int) * 999) (n : Int) Z = ML at *
            obtain ⟨a91, c91, e91⟩ : ∃ a c, v91 = .slice a ML.length c := by
              obtain ⟨a, c, e, -⟩ := R91
              exact ⟨a, c, by simpa using e⟩
            subst e91
            rw [HP6.out] at R6
            have N22 : Ext c4 (c4.alloc (.cells #[.slice (some ⟨g6, 0, none⟩) 6 6, .slice a91 ML.length c91] 27)) := (Below.refl c4.heap.size c4).alloc (Nat.le_refl _) _
            have R22 := row_new c4 [.slice (some ⟨g6, 0, none⟩) 6 6, .slice a91 ML.length c91] 27 2 rfl (by decide)
            replace q2 := Ext.trans q2 N22
            replace q1 := Ext.trans q1 N22
            replace q0 := Ext.trans q0 N22
            refine c_move 22 (by kernel_rfl) (c_op 22 [(11, (fun w' => Ext c2 w')), (2, (fun w' => Ext c1 w')), (8, (fun w' => Ext c0 w')), (6, (fun w' => Ext c0 w')), (4, (fun w' => Ext c0 w'))] (by kernel_rfl) rfl (by kernel_rfl) (fun K hK => ?_))
            go_simp
            refine hK.out _ _ ⟨q2, q1, q0, q0, q0, trivial⟩ ?_
            clear K hK
            try simp only [Act.put, List.setIfInBounds_toArray, List.set_cons_zero, List.set_cons_succ]
            have RB : RowsB (c4.alloc (.cells #[.slice (some ⟨g6, 0, none⟩) 6 6, .slice a91 ML.length c91] 27)) (.slice (some ⟨c4.heap.size, 0, none⟩) 2 2) [P6, ML] := ⟨_, R22, rfl, fun i hi => by
              match i, hi with
              | 0, _ => exact ⟨_, rfl, R6.below N22⟩
              | 1, _ => exact ⟨_, rfl, R91.below N22⟩⟩
            have HLL : Hid (∀ i, (([P6, ML] : List (List UInt8)).getD i []).length ≤ 2000000000000) := fun i => by
              have h1 := HP6l.out
              have h2 := hML.out
              match i with
              | 0 => simp; omega
              | 1 => simp; omega
              | i + 2 => simp
            clear R6 R91 o91 N22 R22
            generalize hg8 : c4.heap.size = g8 at *
            clear hg8
            generalize c4.alloc (.cells #[.slice (some ⟨g6, 0, none⟩) 6 6, .slice a91 ML.length c91] 27) = c5 at *
            refine c_move 23 (by kernel_rfl) (c_op 23 [(11, (fun w' => Ext c2 w')), (2, (fun w' => Ext c1 w')), (8, (fun w' => Ext c0 w')), (6, (fun w' => Ext c0 w')), (4, (fun w' => Ext c0 w'))] (by kernel_rfl) rfl (by kernel_rfl) (fun K hK => ?_))
            go_wp2_with fail
            refine (play_any _ [P6, ML] _ RB HLL.out).mono ?_
            rintro e c6 ⟨rfl, b6⟩
            have N23 : Ext c5 c6 := b6
            replace q2 := Ext.trans q2 N23
            replace q1 := Ext.trans q1 N23
            replace q0 := Ext.trans q0 N23
            go_simp
            refine hK.out _ _ ⟨q2, q1, q0, q0, q0, trivial⟩ ?_
            clear K hK
            try simp only [Act.put, List.setIfInBounds_toArray, List.set_cons_zero, List.set_cons_succ]
            refine c_pure ⟨q2, q1, q0, q0, q0, trivial⟩ (by kernel_rfl) (fun _ _ _ d _ h => by cases d <;> exact h) 24 rfl (by kernel_rfl) (by kernel_rfl) (fun w' => by go_simp; with_reducible rfl) ?_; try simp only [Act.put, List.setIfInBounds_toArray, List.set_cons_zero, List.set_cons_succ]
            refine c_pure ⟨q2, q1, q0, q0, q0, trivial⟩ (by kernel_rfl) (fun _ _ _ d _ h => by cases d <;> exact h) 25 rfl (by kernel_rfl) (by kernel_rfl) (fun w' => by go_simp; with_reducible rfl) ?_; try simp only [Act.put, List.setIfInBounds_toArray, List.set_cons_zero, List.set_cons_succ]
            refine c_done (by kernel_rfl) ?_
            replace hb := hb.trans (Below.mono q0 hb.size)
            clear RB HLL N23 b6
            go_wp2
            go_roundw
            case rel => exact ⟨n + 7, by omega, by go_num, hb⟩
            case measure => simp [intOf]; omega
        · have hln' : ¬ (n : Int) < 300 := by omega
          go_wp2_with fail
          refine (known_any _).mono ?_
          rintro e wz ⟨rfl, Ez⟩
          have Dz := hb.trans (Ez.mono hb.size)
          go_wp2
          go_ret
          exact ⟨rfl, Dz⟩

end Go.Proofs.Ytejcigeccmfeeaa

namespace Go.Proofs.Ytejcigeccmfeeaa
open Go.RowKit

set_option maxHeartbeats 400000 in
theorem rbytes_any (v : Value) (l : List UInt16) (w : World) (hv : Row w v (l.map wV)) (hr : l.length * 2 ≤ 140737488351232) :
    Calls Try.prog 49 #[v] w fun e w' => ∃ v', e = .returned v' ∧ Row w' v' ((bytesL l).map bV) ∧ Below w.heap.size w w' ∧ NewV w.heap.size v' := by
  obtain ⟨a, cap, rfl, -⟩ := id hv
  obtain ⟨hl, hc, hm, -⟩ := hv.at
  simp only [List.length_map] at hl hc hv ⊢
  go_enter Try.func49, Try.ntmps49
  go_wp2
  go_loopw [3, 8] (fun v i wr => ∃ k : Nat, k ≤ l.length ∧ i = .int .i64 k ∧ wr.ownsRow w.heap.size 5 1 v (2 * k) ((bytesL (l.take k)).map bV) ∧ Below w.heap.size w wr) (fun _ i _ => l.length - (intOf i).toNat)
  case atStart => exact ⟨0, Nat.zero_le _, rfl, World.ownsRow_nil _ _ _ _, Below.refl _ _⟩
  case round =>
    obtain ⟨k, hk, rfl, ho, hb⟩ := hrel
    by_cases hlt : k < l.length
    · obtain ⟨-, -, -, hcell⟩ := (hv.below hb).at
      obtain ⟨b, off, rfl, hcl⟩ := hcell k 0 hlt
      have cx := hcl k hlt
      clear hcl hcell hv
      have S : Hid _ := bytesL_take_succ l k hlt
      have ex : l.getD k 0 = l[k] := by simp [hlt]
      rw [ex] at cx
      clear ex
      generalize l[k] = x at *
      have hx := x.toNat_lt
      have hlt' : (k : Int) < (l.length : Int) := by omega
      have hr1 := row_new wr [.int .u8 ((x.toNat : Int) / 256), .int .u8 ((x.toNat : Int) % 256)] 5 2 rfl (by decide)
      have hsz := hb.size
      go_wp2_with (at_builtin; refine wpList_app rfl (.tmp 12) (.tmp 18) 27 rfl w.heap.size 5 (.int .u8 0) 1 Try.underlying27 info_u8 rfl rfl (ho.alloc _) rfl hr1 ?k0 ?k1 ?k2 ?k3 ?_)
      case k0 => intro u hu; simp at hu; rcases hu with rfl | rfl <;> rfl
      case k1 => simp [maxLen]; omega
      case k2 => simp; omega
      case k3 => simp; omega
      intro v2 w2 ho2 hg2
      have e : ((bytesL (l.take k)).map bV ++ [Value.int .u8 ((x.toNat : Int) / 256), .int .u8 ((x.toNat : Int) % 256)]) = (bytesL (l.take (k + 1))).map bV := by
        have h1 : ((x.toNat : Int) / 256) = ((hiB x).toNat : Int) := by rw [hiB_nat]; omega
        have h2 : ((x.toNat : Int) % 256) = ((loB x).toNat : Int) := by rw [loB_nat]; omega
        rw [S.out, h1, h2]; simp
      rw [e] at ho2
      clear e
      have q := (hb.alloc hsz (.cells #[.int .u8 ((x.toNat : Int) / 256), .int .u8 ((x.toNat : Int) % 256)] 5)).grown hg2 (by simp; omega) (fun k hk => (ho.lt k hk).1)
      go_wp2
      go_roundw
      case rel => exact ⟨k + 1, by omega, by go_num, ho2, q⟩
      case measure => simp [intOf]; omega
    · have : k = l.length := by omega
      subst this
      go_wp2
      go_ret
      rw [List.take_length] at ho
      exact ⟨_, rfl, Row.of_owns ho, hb, NewV.of_owns ho⟩

theorem words_take (bs : List UInt8) (k : Nat) (h : k < bs.length / 2) : (wordsL bs).take (k + 1) = (wordsL bs).take k ++ [mkW (bs.getD (2 * k) 0) (bs.getD (2 * k + 1) 0)] := by
  have hl := wordsL_len bs
  have e3 : (wordsL bs)[k]'(by omega) = mkW (bs.getD (2 * k) 0) (bs.getD (2 * k + 1) 0) := by
    simp only [wordsL_eq, List.getElem_map, List.getElem_range]
  rw [List.take_succ_eq_append_getElem (by omega), e3]

end Go.Proofs.Ytejcigeccmfeeaa

namespace Go.Proofs.Ytejcigeccmfeeaa
open Go.RowKit

theorem openL_succ (bs : List UInt8) (j : Nat) : openL bs (j + 1) = openL bs j ++ [bitAt bs j] := by simp [openL, List.range_succ]

theorem openOk_false (bs : List UInt8) (n j : Nat) (h1 : n ≤ j) (h2 : j < 8 * bs.length) (hb : bitAt bs j = true) : openOk bs n = false := by
  cases h : openOk bs n with
  | false => rfl
  | true =>
    unfold openOk at h
    simp only [Bool.and_eq_true, List.all_eq_true, List.mem_range] at h
    have := h.2 j h2
    simp [hb] at this
    omega

theorem openOk_true (bs : List UInt8) (n : Nat) (h : bs.length = (n + 7) / 8) (hall : ∀ i, n ≤ i → i < 8 * bs.length → bitAt bs i = false) : openOk bs n = true := by
  unfold openOk
  simp only [Bool.and_eq_true, decide_eq_true_eq, List.all_eq_true, List.mem_range]
  refine ⟨⟨by omega, by omega⟩, fun i hi => ?_⟩
  by_cases hin : i < n
  · simp [hin]
  · simp [hall i (by omega) hi]

end Go.Proofs.Ytejcigeccmfeeaa

namespace Go.Proofs.Ytejcigeccmfeeaa
open Go.RowKit

theorem word_ref (n : Int) (w : World) : Calls Try.prog 45 #[.int .i64 n] w fun e w' => e = .returned (.bool (numB n)) ∧ w = w' := by
  by_cases h1 : 0 ≤ n
  · by_cases h2 : n ≤ 65535
    · have hb : numB n = true := by simp [numB]; omega
      rw [hb]
      go_enter Try.func45, Try.ntmps45
      go_wp2
      go_ret
      exact ⟨rfl, rfl⟩
    · have hb : numB n = false := by simp [numB]; omega
      rw [hb]
      go_enter Try.func45, Try.ntmps45
      go_wp2
      go_ret
      exact ⟨rfl, rfl⟩
  · have hb : numB n = false := by simp [numB]; omega
    rw [hb]
    go_enter Try.func45, Try.ntmps45
    go_wp2
    go_ret
    exact ⟨rfl, rfl⟩

set_option maxHeartbeats 400000 in
theorem has_ref (f : Int) (w : World) : Calls Try.prog 42 #[.int .i64 f] w fun e w' => e = .returned (.bool (knownB f)) ∧ w = w' := by
  cases hb : knownB f
  · have hn := of_decide_eq_false hb
    obtain ⟨-, -, -, -, -, -, h8, h15, h16, h17, h22, h23⟩ := known_no hb
    clear hb
    by_cases h1 : 1 ≤ f
    · have h2 : ¬ f ≤ 6 := by omega
      clear hn
      go_enter Try.func42, Try.ntmps42
      go_wp2
      go_ret
      exact ⟨rfl, rfl⟩
    · clear hn
      go_enter Try.func42, Try.ntmps42
      go_wp2
      go_ret
      exact ⟨rfl, rfl⟩
  · rcases known_cases hb with rfl | rfl | rfl | rfl | rfl | rfl | rfl | rfl | rfl | rfl | rfl | rfl
    all_goals
      clear hb
      go_enter Try.func42, Try.ntmps42
      go_wp2
      go_ret
      exact ⟨rfl, rfl⟩

/-- which fields a function has, as letters -/
def usesL (f : Int) : List UInt8 :=
  if f = 1 ∨ f = 2 ∨ f = 3 ∨ f = 4 then [97, 99]
  else if f = 5 then [97, 98]
  else if f = 6 then [97, 118]
  else if f = 8 then [115, 118]
  else if f = 15 then [97, 99, 98]
  else if f = 16 then [97, 99, 118]
  else if f = 22 then [97, 109]
  else if f = 23 then [97, 99, 119, 118]
  else []

set_option maxHeartbeats 400000 in
theorem uses_ref (f : Int) (w : World) (hk : knownB f = true) : Calls Try.prog 43 #[.int .i64 f] w fun e w' => e = .returned (.string ⟨(usesL f).toArray⟩) ∧ w = w' := by
  rcases known_cases hk with rfl | rfl | rfl | rfl | rfl | rfl | rfl | rfl | rfl | rfl | rfl | rfl
  all_goals
    clear hk
    go_enter Try.func43, Try.ntmps43
    go_wp2
    go_ret
    exact ⟨rfl, rfl⟩

set_option maxHeartbeats 400000 in
theorem in_ref (l : List UInt8) (c : UInt8) (w : World) (hl : l.length ≤ 100) : Calls Try.prog 44 #[.string ⟨l.toArray⟩, .int .u8 c.toNat] w fun e w' => e = .returned (.bool (l.contains c)) ∧ w = w' := by
  have hs : (⟨l.toArray⟩ : ByteArray).size = l.length := rfl
  go_enter Try.func44, Try.ntmps44
  go_wp2
  go_loopw [5] (fun i wr => ∃ k : Nat, k ≤ l.length ∧ i = .int .i64 k ∧ (∀ j, j < k → l.getD j 0 ≠ c) ∧ w = wr) (fun i _ => l.length - (intOf i).toNat)
  case atStart => exact ⟨0, Nat.zero_le _, rfl, fun j h => by omega, rfl⟩
  case round =>
    obtain ⟨k, hk, rfl, hn, rfl⟩ := hrel
    have HN := hidden hn
    clear hn
    by_cases hlt : k < l.length
    · have hlt' : (k : Int) < (l.length : Int) := by omega
      have HG : Hid (l.getD k 0 = (⟨l.toArray⟩ : ByteArray)[k]'hlt) := by
        show _ = _
        have : (⟨l.toArray⟩ : ByteArray)[k]'hlt = l[k] := rfl
        rw [this]; simp [hlt]
      by_cases hc : (⟨l.toArray⟩ : ByteArray)[k]'hlt = c
      · have t : ((((⟨l.toArray⟩ : ByteArray)[k]'hlt).toNat : Int) == (c.toNat : Int)) = true := by rw [hc]; simp
        have F : Hid (l.contains c = true) := by
          show _ = _
          rw [List.contains_iff_mem, ← hc]
          exact List.getElem_mem hlt
        clear hc
        go_wp2
        go_ret
        exact ⟨ret_bool F.out.symm, rfl⟩
      · have t : ((((⟨l.toArray⟩ : ByteArray)[k]'hlt).toNat : Int) == (c.toNat : Int)) = false := by
          rw [beq_eq_false_iff_ne]; intro h; exact hc (UInt8.toNat_inj.1 (by omega))
        have HC := hidden hc
        clear hc
        go_wp2
        go_roundw
        case rel =>
          refine ⟨k + 1, by omega, by go_num, fun j hj => ?_, trivial⟩
          by_cases e : j = k
          · subst e; rw [HG.out]; exact HC.out
          · exact HN.out j (by omega)
        case measure => simp [intOf]; omega
    · obtain rfl : k = l.length := by omega
      have F : Hid (l.contains c = false) := by
        show _ = _
        rw [← Bool.not_eq_true, List.contains_iff_mem]
        intro h
        obtain ⟨i, hi, e⟩ := List.getElem_of_mem h
        exact HN.out i hi (by simpa [hi] using e)
      go_wp2
      go_ret
      exact ⟨ret_bool F.out.symm, rfl⟩

set_option maxHeartbeats 1000000 in
theorem lists_ref (v : Value) (q : Rq) (w : World) (h : IsRq w v q) (hk : knownB q.fn = true) :
    Calls Try.prog 46 #[v] w fun e w' => e = .returned (.bool (listB q)) ∧ Below w.heap.size w w' := by
  obtain ⟨f, a, c, p, s, bs, vs, m, o⟩ := q
  obtain ⟨vb, vv, rfl, hb, hv⟩ := h
  obtain ⟨ab, capb, rfl, hc1, hc2, -⟩ := id hb
  obtain ⟨av, capv, rfl, hd1, hd2, -⟩ := id hv
  simp only [List.length_map] at hb hv hk hc1 hd1 ⊢
  clear hb hv
  unfold maxLen at hc2 hd2
  have B : Hid (∀ o n, Below w.heap.size w ((w.alloc o).drewN n)) := fun o n => below_drewn ((Below.refl _ _).alloc (Nat.le_refl _) o) n
  have R : Hid (listB ⟨f, a, c, p, s, bs, vs, m, o⟩ = listB ⟨f, a, c, p, s, bs, vs, m, o⟩) := rfl
  rcases known_cases hk with rfl | rfl | rfl | rfl | rfl | rfl | rfl | rfl | rfl | rfl | rfl | rfl
  case inr.inr.inr.inr.inr.inr.inr.inl =>
    by_cases h1 : (bs.length : Int) = c
    · by_cases h2 : (bs.length : Int) ≤ 2040
      · have e : listB ⟨15, a, c, p, s, bs, vs, m, o⟩ = true := by simp [listB]; omega
        rw [e]
        have t1 : ((bs.length : Int) == c) = true := by simpa using h1
        clear hk R e h1
        go_enter Try.func46, Try.ntmps46
        go_wp2
        go_quiet (fail)
        go_wp2
        go_ret
        first | exact ⟨rfl, B.out _ _⟩ | exact ⟨ret_bool (by simp; omega), B.out _ _⟩
      · have e : listB ⟨15, a, c, p, s, bs, vs, m, o⟩ = false := by simp [listB]; omega
        rw [e]
        have t1 : ((bs.length : Int) == c) = true := by simpa using h1
        clear hk R e h1
        go_enter Try.func46, Try.ntmps46
        go_wp2
        go_quiet (fail)
        go_wp2
        go_ret
        first | exact ⟨rfl, B.out _ _⟩ | exact ⟨ret_bool (by simp; omega), B.out _ _⟩
    · have e : listB ⟨15, a, c, p, s, bs, vs, m, o⟩ = false := by simp [listB]; omega
      rw [e]
      have t1 : ((bs.length : Int) == c) = false := by simpa using h1
      clear hk R e h1
      go_enter Try.func46, Try.ntmps46
      go_wp2
      go_quiet (fail)
      go_wp2
      go_ret
      first | exact ⟨rfl, B.out _ _⟩ | exact ⟨ret_bool (by simp; omega), B.out _ _⟩
  case inr.inr.inr.inr.inr.inr.inr.inr.inl =>
    by_cases h1 : (vs.length : Int) = c
    · by_cases h2 : (vs.length : Int) ≤ 127
      · have e : listB ⟨16, a, c, p, s, bs, vs, m, o⟩ = true := by simp [listB]; omega
        rw [e]
        have t1 : ((vs.length : Int) == c) = true := by simpa using h1
        clear hk R e h1
        go_enter Try.func46, Try.ntmps46
        go_wp2
        go_quiet (fail)
        go_wp2
        go_ret
        first | exact ⟨rfl, B.out _ _⟩ | exact ⟨ret_bool (by simp; omega), B.out _ _⟩
      · have e : listB ⟨16, a, c, p, s, bs, vs, m, o⟩ = false := by simp [listB]; omega
        rw [e]
        have t1 : ((vs.length : Int) == c) = true := by simpa using h1
        clear hk R e h1
        go_enter Try.func46, Try.ntmps46
        go_wp2
        go_quiet (fail)
        go_wp2
        go_ret
        first | exact ⟨rfl, B.out _ _⟩ | exact ⟨ret_bool (by simp; omega), B.out _ _⟩
    · have e : listB ⟨16, a, c, p, s, bs, vs, m, o⟩ = false := by simp [listB]; omega
      rw [e]
      have t1 : ((vs.length : Int) == c) = false := by simpa using h1
      clear hk R e h1
      go_enter Try.func46, Try.ntmps46
      go_wp2
      go_quiet (fail)
      go_wp2
      go_ret
      first | exact ⟨rfl, B.out _ _⟩ | exact ⟨ret_bool (by simp; omega), B.out _ _⟩
  all_goals
    clear hk
    go_enter Try.func46, Try.ntmps46
    go_wp2
    go_quiet (fail)
    go_wp2
    go_ret
    refine ⟨ret_bool ?_, B.out _ _⟩
    rw [Bool.eq_iff_iff]
    simp [listB]
    try omega

end Go.Proofs.Ytejcigeccmfeeaa

namespace Go.Proofs.Ytejcigeccmfeeaa
open Go.RowKit
section
variable {P : Program} {ops : Array Oper} {Q : Exit → Act → World → Prop} {i n : Nat} {a : Act} {w : World}
  {dst : Option Tmp} {op : Op} {ty : TypeId} {pos : String} {after : Array Edge} {guard : Option (Nat × Bool)} {v : Value}

/-- n operations from number i on -/
def wpFrom (P : Program) (ops : Array Oper) (Q : Exit → Act → World → Prop) (i n : Nat) (a : Act) (w : World) : Prop := wpOps P ops Q (List.range' i n) a w

theorem f_begin {id : Nat} (n : Nat) (hn : ops.size = n) (h : wpFrom P ops Q 0 n a w) : (Code.region id ops false).wp P Q a w := by
  subst hn
  refine wp_region ?_
  rw [List.range_eq_range']
  exact h
theorem f_val (hi : ops[i]? = some ⟨dst, op, ty, pos, after, guard⟩) (hw : Region.wanted ⟨dst, op, ty, pos, after, guard⟩ (yielded ops a.tmps) = true)
    (hv : (execOp a.eval ⟨dst, op, ty, pos, after, guard⟩).run P w = .ok (.value v) w) (h : wpFrom P ops Q (i + 1) n (a.put dst v) w) : wpFrom P ops Q i (n + 1) a w := by
  unfold wpFrom
  rw [List.range'_succ, wpOps_cons]
  unfold wpOp
  simp only [hi, hw, if_true]
  refine .inl ?_
  unfold Oper.wp
  rw [hv]
  exact h
theorem f_skip (hi : ops[i]? = some ⟨dst, op, ty, pos, after, guard⟩) (hw : Region.wanted ⟨dst, op, ty, pos, after, guard⟩ (yielded ops a.tmps) = false)
    (h : wpFrom P ops Q (i + 1) n (a.put dst undef) w) : wpFrom P ops Q i (n + 1) a w := by
  unfold wpFrom
  rw [List.range'_succ, wpOps_cons]
  unfold wpOp
  simp only [hi, hw]
  exact h
theorem f_move (hi : ops[i]? = some ⟨dst, op, ty, pos, after, guard⟩) (hw : Region.wanted ⟨dst, op, ty, pos, after, guard⟩ (yielded ops a.tmps) = true)
    (h : ∀ K : Act → World → Prop, Hid (∀ a' w', wpFrom P ops Q (i + 1) n a' w' → K a' w') → Oper.wp P ⟨dst, op, ty, pos, after, guard⟩ a w K Q) : wpFrom P ops Q i (n + 1) a w := by
  unfold wpFrom
  rw [List.range'_succ, wpOps_cons]
  unfold wpOp
  simp only [hi, hw, if_true]
  exact .inl (h _ (fun a' w' h => h))
theorem f_done (h : Q .normal a w) : wpFrom P ops Q i 0 a w := h

/-- the same over the list of operations, which grows shorter at each step; the whole stands behind O -/
theorem l_begin {id : Nat} {l : List Oper} (h : ∀ O, Hid (O = l.toArray) → wpList P O Q l a w) : (Code.region id l.toArray false).wp P Q a w := wp_region_lit (h _ rfl)
theorem l_val {rest : List Oper} (hw : Region.wanted ⟨dst, op, ty, pos, after, guard⟩ (yielded ops a.tmps) = true)
    (hv : (execOp a.eval ⟨dst, op, ty, pos, after, guard⟩).run P w = .ok (.value v) w) (h : wpList P ops Q rest (a.put dst v) w) : wpList P ops Q (⟨dst, op, ty, pos, after, guard⟩ :: rest) a w := by
  unfold wpList
  rw [if_pos hw]
  refine .inl ?_
  unfold Oper.wp
  rw [hv]
  exact h
theorem l_skip {rest : List Oper} (hw : Region.wanted ⟨dst, op, ty, pos, after, guard⟩ (yielded ops a.tmps) = false)
    (h : wpList P ops Q rest (a.put dst undef) w) : wpList P ops Q (⟨dst, op, ty, pos, after, guard⟩ :: rest) a w := by
  unfold wpList
  rw [if_neg (by rw [hw]; simp)]
  exact h
theorem l_move {rest : List Oper} (hw : Region.wanted ⟨dst, op, ty, pos, after, guard⟩ (yielded ops a.tmps) = true)
    (h : ∀ K : Act → World → Prop, Hid (∀ a' w', wpList P ops Q rest a' w' → K a' w') → Oper.wp P ⟨dst, op, ty, pos, after, guard⟩ a w K Q) : wpList P ops Q (⟨dst, op, ty, pos, after, guard⟩ :: rest) a w := by
  unfold wpList
  rw [if_pos hw]
  exact .inl (h _ (fun a' w' h => h))
theorem l_done (h : Q .normal a w) : wpList P ops Q [] a w := h
end
end Go.Proofs.Ytejcigeccmfeeaa

namespace Go.Proofs.Ytejcigeccmfeeaa
open Go.RowKit

def inI (l : List UInt8) (x : Int) : Bool := l.any fun y => (y.toNat : Int) == x
theorem in_at (l : List UInt8) (x : Int) (w : World) (hx : 0 ≤ x ∧ x < 256) (hl : l.length ≤ 100) : Calls Try.prog 44 #[.string ⟨l.toArray⟩, .int .u8 x] w fun e w' => e = .returned (.bool (inI l x)) ∧ w = w' := by
  have e : ((UInt8.ofNat x.toNat).toNat : Int) = x := by rw [UInt8.toNat_ofNat']; omega
  have h := in_ref l (UInt8.ofNat x.toNat) w hl
  rw [e] at h
  refine h.mono ?_
  rintro e' w' ⟨rfl, rfl⟩
  refine ⟨ret_bool ?_, rfl⟩
  rw [Bool.eq_iff_iff]
  simp only [inI, List.contains_iff_mem, List.any_eq_true, beq_iff_eq]
  constructor
  · intro h; exact ⟨_, h, e⟩
  · rintro ⟨y, hy, h2⟩
    have : y = UInt8.ofNat x.toNat := UInt8.toNat_inj.1 (by omega)
    rw [← this]; exact hy
end Go.Proofs.Ytejcigeccmfeeaa

namespace Go.Proofs.Ytejcigeccmfeeaa
open Go.RowKit

set_option maxRecDepth 100000 in
set_option maxHeartbeats 6000000 in
theorem right_ref_1 (v : Value) (q : Rq) (w : World) (h : IsRq w v q) (hf : q.fn = 1) :
    Calls Try.prog 38 #[v] w fun e w' => e = .returned (.int .i64 (rightE q)) ∧ Below w.heap.size w w' := by
  obtain ⟨ab, capb, av, capv, rfl, -, -⟩ := h.slices
  have W0 := hidden (fun o => (Below.refl w.heap.size w).alloc (Nat.le_refl _) o)
  have HH := hidden (fun w' (hb : Below w.heap.size w w') => h.below hb)
  have HE := hidden (@rightE_12 q)
  have H0 := hidden (@rightE_0 q)
  have KK : Hid (knownB q.fn = true) := by show _ = _; rw [hf]; rfl
  obtain ⟨f, a, c, p, s, bs, vs, m, o⟩ := q
  simp only at HE H0 HH KK hf ⊢
  subst hf
  have hm := m.toNat_lt
  have ho := o.toNat_lt
  clear h
  have Ia : Hid (inI [97, 99] 97 = true) := by rfl
  have Ic : Hid (inI [97, 99] 99 = true) := by rfl
  have Iw : Hid (inI [97, 99] 119 = false) := by rfl
  have Is : Hid (inI [97, 99] 115 = false) := by rfl
  have Ib : Hid (inI [97, 99] 98 = false) := by rfl
  have Iv : Hid (inI [97, 99] 118 = false) := by rfl
  have Im : Hid (inI [97, 99] 109 = false) := by rfl
  go_enter Try.func38, Try.ntmps38
  go_upto_region 4 with (first | (go_at_call 42; refine (has_ref _ _).mono ?_; rintro e w4 ⟨rfl, rfl⟩; rw [KK.out]) | (go_at_call 43; refine (uses_ref _ _ KK.out).mono ?_; rintro e w4 ⟨rfl, rfl⟩; rw [show usesL 1 = [97, 99] from rfl]))
  have XB := Box.new w 1 a c p s (.slice ab bs.length capb) (.slice av vs.length capv) m o 68
  have BW := W0.out (.cells #[.int .i64 1, .int .i64 a, .int .i64 c, .int .i64 p, .int .i64 s, .slice ab bs.length capb, .slice av vs.length capv, wV m, wV o] 68)
  generalize w.alloc (.cells #[.int .i64 1, .int .i64 a, .int .i64 c, .int .i64 p, .int .i64 s, .slice ab bs.length capb, .slice av vs.length capv, wV m, wV o] 68) = w0 at *
  obtain ⟨gl, c0, c1, c2, c3, c4, c5, c6, c7, c8⟩ := XB
  refine l_begin (fun O HO => ?_)
  try simp only [List.cons_append, List.nil_append]
  iterate 1 (refine l_val (by rw [HO.out]; kernel_rfl) (by go_simp; with_reducible rfl) ?_; try simp only [Act.put, List.setIfInBounds_toArray, List.set_cons_zero, List.set_cons_succ])
  refine l_move (by rw [HO.out]; kernel_rfl) (fun K hK => ?_)
  go_wp2_with fail
  refine (in_at [97, 99] _ _ (by decide) (by decide)).mono ?_
  rintro e w4 ⟨rfl, rfl⟩
  rw [Ia.out]
  go_simp
  refine hK.out _ _ ?_
  clear K hK
  try simp only [Act.put, List.setIfInBounds_toArray, List.set_cons_zero, List.set_cons_succ]
  iterate 2 (refine l_val (by rw [HO.out]; kernel_rfl) (by go_simp; with_reducible rfl) ?_; try simp only [Act.put, List.setIfInBounds_toArray, List.set_cons_zero, List.set_cons_succ])
  iterate 3 (refine l_skip (by rw [HO.out]; kernel_rfl) ?_; try simp only [Act.put, List.setIfInBounds_toArray, List.set_cons_zero, List.set_cons_succ])
  iterate 2 (refine l_val (by rw [HO.out]; kernel_rfl) (by go_simp; with_reducible rfl) ?_; try simp only [Act.put, List.setIfInBounds_toArray, List.set_cons_zero, List.set_cons_succ])
  iterate 1 (refine l_val (by rw [HO.out]; kernel_rfl) (by go_simp; with_reducible rfl) ?_; try simp only [Act.put, List.setIfInBounds_toArray, List.set_cons_zero, List.set_cons_succ])
  refine l_move (by rw [HO.out]; kernel_rfl) (fun K hK => ?_)
  go_wp2_with fail
  refine (in_at [97, 99] _ _ (by decide) (by decide)).mono ?_
  rintro e w4 ⟨rfl, rfl⟩
  rw [Ic.out]
  go_simp
  refine hK.out _ _ ?_
  clear K hK
  try simp only [Act.put, List.setIfInBounds_toArray, List.set_cons_zero, List.set_cons_succ]
  iterate 2 (refine l_val (by rw [HO.out]; kernel_rfl) (by go_simp; with_reducible rfl) ?_; try simp only [Act.put, List.setIfInBounds_toArray, List.set_cons_zero, List.set_cons_succ])
  iterate 3 (refine l_skip (by rw [HO.out]; kernel_rfl) ?_; try simp only [Act.put, List.setIfInBounds_toArray, List.set_cons_zero, List.set_cons_succ])
  iterate 3 (refine l_val (by rw [HO.out]; kernel_rfl) (by go_simp; with_reducible rfl) ?_; try simp only [Act.put, List.setIfInBounds_toArray, List.set_cons_zero, List.set_cons_succ])
  iterate 1 (refine l_val (by rw [HO.out]; kernel_rfl) (by go_simp; with_reducible rfl) ?_; try simp only [Act.put, List.setIfInBounds_toArray, List.set_cons_zero, List.set_cons_succ])
  refine l_move (by rw [HO.out]; kernel_rfl) (fun K hK => ?_)
  go_wp2_with fail
  refine (in_at [97, 99] _ _ (by decide) (by decide)).mono ?_
  rintro e w4 ⟨rfl, rfl⟩
  rw [Iw.out]
  go_simp
  refine hK.out _ _ ?_
  clear K hK
  try simp only [Act.put, List.setIfInBounds_toArray, List.set_cons_zero, List.set_cons_succ]
  iterate 2 (refine l_val (by rw [HO.out]; kernel_rfl) (by go_simp; with_reducible rfl) ?_; try simp only [Act.put, List.setIfInBounds_toArray, List.set_cons_zero, List.set_cons_succ])
  by_cases hw : p = 0
  · subst hw
    iterate 6 (refine l_val (by rw [HO.out]; kernel_rfl) (by go_simp; with_reducible rfl) ?_; try simp only [Act.put, List.setIfInBounds_toArray, List.set_cons_zero, List.set_cons_succ])
    iterate 1 (refine l_val (by rw [HO.out]; kernel_rfl) (by go_simp; with_reducible rfl) ?_; try simp only [Act.put, List.setIfInBounds_toArray, List.set_cons_zero, List.set_cons_succ])
    refine l_move (by rw [HO.out]; kernel_rfl) (fun K hK => ?_)
    go_wp2_with fail
    refine (in_at [97, 99] _ _ (by decide) (by decide)).mono ?_
    rintro e w4 ⟨rfl, rfl⟩
    rw [Is.out]
    go_simp
    refine hK.out _ _ ?_
    clear K hK
    try simp only [Act.put, List.setIfInBounds_toArray, List.set_cons_zero, List.set_cons_succ]
    iterate 2 (refine l_val (by rw [HO.out]; kernel_rfl) (by go_simp; with_reducible rfl) ?_; try simp only [Act.put, List.setIfInBounds_toArray, List.set_cons_zero, List.set_cons_succ])
    by_cases hs : s = 0
    · subst hs
      iterate 6 (refine l_val (by rw [HO.out]; kernel_rfl) (by go_simp; with_reducible rfl) ?_; try simp only [Act.put, List.setIfInBounds_toArray, List.set_cons_zero, List.set_cons_succ])
      iterate 1 (refine l_val (by rw [HO.out]; kernel_rfl) (by go_simp; with_reducible rfl) ?_; try simp only [Act.put, List.setIfInBounds_toArray, List.set_cons_zero, List.set_cons_succ])
      refine l_move (by rw [HO.out]; kernel_rfl) (fun K hK => ?_)
      go_wp2_with fail
      refine (in_at [97, 99] _ _ (by decide) (by decide)).mono ?_
      rintro e w4 ⟨rfl, rfl⟩
      rw [Ib.out]
      go_simp
      refine hK.out _ _ ?_
      clear K hK
      try simp only [Act.put, List.setIfInBounds_toArray, List.set_cons_zero, List.set_cons_succ]
      iterate 2 (refine l_val (by rw [HO.out]; kernel_rfl) (by go_simp; with_reducible rfl) ?_; try simp only [Act.put, List.setIfInBounds_toArray, List.set_cons_zero, List.set_cons_succ])
      by_cases hb : bs = []
      · subst hb
        simp only [List.length_nil] at *
        iterate 7 (refine l_val (by rw [HO.out]; kernel_rfl) (by go_simp; with_reducible rfl) ?_; try simp only [Act.put, List.setIfInBounds_toArray, List.set_cons_zero, List.set_cons_succ])
        iterate 1 (refine l_val (by rw [HO.out]; kernel_rfl) (by go_simp; with_reducible rfl) ?_; try simp only [Act.put, List.setIfInBounds_toArray, List.set_cons_zero, List.set_cons_succ])
        refine l_move (by rw [HO.out]; kernel_rfl) (fun K hK => ?_)
        go_wp2_with fail
        refine (in_at [97, 99] _ _ (by decide) (by decide)).mono ?_
        rintro e w4 ⟨rfl, rfl⟩
        rw [Iv.out]
        go_simp
        refine hK.out _ _ ?_
        clear K hK
        try simp only [Act.put, List.setIfInBounds_toArray, List.set_cons_zero, List.set_cons_succ]
        iterate 2 (refine l_val (by rw [HO.out]; kernel_rfl) (by go_simp; with_reducible rfl) ?_; try simp only [Act.put, List.setIfInBounds_toArray, List.set_cons_zero, List.set_cons_succ])
        by_cases hv : vs = []
        · subst hv
          simp only [List.length_nil] at *
          iterate 7 (refine l_val (by rw [HO.out]; kernel_rfl) (by go_simp; with_reducible rfl) ?_; try simp only [Act.put, List.setIfInBounds_toArray, List.set_cons_zero, List.set_cons_succ])
          iterate 1 (refine l_val (by rw [HO.out]; kernel_rfl) (by go_simp; with_reducible rfl) ?_; try simp only [Act.put, List.setIfInBounds_toArray, List.set_cons_zero, List.set_cons_succ])
          refine l_move (by rw [HO.out]; kernel_rfl) (fun K hK => ?_)
          go_wp2_with fail
          refine (in_at [97, 99] _ _ (by decide) (by decide)).mono ?_
          rintro e w4 ⟨rfl, rfl⟩
          rw [Im.out]
          go_simp
          refine hK.out _ _ ?_
          clear K hK
          try simp only [Act.put, List.setIfInBounds_toArray, List.set_cons_zero, List.set_cons_succ]
          iterate 2 (refine l_val (by rw [HO.out]; kernel_rfl) (by go_simp; with_reducible rfl) ?_; try simp only [Act.put, List.setIfInBounds_toArray, List.set_cons_zero, List.set_cons_succ])
          by_cases hm0 : m = 0
          · subst hm0
            iterate 4 (refine l_val (by rw [HO.out]; kernel_rfl) (by go_simp; with_reducible rfl) ?_; try simp only [Act.put, List.setIfInBounds_toArray, List.set_cons_zero, List.set_cons_succ])
            by_cases ho0 : o = 0
            · subst ho0
              iterate 6 (refine l_val (by rw [HO.out]; kernel_rfl) (by go_simp; with_reducible rfl) ?_; try simp only [Act.put, List.setIfInBounds_toArray, List.set_cons_zero, List.set_cons_succ])
              refine l_done ?_
              go_wp2_with fail
              refine (word_ref _ _).mono ?_
              rintro e w4 ⟨rfl, rfl⟩
              cases ha : numB a
              · have L := hidden (HE.out KK.out (.inr (.inl (by rw [ha]; simp))))
                have Na := hidden ha
                clear ha
                go_wp2
                go_ret
                exact ⟨ret_int L.out.symm, BW⟩
              · have Na := hidden ha
                clear ha
                go_wp2_with fail
                refine (word_ref _ _).mono ?_
                rintro e w4 ⟨rfl, rfl⟩
                cases hc : numB c
                · have L := hidden (HE.out KK.out (.inr (.inl (by rw [hc]; simp))))
                  have Nc := hidden hc
                  clear hc
                  go_wp2
                  go_ret
                  exact ⟨ret_int L.out.symm, BW⟩
                · have Nc := hidden hc
                  clear hc
                  go_wp2_with fail
                  refine (word_ref _ _).mono ?_
                  rintro e w4 ⟨rfl, rfl⟩
                  have Np : Hid (numB 0 = true) := by rfl
                  rw [Np.out]
                  go_wp2_with fail
                  refine (word_ref _ _).mono ?_
                  rintro e w4 ⟨rfl, rfl⟩
                  have Ns : Hid (numB 0 = true) := by rfl
                  rw [Ns.out]
                  go_wp2_with fail
                  have E2 := hidden (show (numB a && numB 0 && numB 0 && numB c) = true by simp [Na.out, Np.out, Nc.out])
                  have G1 := hidden (show formP ⟨1, a, c, 0, 0, [], [], 0, 0⟩ by simp [formP])
                  refine (lists_ref _ ⟨1, a, c, 0, 0, [], [], 0, 0⟩ _ (HH.out _ BW) KK.out).mono ?_
                  rintro e w5 ⟨rfl, B5⟩
                  replace B5 := below_then BW B5
                  cases hl : listB ⟨1, a, c, 0, 0, [], [], 0, 0⟩
                  · have L := hidden (HE.out KK.out (.inr (.inr hl)))
                    clear hl
                    go_wp2
                    go_ret
                    exact ⟨ret_int L.out.symm, B5⟩
                  · have L := hidden (H0.out KK.out G1.out E2.out hl)
                    clear hl
                    go_wp2
                    go_ret
                    exact ⟨ret_int L.out.symm, B5⟩
            · have To : ((o.toNat : Int) != 0) = true := by simp; intro h; exact ho0 (UInt16.toNat_inj.1 h)
              have L := hidden (HE.out KK.out (.inl (fun h => ho0 (by have := h.2.2.2.2.2.2; simp at this; exact this))))
              clear ho0
              iterate 6 (refine l_val (by rw [HO.out]; kernel_rfl) (by go_simp; with_reducible rfl) ?_; try simp only [Act.put, List.setIfInBounds_toArray, List.set_cons_zero, List.set_cons_succ])
              refine l_done ?_
              go_wp2
              go_ret
              exact ⟨ret_int L.out.symm, BW⟩
          · have Tm : ((m.toNat : Int) != 0) = true := by simp; intro h; exact hm0 (UInt16.toNat_inj.1 h)
            have L := hidden (HE.out KK.out (.inl (fun h => hm0 (by have := h.2.2.2.2.2.2; simp at this; exact this.1))))
            clear hm0
            iterate 4 (refine l_val (by rw [HO.out]; kernel_rfl) (by go_simp; with_reducible rfl) ?_; try simp only [Act.put, List.setIfInBounds_toArray, List.set_cons_zero, List.set_cons_succ])
            iterate 3 (refine l_skip (by rw [HO.out]; kernel_rfl) ?_; try simp only [Act.put, List.setIfInBounds_toArray, List.set_cons_zero, List.set_cons_succ])
            iterate 3 (refine l_val (by rw [HO.out]; kernel_rfl) (by go_simp; with_reducible rfl) ?_; try simp only [Act.put, List.setIfInBounds_toArray, List.set_cons_zero, List.set_cons_succ])
            refine l_done ?_
            go_wp2
            go_ret
            exact ⟨ret_int L.out.symm, BW⟩
        · have Tv : (0 : Int) < (vs.length : Int) := by have := List.length_pos_iff.2 hv; omega
          have Uv : 0 < vs.length := List.length_pos_iff.2 hv
          have L := hidden (HE.out KK.out (.inl (fun h => hv (by simpa [formP] using h.2.2.2.2.2.1))))
          clear hv
          iterate 7 (refine l_val (by rw [HO.out]; kernel_rfl) (by go_simp; with_reducible rfl) ?_; try simp only [Act.put, List.setIfInBounds_toArray, List.set_cons_zero, List.set_cons_succ])
          iterate 13 (refine l_skip (by rw [HO.out]; kernel_rfl) ?_; try simp only [Act.put, List.setIfInBounds_toArray, List.set_cons_zero, List.set_cons_succ])
          iterate 1 (refine l_val (by rw [HO.out]; kernel_rfl) (by go_simp; with_reducible rfl) ?_; try simp only [Act.put, List.setIfInBounds_toArray, List.set_cons_zero, List.set_cons_succ])
          refine l_done ?_
          go_wp2
          go_ret
          exact ⟨ret_int L.out.symm, BW⟩
      · have Tb : (0 : Int) < (bs.length : Int) := by have := List.length_pos_iff.2 hb; omega
        have Ub : 0 < bs.length := List.length_pos_iff.2 hb
        have L := hidden (HE.out KK.out (.inl (fun h => hb (by simpa [formP] using h.2.2.2.2.1))))
        clear hb
        iterate 7 (refine l_val (by rw [HO.out]; kernel_rfl) (by go_simp; with_reducible rfl) ?_; try simp only [Act.put, List.setIfInBounds_toArray, List.set_cons_zero, List.set_cons_succ])
        iterate 9 (refine l_skip (by rw [HO.out]; kernel_rfl) ?_; try simp only [Act.put, List.setIfInBounds_toArray, List.set_cons_zero, List.set_cons_succ])
        iterate 2 (refine l_val (by rw [HO.out]; kernel_rfl) (by go_simp; with_reducible rfl) ?_; try simp only [Act.put, List.setIfInBounds_toArray, List.set_cons_zero, List.set_cons_succ])
        iterate 13 (refine l_skip (by rw [HO.out]; kernel_rfl) ?_; try simp only [Act.put, List.setIfInBounds_toArray, List.set_cons_zero, List.set_cons_succ])
        iterate 1 (refine l_val (by rw [HO.out]; kernel_rfl) (by go_simp; with_reducible rfl) ?_; try simp only [Act.put, List.setIfInBounds_toArray, List.set_cons_zero, List.set_cons_succ])
        refine l_done ?_
        go_wp2
        go_ret
        exact ⟨ret_int L.out.symm, BW⟩
    · have Ts : (s != 0) = true := by simpa using hs
      have L := hidden (HE.out KK.out (.inl (fun h => hs (by simpa [formP] using h.2.2.2.1))))
      clear hs
      iterate 6 (refine l_val (by rw [HO.out]; kernel_rfl) (by go_simp; with_reducible rfl) ?_; try simp only [Act.put, List.setIfInBounds_toArray, List.set_cons_zero, List.set_cons_succ])
      iterate 9 (refine l_skip (by rw [HO.out]; kernel_rfl) ?_; try simp only [Act.put, List.setIfInBounds_toArray, List.set_cons_zero, List.set_cons_succ])
      iterate 2 (refine l_val (by rw [HO.out]; kernel_rfl) (by go_simp; with_reducible rfl) ?_; try simp only [Act.put, List.setIfInBounds_toArray, List.set_cons_zero, List.set_cons_succ])
      iterate 9 (refine l_skip (by rw [HO.out]; kernel_rfl) ?_; try simp only [Act.put, List.setIfInBounds_toArray, List.set_cons_zero, List.set_cons_succ])
      iterate 2 (refine l_val (by rw [HO.out]; kernel_rfl) (by go_simp; with_reducible rfl) ?_; try simp only [Act.put, List.setIfInBounds_toArray, List.set_cons_zero, List.set_cons_succ])
      iterate 13 (refine l_skip (by rw [HO.out]; kernel_rfl) ?_; try simp only [Act.put, List.setIfInBounds_toArray, List.set_cons_zero, List.set_cons_succ])
      iterate 1 (refine l_val (by rw [HO.out]; kernel_rfl) (by go_simp; with_reducible rfl) ?_; try simp only [Act.put, List.setIfInBounds_toArray, List.set_cons_zero, List.set_cons_succ])
      refine l_done ?_
      go_wp2
      go_ret
      exact ⟨ret_int L.out.symm, BW⟩
  · have Tw : (p != 0) = true := by simpa using hw
    have L := hidden (HE.out KK.out (.inl (fun h => hw (by simpa [formP] using h.2.2.1))))
    clear hw
    iterate 6 (refine l_val (by rw [HO.out]; kernel_rfl) (by go_simp; with_reducible rfl) ?_; try simp only [Act.put, List.setIfInBounds_toArray, List.set_cons_zero, List.set_cons_succ])
    iterate 8 (refine l_skip (by rw [HO.out]; kernel_rfl) ?_; try simp only [Act.put, List.setIfInBounds_toArray, List.set_cons_zero, List.set_cons_succ])
    iterate 2 (refine l_val (by rw [HO.out]; kernel_rfl) (by go_simp; with_reducible rfl) ?_; try simp only [Act.put, List.setIfInBounds_toArray, List.set_cons_zero, List.set_cons_succ])
    iterate 9 (refine l_skip (by rw [HO.out]; kernel_rfl) ?_; try simp only [Act.put, List.setIfInBounds_toArray, List.set_cons_zero, List.set_cons_succ])
    iterate 2 (refine l_val (by rw [HO.out]; kernel_rfl) (by go_simp; with_reducible rfl) ?_; try simp only [Act.put, List.setIfInBounds_toArray, List.set_cons_zero, List.set_cons_succ])
    iterate 9 (refine l_skip (by rw [HO.out]; kernel_rfl) ?_; try simp only [Act.put, List.setIfInBounds_toArray, List.set_cons_zero, List.set_cons_succ])
    iterate 2 (refine l_val (by rw [HO.out]; kernel_rfl) (by go_simp; with_reducible rfl) ?_; try simp only [Act.put, List.setIfInBounds_toArray, List.set_cons_zero, List.set_cons_succ])
    iterate 13 (refine l_skip (by rw [HO.out]; kernel_rfl) ?_; try simp only [Act.put, List.setIfInBounds_toArray, List.set_cons_zero, List.set_cons_succ])
    iterate 1 (refine l_val (by rw [HO.out]; kernel_rfl) (by go_simp; with_reducible rfl) ?_; try simp only [Act.put, List.setIfInBounds_toArray, List.set_cons_zero, List.set_cons_succ])
    refine l_done ?_
    go_wp2
    go_ret
    exact ⟨ret_int L.out.symm, BW⟩
end Go.Proofs.Ytejcigeccmfeeaa
namespace Go.Proofs.Ytejcigeccmfeeaa
open Go.RowKit

set_option maxRecDepth 100000 in
set_option maxHeartbeats 6000000 in
theorem right_ref_2 (v : Value) (q : Rq) (w : World) (h : IsRq w v q) (hf : q.fn = 2) :
    Calls Try.prog 38 #[v] w fun e w' => e = .returned (.int .i64 (rightE q)) ∧ Below w.heap.size w w' := by
  obtain ⟨ab, capb, av, capv, rfl, -, -⟩ := h.slices
  have W0 := hidden (fun o => (Below.refl w.heap.size w).alloc (Nat.le_refl _) o)
  have HH := hidden (fun w' (hb : Below w.heap.size w w') => h.below hb)
  have HE := hidden (@rightE_12 q)
  have H0 := hidden (@rightE_0 q)
  have KK : Hid (knownB q.fn = true) := by show _ = _; rw [hf]; rfl
  obtain ⟨f, a, c, p, s, bs, vs, m, o⟩ := q
  simp only at HE H0 HH KK hf ⊢
  subst hf
  have hm := m.toNat_lt
  have ho := o.toNat_lt
  clear h
  have Ia : Hid (inI [97, 99] 97 = true) := by rfl
  have Ic : Hid (inI [97, 99] 99 = true) := by rfl
  have Iw : Hid (inI [97, 99] 119 = false) := by rfl
  have Is : Hid (inI [97, 99] 115 = false) := by rfl
  have Ib : Hid (inI [97, 99] 98 = false) := by rfl
  have Iv : Hid (inI [97, 99] 118 = false) := by rfl
  have Im : Hid (inI [97, 99] 109 = false) := by rfl
  go_enter Try.func38, Try.ntmps38
  go_upto_region 4 with (first | (go_at_call 42; refine (has_ref _ _).mono ?_; rintro e w4 ⟨rfl, rfl⟩; rw [KK.out]) | (go_at_call 43; refine (uses_ref _ _ KK.out).mono ?_; rintro e w4 ⟨rfl, rfl⟩; rw [show usesL 2 = [97, 99] from rfl]))
  have XB := Box.new w 2 a c p s (.slice ab bs.length capb) (.slice av vs.length capv) m o 68
  have BW := W0.out (.cells #[.int .i64 2, .int .i64 a, .int .i64 c, .int .i64 p, .int .i64 s, .slice ab bs.length capb, .slice av vs.length capv, wV m, wV o] 68)
  generalize w.alloc (.cells #[.int .i64 2, .int .i64 a, .int .i64 c, .int .i64 p, .int .i64 s, .slice ab bs.length capb, .slice av vs.length capv, wV m, wV o] 68) = w0 at *
  obtain ⟨gl, c0, c1, c2, c3, c4, c5, c6, c7, c8⟩ := XB
  refine l_begin (fun O HO => ?_)
  try simp only [List.cons_append, List.nil_append]
  iterate 1 (refine l_val (by rw [HO.out]; kernel_rfl) (by go_simp; with_reducible rfl) ?_; try simp only [Act.put, List.setIfInBounds_toArray, List.set_cons_zero, List.set_cons_succ])
  refine l_move (by rw [HO.out]; kernel_rfl) (fun K hK => ?_)
  go_wp2_with fail
  refine (in_at [97, 99] _ _ (by decide) (by decide)).mono ?_
  rintro e w4 ⟨rfl, rfl⟩
  rw [Ia.out]
  go_simp
  refine hK.out _ _ ?_
  clear K hK
  try simp only [Act.put, List.setIfInBounds_toArray, List.set_cons_zero, List.set_cons_succ]
  iterate 2 (refine l_val (by rw [HO.out]; kernel_rfl) (by go_simp; with_reducible rfl) ?_; try simp only [Act.put, List.setIfInBounds_toArray, List.set_cons_zero, List.set_cons_succ])
  iterate 3 (refine l_skip (by rw [HO.out]; kernel_rfl) ?_; try simp only [Act.put, List.setIfInBounds_toArray, List.set_cons_zero, List.set_cons_succ])
  iterate 2 (refine l_val (by rw [HO.out]; kernel_rfl) (by go_simp; with_reducible rfl) ?_; try simp only [Act.put, List.setIfInBounds_toArray, List.set_cons_zero, List.set_cons_succ])
  iterate 1 (refine l_val (by rw [HO.out]; kernel_rfl) (by go_simp; with_reducible rfl) ?_; try simp only [Act.put, List.setIfInBounds_toArray, List.set_cons_zero, List.set_cons_succ])
  refine l_move (by rw [HO.out]; kernel_rfl) (fun K hK => ?_)
  go_wp2_with fail
  refine (in_at [97, 99] _ _ (by decide) (by decide)).mono ?_
  rintro e w4 ⟨rfl, rfl⟩
  rw [Ic.out]
  go_simp
  refine hK.out _ _ ?_
  clear K hK
  try simp only [Act.put, List.setIfInBounds_toArray, List.set_cons_zero, List.set_cons_succ]
  iterate 2 (refine l_val (by rw [HO.out]; kernel_rfl) (by go_simp; with_reducible rfl) ?_; try simp only [Act.put, List.setIfInBounds_toArray, List.set_cons_zero, List.set_cons_succ])
  iterate 3 (refine l_skip (by rw [HO.out]; kernel_rfl) ?_; try simp only [Act.put, List.setIfInBounds_toArray, List.set_cons_zero, List.set_cons_succ])
  iterate 3 (refine l_val (by rw [HO.out]; kernel_rfl) (by go_simp; with_reducible rfl) ?_; try simp only [Act.put, List.setIfInBounds_toArray, List.set_cons_zero, List.set_cons_succ])
  iterate 1 (refine l_val (by rw [HO.out]; kernel_rfl) (by go_simp; with_reducible rfl) ?_; try simp only [Act.put, List.setIfInBounds_toArray, List.set_cons_zero, List.set_cons_succ])
  refine l_move (by rw [HO.out]; kernel_rfl) (fun K hK => ?_)
  go_wp2_with fail
  refine (in_at [97, 99] _ _ (by decide) (by decide)).mono ?_
  rintro e w4 ⟨rfl, rfl⟩
  rw [Iw.out]
  go_simp
  refine hK.out _ _ ?_
  clear K hK
  try simp only [Act.put, List.setIfInBounds_toArray, List.set_cons_zero, List.set_cons_succ]
  iterate 2 (refine l_val (by rw [HO.out]; kernel_rfl) (by go_simp; with_reducible rfl) ?_; try simp only [Act.put, List.setIfInBounds_toArray, List.set_cons_zero, List.set_cons_succ])
  by_cases hw : p = 0
  · subst hw
    iterate 6 (refine l_val (by rw [HO.out]; kernel_rfl) (by go_simp; with_reducible rfl) ?_; try simp only [Act.put, List.setIfInBounds_toArray, List.set_cons_zero, List.set_cons_succ])
    iterate 1 (refine l_val (by rw [HO.out]; kernel_rfl) (by go_simp; with_reducible rfl) ?_; try simp only [Act.put, List.setIfInBounds_toArray, List.set_cons_zero, List.set_cons_succ])
    refine l_move (by rw [HO.out]; kernel_rfl) (fun K hK => ?_)
    go_wp2_with fail
    refine (in_at [97, 99] _ _ (by decide) (by decide)).mono ?_
    rintro e w4 ⟨rfl, rfl⟩
    rw [Is.out]
    go_simp
    refine hK.out _ _ ?_
    clear K hK
    try simp only [Act.put, List.setIfInBounds_toArray, List.set_cons_zero, List.set_cons_succ]
    iterate 2 (refine l_val (by rw [HO.out]; kernel_rfl) (by go_simp; with_reducible rfl) ?_; try simp only [Act.put, List.setIfInBounds_toArray, List.set_cons_zero, List.set_cons_succ])
    by_cases hs : s = 0
    · subst hs
      iterate 6 (refine l_val (by rw [HO.out]; kernel_rfl) (by go_simp; with_reducible rfl) ?_; try simp only [Act.put, List.setIfInBounds_toArray, List.set_cons_zero, List.set_cons_succ])
      iterate 1 (refine l_val (by rw [HO.out]; kernel_rfl) (by go_simp; with_reducible rfl) ?_; try simp only [Act.put, List.setIfInBounds_toArray, List.set_cons_zero, List.set_cons_succ])
      refine l_move (by rw [HO.out]; kernel_rfl) (fun K hK => ?_)
      go_wp2_with fail
      refine (in_at [97, 99] _ _ (by decide) (by decide)).mono ?_
      rintro e w4 ⟨rfl, rfl⟩
      rw [Ib.out]
      go_simp
      refine hK.out _ _ ?_
      clear K hK
      try simp only [Act.put, List.setIfInBounds_toArray, List.set_cons_zero, List.set_cons_succ]
      iterate 2 (refine l_val (by rw [HO.out]; kernel_rfl) (by go_simp; with_reducible rfl) ?_; try simp only [Act.put, List.setIfInBounds_toArray, List.set_cons_zero, List.set_cons_succ])
      by_cases hb : bs = []
      · subst hb
        simp only [List.length_nil] at *
        iterate 7 (refine l_val (by rw [HO.out]; kernel_rfl) (by go_simp; with_reducible rfl) ?_; try simp only [Act.put, List.setIfInBounds_toArray, List.set_cons_zero, List.set_cons_succ])
        iterate 1 (refine l_val (by rw [HO.out]; kernel_rfl) (by go_simp; with_reducible rfl) ?_; try simp only [Act.put, List.setIfInBounds_toArray, List.set_cons_zero, List.set_cons_succ])
        refine l_move (by rw [HO.out]; kernel_rfl) (fun K hK => ?_)
        go_wp2_with fail
        refine (in_at [97, 99] _ _ (by decide) (by decide)).mono ?_
        rintro e w4 ⟨rfl, rfl⟩
        rw [Iv.out]
        go_simp
        refine hK.out _ _ ?_
        clear K hK
        try simp only [Act.put, List.setIfInBounds_toArray, List.set_cons_zero, List.set_cons_succ]
        iterate 2 (refine l_val (by rw [HO.out]; kernel_rfl) (by go_simp; with_reducible rfl) ?_; try simp only [Act.put, List.setIfInBounds_toArray, List.set_cons_zero, List.set_cons_succ])
        by_cases hv : vs = []
        · subst hv
          simp only [List.length_nil] at *
          iterate 7 (refine l_val (by rw [HO.out]; kernel_rfl) (by go_simp; with_reducible rfl) ?_; try simp only [Act.put, List.setIfInBounds_toArray, List.set_cons_zero, List.set_cons_succ])
          iterate 1 (refine l_val (by rw [HO.out]; kernel_rfl) (by go_simp; with_reducible rfl) ?_; try simp only [Act.put, List.setIfInBounds_toArray, List.set_cons_zero, List.set_cons_succ])
          refine l_move (by rw [HO.out]; kernel_rfl) (fun K hK => ?_)
          go_wp2_with fail
          refine (in_at [97, 99] _ _ (by decide) (by decide)).mono ?_
          rintro e w4 ⟨rfl, rfl⟩
          rw [Im.out]
          go_simp
          refine hK.out _ _ ?_
          clear K hK
          try simp only [Act.put, List.setIfInBounds_toArray, List.set_cons_zero, List.set_cons_succ]
          iterate 2 (refine l_val (by rw [HO.out]; kernel_rfl) (by go_simp; with_reducible rfl) ?_; try simp only [Act.put, List.setIfInBounds_toArray, List.set_cons_zero, List.set_cons_succ])
          by_cases hm0 : m = 0
          · subst hm0
            iterate 4 (refine l_val (by rw [HO.out]; kernel_rfl) (by go_simp; with_reducible rfl) ?_; try simp only [Act.put, List.setIfInBounds_toArray, List.set_cons_zero, List.set_cons_succ])
            by_cases ho0 : o = 0
            · subst ho0
              iterate 6 (refine l_val (by rw [HO.out]; kernel_rfl) (by go_simp; with_reducible rfl) ?_; try simp only [Act.put, List.setIfInBounds_toArray, List.set_cons_zero, List.set_cons_succ])
              refine l_done ?_
              go_wp2_with fail
              refine (word_ref _ _).mono ?_
              rintro e w4 ⟨rfl, rfl⟩
              cases ha : numB a
              · have L := hidden (HE.out KK.out (.inr (.inl (by rw [ha]; simp))))
                have Na := hidden ha
                clear ha
                go_wp2
                go_ret
                exact ⟨ret_int L.out.symm, BW⟩
              · have Na := hidden ha
                clear ha
                go_wp2_with fail
                refine (word_ref _ _).mono ?_
                rintro e w4 ⟨rfl, rfl⟩
                cases hc : numB c
                · have L := hidden (HE.out KK.out (.inr (.inl (by rw [hc]; simp))))
                  have Nc := hidden hc
                  clear hc
                  go_wp2
                  go_ret
                  exact ⟨ret_int L.out.symm, BW⟩
                · have Nc := hidden hc
                  clear hc
                  go_wp2_with fail
                  refine (word_ref _ _).mono ?_
                  rintro e w4 ⟨rfl, rfl⟩
                  have Np : Hid (numB 0 = true) := by rfl
                  rw [Np.out]
                  go_wp2_with fail
                  refine (word_ref _ _).mono ?_
                  rintro e w4 ⟨rfl, rfl⟩
                  have Ns : Hid (numB 0 = true) := by rfl
                  rw [Ns.out]
                  go_wp2_with fail
                  have E2 := hidden (show (numB a && numB 0 && numB 0 && numB c) = true by simp [Na.out, Np.out, Nc.out])
                  have G1 := hidden (show formP ⟨2, a, c, 0, 0, [], [], 0, 0⟩ by simp [formP])
                  refine (lists_ref _ ⟨2, a, c, 0, 0, [], [], 0, 0⟩ _ (HH.out _ BW) KK.out).mono ?_
                  rintro e w5 ⟨rfl, B5⟩
                  replace B5 := below_then BW B5
                  cases hl : listB ⟨2, a, c, 0, 0, [], [], 0, 0⟩
                  · have L := hidden (HE.out KK.out (.inr (.inr hl)))
                    clear hl
                    go_wp2
                    go_ret
                    exact ⟨ret_int L.out.symm, B5⟩
                  · have L := hidden (H0.out KK.out G1.out E2.out hl)
                    clear hl
                    go_wp2
                    go_ret
                    exact ⟨ret_int L.out.symm, B5⟩
            · have To : ((o.toNat : Int) != 0) = true := by simp; intro h; exact ho0 (UInt16.toNat_inj.1 h)
              have L := hidden (HE.out KK.out (.inl (fun h => ho0 (by have := h.2.2.2.2.2.2; simp at this; exact this))))
              clear ho0
              iterate 6 (refine l_val (by rw [HO.out]; kernel_rfl) (by go_simp; with_reducible rfl) ?_; try simp only [Act.put, List.setIfInBounds_toArray, List.set_cons_zero, List.set_cons_succ])
              refine l_done ?_
              go_wp2
              go_ret
              exact ⟨ret_int L.out.symm, BW⟩
          · have Tm : ((m.toNat : Int) != 0) = true := by simp; intro h; exact hm0 (UInt16.toNat_inj.1 h)
            have L := hidden (HE.out KK.out (.inl (fun h => hm0 (by have := h.2.2.2.2.2.2; simp at this; exact this.1))))
            clear hm0
            iterate 4 (refine l_val (by rw [HO.out]; kernel_rfl) (by go_simp; with_reducible rfl) ?_; try simp only [Act.put, List.setIfInBounds_toArray, List.set_cons_zero, List.set_cons_succ])
            iterate 3 (refine l_skip (by rw [HO.out]; kernel_rfl) ?_; try simp only [Act.put, List.setIfInBounds_toArray, List.set_cons_zero, List.set_cons_succ])
            iterate 3 (refine l_val (by rw [HO.out]; kernel_rfl) (by go_simp; with_reducible rfl) ?_; try simp only [Act.put, List.setIfInBounds_toArray, List.set_cons_zero, List.set_cons_succ])
            refine l_done ?_
            go_wp2
            go_ret
            exact ⟨ret_int L.out.symm, BW⟩
        · have Tv : (0 : Int) < (vs.length : Int) := by have := List.length_pos_iff.2 hv; omega
          have Uv : 0 < vs.length := List.length_pos_iff.2 hv
          have L := hidden (HE.out KK.out (.inl (fun h => hv (by simpa [formP] using h.2.2.2.2.2.1))))
          clear hv
          iterate 7 (refine l_val (by rw [HO.out]; kernel_rfl) (by go_simp; with_reducible rfl) ?_; try simp only [Act.put, List.setIfInBounds_toArray, List.set_cons_zero, List.set_cons_succ])
          iterate 13 (refine l_skip (by rw [HO.out]; kernel_rfl) ?_; try simp only [Act.put, List.setIfInBounds_toArray, List.set_cons_zero, List.set_cons_succ])
          iterate 1 (refine l_val (by rw [HO.out]; kernel_rfl) (by go_simp; with_reducible rfl) ?_; try simp only [Act.put, List.setIfInBounds_toArray, List.set_cons_zero, List.set_cons_succ])
          refine l_done ?_
          go_wp2
          go_ret
          exact ⟨ret_int L.out.symm, BW⟩
      · have Tb : (0 : Int) < (bs.length : Int) := by have := List.length_pos_iff.2 hb; omega
        have Ub : 0 < bs.length := List.length_pos_iff.2 hb
        have L := hidden (HE.out KK.out (.inl (fun h => hb (by simpa [formP] using h.2.2.2.2.1))))
        clear hb
        iterate 7 (refine l_val (by rw [HO.out]; kernel_rfl) (by go_simp; with_reducible rfl) ?_; try simp only [Act.put, List.setIfInBounds_toArray, List.set_cons_zero, List.set_cons_succ])
        iterate 9 (refine l_skip (by rw [HO.out]; kernel_rfl) ?_; try simp only [Act.put, List.setIfInBounds_toArray, List.set_cons_zero, List.set_cons_succ])
        iterate 2 (refine l_val (by rw [HO.out]; kernel_rfl) (by go_simp; with_reducible rfl) ?_; try simp only [Act.put, List.setIfInBounds_toArray, List.set_cons_zero, List.set_cons_succ])
        iterate 13 (refine l_skip (by rw [HO.out]; kernel_rfl) ?_; try simp only [Act.put, List.setIfInBounds_toArray, List.set_cons_zero, List.set_cons_succ])
        iterate 1 (refine l_val (by rw [HO.out]; kernel_rfl) (by go_simp; with_reducible rfl) ?_; try simp only [Act.put, List.setIfInBounds_toArray, List.set_cons_zero, List.set_cons_succ])
        refine l_done ?_
        go_wp2
        go_ret
        exact ⟨ret_int L.out.symm, BW⟩
    · have Ts : (s != 0) = true := by simpa using hs
      have L := hidden (HE.out KK.out (.inl (fun h => hs (by simpa [formP] using h.2.2.2.1))))
      clear hs
      iterate 6 (refine l_val (by rw [HO.out]; kernel_rfl) (by go_simp; with_reducible rfl) ?_; try simp only [Act.put, List.setIfInBounds_toArray, List.set_cons_zero, List.set_cons_succ])
      iterate 9 (refine l_skip (by rw [HO.out]; kernel_rfl) ?_; try simp only [Act.put, List.setIfInBounds_toArray, List.set_cons_zero, List.set_cons_succ])
      iterate 2 (refine l_val (by rw [HO.out]; kernel_rfl) (by go_simp; with_reducible rfl) ?_; try simp only [Act.put, List.setIfInBounds_toArray, List.set_cons_zero, List.set_cons_succ])
      iterate 9 (refine l_skip (by rw [HO.out]; kernel_rfl) ?_; try simp only [Act.put, List.setIfInBounds_toArray, List.set_cons_zero, List.set_cons_succ])
      iterate 2 (refine l_val (by rw [HO.out]; kernel_rfl) (by go_simp; with_reducible rfl) ?_; try simp only [Act.put, List.setIfInBounds_toArray, List.set_cons_zero, List.set_cons_succ])
      iterate 13 (refine l_skip (by rw [HO.out]; kernel_rfl) ?_; try simp only [Act.put, List.setIfInBounds_toArray, List.set_cons_zero, List.set_cons_succ])
      iterate 1 (refine l_val (by rw [HO.out]; kernel_rfl) (by go_simp; with_reducible rfl) ?_; try simp only [Act.put, List.setIfInBounds_toArray, List.set_cons_zero, List.set_cons_succ])
      refine l_done ?_
      go_wp2
      go_ret
      exact ⟨ret_int L.out.symm, BW⟩
  · have Tw : (p != 0) = true := by simpa using hw
    have L := hidden (HE.out KK.out (.inl (fun h => hw (by simpa [formP] using h.2.2.1))))
    clear hw
    iterate 6 (refine l_val (by rw [HO.out]; kernel_rfl) (by go_simp; with_reducible rfl) ?_; try simp only [Act.put, List.setIfInBounds_toArray, List.set_cons_zero, List.set_cons_succ])
    iterate 8 (refine l_skip (by rw [HO.out]; kernel_rfl) ?_; try simp only [Act.put, List.setIfInBounds_toArray, List.set_cons_zero, List.set_cons_succ])
    iterate 2 (refine l_val (by rw [HO.out]; kernel_rfl) (by go_simp; with_reducible rfl) ?_; try simp only [Act.put, List.setIfInBounds_toArray, List.set_cons_zero, List.set_cons_succ])
    iterate 9 (refine l_skip (by rw [HO.out]; kernel_rfl) ?_; try simp only [Act.put, List.setIfInBounds_toArray, List.set_cons_zero, List.set_cons_succ])
    iterate 2 (refine l_val (by rw [HO.out]; kernel_rfl) (by go_simp; with_reducible rfl) ?_; try simp only [Act.put, List.setIfInBounds_toArray, List.set_cons_zero, List.set_cons_succ])
    iterate 9 (refine l_skip (by rw [HO.out]; kernel_rfl) ?_; try simp only [Act.put, List.setIfInBounds_toArray, List.set_cons_zero, List.set_cons_succ])
    iterate 2 (refine l_val (by rw [HO.out]; kernel_rfl) (by go_simp; with_reducible rfl) ?_; try simp only [Act.put, List.setIfInBounds_toArray, List.set_cons_zero, List.set_cons_succ])
    iterate 13 (refine l_skip (by rw [HO.out]; kernel_rfl) ?_; try simp only [Act.put, List.setIfInBounds_toArray, List.set_cons_zero, List.set_cons_succ])
    iterate 1 (refine l_val (by rw [HO.out]; kernel_rfl) (by go_simp; with_reducible rfl) ?_; try simp only [Act.put, List.setIfInBounds_toArray, List.set_cons_zero, List.set_cons_succ])
    refine l_done ?_
    go_wp2
    go_ret
    exact ⟨ret_int L.out.symm, BW⟩
end Go.Proofs.Ytejcigeccmfeeaa
namespace Go.Proofs.Ytejcigeccmfeeaa
open Go.RowKit

set_option maxRecDepth 100000 in
set_option maxHeartbeats 6000000 in
theorem right_ref_3 (v : Value) (q : Rq) (w : World) (h : IsRq w v q) (hf : q.fn = 3) :
    Calls Try.prog 38 #[v] w fun e w' => e = .returned (.int .i64 (rightE q)) ∧ Below w.heap.size w w' := by
  obtain ⟨ab, capb, av, capv, rfl, -, -⟩ := h.slices
  have W0 := hidden (fun o => (Below.refl w.heap.size w).alloc (Nat.le_refl _) o)
  have HH := hidden (fun w' (hb : Below w.heap.size w w') => h.below hb)
  have HE := hidden (@rightE_12 q)
  have H0 := hidden (@rightE_0 q)
  have KK : Hid (knownB q.fn = true) := by show _ = _; rw [hf]; rfl
  obtain ⟨f, a, c, p, s, bs, vs, m, o⟩ := q
  simp only at HE H0 HH KK hf ⊢
  subst hf
  have hm := m.toNat_lt
  have ho := o.toNat_lt
  clear h
  have Ia : Hid (inI [97, 99] 97 = true) := by rfl
  have Ic : Hid (inI [97, 99] 99 = true) := by rfl
  have Iw : Hid (inI [97, 99] 119 = false) := by rfl
  have Is : Hid (inI [97, 99] 115 = false) := by rfl
  have Ib : Hid (inI [97, 99] 98 = false) := by rfl
  have Iv : Hid (inI [97, 99] 118 = false) := by rfl
  have Im : Hid (inI [97, 99] 109 = false) := by rfl
  go_enter Try.func38, Try.ntmps38
  go_upto_region 4 with (first | (go_at_call 42; refine (has_ref _ _).mono ?_; rintro e w4 ⟨rfl, rfl⟩; rw [KK.out]) | (go_at_call 43; refine (uses_ref _ _ KK.out).mono ?_; rintro e w4 ⟨rfl, rfl⟩; rw [show usesL 3 = [97, 99] from rfl]))
  have XB := Box.new w 3 a c p s (.slice ab bs.length capb) (.slice av vs.length capv) m o 68
  have BW := W0.out (.cells #[.int .i64 3, .int .i64 a, .int .i64 c, .int .i64 p, .int .i64 s, .slice ab bs.length capb, .slice av vs.length capv, wV m, wV o] 68)
  generalize w.alloc (.cells #[.int .i64 3, .int .i64 a, .int .i64 c, .int .i64 p, .int .i64 s, .slice ab bs.length capb, .slice av vs.length capv, wV m, wV o] 68) = w0 at *
  obtain ⟨gl, c0, c1, c2, c3, c4, c5, c6, c7, c8⟩ := XB
  refine l_begin (fun O HO => ?_)
  try simp only [List.cons_append, List.nil_append]
  iterate 1 (refine l_val (by rw [HO.out]; kernel_rfl) (by go_simp; with_reducible rfl) ?_; try simp only [Act.put, List.setIfInBounds_toArray, List.set_cons_zero, List.set_cons_succ])
  refine l_move (by rw [HO.out]; kernel_rfl) (fun K hK => ?_)
  go_wp2_with fail
  refine (in_at [97, 99] _ _ (by decide) (by decide)).mono ?_
  rintro e w4 ⟨rfl, rfl⟩
  rw [Ia.out]
  go_simp
  refine hK.out _ _ ?_
  clear K hK
  try simp only [Act.put, List.setIfInBounds_toArray, List.set_cons_zero, List.set_cons_succ]
  iterate 2 (refine l_val (by rw [HO.out]; kernel_rfl) (by go_simp; with_reducible rfl) ?_; try simp only [Act.put, List.setIfInBounds_toArray, List.set_cons_zero, List.set_cons_succ])
  iterate 3 (refine l_skip (by rw [HO.out]; kernel_rfl) ?_; try simp only [Act.put, List.setIfInBounds_toArray, List.set_cons_zero, List.set_cons_succ])
  iterate 2 (refine l_val (by rw [HO.out]; kernel_rfl) (by go_simp; with_reducible rfl) ?_; try simp only [Act.put, List.setIfInBounds_toArray, List.set_cons_zero, List.set_cons_succ])
  iterate 1 (refine l_val (by rw [HO.out]; kernel_rfl) (by go_simp; with_reducible rfl) ?_; try simp only [Act.put, List.setIfInBounds_toArray, List.set_cons_zero, List.set_cons_succ])
  refine l_move (by rw [HO.out]; kernel_rfl) (fun K hK => ?_)
  go_wp2_with fail
  refine (in_at [97, 99] _ _ (by decide) (by decide)).mono ?_
  rintro e w4 ⟨rfl, rfl⟩
  rw [Ic.out]
  go_simp
  refine hK.out _ _ ?_
  clear K hK
  try simp only [Act.put, List.setIfInBounds_toArray, List.set_cons_zero, List.set_cons_succ]
  iterate 2 (refine l_val (by rw [HO.out]; kernel_rfl) (by go_simp; with_reducible rfl) ?_; try simp only [Act.put, List.setIfInBounds_toArray, List.set_cons_zero, List.set_cons_succ])
  iterate 3 (refine l_skip (by rw [HO.out]; kernel_rfl) ?_; try simp only [Act.put, List.setIfInBounds_toArray, List.set_cons_zero, List.set_cons_succ])
  iterate 3 (refine l_val (by rw [HO.out]; kernel_rfl) (by go_simp; with_reducible rfl) ?_; try simp only [Act.put, List.setIfInBounds_toArray, List.set_cons_zero, List.set_cons_succ])
  iterate 1 (refine l_val (by rw [HO.out]; kernel_rfl) (by go_simp; with_reducible rfl) ?_; try simp only [Act.put, List.setIfInBounds_toArray, List.set_cons_zero, List.set_cons_succ])
  refine l_move (by rw [HO.out]; kernel_rfl) (fun K hK => ?_)
  go_wp2_with fail
  refine (in_at [97, 99] _ _ (by decide) (by decide)).mono ?_
  rintro e w4 ⟨rfl, rfl⟩
  rw [Iw.out]
  go_simp
  refine hK.out _ _ ?_
  clear K hK
  try simp only [Act.put, List.setIfInBounds_toArray, List.set_cons_zero, List.set_cons_succ]
  iterate 2 (refine l_val (by rw [HO.out]; kernel_rfl) (by go_simp; with_reducible rfl) ?_; try simp only [Act.put, List.setIfInBounds_toArray, List.set_cons_zero, List.set_cons_succ])
  by_cases hw : p = 0
  · subst hw
    iterate 6 (refine l_val (by rw [HO.out]; kernel_rfl) (by go_simp; with_reducible rfl) ?_; try simp only [Act.put, List.setIfInBounds_toArray, List.set_cons_zero, List.set_cons_succ])
    iterate 1 (refine l_val (by rw [HO.out]; kernel_rfl) (by go_simp; with_reducible rfl) ?_; try simp only [Act.put, List.setIfInBounds_toArray, List.set_cons_zero, List.set_cons_succ])
    refine l_move (by rw [HO.out]; kernel_rfl) (fun K hK => ?_)
    go_wp2_with fail
    refine (in_at [97, 99] _ _ (by decide) (by decide)).mono ?_
    rintro e w4 ⟨rfl, rfl⟩
    rw [Is.out]
    go_simp
    refine hK.out _ _ ?_
    clear K hK
    try simp only [Act.put, List.setIfInBounds_toArray, List.set_cons_zero, List.set_cons_succ]
    iterate 2 (refine l_val (by rw [HO.out]; kernel_rfl) (by go_simp; with_reducible rfl) ?_; try simp only [Act.put, List.setIfInBounds_toArray, List.set_cons_zero, List.set_cons_succ])
    by_cases hs : s = 0
    · subst hs
      iterate 6 (refine l_val (by rw [HO.out]; kernel_rfl) (by go_simp; with_reducible rfl) ?_; try simp only [Act.put, List.setIfInBounds_toArray, List.set_cons_zero, List.set_cons_succ])
      iterate 1 (refine l_val (by rw [HO.out]; kernel_rfl) (by go_simp; with_reducible rfl) ?_; try simp only [Act.put, List.setIfInBounds_toArray, List.set_cons_zero, List.set_cons_succ])
      refine l_move (by rw [HO.out]; kernel_rfl) (fun K hK => ?_)
      go_wp2_with fail
      refine (in_at [97, 99] _ _ (by decide) (by decide)).mono ?_
      rintro e w4 ⟨rfl, rfl⟩
      rw [Ib.out]
      go_simp
      refine hK.out _ _ ?_
      clear K hK
      try simp only [Act.put, List.setIfInBounds_toArray, List.set_cons_zero, List.set_cons_succ]
      iterate 2 (refine l_val (by rw [HO.out]; kernel_rfl) (by go_simp; with_reducible rfl) ?_; try simp only [Act.put, List.setIfInBounds_toArray, List.set_cons_zero, List.set_cons_succ])
      by_cases hb : bs = []
      · subst hb
        simp only [List.length_nil] at *
        iterate 7 (refine l_val (by rw [HO.out]; kernel_rfl) (by go_simp; with_reducible rfl) ?_; try simp only [Act.put, List.setIfInBounds_toArray, List.set_cons_zero, List.set_cons_succ])
        iterate 1 (refine l_val (by rw [HO.out]; kernel_rfl) (by go_simp; with_reducible rfl) ?_; try simp only [Act.put, List.setIfInBounds_toArray, List.set_cons_zero, List.set_cons_succ])
        refine l_move (by rw [HO.out]; kernel_rfl) (fun K hK => ?_)
        go_wp2_with fail
        refine (in_at [97, 99] _ _ (by decide) (by decide)).mono ?_
        rintro e w4 ⟨rfl, rfl⟩
        rw [Iv.out]
        go_simp
        refine hK.out _ _ ?_
        clear K hK
        try simp only [Act.put, List.setIfInBounds_toArray, List.set_cons_zero, List.set_cons_succ]
        iterate 2 (refine l_val (by rw [HO.out]; kernel_rfl) (by go_simp; with_reducible rfl) ?_; try simp only [Act.put, List.setIfInBounds_toArray, List.set_cons_zero, List.set_cons_succ])
        by_cases hv : vs = []
        · subst hv
          simp only [List.length_nil] at *
          iterate 7 (refine l_val (by rw [HO.out]; kernel_rfl) (by go_simp; with_reducible rfl) ?_; try simp only [Act.put, List.setIfInBounds_toArray, List.set_cons_zero, List.set_cons_succ])
          iterate 1 (refine l_val (by rw [HO.out]; kernel_rfl) (by go_simp; with_reducible rfl) ?_; try simp only [Act.put, List.setIfInBounds_toArray, List.set_cons_zero, List.set_cons_succ])
          refine l_move (by rw [HO.out]; kernel_rfl) (fun K hK => ?_)
          go_wp2_with fail
          refine (in_at [97, 99] _ _ (by decide) (by decide)).mono ?_
          rintro e w4 ⟨rfl, rfl⟩
          rw [Im.out]
          go_simp
          refine hK.out _ _ ?_
          clear K hK
          try simp only [Act.put, List.setIfInBounds_toArray, List.set_cons_zero, List.set_cons_succ]
          iterate 2 (refine l_val (by rw [HO.out]; kernel_rfl) (by go_simp; with_reducible rfl) ?_; try simp only [Act.put, List.setIfInBounds_toArray, List.set_cons_zero, List.set_cons_succ])
          by_cases hm0 : m = 0
          · subst hm0
            iterate 4 (refine l_val (by rw [HO.out]; kernel_rfl) (by go_simp; with_reducible rfl) ?_; try simp only [Act.put, List.setIfInBounds_toArray, List.set_cons_zero, List.set_cons_succ])
            by_cases ho0 : o = 0
            · subst ho0
              iterate 6 (refine l_val (by rw [HO.out]; kernel_rfl) (by go_simp; with_reducible rfl) ?_; try simp only [Act.put, List.setIfInBounds_toArray, List.set_cons_zero, List.set_cons_succ])
              refine l_done ?_
              go_wp2_with fail
              refine (word_ref _ _).mono ?_
              rintro e w4 ⟨rfl, rfl⟩
              cases ha : numB a
              · have L := hidden (HE.out KK.out (.inr (.inl (by rw [ha]; simp))))
                have Na := hidden ha
                clear ha
                go_wp2
                go_ret
                exact ⟨ret_int L.out.symm, BW⟩
              · have Na := hidden ha
                clear ha
                go_wp2_with fail
                refine (word_ref _ _).mono ?_
                rintro e w4 ⟨rfl, rfl⟩
                cases hc : numB c
                · have L := hidden (HE.out KK.out (.inr (.inl (by rw [hc]; simp))))
                  have Nc := hidden hc
                  clear hc
                  go_wp2
                  go_ret
                  exact ⟨ret_int L.out.symm, BW⟩
                · have Nc := hidden hc
                  clear hc
                  go_wp2_with fail
                  refine (word_ref _ _).mono ?_
                  rintro e w4 ⟨rfl, rfl⟩
                  have Np : Hid (numB 0 = true) := by rfl
                  rw [Np.out]
                  go_wp2_with fail
                  refine (word_ref _ _).mono ?_
                  rintro e w4 ⟨rfl, rfl⟩
                  have Ns : Hid (numB 0 = true) := by rfl
                  rw [Ns.out]
                  go_wp2_with fail
                  have E2 := hidden (show (numB a && numB 0 && numB 0 && numB c) = true by simp [Na.out, Np.out, Nc.out])
                  have G1 := hidden (show formP ⟨3, a, c, 0, 0, [], [], 0, 0⟩ by simp [formP])
                  refine (lists_ref _ ⟨3, a, c, 0, 0, [], [], 0, 0⟩ _ (HH.out _ BW) KK.out).mono ?_
                  rintro e w5 ⟨rfl, B5⟩
                  replace B5 := below_then BW B5
                  cases hl : listB ⟨3, a, c, 0, 0, [], [], 0, 0⟩
                  · have L := hidden (HE.out KK.out (.inr (.inr hl)))
                    clear hl
                    go_wp2
                    go_ret
                    exact ⟨ret_int L.out.symm, B5⟩
                  · have L := hidden (H0.out KK.out G1.out E2.out hl)
                    clear hl
                    go_wp2
                    go_ret
                    exact ⟨ret_int L.out.symm, B5⟩
            · have To : ((o.toNat : Int) != 0) = true := by simp; intro h; exact ho0 (UInt16.toNat_inj.1 h)
              have L := hidden (HE.out KK.out (.inl (fun h => ho0 (by have := h.2.2.2.2.2.2; simp at this; exact this))))
              clear ho0
              iterate 6 (refine l_val (by rw [HO.out]; kernel_rfl) (by go_simp; with_reducible rfl) ?_; try simp only [Act.put, List.setIfInBounds_toArray, List.set_cons_zero, List.set_cons_succ])
              refine l_done ?_
              go_wp2
              go_ret
              exact ⟨ret_int L.out.symm, BW⟩
          · have Tm : ((m.toNat : Int) != 0) = true := by simp; intro h; exact hm0 (UInt16.toNat_inj.1 h)
            have L := hidden (HE.out KK.out (.inl (fun h => hm0 (by have := h.2.2.2.2.2.2; simp at this; exact this.1))))
            clear hm0
            iterate 4 (refine l_val (by rw [HO.out]; kernel_rfl) (by go_simp; with_reducible rfl) ?_; try simp only [Act.put, List.setIfInBounds_toArray, List.set_cons_zero, List.set_cons_succ])
            iterate 3 (refine l_skip (by rw [HO.out]; kernel_rfl) ?_; try simp only [Act.put, List.setIfInBounds_toArray, List.set_cons_zero, List.set_cons_succ])
            iterate 3 (refine l_val (by rw [HO.out]; kernel_rfl) (by go_simp; with_reducible rfl) ?_; try simp only [Act.put, List.setIfInBounds_toArray, List.set_cons_zero, List.set_cons_succ])
            refine l_done ?_
            go_wp2
            go_ret
            exact ⟨ret_int L.out.symm, BW⟩
        · have Tv : (0 : Int) < (vs.length : Int) := by have := List.length_pos_iff.2 hv; omega
          have Uv : 0 < vs.length := List.length_pos_iff.2 hv
          have L := hidden (HE.out KK.out (.inl (fun h => hv (by simpa [formP] using h.2.2.2.2.2.1))))
          clear hv
          iterate 7 (refine l_val (by rw [HO.out]; kernel_rfl) (by go_simp; with_reducible rfl) ?_; try simp only [Act.put, List.setIfInBounds_toArray, List.set_cons_zero, List.set_cons_succ])
          iterate 13 (refine l_skip (by rw [HO.out]; kernel_rfl) ?_; try simp only [Act.put, List.setIfInBounds_toArray, List.set_cons_zero, List.set_cons_succ])
          iterate 1 (refine l_val (by rw [HO.out]; kernel_rfl) (by go_simp; with_reducible rfl) ?_; try simp only [Act.put, List.setIfInBounds_toArray, List.set_cons_zero, List.set_cons_succ])
          refine l_done ?_
          go_wp2
          go_ret
          exact ⟨ret_int L.out.symm, BW⟩
      · have Tb : (0 : Int) < (bs.length : Int) := by have := List.length_pos_iff.2 hb; omega
        have Ub : 0 < bs.length := List.length_pos_iff.2 hb
        have L := hidden (HE.out KK.out (.inl (fun h => hb (by simpa [formP] using h.2.2.2.2.1))))
        clear hb
        iterate 7 (refine l_val (by rw [HO.out]; kernel_rfl) (by go_simp; with_reducible rfl) ?_; try simp only [Act.put, List.setIfInBounds_toArray, List.set_cons_zero, List.set_cons_succ])
        iterate 9 (refine l_skip (by rw [HO.out]; kernel_rfl) ?_; try simp only [Act.put, List.setIfInBounds_toArray, List.set_cons_zero, List.set_cons_succ])
        iterate 2 (refine l_val (by rw [HO.out]; kernel_rfl) (by go_simp; with_reducible rfl) ?_; try simp only [Act.put, List.setIfInBounds_toArray, List.set_cons_zero, List.set_cons_succ])
        iterate 13 (refine l_skip (by rw [HO.out]; kernel_rfl) ?_; try simp only [Act.put, List.setIfInBounds_toArray, List.set_cons_zero, List.set_cons_succ])
        iterate 1 (refine l_val (by rw [HO.out]; kernel_rfl) (by go_simp; with_reducible rfl) ?_; try simp only [Act.put, List.setIfInBounds_toArray, List.set_cons_zero, List.set_cons_succ])
        refine l_done ?_
        go_wp2
        go_ret
        exact ⟨ret_int L.out.symm, BW⟩
    · have Ts : (s != 0) = true := by simpa using hs
      have L := hidden (HE.out KK.out (.inl (fun h => hs (by simpa [formP] using h.2.2.2.1))))
      clear hs
      iterate 6 (refine l_val (by rw [HO.out]; kernel_rfl) (by go_simp; with_reducible rfl) ?_; try simp only [Act.put, List.setIfInBounds_toArray, List.set_cons_zero, List.set_cons_succ])
      iterate 9 (refine l_skip (by rw [HO.out]; kernel_rfl) ?_; try simp only [Act.put, List.setIfInBounds_toArray, List.set_cons_zero, List.set_cons_succ])
      iterate 2 (refine l_val (by rw [HO.out]; kernel_rfl) (by go_simp; with_reducible rfl) ?_; try simp only [Act.put, List.setIfInBounds_toArray, List.set_cons_zero, List.set_cons_succ])
      iterate 9 (refine l_skip (by rw [HO.out]; kernel_rfl) ?_; try simp only [Act.put, List.setIfInBounds_toArray, List.set_cons_zero, List.set_cons_succ])
      iterate 2 (refine l_val (by rw [HO.out]; kernel_rfl) (by go_simp; with_reducible rfl) ?_; try simp only [Act.put, List.setIfInBounds_toArray, List.set_cons_zero, List.set_cons_succ])
      iterate 13 (refine l_skip (by rw [HO.out]; kernel_rfl) ?_; try simp only [Act.put, List.setIfInBounds_toArray, List.set_cons_zero, List.set_cons_succ])
      iterate 1 (refine l_val (by rw [HO.out]; kernel_rfl) (by go_simp; with_reducible rfl) ?_; try simp only [Act.put, List.setIfInBounds_toArray, List.set_cons_zero, List.set_cons_succ])
      refine l_done ?_
      go_wp2
      go_ret
      exact ⟨ret_int L.out.symm, BW⟩
  · have Tw : (p != 0) = true := by simpa using hw
    have L := hidden (HE.out KK.out (.inl (fun h => hw (by simpa [formP] using h.2.2.1))))
    clear hw
    iterate 6 (refine l_val (by rw [HO.out]; kernel_rfl) (by go_simp; with_reducible rfl) ?_; try simp only [Act.put, List.setIfInBounds_toArray, List.set_cons_zero, List.set_cons_succ])
    iterate 8 (refine l_skip (by rw [HO.out]; kernel_rfl) ?_; try simp only [Act.put, List.setIfInBounds_toArray, List.set_cons_zero, List.set_cons_succ])
    iterate 2 (refine l_val (by rw [HO.out]; kernel_rfl) (by go_simp; with_reducible rfl) ?_; try simp only [Act.put, List.setIfInBounds_toArray, List.set_cons_zero, List.set_cons_succ])
    iterate 9 (refine l_skip (by rw [HO.out]; kernel_rfl) ?_; try simp only [Act.put, List.setIfInBounds_toArray, List.set_cons_zero, List.set_cons_succ])
    iterate 2 (refine l_val (by rw [HO.out]; kernel_rfl) (by go_simp; with_reducible rfl) ?_; try simp only [Act.put, List.setIfInBounds_toArray, List.set_cons_zero, List.set_cons_succ])
    iterate 9 (refine l_skip (by rw [HO.out]; kernel_rfl) ?_; try simp only [Act.put, List.setIfInBounds_toArray, List.set_cons_zero, List.set_cons_succ])
    iterate 2 (refine l_val (by rw [HO.out]; kernel_rfl) (by go_simp; with_reducible rfl) ?_; try simp only [Act.put, List.setIfInBounds_toArray, List.set_cons_zero, List.set_cons_succ])
    iterate 13 (refine l_skip (by rw [HO.out]; kernel_rfl) ?_; try simp only [Act.put, List.setIfInBounds_toArray, List.set_cons_zero, List.set_cons_succ])
    iterate 1 (refine l_val (by rw [HO.out]; kernel_rfl) (by go_simp; with_reducible rfl) ?_; try simp only [Act.put, List.setIfInBounds_toArray, List.set_cons_zero, List.set_cons_succ])
    refine l_done ?_
    go_wp2
    go_ret
    exact ⟨ret_int L.out.symm, BW⟩
end Go.Proofs.Ytejcigeccmfeeaa
namespace Go.Proofs.Ytejcigeccmfeeaa
open Go.RowKit

set_option maxRecDepth 100000 in
set_option maxHeartbeats 6000000 in
theorem right_ref_4 (v : Value) (q : Rq) (w : World) (h : IsRq w v q) (hf : q.fn = 4) :
    Calls Try.prog 38 #[v] w fun e w' => e = .returned (.int .i64 (rightE q)) ∧ Below w.heap.size w w' := by
  obtain ⟨ab, capb, av, capv, rfl, -, -⟩ := h.slices
  have W0 := hidden (fun o => (Below.refl w.heap.size w).alloc (Nat.le_refl _) o)
  have HH := hidden (fun w' (hb : Below w.heap.size w w') => h.below hb)
  have HE := hidden (@rightE_12 q)
  have H0 := hidden (@rightE_0 q)
  have KK : Hid (knownB q.fn = true) := by show _ = _; rw [hf]; rfl
  obtain ⟨f, a, c, p, s, bs, vs, m, o⟩ := q
  simp only at HE H0 HH KK hf ⊢
  subst hf
  have hm := m.toNat_lt
  have ho := o.toNat_lt
  clear h
  have Ia : Hid (inI [97, 99] 97 = true) := by rfl
  have Ic : Hid (inI [97, 99] 99 = true) := by rfl
  have Iw : Hid (inI [97, 99] 119 = false) := by rfl
  have Is : Hid (inI [97, 99] 115 = false) := by rfl
  have Ib : Hid (inI [97, 99] 98 = false) := by rfl
  have Iv : Hid (inI [97, 99] 118 = false) := by rfl
  have Im : Hid (inI [97, 99] 109 = false) := by rfl
  go_enter Try.func38, Try.ntmps38
  go_upto_region 4 with (first | (go_at_call 42; refine (has_ref _ _).mono ?_; rintro e w4 ⟨rfl, rfl⟩; rw [KK.out]) | (go_at_call 43; refine (uses_ref _ _ KK.out).mono ?_; rintro e w4 ⟨rfl, rfl⟩; rw [show usesL 4 = [97, 99] from rfl]))
  have XB := Box.new w 4 a c p s (.slice ab bs.length capb) (.slice av vs.length capv) m o 68
  have BW := W0.out (.cells #[.int .i64 4, .int .i64 a, .int .i64 c, .int .i64 p, .int .i64 s, .slice ab bs.length capb, .slice av vs.length capv, wV m, wV o] 68)
  generalize w.alloc (.cells #[.int .i64 4, .int .i64 a, .int .i64 c, .int .i64 p, .int .i64 s, .slice ab bs.length capb, .slice av vs.length capv, wV m, wV o] 68) = w0 at *
  obtain ⟨gl, c0, c1, c2, c3, c4, c5, c6, c7, c8⟩ := XB
  refine l_begin (fun O HO => ?_)
  try simp only [List.cons_append, List.nil_append]
  iterate 1 (refine l_val (by rw [HO.out]; kernel_rfl) (by go_simp; with_reducible rfl) ?_; try simp only [Act.put, List.setIfInBounds_toArray, List.set_cons_zero, List.set_cons_succ])
  refine l_move (by rw [HO.out]; kernel_rfl) (fun K hK => ?_)
  go_wp2_with fail
  refine (in_at [97, 99] _ _ (by decide) (by decide)).mono ?_
  rintro e w4 ⟨rfl, rfl⟩
  rw [Ia.out]
  go_simp
  refine hK.out _ _ ?_
  clear K hK
  try simp only [Act.put, List.setIfInBounds_toArray, List.set_cons_zero, List.set_cons_succ]
  iterate 2 (refine l_val (by rw [HO.out]; kernel_rfl) (by go_simp; with_reducible rfl) ?_; try simp only [Act.put, List.setIfInBounds_toArray, List.set_cons_zero, List.set_cons_succ])
  iterate 3 (refine l_skip (by rw [HO.out]; kernel_rfl) ?_; try simp only [Act.put, List.setIfInBounds_toArray, List.set_cons_zero, List.set_cons_succ])
  iterate 2 (refine l_val (by rw [HO.out]; kernel_rfl) (by go_simp; with_reducible rfl) ?_; try simp only [Act.put, List.setIfInBounds_toArray, List.set_cons_zero, List.set_cons_succ])
  iterate 1 (refine l_val (by rw [HO.out]; kernel_rfl) (by go_simp; with_reducible rfl) ?_; try simp only [Act.put, List.setIfInBounds_toArray, List.set_cons_zero, List.set_cons_succ])
  refine l_move (by rw [HO.out]; kernel_rfl) (fun K hK => ?_)
  go_wp2_with fail
  refine (in_at [97, 99] _ _ (by decide) (by decide)).mono ?_
  rintro e w4 ⟨rfl, rfl⟩
  rw [Ic.out]
  go_simp
  refine hK.out _ _ ?_
  clear K hK
  try simp only [Act.put, List.setIfInBounds_toArray, List.set_cons_zero, List.set_cons_succ]
  iterate 2 (refine l_val (by rw [HO.out]; kernel_rfl) (by go_simp; with_reducible rfl) ?_; try simp only [Act.put, List.setIfInBounds_toArray, List.set_cons_zero, List.set_cons_succ])
  iterate 3 (refine l_skip (by rw [HO.out]; kernel_rfl) ?_; try simp only [Act.put, List.setIfInBounds_toArray, List.set_cons_zero, List.set_cons_succ])
  iterate 3 (refine l_val (by rw [HO.out]; kernel_rfl) (by go_simp; with_reducible rfl) ?_; try simp only [Act.put, List.setIfInBounds_toArray, List.set_cons_zero, List.set_cons_succ])
  iterate 1 (refine l_val (by rw [HO.out]; kernel_rfl) (by go_simp; with_reducible rfl) ?_; try simp only [Act.put, List.setIfInBounds_toArray, List.set_cons_zero, List.set_cons_succ])
  refine l_move (by rw [HO.out]; kernel_rfl) (fun K hK => ?_)
  go_wp2_with fail
  refine (in_at [97, 99] _ _ (by decide) (by decide)).mono ?_
  rintro e w4 ⟨rfl, rfl⟩
  rw [Iw.out]
  go_simp
  refine hK.out _ _ ?_
  clear K hK
  try simp only [Act.put, List.setIfInBounds_toArray, List.set_cons_zero, List.set_cons_succ]
  iterate 2 (refine l_val (by rw [HO.out]; kernel_rfl) (by go_simp; with_reducible rfl) ?_; try simp only [Act.put, List.setIfInBounds_toArray, List.set_cons_zero, List.set_cons_succ])
  by_cases hw : p = 0
  · subst hw
    iterate 6 (refine l_val (by rw [HO.out]; kernel_rfl) (by go_simp; with_reducible rfl) ?_; try simp only [Act.put, List.setIfInBounds_toArray, List.set_cons_zero, List.set_cons_succ])
    iterate 1 (refine l_val (by rw [HO.out]; kernel_rfl) (by go_simp; with_reducible rfl) ?_; try simp only [Act.put, List.setIfInBounds_toArray, List.set_cons_zero, List.set_cons_succ])
    refine l_move (by rw [HO.out]; kernel_rfl) (fun K hK => ?_)
    go_wp2_with fail
    refine (in_at [97, 99] _ _ (by decide) (by decide)).mono ?_
    rintro e w4 ⟨rfl, rfl⟩
    rw [Is.out]
    go_simp
    refine hK.out _ _ ?_
    clear K hK
    try simp only [Act.put, List.setIfInBounds_toArray, List.set_cons_zero, List.set_cons_succ]
    iterate 2 (refine l_val (by rw [HO.out]; kernel_rfl) (by go_simp; with_reducible rfl) ?_; try simp only [Act.put, List.setIfInBounds_toArray, List.set_cons_zero, List.set_cons_succ])
    by_cases hs : s = 0
    · subst hs
      iterate 6 (refine l_val (by rw [HO.out]; kernel_rfl) (by go_simp; with_reducible rfl) ?_; try simp only [Act.put, List.setIfInBounds_toArray, List.set_cons_zero, List.set_cons_succ])
      iterate 1 (refine l_val (by rw [HO.out]; kernel_rfl) (by go_simp; with_reducible rfl) ?_; try simp only [Act.put, List.setIfInBounds_toArray, List.set_cons_zero, List.set_cons_succ])
      refine l_move (by rw [HO.out]; kernel_rfl) (fun K hK => ?_)
      go_wp2_with fail
      refine (in_at [97, 99] _ _ (by decide) (by decide)).mono ?_
      rintro e w4 ⟨rfl, rfl⟩
      rw [Ib.out]
      go_simp
      refine hK.out _ _ ?_
      clear K hK
      try simp only [Act.put, List.setIfInBounds_toArray, List.set_cons_zero, List.set_cons_succ]
      iterate 2 (refine l_val (by rw [HO.out]; kernel_rfl) (by go_simp; with_reducible rfl) ?_; try simp only [Act.put, List.setIfInBounds_toArray, List.set_cons_zero, List.set_cons_succ])
      by_cases hb : bs = []
      · subst hb
        simp only [List.length_nil] at *
        iterate 7 (refine l_val (by rw [HO.out]; kernel_rfl) (by go_simp; with_reducible rfl) ?_; try simp only [Act.put, List.setIfInBounds_toArray, List.set_cons_zero, List.set_cons_succ])
        iterate 1 (refine l_val (by rw [HO.out]; kernel_rfl) (by go_simp; with_reducible rfl) ?_; try simp only [Act.put, List.setIfInBounds_toArray, List.set_cons_zero, List.set_cons_succ])
        refine l_move (by rw [HO.out]; kernel_rfl) (fun K hK => ?_)
        go_wp2_with fail
        refine (in_at [97, 99] _ _ (by decide) (by decide)).mono ?_
        rintro e w4 ⟨rfl, rfl⟩
        rw [Iv.out]
        go_simp
        refine hK.out _ _ ?_
        clear K hK
        try simp only [Act.put, List.setIfInBounds_toArray, List.set_cons_zero, List.set_cons_succ]
        iterate 2 (refine l_val (by rw [HO.out]; kernel_rfl) (by go_simp; with_reducible rfl) ?_; try simp only [Act.put, List.setIfInBounds_toArray, List.set_cons_zero, List.set_cons_succ])
        by_cases hv : vs = []
        · subst hv
          simp only [List.length_nil] at *
          iterate 7 (refine l_val (by rw [HO.out]; kernel_rfl) (by go_simp; with_reducible rfl) ?_; try simp only [Act.put, List.setIfInBounds_toArray, List.set_cons_zero, List.set_cons_succ])
          iterate 1 (refine l_val (by rw [HO.out]; kernel_rfl) (by go_simp; with_reducible rfl) ?_; try simp only [Act.put, List.setIfInBounds_toArray, List.set_cons_zero, List.set_cons_succ])
          refine l_move (by rw [HO.out]; kernel_rfl) (fun K hK => ?_)
          go_wp2_with fail
          refine (in_at [97, 99] _ _ (by decide) (by decide)).mono ?_
          rintro e w4 ⟨rfl, rfl⟩
          rw [Im.out]
          go_simp
          refine hK.out _ _ ?_
          clear K hK
          try simp only [Act.put, List.setIfInBounds_toArray, List.set_cons_zero, List.set_cons_succ]
          iterate 2 (refine l_val (by rw [HO.out]; kernel_rfl) (by go_simp; with_reducible rfl) ?_; try simp only [Act.put, List.setIfInBounds_toArray, List.set_cons_zero, List.set_cons_succ])
          by_cases hm0 : m = 0
          · subst hm0
            iterate 4 (refine l_val (by rw [HO.out]; kernel_rfl) (by go_simp; with_reducible rfl) ?_; try simp only [Act.put, List.setIfInBounds_toArray, List.set_cons_zero, List.set_cons_succ])
            by_cases ho0 : o = 0
            · subst ho0
              iterate 6 (refine l_val (by rw [HO.out]; kernel_rfl) (by go_simp; with_reducible rfl) ?_; try simp only [Act.put, List.setIfInBounds_toArray, List.set_cons_zero, List.set_cons_succ])
              refine l_done ?_
              go_wp2_with fail
              refine (word_ref _ _).mono ?_
              rintro e w4 ⟨rfl, rfl⟩
              cases ha : numB a
              · have L := hidden (HE.out KK.out (.inr (.inl (by rw [ha]; simp))))
                have Na := hidden ha
                clear ha
                go_wp2
                go_ret
                exact ⟨ret_int L.out.symm, BW⟩
              · have Na := hidden ha
                clear ha
                go_wp2_with fail
                refine (word_ref _ _).mono ?_
                rintro e w4 ⟨rfl, rfl⟩
                cases hc : numB c
                · have L := hidden (HE.out KK.out (.inr (.inl (by rw [hc]; simp))))
                  have Nc := hidden hc
                  clear hc
                  go_wp2
                  go_ret
                  exact ⟨ret_int L.out.symm, BW⟩
                · have Nc := hidden hc
                  clear hc
                  go_wp2_with fail
                  refine (word_ref _ _).mono ?_
                  rintro e w4 ⟨rfl, rfl⟩
                  have Np : Hid (numB 0 = true) := by rfl
                  rw [Np.out]
                  go_wp2_with fail
                  refine (word_ref _ _).mono ?_
                  rintro e w4 ⟨rfl, rfl⟩
                  have Ns : Hid (numB 0 = true) := by rfl
                  rw [Ns.out]
                  go_wp2_with fail
                  have E2 := hidden (show (numB a && numB 0 && numB 0 && numB c) = true by simp [Na.out, Np.out, Nc.out])
                  have G1 := hidden (show formP ⟨4, a, c, 0, 0, [], [], 0, 0⟩ by simp [formP])
                  refine (lists_ref _ ⟨4, a, c, 0, 0, [], [], 0, 0⟩ _ (HH.out _ BW) KK.out).mono ?_
                  rintro e w5 ⟨rfl, B5⟩
                  replace B5 := below_then BW B5
                  cases hl : listB ⟨4, a, c, 0, 0, [], [], 0, 0⟩
                  · have L := hidden (HE.out KK.out (.inr (.inr hl)))
                    clear hl
                    go_wp2
                    go_ret
                    exact ⟨ret_int L.out.symm, B5⟩
                  · have L := hidden (H0.out KK.out G1.out E2.out hl)
                    clear hl
                    go_wp2
                    go_ret
                    exact ⟨ret_int L.out.symm, B5⟩
            · have To : ((o.toNat : Int) != 0) = true := by simp; intro h; exact ho0 (UInt16.toNat_inj.1 h)
              have L := hidden (HE.out KK.out (.inl (fun h => ho0 (by have := h.2.2.2.2.2.2; simp at this; exact this))))
              clear ho0
              iterate 6 (refine l_val (by rw [HO.out]; kernel_rfl) (by go_simp; with_reducible rfl) ?_; try simp only [Act.put, List.setIfInBounds_toArray, List.set_cons_zero, List.set_cons_succ])
              refine l_done ?_
              go_wp2
              go_ret
              exact ⟨ret_int L.out.symm, BW⟩
          · have Tm : ((m.toNat : Int) != 0) = true := by simp; intro h; exact hm0 (UInt16.toNat_inj.1 h)
            have L := hidden (HE.out KK.out (.inl (fun h => hm0 (by have := h.2.2.2.2.2.2; simp at this; exact this.1))))
            clear hm0
            iterate 4 (refine l_val (by rw [HO.out]; kernel_rfl) (by go_simp; with_reducible rfl) ?_; try simp only [Act.put, List.setIfInBounds_toArray, List.set_cons_zero, List.set_cons_succ])
            iterate 3 (refine l_skip (by rw [HO.out]; kernel_rfl) ?_; try simp only [Act.put, List.setIfInBounds_toArray, List.set_cons_zero, List.set_cons_succ])
            iterate 3 (refine l_val (by rw [HO.out]; kernel_rfl) (by go_simp; with_reducible rfl) ?_; try simp only [Act.put, List.setIfInBounds_toArray, List.set_cons_zero, List.set_cons_succ])
            refine l_done ?_
            go_wp2
            go_ret
            exact ⟨ret_int L.out.symm, BW⟩
        · have Tv : (0 : Int) < (vs.length : Int) := by have := List.length_pos_iff.2 hv; omega
          have Uv : 0 < vs.length := List.length_pos_iff.2 hv
          have L := hidden (HE.out KK.out (.inl (fun h => hv (by simpa [formP] using h.2.2.2.2.2.1))))
          clear hv
          iterate 7 (refine l_val (by rw [HO.out]; kernel_rfl) (by go_simp; with_reducible rfl) ?_; try simp only [Act.put, List.setIfInBounds_toArray, List.set_cons_zero, List.set_cons_succ])
          iterate 13 (refine l_skip (by rw [HO.out]; kernel_rfl) ?_; try simp only [Act.put, List.setIfInBounds_toArray, List.set_cons_zero, List.set_cons_succ])
          iterate 1 (refine l_val (by rw [HO.out]; kernel_rfl) (by go_simp; with_reducible rfl) ?_; try simp only [Act.put, List.setIfInBounds_toArray, List.set_cons_zero, List.set_cons_succ])
          refine l_done ?_
          go_wp2
          go_ret
          exact ⟨ret_int L.out.symm, BW⟩
      · have Tb : (0 : Int) < (bs.length : Int) := by have := List.length_pos_iff.2 hb; omega
        have Ub : 0 < bs.length := List.length_pos_iff.2 hb
        have L := hidden (HE.out KK.out (.inl (fun h => hb (by simpa [formP] using h.2.2.2.2.1))))
        clear hb
        iterate 7 (refine l_val (by rw [HO.out]; kernel_rfl) (by go_simp; with_reducible rfl) ?_; try simp only [Act.put, List.setIfInBounds_toArray, List.set_cons_zero, List.set_cons_succ])
        iterate 9 (refine l_skip (by rw [HO.out]; kernel_rfl) ?_; try simp only [Act.put, List.setIfInBounds_toArray, List.set_cons_zero, List.set_cons_succ])
        iterate 2 (refine l_val (by rw [HO.out]; kernel_rfl) (by go_simp; with_reducible rfl) ?_; try simp only [Act.put, List.setIfInBounds_toArray, List.set_cons_zero, List.set_cons_succ])
        iterate 13 (refine l_skip (by rw [HO.out]; kernel_rfl) ?_; try simp only [Act.put, List.setIfInBounds_toArray, List.set_cons_zero, List.set_cons_succ])
        iterate 1 (refine l_val (by rw [HO.out]; kernel_rfl) (by go_simp; with_reducible rfl) ?_; try simp only [Act.put, List.setIfInBounds_toArray, List.set_cons_zero, List.set_cons_succ])
        refine l_done ?_
        go_wp2
        go_ret
        exact ⟨ret_int L.out.symm, BW⟩
    · have Ts : (s != 0) = true := by simpa using hs
      have L := hidden (HE.out KK.out (.inl (fun h => hs (by simpa [formP] using h.2.2.2.1))))
      clear hs
      iterate 6 (refine l_val (by rw [HO.out]; kernel_rfl) (by go_simp; with_reducible rfl) ?_; try simp only [Act.put, List.setIfInBounds_toArray, List.set_cons_zero, List.set_cons_succ])
      iterate 9 (refine l_skip (by rw [HO.out]; kernel_rfl) ?_; try simp only [Act.put, List.setIfInBounds_toArray, List.set_cons_zero, List.set_cons_succ])
      iterate 2 (refine l_val (by rw [HO.out]; kernel_rfl) (by go_simp; with_reducible rfl) ?_; try simp only [Act.put, List.setIfInBounds_toArray, List.set_cons_zero, List.set_cons_succ])
      iterate 9 (refine l_skip (by rw [HO.out]; kernel_rfl) ?_; try simp only [Act.put, List.setIfInBounds_toArray, List.set_cons_zero, List.set_cons_succ])
      iterate 2 (refine l_val (by rw [HO.out]; kernel_rfl) (by go_simp; with_reducible rfl) ?_; try simp only [Act.put, List.setIfInBounds_toArray, List.set_cons_zero, List.set_cons_succ])
      iterate 13 (refine l_skip (by rw [HO.out]; kernel_rfl) ?_; try simp only [Act.put, List.setIfInBounds_toArray, List.set_cons_zero, List.set_cons_succ])
      iterate 1 (refine l_val (by rw [HO.out]; kernel_rfl) (by go_simp; with_reducible rfl) ?_; try simp only [Act.put, List.setIfInBounds_toArray, List.set_cons_zero, List.set_cons_succ])
      refine l_done ?_
      go_wp2
      go_ret
      exact ⟨ret_int L.out.symm, BW⟩
  · have Tw : (p != 0) = true := by simpa using hw
    have L := hidden (HE.out KK.out (.inl (fun h => hw (by simpa [formP] using h.2.2.1))))
    clear hw
    iterate 6 (refine l_val (by rw [HO.out]; kernel_rfl) (by go_simp; with_reducible rfl) ?_; try simp only [Act.put, List.setIfInBounds_toArray, List.set_cons_zero, List.set_cons_succ])
    iterate 8 (refine l_skip (by rw [HO.out]; kernel_rfl) ?_; try simp only [Act.put, List.setIfInBounds_toArray, List.set_cons_zero, List.set_cons_succ])
    iterate 2 (refine l_val (by rw [HO.out]; kernel_rfl) (by go_simp; with_reducible rfl) ?_; try simp only [Act.put, List.setIfInBounds_toArray, List.set_cons_zero, List.set_cons_succ])
    iterate 9 (refine l_skip (by rw [HO.out]; kernel_rfl) ?_; try simp only [Act.put, List.setIfInBounds_toArray, List.set_cons_zero, List.set_cons_succ])
    iterate 2 (refine l_val (by rw [HO.out]; kernel_rfl) (by go_simp; with_reducible rfl) ?_; try simp only [Act.put, List.setIfInBounds_toArray, List.set_cons_zero, List.set_cons_succ])
    iterate 9 (refine l_skip (by rw [HO.out]; kernel_rfl) ?_; try simp only [Act.put, List.setIfInBounds_toArray, List.set_cons_zero, List.set_cons_succ])
    iterate 2 (refine l_val (by rw [HO.out]; kernel_rfl) (by go_simp; with_reducible rfl) ?_; try simp only [Act.put, List.setIfInBounds_toArray, List.set_cons_zero, List.set_cons_succ])
    iterate 13 (refine l_skip (by rw [HO.out]; kernel_rfl) ?_; try simp only [Act.put, List.setIfInBounds_toArray, List.set_cons_zero, List.set_cons_succ])
    iterate 1 (refine l_val (by rw [HO.out]; kernel_rfl) (by go_simp; with_reducible rfl) ?_; try simp only [Act.put, List.setIfInBounds_toArray, List.set_cons_zero, List.set_cons_succ])
    refine l_done ?_
    go_wp2
    go_ret
    exact ⟨ret_int L.out.symm, BW⟩
end Go.Proofs.Ytejcigeccmfeeaa
