/- RtuNumbers: the closed sentence of chapter 5. The walk. -/
import Derived.Test.YtfbmejfnblopgaaFT
namespace Go.Proofs.Ytfbmejfnblopgaa
open Go.RowKit

/-- append where it is wanted -/
theorem wpList_appW {P : Program} {w : World} {ops : Array Oper} {rest : List Oper} {o : Oper} {a : Act} {Q : Exit → Act → World → Prop} (hgd : Region.wanted o (yielded ops a.tmps) = true) (s x : Operand) (t : TypeId)
    (ho : o.op = .call { callee := .builtin .append, args := #[s, x], argTypes := #[t, t] })
    (base : Nat) (e : TypeId) (z : Value) (bytes : Nat) (ht : P.underlying t = some (.slice e)) (hi : (P.info? e).map (fun i => (i.zero, i.size, i.bytes)) = some (some z, 1, bytes)) (hzs : z.cells.size = 1)
    {v : Value} {n : Nat} {xs : List Value} (hsv : a.eval s = v) (hown : w.ownsRow base e 1 v n xs) {sv : Value} {news : List Value} (hxv : a.eval x = sv) (hs : Row w sv news) (h1 : ∀ u ∈ news, u.oneCell' = true)
    (h63 : n + news.length ≤ maxLen) (hbytes : (n + news.length) * bytes ≤ 140737488355328) (hbase : base ≤ w.heap.size)
    (h : ∀ v' w', w'.ownsRow base e 1 v' (n + news.length) (xs ++ news) → w.grownBy w' v.ownBlock → wpList P ops Q rest (a.put o.dst v') w') : wpList P ops Q (o :: rest) a w := by
  unfold wpList
  rw [if_pos hgd]
  exact .inl (wp_app s x t ho base e z bytes ht hi hzs hsv hown hxv hs h1 h63 hbytes hbase h)

def ad9 : List Int := [-1, 0, 1, 17, 247, 248, 255, 256, 4611686018427387904]
theorem ad9_in (j : Nat) (h : j < 9) : -9223372036854775808 ≤ ad9.getD j 0 ∧ ad9.getD j 0 ≤ 9223372036854775807 := by
  match j, h with
  | 0, _ => decide
  | 1, _ => decide
  | 2, _ => decide
  | 3, _ => decide
  | 4, _ => decide
  | 5, _ => decide
  | 6, _ => decide
  | 7, _ => decide
  | 8, _ => decide

set_option maxRecDepth 100000 in
set_option maxHeartbeats 1000000 in
theorem numbers5_walk (w : World) : Calls Try.prog 3 #[] w fun e w' => e = .returned (.bool true) ∧ Below w.heap.size w w' := by
  go_enter Try.func3, Try.ntmps3
  go_wp2
  go_loopw [1] (fun z1 wr => ∃ n : Nat, n ≤ 400 ∧ z1 = .int .i64 n ∧ Below w.heap.size w wr) (fun z1 _ => 400 - (intOf z1).toNat)
  case atStart => exact ⟨0, by omega, rfl, Below.refl _ _⟩
  case round =>
    obtain ⟨n, hn, rfl, hb⟩ := hrel
    obtain ⟨wo, hwo⟩ : ∃ wo, wo = wr := ⟨_, rfl⟩
    subst hwo
    have hz := hb.size
    by_cases hlt : n < 260
    · have hlt' : (n : Int) < 260 := by omega
      have mk := fun u => mk_zer 23 5 (.int .u8 0) 1 Try.underlying23 info_u8 rfl (n : Int) n (by omega) (by omega) (by omega) u
      have G9 : Blk (wo.alloc (.cells (ad9.map lV).toArray 3)) wo.heap.size 3 (ad9.map lV) := Blk.new wo 3 (ad9.map lV)
      have b9 : Below w.heap.size w (wo.alloc (.cells (ad9.map lV).toArray 3)) := hb.alloc hz _
      obtain ⟨w9, hw9⟩ : ∃ w9, wo.alloc (.cells (ad9.map lV).toArray 3) = w9 := ⟨_, rfl⟩
      have hs9 : w9.heap.size = wo.heap.size + 1 := by rw [← hw9]; simp
      have hs9' : wo.heap.size < w9.heap.size := by omega
      rw [hw9] at G9 b9
      have hw9' : wo.alloc (.cells #[.int .i64 (-1), .int .i64 0, .int .i64 1, .int .i64 17, .int .i64 247, .int .i64 248, .int .i64 255, .int .i64 256, .int .i64 4611686018427387904] 3) = w9 := hw9
      clear hw9 hs9
      go_wp2
      clear hw9'
      go_loopw [22] (fun z ws => ∃ j : Nat, j ≤ 9 ∧ z = .int .i64 j ∧ Below w9.heap.size w9 ws) (fun z _ => 9 - (intOf z).toNat)
      case atStart => exact ⟨0, by omega, rfl, Below.refl _ _⟩
      case round =>
        obtain ⟨j, hj, rfl, hbs⟩ := hrel
        by_cases hj9 : j < 9
        · have hj' : (j : Int) < 9 := by omega
          have c0 : wr.cell? ⟨wo.heap.size, j, none⟩ = some (lV (ad9.getD j 0)) := by
            rw [(G9.below hbs hs9').cell j]
            have : j < ad9.length := by simpa [ad9] using hj9
            simp [List.getD_eq_getElem?_getD, this]
          obtain ⟨q1, q2⟩ := ad9_in j hj9
          clear G9
          generalize ad9.getD j 0 = a at *
          have hz2 := hbs.size
          have bs2 := below_then b9 hbs
          have RZ := row_zeros wr n (by unfold maxLen; omega)
          have BZ := bs2.alloc bs2.size (.cells (zer n (.int .u8 0)) 5)
          have BZ2 := hbs.alloc hz2 (.cells (zer n (.int .u8 0)) 5)
          have mks := mk wr
          clear mk
          go_wp2_with fail
          obtain ⟨X, hX⟩ : ∃ X, frmL a (List.replicate n 0) = X := ⟨_, rfl⟩
          obtain ⟨xe, hxe⟩ : ∃ X, frmE a (List.replicate n 0) = X := ⟨_, rfl⟩
          have C := rframe_any a _ (List.replicate n 0) _ ⟨q1, q2⟩ RZ
          rw [hX, hxe] at C
          refine C.mono ?_
          rintro e w1 ⟨v1, rfl, hr1, hb1⟩
          replace RZ := RZ.below hb1
          replace BZ := below_then BZ hb1
          replace BZ2 := below_then BZ2 hb1
          clear C hX hxe hb1 mks c0
          go_wp2_with fail
          refine (same5_any a _ (List.replicate n 0) _ ⟨q1, q2⟩ RZ).mono ?_
          rintro e w2 ⟨rfl, hb1⟩
          replace RZ := RZ.below hb1
          replace hr1 := hr1.below hb1
          replace BZ := below_then BZ hb1
          replace BZ2 := below_then BZ2 hb1
          clear hb1
          go_wp2_with fail
          refine (same5_any a _ X _ ⟨q1, q2⟩ hr1).mono ?_
          rintro e w3 ⟨rfl, hb1⟩
          replace RZ := RZ.below hb1
          replace BZ := below_then BZ hb1
          replace BZ2 := below_then BZ2 hb1
          clear hb1 hr1
          obtain ⟨y, hy⟩ := wrap_bV a
          have x1 : Below w3.heap.size w3 (w3.alloc (.cells #[bV y] 5)) := (Below.refl _ _).alloc (Nat.le_refl _) _
          have R1 := RZ.below x1
          have O1 := World.ownsRow_lit (base := w3.heap.size) (e := 5) (size := 1) w3 #[bV y] 1 (Nat.le_refl _) (by decide) rfl
          go_wp2_with (at_builtin; refine wpList_appW (by kernel_rfl) (.tmp 48) (.tmp 49) 23 rfl w3.heap.size 5 (.int .u8 0) 1 Try.underlying23 info_u8 rfl rfl O1 rfl R1 (one_bytes _) (by simp [maxLen]; omega) (by simp; omega) (by simp) ?_)
          intro v4 w4 ho4 hg4
          have x4 := x1.grown hg4 (by simp) (fun k hk => (O1.lt k hk).1)
          have R4 : Row w4 v4 ((y :: List.replicate n 0).map bV) := by
            rw [List.map_cons, List.map_replicate]; exact Row.of_owns ho4
          replace BZ := below_then BZ x4
          replace BZ2 := below_then BZ2 x4
          clear x4 x1 R1 O1 ho4 hg4 hy RZ
          go_wp2_with fail
          refine (rseal_any _ (y :: List.replicate n 0) _ R4 (by simp; omega)).mono ?_
          rintro e w5 ⟨v5, rfl, hr5, hb1⟩
          replace BZ := below_then BZ hb1
          replace BZ2 := below_then BZ2 hb1
          clear hb1 R4
          go_wp2_with fail
          refine (same5_any a _ _ _ ⟨q1, q2⟩ hr5).mono ?_
          rintro e w6 ⟨rfl, hb1⟩
          replace BZ := below_then BZ hb1
          replace BZ2 := below_then BZ2 hb1
          clear hb1 hr5
          go_wp2
          go_roundw
          case rel => exact ⟨j + 1, by omega, by go_num, BZ2⟩
          case measure => simp [intOf]; omega
        · have hj' : ¬ (j : Int) < 9 := by omega
          have b10 := below_then b9 hbs
          clear G9 mk
          go_wp2
          go_roundw
          case rel => exact ⟨n + 1 + n / 9 * 3, by omega, by go_num, b10⟩
          case measure => simp [intOf]; omega
    · have hlt' : ¬ (n : Int) < 260 := by omega
      clear hz hlt
      go_wp2
      go_loopw [7] (fun z wr => ∃ k : Nat, k ≤ 60 ∧ z = .int .i64 k ∧ Below w.heap.size w wr) (fun z _ => 60 - (intOf z).toNat)
      case atStart => exact ⟨0, by omega, rfl, hb⟩
      case round =>
        obtain ⟨k, hk, rfl, hbs⟩ := hrel
        obtain ⟨ws, hws⟩ : ∃ ws, ws = wr := ⟨_, rfl⟩
        subst hws
        clear hb
        by_cases hk6 : k < 60
        · have hk' : (k : Int) < 60 := by omega
          go_wp2
          go_loopw [8, 9, 10, 11] (fun z8 z9 z10 z11 wt => ∃ (i : Nat) (l : List Int) (b : List UInt8) (at0 : Int), i ≤ 30 ∧ z11 = .int .i64 i ∧ z10 = .int .i64 at0 ∧ -20 - 5 * (i : Int) ≤ at0 ∧ at0 ≤ 5 * (i : Int) ∧ wt.ownsRow ws.heap.size 2 1 z8 i (l.map lV) ∧ wt.ownsRow ws.heap.size 5 1 z9 i (b.map bV) ∧ Hid (∀ x ∈ l, -9223372036854775808 ≤ x ∧ x ≤ 9223372036854775807) ∧ Below ws.heap.size ws wt) (fun _ _ _ z _ => 30 - (intOf z).toNat)
          case atStart => exact ⟨0, [], [], -20, by omega, rfl, rfl, by omega, by omega, World.ownsRow_nil _ _ _ _, World.ownsRow_nil _ _ _ _, fun x hx => by simp at hx, Below.refl _ _⟩
          case round =>
            obtain ⟨i, l, b, at0, hi, rfl, rfl, a1, a2, ho1, ho2, HL, hbt⟩ := hrel
            have hzt := hbt.size
            by_cases hi3 : i < 30
            · have hi' : (i : Int) < 30 := by omega
              have p1 : (i : Int) * i ≤ 900 := by
                have := Nat.mul_le_mul hi hi
                have e : ((i * i : Nat) : Int) = (i : Int) * i := by simp
                omega
              have p0 : 0 ≤ (i : Int) * i := by
                have e : ((i * i : Nat) : Int) = (i : Int) * i := by simp
                omega
              have p3 : (k : Int) * i ≤ 1800 := by
                have := Nat.mul_le_mul hk hi
                have e : ((k * i : Nat) : Int) = (k : Int) * i := by simp
                omega
              have p2 : 0 ≤ (k : Int) * i := by
                have e : ((k * i : Nat) : Int) = (k : Int) * i := by simp
                omega
              go_upto_region 22 with fail
              obtain ⟨at1, hat⟩ : ∃ at1, at0 + ((i : Int) * i + (k : Int) * i) % 6 - (k : Int) % 7 / 6 = at1 := ⟨_, rfl⟩
              rw [hat]
              have b1 : -20 - 5 * ((i : Int) + 1) ≤ at1 := by omega
              have b2 : at1 ≤ 5 * ((i : Int) + 1) := by omega
              clear hat p0 p1 p2 p3 a1 a2
              have RN := row_new wr [.int .i64 at1] 2 1 rfl (by decide)
              go_wp2_with (at_builtin; refine wpList_app rfl (.tmp 78) (.tmp 80) 29 rfl ws.heap.size 2 (.int .i64 0) 8 Try.underlying29 info_i64 rfl rfl (ho1.alloc _) rfl RN (by intro u hu; simp at hu; subst hu; rfl) (by simp [maxLen]; omega) (by simp; omega) (by simp; omega) ?_)
              intro v7 w7 ho7 hg7
              have B7 := (hbt.alloc hzt (.cells #[.int .i64 at1] 2)).grown hg7 (by simp; omega) (fun k hk => (ho1.lt k hk).1)
              have hz7 := B7.size
              have ho2' := ((ho2.alloc (.cells #[.int .i64 at1] 2)).kept hg7 (owns_apart ho2 ho1 (by decide)))
              have RN2 := row_new w7 [.int .u8 (i : Int)] 5 1 rfl (by decide)
              clear RN hg7
              go_wp2_with (at_builtin; refine wpList_app rfl (.tmp 82) (.tmp 85) 23 rfl ws.heap.size 5 (.int .u8 0) 1 Try.underlying23 info_u8 rfl rfl (ho2'.alloc _) rfl RN2 (by intro u hu; simp at hu; subst hu; rfl) (by simp [maxLen]; omega) (by simp; omega) (by simp; omega) ?_)
              intro v8 w8 ho8 hg8
              have B8 := (B7.alloc hz7 (.cells #[.int .u8 (i : Int)] 5)).grown hg8 (by simp; omega) (fun k hk => (ho2'.lt k hk).1)
              have ho7' := ((ho7.alloc (.cells #[.int .u8 (i : Int)] 5)).kept hg8 (owns_apart ho7 ho2' (by decide)))
              have e8 : ((UInt8.ofNat i).toNat : Int) = (i : Int) := by rw [UInt8.toNat_ofNat']; omega
              clear RN2 hg8
              go_wp2
              go_roundw
              case rel => exact ⟨i + 1, l ++ [at1], b ++ [UInt8.ofNat i], at1, by omega, by go_num, rfl, by omega, by omega, by rw [List.map_append]; exact ho7', by rw [List.map_append]; simp only [List.map_cons, List.map_nil, bV, e8]; exact ho8, fun y hy => by
                rcases List.mem_append.1 hy with h | h
                · exact HL.out y h
                · simp at h; omega, B8⟩
              case measure => simp [intOf]; omega
            · have hi' : ¬ (i : Int) < 30 := by omega
              have hi30 : i = 30 := by omega
              have R1 := Row.of_owns ho1
              have R2 := Row.of_owns ho2
              obtain ⟨c8, cc8, rfl, hcc8⟩ := owns_some ho1 (by omega)
              have hl1 : l.length = i := by have := ho1.1; simpa using this
              have hl2 : b.length = i := by have := ho2.1; simpa using this
              have HB := hidden (show b.length ≤ 5000000000000 by omega)
              have HL1 := hidden (mem_getD HL.out)
              have R3 := R1.take (k % 30) (by omega)
              rw [← List.map_take] at R3
              have hcap : (k % 30 : Nat) ≤ cc8 := by obtain ⟨-, h, -⟩ := R1.at; omega
              have HL2 := hidden (mem_getD (xs := l.take (k % 30)) (fun n hn => HL.out n (List.mem_of_mem_take hn)))
              have hbt2 := below_then hbs hbt
              clear ho1 ho2 hl1 hl2 HL hi3 hi30
              generalize l.take (k % 30) = l2 at *
              have hcap' : ((k : Int) % 30) ≤ (cc8 : Int) := by omega
              go_wp2_with fail
              refine (splits_any _ _ l b _ R1 R2 HL1.out HB.out).mono ?_
              rintro e w9 ⟨rfl, b9⟩
              replace R3 := R3.below b9
              replace R2 := R2.below b9
              replace hbt2 := below_then hbt2 b9
              clear b9 R1
              go_wp2_with fail
              refine (splits_any _ _ l2 b _ R3 R2 HL2.out HB.out).mono ?_
              rintro e w9 ⟨rfl, b9⟩
              replace hbt2 := below_then hbt2 b9
              clear b9
              go_wp2
              go_roundw
              case rel => exact ⟨k + 1, by omega, by go_num, hbt2⟩
              case measure => simp [intOf]; omega
        · have hk' : ¬ (k : Int) < 60 := by omega
          have T1 := (row_new ws [.int .i64 (-9223372036854775808), .int .i64 9223372036854775807, .int .i64 (-9223372036854775808), .int .i64 9223372036854775807] 2 4 rfl (by decide)).below ((Below.refl _ _).alloc (Nat.le_refl _) (.cells [Value.int .u8 1, .int .u8 2, .int .u8 3, .int .u8 4].toArray 5))
          have T2 := row_new (ws.alloc (.cells [Value.int .i64 (-9223372036854775808), .int .i64 9223372036854775807, .int .i64 (-9223372036854775808), .int .i64 9223372036854775807].toArray 2)) [.int .u8 1, .int .u8 2, .int .u8 3, .int .u8 4] 5 4 rfl (by decide)
          rw [World.size_alloc] at T2
          have C1 := hidden (splits_any _ _ [-9223372036854775808, 9223372036854775807, -9223372036854775808, 9223372036854775807] [1, 2, 3, 4] _ T1 T2 (by decide) (by decide))
          clear T1 T2
          go_wp2_with fail
          refine C1.out.mono ?_
          rintro e w9 ⟨rfl, b9⟩
          replace b9 := below_step (hbs.alloc hbs.size _) b9
          clear C1
          go_wp2_with fail
          refine (known5_any _).mono ?_
          rintro e w8 ⟨rfl, b8⟩
          go_wp2
          go_ret
          exact ⟨rfl, below_then b9 b8⟩

end Go.Proofs.Ytfbmejfnblopgaa
