/- The table that a tape makes: which one it may be. -/
import Derived.Test.YtffjhimdamdenaaBG
namespace Go.Proofs.Ytffjhimdamdenaa
open Go.RowKit

theorem owns_slice {w : World} {base s : Nat} {e : TypeId} {v : Value} {n : Nat} {xs : List Value} (h : w.ownsRow base e s v n xs) : ∃ a m c, v = .slice a m c := by
  rcases h.2 with ⟨rfl, -⟩ | ⟨g, cap, cur, rfl, -⟩
  · exact ⟨_, _, _, rfl⟩
  · exact ⟨_, _, _, rfl⟩
theorem one_ten {a b c : Int} {p q : Option Addr} {n m k l : Nat} : ∀ u ∈ [Value.int .i64 a, Value.int .u32 b, Value.int .i64 c, Value.slice p n m, Value.slice q k l], u.oneCell' = true := by
  intro u hu; simp at hu; rcases hu with rfl | rfl | rfl | rfl | rfl <;> rfl
theorem info_ten : (Try.prog.info? 43).map (fun i => (i.zero, i.size, i.bytes)) = some (some (.agg #[.int .i64 0, .int .u32 0, .int .i64 0, .slice none 0 0, .slice none 0 0]), 5, 72) := by kernel_rfl
theorem info_slot : (Try.prog.info? 48).map (fun i => (i.zero, i.size, i.bytes)) = some (some (.agg #[.int .i64 0, .int .i64 0]), 2, 16) := by kernel_rfl

set_option maxRecDepth 100000 in
set_option maxHeartbeats 8000000 in
theorem table_any (B g : Nat) (l : List Int) (w : World) (hT : Tap B w g l) (hB : B ≤ w.heap.size) :
    Calls Try.prog 8 #[.pointer (some ⟨g, 0, none⟩)] w fun e w' => ∃ vt fr l, e = .returned (.agg #[.int .i64 fr, vt]) ∧ Tns w' vt l ∧ TabOK fr l ∧ Dev w.heap.size g w w' := by
  have hgB := hT.lt
  have E1 := (Below.refl w.heap.size w).alloc (Nat.le_refl _) (.cells #[.int .i64 0, .slice none 0 0] 24)
  have X2 := Blk.new w 24 [.int .i64 0, .slice none 0 0]
  have T := hT.ext hB E1
  have z1 := E1.size
  clear hT
  go_enter Try.func8, Try.ntmps8
  go_wp2_with fail
  refine (next_any B g l 4 _ T (Nat.le_trans hB z1) (by decide)).mono ?_
  rintro e w1 ⟨m, rfl, m0, m4, T1, S1, D1⟩
  obtain ⟨mn, rfl⟩ : ∃ mn : Nat, m = mn := ⟨m.toNat, by omega⟩
  replace X2 := X2.dev D1 X2.lt (by omega)
  have D := (Dev.of_below (g := g) E1).then (Nat.le_refl _) D1
  have s1 : w1.heap.size = w.heap.size + 1 := by rw [S1]; simp
  have E2 := (Below.refl w1.heap.size w1).alloc (Nat.le_refl _) (.cells #[.int .i64 0, .slice none 0 0] 24)
  have X4 := Blk.new w1 24 [.int .i64 0, .slice none 0 0]
  rw [s1] at X4
  replace X2 := X2.below E2 X2.lt
  replace T1 := T1.ext (by omega) E2
  replace D := D.ext (Nat.le_refl _) E2
  clear E1 E2 D1 T z1 S1
  go_wp2_with fail
  refine (next_any B g l 5 _ T1 (by simp; omega) (by decide)).mono ?_
  rintro e w2 ⟨a0, rfl, a1, a2, T2, S2, D2⟩
  have s2 : w2.heap.size = w.heap.size + 2 := by rw [S2]; simp; omega
  replace X2 := X2.dev D2 X2.lt (by omega)
  replace X4 := X4.dev D2 X4.lt (by omega)
  replace D := D.then (Nat.le_refl _) D2
  clear D2 S2 T1
  clear s1
  go_wp2
  go_loopw [5, 6] (fun z5 z6 wr => ∃ (at_ : Int) (i : Nat) (vt : Value) (es : List TE), z5 = .int .i64 at_ ∧ z6 = .int .i64 i ∧ es.length = i ∧ Hid (TabS at_ (es.map (·.1))) ∧ i ≤ mn + 1 ∧ 0 ≤ at_ ∧ at_ ≤ 4 + 172 * (i : Int) ∧ Blk wr w.heap.size 24 [.int .i64 0, .slice none 0 0] ∧ Blk wr (w.heap.size + 1) 24 [.int .i64 0, vt] ∧ OX (w.heap.size + 2) wr vt es ∧ Tap B wr g l ∧ w.heap.size + 2 ≤ wr.heap.size ∧ Dev w.heap.size g w wr) (fun _ z _ => mn + 1 - (intOf z).toNat)
  case atStart => exact ⟨a0, 0, _, [], rfl, rfl, rfl, hidden (TabS.nil _), by omega, by omega, by omega, X2, X4, OX.nil _ _, T2, by omega, D⟩
  case round =>
    clear X2 X4 T2 D s2 a1 a2 w1 w2
    obtain ⟨at_, i, vt, es, rfl, rfl, hes, GS, hi, a1, a2, X2, X4, O, T, hz, D⟩ := hrel
    have HES := hidden hes
    clear hes
    by_cases hlt : i < mn + 1
    · have d1 : decide ((i : Int) < 1 + (mn : Int)) = true := by simp; omega
      go_wp2_with fail
      refine (next_any B g l 3 _ T (by omega) (by decide)).mono ?_
      rintro e w3 ⟨u1, rfl, u1a, u1b, T1, S1, D1⟩
      go_wp2_with fail
      refine (next_any B g l 2 _ T1 (by omega) (by decide)).mono ?_
      rintro e w4 ⟨u2, rfl, u2a, u2b, T2, S2, D2⟩
      replace D2 := D1.then (Nat.le_refl _) D2
      rw [S1] at S2
      clear S1 D1 T1 w3
      go_wp2_with fail
      have HF := hidden (bits_u32 BinOp.or 12812798 (u2 * 512))
      generalize bits BinOp.or IntKind.u32 12812798 (u2 * 512) = fn at *
      refine (next_any B g l 4 _ T2 (by omega) (by decide)).mono ?_
      rintro e w5 ⟨u3, rfl, u3a, u3b, T3, S3, D3⟩
      replace D3 := D2.then (Nat.le_refl _) D3
      rw [S2] at S3
      clear S2 D2 T2 w4
      go_wp2_with fail
      refine (windows_any B g l (i : Int) _ T3 (by omega) (by omega)).mono ?_
      rintro e w6 ⟨vw, rfl, ws, ow, gw, T4, D4⟩
      have W6 : Wns w6 vw ws := Lsf.of_owns wf_len (by decide) ow
      obtain ⟨av, capv, rfl, -⟩ := id W6
      have lvw : ∀ k, (Value.slice av ws.length capv).ownBlock = some k → wr.heap.size ≤ k ∧ k < w6.heap.size := fun k hk => by have := ow.lt k hk; omega
      have lvt : ∀ k, vt.ownBlock = some k → w.heap.size + 2 ≤ k ∧ k < wr.heap.size := fun k hk => by obtain ⟨ho, -⟩ := O; exact ho.lt k hk
      replace D4 := D3.then (Nat.le_refl _) D4
      have zS := D4.size
      replace X2 := X2.dev D4 X2.lt (by omega)
      replace X4 := X4.dev D4 X4.lt (by omega)
      replace O := O.dev D4 (Nat.le_refl _) (by omega)
      replace D := D.then (Nat.le_refl _) D4
      clear D3 T3 S3 ow D4 w5
      have HX2 := hidden X2
      have HX4 := hidden X4
      have HO := hidden O
      have HW := hidden W6
      have HD := hidden D
      have HL := hidden lvw
      have HT := hidden lvt
      have l2 := X2.lt
      have l4 := X4.lt
      clear X2 X4 O W6 D lvw lvt
      have E7 := (Below.refl w6.heap.size w6).alloc (Nat.le_refl _) (.cells #[.int .i64 (1 + u1 + (i : Int)), .int .u32 fn, .int .i64 (1 + u3), .slice av ws.length capv, .slice none 0 0] 43)
      have X7 := Blk.new w6 43 [.int .i64 (1 + u1 + (i : Int)), .int .u32 fn, .int .i64 (1 + u3), .slice av ws.length capv, .slice none 0 0]
      have T7 := T4.ext (by omega) E7
      have D7 := Dev.of_below (g := g) E7
      have z7 : w6.heap.size < w6.heap.size + 1 := Nat.lt_succ_self _
      clear E7 T4
      go_wp2_with fail
      refine (next_any B g l 5 _ T7 (by simp; omega) (by decide)).mono ?_
      rintro e w7 ⟨u5, rfl, u5a, u5b, T8, S8, D8⟩
      replace X7 := X7.dev D8 X7.lt (by omega)
      replace D7 := D7.then (Nat.le_refl _) D8
      have z8 : w7.heap.size = w6.heap.size + 1 := by rw [S8]; simp
      clear T7 D8 S8 z7
      have HU := hidden (show 1 ≤ 1 + u1 + (i : Int) ∧ 1 + u1 + (i : Int) ≤ 6 from by omega)
      have HQ := hidden (show 1 ≤ 1 + u3 ∧ 1 + u3 ≤ 4 from by omega)
      generalize 1 + u1 + (i : Int) = un at *
      generalize 1 + u3 = qu at *
      by_cases hq : u5 = 0
      focus
        subst hq
        go_wp2_with fail
        refine (next_any B g l 24 _ T8 (by omega) (by decide)).mono ?_
        rintro e wq0 ⟨u9, rfl, u9a, u9b, T9, S9, D9⟩
        replace X7 := X7.dev D9 X7.lt (by omega)
        replace D7 := D7.then (Nat.le_refl _) D9
        have f7 := X7.cell 1
        have f8 := X7.frozen 1
        go_wp2_with fail
        have HF2 := hidden (bits_u32 BinOp.or 65608 (2 ^ u9.toNat % 4294967296))
        generalize bits BinOp.or IntKind.u32 65608 (2 ^ u9.toNat % 4294967296) = fn2 at *
        clear HF
        have XQ : Blk (wq0.setCell ⟨w6.heap.size, 1, none⟩ (.int .u32 fn2)) w6.heap.size 43 [.int .i64 un, .int .u32 fn2, .int .i64 qu, .slice av ws.length capv, .slice none 0 0] := X7.set 1 (.int .u32 fn2)
        have TQ := T9.below ((Below.refl B wq0).setCell (p := ⟨w6.heap.size, 1, none⟩) (by show B ≤ w6.heap.size; omega) (.int .u32 fn2))
        have DQ := D7.setCell (p := ⟨w6.heap.size, 1, none⟩) (Nat.le_refl _) (.int .u32 fn2)
        have zQ : w6.heap.size < (wq0.setCell ⟨w6.heap.size, 1, none⟩ (.int .u32 fn2)).heap.size := by simp [World.setCell]; omega
        clear X7 T8 D7 z8 T9 S9 D9 f7 f8 u9a u9b u5a u5b
        generalize wq0.setCell ⟨w6.heap.size, 1, none⟩ (.int .u32 fn2) = wq at *
      rotate_left
      focus
        have d5 : (u5 == 0) = false := by simpa using hq
        go_wp2_with fail
        obtain ⟨fn2, hfn2⟩ : ∃ fn2, fn2 = fn := ⟨_, rfl⟩
        subst hfn2
        have HF2 := HF
        clear HF
        obtain ⟨wq, hwq⟩ : ∃ wq, wq = w7 := ⟨_, rfl⟩
        subst hwq
        have XQ := X7
        have TQ := T8
        have DQ := D7
        have zQ : w6.heap.size < wq.heap.size := by omega
        clear X7 T8 D7 z8 d5 hq u5a u5b
      all_goals
        refine (next_any B g l 2 _ TQ (by omega) (by decide)).mono ?_
        rintro e wk ⟨k0, rfl, k0a, k0b, TK, SK, DK⟩
        replace XQ := XQ.dev DK XQ.lt (by omega)
        replace DQ := DQ.then (Nat.le_refl _) DK
        have zK : w6.heap.size < wk.heap.size := by omega
        clear TQ SK DK zQ
        go_wp2
        go_loopw [5, 8] (fun z5 z8 wi => ∃ (at2 k : Int) (sv : Value) (ss : SL), z5 = .int .i64 at2 ∧ z8 = .int .i64 k ∧ Hid (SlT at2 ((es.map (·.1)).flatMap (·.ss) ++ ss)) ∧ -1 ≤ k ∧ (ss.length : Int) + k = k0 ∧ 0 ≤ at2 ∧ at2 ≤ 4 + 172 * (i : Int) + 86 * (1 - k) ∧ Blk wi w6.heap.size 43 [.int .i64 un, .int .u32 fn2, .int .i64 qu, .slice av ws.length capv, sv] ∧ wi.ownsRow (w6.heap.size + 1) 48 2 sv ss.length (ss.flatMap sf) ∧ Tap B wi g l ∧ w6.heap.size < wi.heap.size ∧ Dev w6.heap.size g w6 wi) (fun _ z _ => (intOf z + 1).toNat)
        case atStart => exact ⟨at_, k0, _, [], rfl, rfl, by rw [List.append_nil]; exact GS.out.sl, by omega, by simp, by omega, by omega, XQ, owns_nilL _ _ _ _, TK, zK, DQ⟩
        case round =>
          clear XQ TK zK DQ
          obtain ⟨at2, k, sv, ss, rfl, rfl, SG, k1, k2, b1, b2, XQ, OS, TK, zK, DQ⟩ := hrel
          obtain ⟨sa, sn, sc, rfl⟩ := owns_slice OS
          by_cases hk : 0 ≤ k
          · have dk : decide (0 ≤ k) = true := by simpa using hk
            go_wp2_with fail
            refine (next_any B g l 9 _ TK (by omega) (by decide)).mono ?_
            rintro e ws1 ⟨v1, rfl, v1a, v1b, T1, S1, D1⟩
            replace XQ := XQ.dev D1 XQ.lt (by omega)
            replace OS := owns_dev OS D1 (by omega)
            replace DQ := DQ.then (Nat.le_refl _) D1
            have E9 := (Below.refl ws1.heap.size ws1).alloc (Nat.le_refl _) (.cells #[.int .i64 at2, .int .i64 (72 + v1)] 48)
            have X9 := Bx.new ws1 48 at2 (72 + v1)
            replace XQ := XQ.below E9 XQ.lt
            replace OS := owns_belowS OS E9
            replace T1 := T1.ext (by omega) E9
            replace DQ := DQ.ext (Nat.le_refl _) E9
            have z9 : w6.heap.size < ws1.heap.size ∧ ws1.heap.size < (ws1.alloc (.cells #[.int .i64 at2, .int .i64 (72 + v1)] 48)).heap.size := ⟨by omega, by simp⟩
            clear E9 TK D1 S1 zK
            go_wp2
            generalize ws1.alloc (.cells #[.int .i64 at2, .int .i64 (72 + v1)] 48) = ws2 at *
            generalize ws1.heap.size = g9 at *
            refine c_begin 9 rfl (by kernel_rfl) ?_
            have E9 := (Below.refl ws2.heap.size ws2).drew
            replace XQ := XQ.below E9 XQ.lt
            replace OS := owns_belowS OS E9
            replace T1 := T1.ext (by omega) E9
            replace DQ := DQ.drew
            replace X9 := X9.drew
            replace z9 : w6.heap.size < g9 ∧ g9 < ws2.drew.heap.size := z9
            clear E9
            generalize ws2.drew = ws2 at *
            obtain ⟨z9, z10⟩ := z9
            have wr1 : IntKind.i64.wrap (at2 + (72 + v1)) = at2 + (72 + v1) := IntWalk.i64_in _ (by omega)
            refine c_P trivial 0 rfl ?_
            refine c_R (fun w' => Bx w' g9 48 at2 (72 + v1)) X9 trivial 1 rfl (fun w' hx => by obtain ⟨q1, q2⟩ := hx.cells2; go_simp; with_reducible rfl) ?_
            refine c_P ⟨X9, trivial⟩ 2 rfl ?_
            refine c_R (fun w' => Bx w' g9 48 at2 (72 + v1)) X9 ⟨X9, trivial⟩ 3 rfl (fun w' hx => by obtain ⟨q1, q2⟩ := hx.cells2; go_simp; with_reducible rfl) ?_
            refine c_P ⟨X9, X9, trivial⟩ 4 rfl ?_
            refine c_P ⟨X9, X9, trivial⟩ 5 rfl ?_
            refine c_move 6 (by kernel_rfl) (c_op 6 [(3, fun w' => Bx w' g9 48 at2 (72 + v1)), (1, fun w' => Bx w' g9 48 at2 (72 + v1))] (by kernel_rfl) rfl (by kernel_rfl) (fun K hK => ?_))
            go_wp2_with fail
            refine (next_any B g l 7 _ T1 (by omega) (by decide)).mono ?_
            rintro e ws3 ⟨v2, rfl, v2a, v2b, T2, S2, D2⟩
            go_simp
            replace XQ := XQ.dev D2 XQ.lt (by omega)
            replace X9 := Blk.dev X9 D2 (Blk.lt X9) (by omega)
            replace OS := owns_dev OS D2 (by omega)
            replace DQ := DQ.then (Nat.le_refl _) D2
            refine hK.out _ _ ⟨X9, X9, trivial⟩ ?_
            try simp only [Act.put, List.setIfInBounds_toArray, List.set_cons_zero, List.set_cons_succ]
            clear hK K T1
            have wr2 : IntKind.i64.wrap (at2 + (72 + v1) + v2) = at2 + (72 + v1) + v2 := IntWalk.i64_in _ (by omega)
            refine c_P ⟨X9, X9, trivial⟩ 7 rfl ?_
            refine c_P ⟨X9, X9, trivial⟩ 8 rfl ?_
            refine c_done (by kernel_rfl) ?_
            have z11 : w6.heap.size < ws3.heap.size := by omega
            clear wr1 wr2 D2 S2
            replace X9 : Bx ws3 g9 48 at2 (72 + v1) := X9
            obtain ⟨q1, q2⟩ := X9.cells2
            have l9 := X9.lt
            have r7 := XQ.cell 4
            simp only [List.getElem?_cons_succ, List.getElem?_cons_zero] at r7
            have E9 := (Below.refl ws3.heap.size ws3).alloc (Nat.le_refl _) (.cells #[.int .i64 at2, .int .i64 (72 + v1)] 48)
            replace XQ := XQ.below E9 XQ.lt
            replace T2 := T2.ext (by omega) E9
            replace DQ := DQ.ext (Nat.le_refl _) E9
            have O9 := hidden (owns_belowS OS E9)
            have f7 : ∀ w', Blk w' w6.heap.size 43 [.int .i64 un, .int .u32 fn2, .int .i64 qu, .slice av ws.length capv, .slice sa sn sc] → w'.frozen? ⟨w6.heap.size, 4, none⟩ = false := fun w' h => h.frozen 4
            clear E9
            go_wp2_with (at_builtin; refine wpList_pushL (v := .slice sa sn sc) rfl (.tmp 66) (.tmp 68) 41 48 rfl (w6.heap.size + 1) 2 16 (.agg #[.int .i64 0, .int .i64 0]) Try.underlying41 info_slot rfl (by decide) rfl O9.out _ 1 [.int .i64 at2, .int .i64 (72 + v1)] rfl ?h0 rfl one_sf ?h1 ?h2 ?h3 ?h4)
            case h0 => exact Bx.new ws3 48 at2 (72 + v1)
            case h1 => omega
            case h2 => unfold maxLen; omega
            case h3 => simp; omega
            case h4 =>
              intro v' w9 own9 gr9 ob
              have ne7 : (Value.slice sa sn sc).ownBlock ≠ some w6.heap.size := fun e => absurd (O9.out.lt _ e).1 (by omega)
              replace XQ := XQ.grownL gr9 ne7
              have DZ : Dev w6.heap.size g w6 w9 := DQ.trans (Dev.of_below (g := g) ((Below.refl w6.heap.size _).grown gr9 (by simp; omega) (fun k hk => by have := (O9.out.lt k hk).1; omega)))
              replace T2 := T2.below ((Below.refl B _).grown gr9 (by simp; omega) (fun k hk => by have := (O9.out.lt k hk).1; omega))
              have c7 := XQ.cell 4
              simp only [List.getElem?_cons_succ, List.getElem?_cons_zero] at c7
              have f8 := XQ.frozen 4
              have z12 : w6.heap.size < w9.heap.size := XQ.lt
              obtain ⟨pa, pn, pc, rfl⟩ := owns_slice own9
              have nv : (Value.slice pa pn pc).ownBlock ≠ some w6.heap.size := fun e => absurd (own9.lt _ e).1 (by omega)
              clear q1 q2 r7
              go_wp2
              have XR : Blk (w9.setCell ⟨w6.heap.size, 4, none⟩ (.slice pa pn pc)) w6.heap.size 43 [.int .i64 un, .int .u32 fn2, .int .i64 qu, .slice av ws.length capv, .slice pa pn pc] := XQ.set 4 (.slice pa pn pc)
              go_roundw
              case rel => exact ⟨at2 + (72 + v1) + v2, k - 1, .slice pa pn pc, ss ++ [(at2, 72 + v1)], rfl, by go_num, by rw [← List.append_assoc]; exact SG.out.push (by omega) (Int.le_refl _) (by omega) (by omega), by omega, by rw [List.length_append]; simp only [List.length_cons, List.length_nil]; omega, by omega, by omega, XR, by rw [List.length_append, List.flatMap_append]; exact owns_set2 own9 _ 4 nv, T2.below ((Below.refl B w9).setCell (p := ⟨w6.heap.size, 4, none⟩) (by show B ≤ w6.heap.size; omega) (.slice pa pn pc)), by simp [World.setCell]; omega, DZ.setCell (p := ⟨w6.heap.size, 4, none⟩) (Nat.le_refl _) (.slice pa pn pc)⟩
              case measure => simp only [intOf]; omega
          · have dk : decide (0 ≤ k) = false := by simp; omega
            have X2 := HX2.out.dev DQ l2 (by omega)
            have X4 := HX4.out.dev DQ l4 (by omega)
            have O := HO.out.dev DQ (Nat.le_refl _) (by omega)
            have W6 := HW.out.keep (w' := wr) (fun b hb1 hb2 => DQ.block b (HL.out b hb1).2 (by have := (HL.out b hb1).1; omega))
            have D := HD.out.then (Nat.le_refl _) DQ
            have zr := DQ.size
            have E9 := (Below.refl wr.heap.size wr).alloc (Nat.le_refl _) (.cells #[.int .i64 un, .int .u32 fn2, .int .i64 qu, .slice av ws.length capv, .slice sa sn sc] 43)
            have c0 := XQ.cell 0
            have c1 := XQ.cell 1
            have c2 := XQ.cell 2
            have c3 := XQ.cell 3
            have c4 := XQ.cell 4
            have c5 := X4.cell 1
            simp only [List.getElem?_cons_succ, List.getElem?_cons_zero] at c0 c1 c2 c3 c4 c5
            have lq := XQ.lt
            replace X2 := X2.below E9 X2.lt
            replace X4 := X4.below E9 X4.lt
            replace W6 := W6.ext E9
            replace O := O.ext E9
            replace TK := TK.ext (by omega) E9
            replace D := D.ext (Nat.le_refl _) E9
            have OV := O.1
            obtain ⟨ta, tn, tc, rfl⟩ := owns_slice OV
            have O9 := hidden OV
            have HOW := hidden O
            have HWW := hidden W6
            have HSS := hidden (show Sts _ _ ss from Lsf.of_owns sf_len (by decide) (owns_belowS OS E9))
            have HLS := hidden (fun k hk => (owns_belowS OS E9).lt k hk)
            have hkk : k = -1 := by omega
            have HGT := hidden (show GT i ⟨un, fn2, qu, ws, ss⟩ from ⟨HU.out, HF2.out, HQ.out, gw, by show 1 ≤ ss.length ∧ ss.length ≤ 2; omega⟩)
            clear E9 OV O W6 OS
            go_wp2_with (at_builtin; refine wpList_pushL (v := .slice ta tn tc) rfl (.tmp 72) (.tmp 74) 22 43 rfl (w.heap.size + 2) 5 72 (.agg #[.int .i64 0, .int .u32 0, .int .i64 0, .slice none 0 0, .slice none 0 0]) Try.underlying22 info_ten rfl (by decide) rfl O9.out _ 1 [.int .i64 un, .int .u32 fn2, .int .i64 qu, .slice av ws.length capv, .slice sa sn sc] rfl ?h0 rfl one_ten ?h1 ?h2 ?h3 ?h4)
            case h0 => exact Blk.new wr _ [.int .i64 un, .int .u32 fn2, .int .i64 qu, .slice av ws.length capv, .slice sa sn sc]
            case h1 => have := HES.out; omega
            case h2 => have := HES.out; unfold maxLen; omega
            case h3 => have := HES.out; first | omega | (simp; omega)
            case h4 =>
              intro v' w9 own9 gr9 ob
              have ne2 : (Value.slice ta tn tc).ownBlock ≠ some w.heap.size := fun e => absurd (O9.out.lt _ e).1 (by omega)
              have ne4 : (Value.slice ta tn tc).ownBlock ≠ some (w.heap.size + 1) := fun e => absurd (O9.out.lt _ e).1 (by omega)
              replace X2 := X2.grownL gr9 ne2
              replace X4 := X4.grownL gr9 ne4
              replace D := D.trans (Dev.of_below (g := g) ((Below.refl w.heap.size _).grown gr9 (by simp; omega) (fun k hk => by have := (O9.out.lt k hk).1; omega)))
              replace TK := TK.below ((Below.refl B _).grown gr9 (by simp; omega) (fun k hk => by have := (O9.out.lt k hk).1; omega))
              have OP := hidden (HOW.out.push (⟨un, fn2, qu, ws, ss⟩, .slice av ws.length capv, .slice sa sn sc) HWW.out HSS.out (fun k hk => by
                obtain ⟨p1, p2⟩ := HL.out k hk
                refine ⟨by omega, by simp; omega, fun e => ?_⟩
                have := (HT.out k e).2
                omega) (fun k hk => by
                obtain ⟨p1, p2⟩ := HLS.out k hk
                refine ⟨by omega, by simpa using p2, fun e => ?_⟩
                have := (HT.out k e).2
                omega) own9 gr9 (by simpa using ob))
              obtain ⟨pa, pn, pc, rfl⟩ := owns_slice own9
              have z9 : w.heap.size + 2 ≤ w9.heap.size := by have := gr9.size; simp at this; omega
              have r4 := X4.cell 1
              simp only [List.getElem?_cons_succ, List.getElem?_cons_zero] at r4
              have f4 := X4.frozen 1
              clear c0 c1 c2 c3 c4 c5 gr9 ob
              go_wp2
              have Y4 : Blk (w9.setCell ⟨w.heap.size + 1, 1, none⟩ (.slice pa pn pc)) (w.heap.size + 1) 24 [.int .i64 0, .slice pa pn pc] := X4.set 1 (.slice pa pn pc)
              have Y2 := X2.set_neW (g := w.heap.size + 1) (by omega) 1 (.slice pa pn pc)
              go_roundw
              case rel => exact ⟨at2, i + 1, .slice pa pn pc, es ++ [(⟨un, fn2, qu, ws, ss⟩, .slice av ws.length capv, .slice sa sn sc)], rfl, by go_num, by rw [List.length_append, HES.out]; rfl, by rw [List.map_append]; exact GS.out.push (by rw [List.length_map, HES.out]; exact HGT.out) SG.out, by omega, by omega, by omega, Y2, Y4, OP.out.set (by omega) _, TK.below ((Below.refl B w9).setCell (p := ⟨w.heap.size + 1, 1, none⟩) (by show B ≤ w.heap.size + 1; omega) (.slice pa pn pc)), by simpa [World.setCell] using z9, D.setCell (p := ⟨w.heap.size + 1, 1, none⟩) (by show w.heap.size ≤ w.heap.size + 1; omega) (.slice pa pn pc)⟩
              case measure => simp only [intOf]; omega
    · have d1 : decide ((i : Int) < 1 + (mn : Int)) = false := by simp; omega
      have hi4 : 1 ≤ (es.map (·.1)).length ∧ (es.map (·.1)).length ≤ 4 := by rw [List.length_map, HES.out]; omega
      have HI4 := hidden hi4
      clear hi4
      have l2 := X2.lt
      have l4 := X4.lt
      go_wp2_with fail
      refine (next_any B g l 20 _ T (by omega) (by decide)).mono ?_
      rintro e w3 ⟨u1, rfl, u1a, u1b, T1, S1, D1⟩
      replace X2 := X2.dev D1 X2.lt (by omega)
      replace X4 := X4.dev D1 X4.lt (by omega)
      replace O := O.dev D1 (Nat.le_refl _) (by omega)
      replace D := D.then (Nat.le_refl _) D1
      obtain ⟨OV, -⟩ := id O
      obtain ⟨ta, tn, tc, rfl⟩ := owns_slice OV
      have c0 := X4.cell 0
      have c1 := X4.cell 1
      have b0 := X2.cell 0
      have b1 := X2.cell 1
      simp only [List.getElem?_cons_succ, List.getElem?_cons_zero] at c0 c1 b0 b1
      have f0 := X4.frozen 0
      have f1 := X4.frozen 1
      have h0 := X2.frozen 0
      have h1 := X2.frozen 1
      have l2' := X2.lt
      have l4' := X4.lt
      clear S1 D1 T1 OV
      go_wp2
      obtain ⟨fr, hfr⟩ : ∃ fr, fr = at_ + u1 := ⟨_, rfl⟩
      rw [← hfr]
      have HFR := hidden (GS.out.ok (fr := fr) HI4.out (by omega) (by omega))
      have Z2 := ((X2.set_neW (g := w.heap.size + 1) (by omega) 0 (.int .i64 fr)).set 0 (.int .i64 fr)).set 1 (.slice ta tn tc)
      have OZ := ((O.set (g := w.heap.size + 1) (o := 0) (by omega) (.int .i64 fr)).set (g := w.heap.size) (o := 0) (by omega) (.int .i64 fr)).set (g := w.heap.size) (o := 1) (by omega) (.slice ta tn tc)
      have DZ := ((D.setCell (p := ⟨w.heap.size + 1, 0, none⟩) (by show w.heap.size ≤ w.heap.size + 1; omega) (.int .i64 fr)).setCell (p := ⟨w.heap.size, 0, none⟩) (Nat.le_refl _) (.int .i64 fr)).setCell (p := ⟨w.heap.size, 1, none⟩) (Nat.le_refl _) (.slice ta tn tc)
      generalize (((w3.setCell ⟨w.heap.size + 1, 0, none⟩ (.int .i64 fr)).setCell ⟨w.heap.size, 0, none⟩ (.int .i64 fr)).setCell ⟨w.heap.size, 1, none⟩ (.slice ta tn tc)) = wZ at *
      clear c0 c1 b0 b1 f0 f1 h0 h1
      have q0 := Z2.cell 0
      have q1 := Z2.cell 1
      simp at q0 q1
      refine bodyPost_ret (v := _) (by simp [results, Try.results8, go_sem, q0, q1]; with_reducible rfl) rfl ?_
      exact ⟨_, _, _, rfl, OZ.tns, HFR.out, DZ⟩

end Go.Proofs.Ytffjhimdamdenaa
