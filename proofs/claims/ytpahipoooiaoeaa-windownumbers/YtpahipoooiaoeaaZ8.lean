/- Contract of burgageref7.Cover. -/
import Derived.Test.YtpahipoooiaoeaaZ7
namespace Go.Proofs.Ytpahipoooiaoeaa
open Go.RowKit

theorem owns_fromS {w : World} {base base' s : Nat} {e : TypeId} {v : Value} {n : Nat} {xs : List Value} (h : w.ownsRow base e s v n xs) (hb : base' ≤ base) : w.ownsRow base' e s v n xs := by
  refine ⟨h.1, ?_⟩
  rcases h.2 with hn | ⟨g, cap, cur, hv, hg, rest⟩
  · exact .inl hn
  · exact .inr ⟨g, cap, cur, hv, Nat.le_trans hb hg, rest⟩
theorem Bx.set_ne {w : World} {g k o : Nat} {t : TypeId} {a n : Int} (h : Bx w g t a n) (u : Value) (hne : k ≠ g) : Bx (w.setCell ⟨k, o, none⟩ u) g t a n := by
  unfold Bx Blk at *
  simp only [World.setCell, Array.getElem?_modify]
  rw [if_neg hne]; exact h
set_option maxHeartbeats 4000000 in
theorem rcover_any (v : Value) (l : SL) (a n : Int) (w : World) (hv : Sps w v l) (ho : OkL l) (hn : i64 n) :
    Calls Try.prog 34 #[v, spV a n] w fun e w' => ∃ v', e = .returned (.tuple #[v', .bool (covR l a n).isSome]) ∧ w'.ownsRow w.heap.size 78 2 v' ((covR l a n).getD []).length (scs ((covR l a n).getD [])) ∧ Below w.heap.size w w' := by
  obtain ⟨av, cap, rfl, -⟩ := id hv
  obtain ⟨hl, hc, hm, -⟩ := hv.at
  unfold maxLen at hm
  have C1 := hidden (fun w => rright_any a n 2147483648 w hn (by unfold i64; omega))
  have B1 := hidden (Bx.new w 78 a n)
  have W1 := hidden (fun o => (Below.refl w.heap.size w).alloc (Nat.le_refl _) o)
  cases t1 : tk a n
  · rw [show okR a n 2147483648 = false from t1] at C1
    have e : covR l a n = none := by simp [covR, t1]
    simp only [e]
    go_enter Try.func34, Try.ntmps34
    go_wp2_with fail
    refine (C1.out _).mono ?_
    rintro e w1 ⟨rfl, Ba⟩
    replace Ba := below_then (W1.out _) Ba
    go_wp2
    refine bodyPost_ret (v := _) (by simp [results, Try.results34, go_sem]; with_reducible rfl) rfl ?_
    exact ⟨_, rfl, owns_nilS _ _ _, Ba⟩
  · rw [show okR a n 2147483648 = true from t1] at C1
    obtain ⟨Z, hZ⟩ : ∃ Z, covR l a n = Z := ⟨_, rfl⟩
    rw [hZ]
    have HZ : Hid (allB l = true → Z = (cov l a n).map (([] : SL) ++ ·)) := by
      intro t2
      rw [← hZ]; simp [covR, t1, t2]
    have HZ0 : Hid (allB l = false → Z = none) := by
      intro t2
      rw [← hZ]; simp [covR, t2]
    clear hZ
    obtain ⟨g1, g2, g3⟩ := tk_iff.1 t1
    clear t1
    go_enter Try.func34, Try.ntmps34
    go_wp2_with fail
    refine (C1.out _).mono ?_
    rintro e w1 ⟨rfl, Ba⟩
    have x1 := B1.out.ext Ba
    replace Ba := below_then (W1.out _) Ba
    clear C1 B1 W1
    go_wp2
    go_loopw [20] (fun i wr => ∃ k : Nat, k ≤ l.length ∧ i = .int .i64 k ∧ Hid (allB (l.take k) = true) ∧ Bx wr w.heap.size 78 a n ∧ Below w.heap.size w wr) (fun i _ => l.length - (intOf i).toNat)
    case atStart => exact ⟨0, Nat.zero_le _, rfl, hidden rfl, x1, Ba⟩
    case round =>
      clear x1 Ba
      obtain ⟨k, hk, rfl, HE, x1, hb⟩ := hrel
      by_cases hlt : k < l.length
      · obtain ⟨-, -, -, hcell⟩ := (hv.ext hb).at
        obtain ⟨b, off, rfl, hcl⟩ := hcell k hlt
        obtain ⟨c0, c1⟩ := hcl k hlt
        clear hcl hcell
        have hlt' : (k : Int) < (l.length : Int) := by omega
        have TA := hidden (take_all hlt)
        have TB := hidden (fun h => all_bad (l := l) hlt h)
        obtain ⟨o1, o2⟩ := ho.at hlt
        generalize (l.getD k (0, 0)).1 = x at *
        generalize (l.getD k (0, 0)).2 = y at *
        have C := hidden (fun w => rright_any x y 2147483648 w o2 (by unfold i64; omega))
        cases t : tk x y
        · rw [show okR x y 2147483648 = false from t] at C
          obtain rfl := HZ0.out (TB.out t)
          go_wp2_with fail
          refine (C.out _).mono ?_
          rintro e w2 ⟨rfl, B2⟩
          replace B2 := below_step hb B2
          go_wp2
          refine bodyPost_ret (v := _) (by simp [results, Try.results34, go_sem]; with_reducible rfl) rfl ?_
          exact ⟨_, rfl, owns_nilS _ _ _, B2⟩
        · rw [show okR x y 2147483648 = true from t] at C
          rw [t] at TA
          go_wp2_with fail
          refine (C.out _).mono ?_
          rintro e w2 ⟨rfl, B2⟩
          replace x1 := (x1.alloc (.cells #[.int .i64 x, .int .i64 y] 78)).ext B2
          replace B2 := below_step hb B2
          go_wp2
          go_roundw
          case rel => exact ⟨k + 1, by omega, by go_num, hidden (by rw [TA.out, HE.out]; rfl), x1, B2⟩
          case measure => simp [intOf]; omega
      · have e : l.take k = l := List.take_of_length_le (by omega)
        rw [e] at HE
        have HC0 := hidden (HZ.out HE.out)
        clear HZ HZ0 e
        obtain ⟨wa, hwa⟩ : ∃ wa, wa = wr := ⟨_, rfl⟩
        subst hwa
        have d0 : decide ((k : Int) < (l.length : Int)) = false := by simp; omega
        go_wp2
        go_loopw [8] (fun z8 wr => ∃ (o : SL) (b m : Int) (vo : Value), vo = z8 ∧ Bx wr w.heap.size 78 b m ∧ 0 ≤ m ∧ 0 ≤ b ∧ b + m ≤ 2147483648 ∧ (o.length : Int) + m ≤ 2147483648 ∧ wr.ownsRow (w.heap.size + 1) 78 2 z8 o.length (scs o) ∧ Hid (Z = (cov l b m).map (o ++ ·)) ∧ Below w.heap.size w wr) (fun _ wr => cntP wr (.pointer (some ⟨w.heap.size, 0, none⟩)))
        case atStart => exact ⟨[], a, n, _, rfl, x1, by omega, by omega, by omega, by simp; omega, owns_nilS _ _ _, HC0, hb⟩
        case round =>
          clear x1 hb HC0
          obtain ⟨o, b, m, vo, hvo, bx, m0, b0, bm, om, own, HC, hb⟩ := hrel
          subst hvo
          obtain ⟨c1, c2⟩ := bx.cells2
          have glt := bx.lt
          have Mcnt := hidden (cntP_of bx)
          obtain ⟨wo, hwo⟩ : ∃ wo, wo = wr := ⟨_, rfl⟩
          subst hwo
          by_cases hm : 0 < m
          · have tb : tk b m = true := tk_iff.2 ⟨b0, by omega, bm⟩
            have TB := hidden tb
            clear tb
            have d1 : decide (0 < m) = true := by simpa using hm
            have bx0 := bx.alloc (.cells #[.int .i64 0, .int .i64 0] 78)
            have bp0 := Bx.new wo 78 0 0
            have own0 := owns_belowS own ((Below.refl _ _).alloc (Nat.le_refl _) (.cells #[.int .i64 0, .int .i64 0] 78))
            have hb0 := hb.alloc hb.size (.cells #[.int .i64 0, .int .i64 0] 78)
            have NE9 : Hid (Value.ownBlock vo ≠ some wo.heap.size) := fun e => absurd (own.lt _ e).2 (by omega)
            have NEg : Hid (w.heap.size < wo.heap.size) := glt
            go_wp2
            generalize wo.alloc (.cells #[.int .i64 0, .int .i64 0] 78) = w5 at *
            generalize wo.heap.size = g9 at *
            clear c1 c2
            go_loopw [10, 33] (fun z10 i wr => ∃ k : Nat, k ≤ l.length ∧ i = .int .i64 k ∧ z10 = .bool false ∧ Hid (fnd (l.take k) b = none) ∧ Bx wr w.heap.size 78 b m ∧ Bx wr g9 78 0 0 ∧ wr.ownsRow (w.heap.size + 1) 78 2 vo o.length (scs o) ∧ Below w.heap.size w wr) (fun _ i _ => l.length - (intOf i).toNat)
            case atStart => exact ⟨0, Nat.zero_le _, rfl, rfl, hidden rfl, bx0, bp0, own0, hb0⟩
            case round =>
              clear bx0 bp0 own0 hb0 bx own
              obtain ⟨j, hj, rfl, rfl, HF, bx, bp, own, hb⟩ := hrel
              by_cases hlt : j < l.length
              · obtain ⟨-, -, -, hcell⟩ := (hv.ext hb).at
                obtain ⟨bb, off, rfl, hcl⟩ := hcell j hlt
                obtain ⟨c0, c1⟩ := hcl j hlt
                clear hcl hcell
                have hlt' : (j : Int) < (l.length : Int) := by omega
                have TA := hidden (fun h => fnd_hit (l := l) (a := b) hlt HF.out h)
                have TM := hidden (fun h => fnd_miss (l := l) (a := b) hlt HF.out h)
                have tx := allB_at HE.out hlt
                have ex : (l.getD j (0, 0)) = ((l.getD j (0, 0)).1, (l.getD j (0, 0)).2) := rfl
                rw [ex] at TA TM
                clear ex
                generalize (l.getD j (0, 0)).1 = x at *
                generalize (l.getD j (0, 0)).2 = y at *
                have oy := (tk_i64 tx).2
                have TX := hidden tx
                clear tx
                have C := hidden (fun w => rmeet_any x y b m w oy (tk_i64 TB.out).2)
                obtain ⟨q1, q2⟩ := (bx.alloc (.cells #[.int .i64 x, .int .i64 y] 78)).cells2
                have lt9 := bp.lt
                have ltw := bx.lt
                cases hh : hasB (x, y) b
                · have E2 := hidden (TM.out hh)
                  rcases meet_miss TX.out TB.out hh with M | ⟨M, N⟩
                  · rw [M] at C
                    clear TA TM hh M
                    generalize meetA x y b m = A at *
                    generalize meetN x y b m = D at *
                    go_wp2_with fail
                    refine (C.out _).mono ?_
                    rintro e w6 ⟨rfl, B6⟩
                    replace bx := (bx.alloc (.cells #[.int .i64 x, .int .i64 y] 78)).ext B6
                    replace bp := (bp.alloc (.cells #[.int .i64 x, .int .i64 y] 78)).ext B6
                    replace own := owns_belowS (owns_belowS own ((Below.refl _ _).alloc (Nat.le_refl _) (.cells #[.int .i64 x, .int .i64 y] 78))) B6
                    replace B6 := below_step hb B6
                    go_wp2
                    go_roundw
                    case rel => exact ⟨j + 1, by omega, by go_num, rfl, E2, bx.alloc _, bp.alloc _, owns_belowS own ((Below.refl _ _).alloc (Nat.le_refl _) _), B6.alloc B6.size _⟩
                    case measure => simp [intOf]; omega
                  · rw [M] at C
                    clear TA TM hh M
                    generalize meetA x y b m = A at *
                    generalize meetN x y b m = D at *
                    have dN : decide (A = b) = false := by simpa using N
                    have dN2 : (A == b) = false := by simpa using N
                    go_wp2_with fail
                    refine (C.out _).mono ?_
                    rintro e w6 ⟨rfl, B6⟩
                    replace bx := (bx.alloc (.cells #[.int .i64 x, .int .i64 y] 78)).ext B6
                    replace bp := (bp.alloc (.cells #[.int .i64 x, .int .i64 y] 78)).ext B6
                    replace own := owns_belowS (owns_belowS own ((Below.refl _ _).alloc (Nat.le_refl _) (.cells #[.int .i64 x, .int .i64 y] 78))) B6
                    replace B6 := below_step hb B6
                    clear q1 q2
                    obtain ⟨q1, q2⟩ := bx.cells2
                    have lt6 := bx.lt
                    go_wp2
                    go_roundw
                    case rel => exact ⟨j + 1, by omega, by go_num, rfl, E2, bx.alloc _, bp.alloc _, owns_belowS own ((Below.refl _ _).alloc (Nat.le_refl _) _), B6.alloc B6.size _⟩
                    case measure => simp [intOf]; omega
                · have hf := TA.out hh
                  obtain ⟨M1, M2, M3⟩ := meet_piece TX.out TB.out hh
                  rw [M1, M2, M3] at C
                  have pp := pcN_pos hh hm
                  have HC2 : Hid (Z = (cov l (b + pcN (x, y) b m) (m - pcN (x, y) b m)).map ((o ++ [(b, pcN (x, y) b m)]) ++ ·)) := by
                    show _ = _
                    rw [HC.out, cov_some hm hf]
                    cases cov l (b + pcN (x, y) b m) (m - pcN (x, y) b m) <;> simp
                  clear TA TM hh M1 M2 M3 hf HC
                  generalize pcN (x, y) b m = q at *
                  obtain ⟨p1, p2⟩ := pp
                  have k1 : -9223372036854775808 ≤ m - q ∧ m - q ≤ 9223372036854775807 := by omega
                  have k2 : -9223372036854775808 ≤ b + q ∧ b + q ≤ 9223372036854775807 := by omega
                  go_wp2_with fail
                  refine (C.out _).mono ?_
                  rintro e w6 ⟨rfl, B6⟩
                  replace bx := (bx.alloc (.cells #[.int .i64 x, .int .i64 y] 78)).ext B6
                  replace bp := (bp.alloc (.cells #[.int .i64 x, .int .i64 y] 78)).ext B6
                  replace own := owns_belowS (owns_belowS own ((Below.refl _ _).alloc (Nat.le_refl _) (.cells #[.int .i64 x, .int .i64 y] 78))) B6
                  replace B6 := below_step hb B6
                  clear q1 q2 hb C
                  obtain ⟨q1, q2⟩ := bx.cells2
                  obtain ⟨u1, u2, u3, u4⟩ := bp.cells
                  clear ltw lt9
                  have ltw := bx.lt
                  have lt9 := bp.lt
                  have ne9 := NE9.out
                  have gne : g9 ≠ w.heap.size := by have := NEg.out; omega
                  have wneg : vo.ownBlock ≠ some w.heap.size := fun e => absurd (own.lt _ e).1 (by omega)
                  have own7 := owns_belowS (owns_belowS (owns_set2 (u := .int .i64 q) (owns_set2 (u := .int .i64 b) own g9 0 ne9) g9 1 ne9) ((Below.refl _ _).alloc (Nat.le_refl _) (.cells #[.int .i64 b, .int .i64 q] 78))) ((Below.refl _ _).alloc (Nat.le_refl _) (.cells #[.int .i64 b, .int .i64 q] 78))
                  have bx7 := (((bx.set_ne (o := 0) (.int .i64 b) gne).set_ne (o := 1) (.int .i64 q) gne).alloc (.cells #[.int .i64 b, .int .i64 q] 78)).alloc (.cells #[.int .i64 b, .int .i64 q] 78)
                  have bp7 := ((bp.set b q).alloc (.cells #[.int .i64 b, .int .i64 q] 78)).alloc (.cells #[.int .i64 b, .int .i64 q] 78)
                  have gge : w.heap.size ≤ g9 := by have := NEg.out; omega
                  have B7 := ((B6.setCell (p := ⟨g9, 0, none⟩) gge (.int .i64 b)).setCell (p := ⟨g9, 1, none⟩) gge (.int .i64 q))
                  have B8 := (B7.alloc B7.size (.cells #[.int .i64 b, .int .i64 q] 78)).alloc (by have := B7.size; simp at this ⊢; omega) (.cells #[.int .i64 b, .int .i64 q] 78)
                  have HB := hidden B8
                  have HO := hidden own7
                  have HX := hidden bx7
                  have HP := hidden bp7
                  have HL := hidden own.lt
                  have HS6 := hidden B6.size
                  clear B7 B8 own7 bx7 bp7
                  go_wp2_with (at_builtin; refine wpList_pushS (l := o) (v := vo) rfl (.tmp 55) (.tmp 57) 77 78 rfl (w.heap.size + 1) Try.underlying77 info_rsp rfl HO.out _ 1 b q rfl ?q1 ?q2 ?q3 ?q4)
                  case q1 =>
                    have := Bx.new (((w6.setCell ⟨g9, 0, none⟩ (.int .i64 b)).setCell ⟨g9, 1, none⟩ (.int .i64 q)).alloc (.cells #[.int .i64 b, .int .i64 q] 78)) 78 b q
                    simpa using this
                  case q2 => omega
                  case q3 => simp; omega
                  case q4 =>
                    intro v' w8 own8 gr8 ob8
                    have bx8 := HX.out.grown gr8 wneg
                    have bp8 := HP.out.grown gr8 ne9
                    have B8 := HB.out.grown gr8 (by simp; have := HS6.out; omega) (fun k hk => by have := (HL.out k hk).1; omega)
                    have nb8 : v'.ownBlock ≠ some w.heap.size := fun e => absurd (own8.lt _ e).1 (by omega)
                    clear gr8 ob8 HO HX HP HB HL own bx bp q1 q2 u1 u2 u3 u4 B6 HS6
                    obtain ⟨q1, q2, q3, q4⟩ := bx8.cells
                    obtain ⟨u1, u2⟩ := bp8.cells2
                    go_wp2
                    have bz := bx8.set (b + q) (m - q)
                    go_roundw
                    case rel =>
                      refine ⟨o ++ [(b, q)], b + q, m - q, _, rfl, bz, by omega, by omega, by omega, by simp; omega, (by rw [List.length_append]; exact owns_set2 (owns_set2 own8 _ 0 nb8) _ 1 nb8), HC2, (B8.setCell (p := ⟨w.heap.size, 0, none⟩) (Nat.le_refl _) _).setCell (p := ⟨w.heap.size, 1, none⟩) (Nat.le_refl _) _⟩
                    case measure =>
                      rw [cntP_of bz, Mcnt.out]
                      omega
              · have e : l.take j = l := List.take_of_length_le (by omega)
                rw [e] at HF
                have e2 : Hid (Z = none) := by
                  show _ = _
                  rw [HC.out, cov_none hm HF.out]; rfl
                obtain rfl := e2.out
                have d2 : decide ((j : Int) < (l.length : Int)) = false := by simp; omega
                go_wp2
                refine bodyPost_ret (v := _) (by simp [results, Try.results34, go_sem]; with_reducible rfl) rfl ?_
                exact ⟨_, rfl, owns_nilS _ _ _, hb⟩
          · have d1 : decide (0 < m) = false := by simpa using hm
            have e : Hid (Z = some o) := by
              show _ = _
              rw [HC.out, cov_zero (by omega)]; simp
            obtain rfl := e.out
            go_wp2
            refine bodyPost_ret (v := _) (by simp [results, Try.results34, go_sem]; with_reducible rfl) rfl ?_
            exact ⟨_, rfl, owns_fromS own (by omega), hb⟩

end Go.Proofs.Ytpahipoooiaoeaa
