/- Contracts of burgagelaw8's same and play; lists of asks. -/
import Derived.Test.YtaabjgdomookkaaYB
namespace Go.Proofs.Ytaabjgdomookkaa
open Go.RowKit

theorem rsetB_i {lo hi g n : Nat} {s : Cs} {v : Value} (l : List Bool) {sp a : Int} {w : World} (h : SR n w lo hi g n s) (hv : Row w v (l.map Value.bool)) (ha : i64 a) (hs : i64 sp) (b : Bool) (s' : Cs) (h1 : okB n sp a l.length = b) (h2 : setB n s sp a l = s') :
    Calls Try.prog 20 #[ptrG g, .int .i64 sp, .int .i64 a, v] w fun e w' => e = .returned (.bool b) ∧ SR n w' lo hi g n s' ∧ Kp (In lo hi) w w' := by
  subst h1 h2
  exact rsetB_any lo hi g n s v l sp a w h hv ha hs
theorem rgetB_i {lo hi g n : Nat} {s : Cs} {sp a m : Int} {w : World} (b : Bool) (l : List Bool) (h : SR n w lo hi g n s) (h1 : okB n sp a m = b) (h2 : getB n s sp a m = l) (ha : i64 a) (hs : i64 sp) :
    Calls Try.prog 35 #[ptrG g, .int .i64 sp, .int .i64 a, .int .i64 m] w fun e w' => ∃ v' lo' hi', e = .returned (.tuple #[v', .bool b]) ∧ RowI lo' hi' w' v' (l.map Value.bool) ∧ w.heap.size ≤ lo' ∧ Below w.heap.size w w' := by
  subst h1 h2
  exact (rgetB_any lo hi g n s sp a m w h ha hs).mono fun e w' ⟨v, e1, r, nw, hb⟩ => by
    obtain ⟨lo', hi', q1, q2⟩ := RowI.new r nw
    exact ⟨v, lo', hi', e1, q1, q2, hb⟩

theorem rsetV_i {lo hi g n : Nat} {s : Cs} {v : Value} (l : List UInt16) {sp a : Int} {w : World} (h : SR n w lo hi g n s) (hv : Row w v (l.map wV)) (ha : i64 a) (hs : i64 sp) (b : Bool) (s' : Cs) (h1 : okV n sp a l.length = b) (h2 : setV n s sp a l = s') :
    Calls Try.prog 21 #[ptrG g, .int .i64 sp, .int .i64 a, v] w fun e w' => e = .returned (.bool b) ∧ SR n w' lo hi g n s' ∧ Kp (In lo hi) w w' := by
  subst h1 h2
  exact rsetV_any lo hi g n s v l sp a w h hv ha hs
theorem rgetV_i {lo hi g n : Nat} {s : Cs} {sp a m : Int} {w : World} (b : Bool) (l : List UInt16) (h : SR n w lo hi g n s) (h1 : okV n sp a m = b) (h2 : getV n s sp a m = l) (ha : i64 a) (hs : i64 sp) :
    Calls Try.prog 36 #[ptrG g, .int .i64 sp, .int .i64 a, .int .i64 m] w fun e w' => ∃ v' lo' hi', e = .returned (.tuple #[v', .bool b]) ∧ RowI lo' hi' w' v' (l.map wV) ∧ w.heap.size ≤ lo' ∧ Below w.heap.size w w' := by
  subst h1 h2
  exact (rgetV_any lo hi g n s sp a m w h ha hs).mono fun e w' ⟨v, e1, r, nw, hb⟩ => by
    obtain ⟨lo', hi', q1, q2⟩ := RowI.new r nw
    exact ⟨v, lo', hi', e1, q1, q2, hb⟩

set_option maxHeartbeats 4000000 in
theorem same8_any (lo hi g lo' hi' g' n : Nat) (s : Cs) (sp a m : Int) (w : World) (S : SD w lo hi g n s) (R : SR n w lo' hi' g' n s) (ha : i64 a) (hs : i64 sp) :
    Calls Try.prog 22 #[ptrG g, ptrG g', .int .i64 sp, .int .i64 a, .int .i64 m] w fun e w' => e = .returned (.bool true) ∧ Below w.heap.size w w' := by
  obtain ⟨bb, hb1⟩ : ∃ b, okB n sp a m = b := ⟨_, rfl⟩
  obtain ⟨bl, hb2⟩ : ∃ l, getB n s sp a m = l := ⟨_, rfl⟩
  obtain ⟨vb, hv1⟩ : ∃ b, okV n sp a m = b := ⟨_, rfl⟩
  obtain ⟨vl, hv2⟩ : ∃ l, getV n s sp a m = l := ⟨_, rfl⟩
  have B1 := hidden hb1
  have B2 := hidden hb2
  have V1 := hidden hv1
  have V2 := hidden hv2
  clear hb1 hb2 hv1 hv2
  cases bb
  all_goals
    cases vb
    all_goals
      go_enter Try.func22, Try.ntmps22
      have BL := Below.refl w.heap.size w
      go_wp2_with fail
      refine (getB_i _ bl S B1.out B2.out ha).mono ?_
      rintro e w1 ⟨vA, loA, hiA, rfl, A, lA, E⟩
      have oSA := Nat.le_trans S.top lA
      have oRA := Nat.le_trans R.top lA
      have bA := Nat.le_trans BL.size lA
      clear lA
      replace S := S.ext E
      replace R := R.ext E
      replace BL := below_then BL E
      clear E
      go_wp2_with fail
      refine (rgetB_i _ bl R B1.out B2.out ha hs).mono ?_
      rintro e w2 ⟨vB, loB, hiB, rfl, B, lB, E⟩
      have oSB := Nat.le_trans S.top lB
      have oRB := Nat.le_trans R.top lB
      have oAB := Nat.le_trans A.top lB
      have bB := Nat.le_trans BL.size lB
      clear lB
      replace S := S.ext E
      replace R := R.ext E
      replace A := A.ext E
      replace BL := below_then BL E
      clear E
      go_wp2_with fail
      refine (getV_i _ vl S V1.out V2.out ha).mono ?_
      rintro e w3 ⟨vC, loC, hiC, rfl, C, lC, E⟩
      have oSC := Nat.le_trans S.top lC
      have oRC := Nat.le_trans R.top lC
      have oAC := Nat.le_trans A.top lC
      have oBC := Nat.le_trans B.top lC
      have bC := Nat.le_trans BL.size lC
      clear lC
      replace S := S.ext E
      replace R := R.ext E
      replace A := A.ext E
      replace B := B.ext E
      replace BL := below_then BL E
      clear E
      go_wp2_with fail
      refine (rgetV_i _ vl R V1.out V2.out ha hs).mono ?_
      rintro e w4 ⟨vD, loD, hiD, rfl, D, lD, E⟩
      have oSD := Nat.le_trans S.top lD
      have oRD := Nat.le_trans R.top lD
      have oAD := Nat.le_trans A.top lD
      have oBD := Nat.le_trans B.top lD
      have oCD := Nat.le_trans C.top lD
      have bD := Nat.le_trans BL.size lD
      clear lD
      replace S := S.ext E
      replace R := R.ext E
      replace A := A.ext E
      replace B := B.ext E
      replace C := C.ext E
      replace BL := below_then BL E
      clear E
      go_wp2_with fail
      refine (booksameB _ _ bl _ A.row B.row).mono ?_
      rintro e w5 ⟨rfl, n5, rfl⟩
      have E := below_drewn0 w4.heap.size w4 n5
      replace S := S.ext E
      replace R := R.ext E
      replace A := A.ext E
      replace B := B.ext E
      replace C := C.ext E
      replace D := D.ext E
      replace BL := below_then BL E
      clear E
      generalize w4.drewN n5 = w5 at *
      go_wp2_with fail
      refine (booksameV _ _ vl _ C.row D.row).mono ?_
      rintro e w6 ⟨rfl, n6, rfl⟩
      have E := below_drewn0 w5.heap.size w5 n6
      replace S := S.ext E
      replace R := R.ext E
      replace A := A.ext E
      replace B := B.ext E
      replace C := C.ext E
      replace D := D.ext E
      replace BL := below_then BL E
      clear E
      generalize w5.drewN n6 = w6 at *
      go_wp2
      go_ret
      exact ⟨rfl, BL⟩

theorem cell_bl {w w' : World} {b o : Nat} {u : Value} (h : w.cell? ⟨b, o, none⟩ = some u) (hb : Below w.heap.size w w') : w'.cell? ⟨b, o, none⟩ = some u := by
  rw [hb.cell (p := ⟨b, o, none⟩) (lt_of_cell h), h]
abbrev tA : TypeId := 27
/-- an ask lies at block b, place o -/
def IsAsk (w : World) (b o : Nat) : Prop := ∃ kd sp a n vb vv, ∃ bs : List Bool, ∃ us : List UInt16, (i64 kd ∧ i64 sp ∧ i64 a ∧ i64 n) ∧
  (w.cell? ⟨b, o, none⟩ = some (.int .i64 kd) ∧ w.cell? ⟨b, o + 1, none⟩ = some (.int .i64 sp) ∧ w.cell? ⟨b, o + 2, none⟩ = some (.int .i64 a) ∧ w.cell? ⟨b, o + 3, none⟩ = some (.int .i64 n) ∧ w.cell? ⟨b, o + 4, none⟩ = some vb ∧ w.cell? ⟨b, o + 5, none⟩ = some vv) ∧
  Row w vb (bs.map Value.bool) ∧ Row w vv (us.map wV)
theorem IsAsk.ext {w w' : World} {b o : Nat} (h : IsAsk w b o) (hb : Below w.heap.size w w') : IsAsk w' b o := by
  obtain ⟨kd, sp, a, n, vb, vv, bs, us, h1, ⟨q0, q1, q2, q3, q4, q5⟩, r1, r2⟩ := h
  have hlt := lt_of_cell q0
  have c := fun o => hb.cell (p := ⟨b, o, none⟩) hlt
  exact ⟨kd, sp, a, n, vb, vv, bs, us, h1, ⟨by rw [c, q0], by rw [c, q1], by rw [c, q2], by rw [c, q3], by rw [c, q4], by rw [c, q5]⟩, r1.below hb, r2.below hb⟩
/-- v is a slice of m asks -/
def Asks (w : World) (v : Value) (m : Nat) : Prop := ∃ a cap, v = .slice a m cap ∧ m ≤ cap ∧ cap ≤ maxLen ∧ ∀ i, i < m → ∃ b off, a = some ⟨b, off, none⟩ ∧ ∀ j, j < m → IsAsk w b (off + j * 6)
theorem Asks.ext {w w' : World} {v : Value} {m : Nat} (h : Asks w v m) (hb : Below w.heap.size w w') : Asks w' v m := by
  obtain ⟨a, cap, e, h1, h2, h3⟩ := h
  exact ⟨a, cap, e, h1, h2, fun i hi => by obtain ⟨b, off, e, h⟩ := h3 i hi; exact ⟨b, off, e, fun j hj => (h j hj).ext hb⟩⟩
theorem Asks.nil (w : World) : Asks w (.slice none 0 0) 0 := ⟨none, 0, rfl, Nat.le_refl _, Nat.zero_le _, fun i hi => by omega⟩

set_option maxRecDepth 100000 in
set_option maxHeartbeats 16000000 in
theorem play_any (c : Int) (v : Value) (m : Nat) (w : World) (hv : Asks w v m) (hc : i64 c) :
    Calls Try.prog 7 #[.int .i64 c, v] w fun e w' => e = .returned (.bool true) ∧ Below w.heap.size w w' := by
  have BL := Below.refl w.heap.size w
  have HV := hidden hv
  obtain ⟨av, cap, rfl, hcm, hmx, -⟩ := hv
  unfold maxLen at hmx
  by_cases h0 : 1 ≤ c ∧ c ≤ 65536
  · obtain ⟨h1, h2⟩ := h0
    obtain ⟨c', rfl⟩ : ∃ c' : Nat, c = (c' : Int) := ⟨c.toNat, by omega⟩
    obtain ⟨n, hmin, hn⟩ : ∃ n : Nat, (if (40 : Int) < (c' : Int) then (40 : Int) else (c' : Int)) = (n : Int) ∧ 1 ≤ n ∧ n ≤ 40 := ⟨min 40 c', by split <;> omega, by omega, by omega⟩
    have HN := hidden hn
    have t1 : ¬ (c' : Int) < 1 := by omega
    have t2 : ¬ (65536 : Int) < (c' : Int) := by omega
    go_enter Try.func7, Try.ntmps7
    go_wp2_with fail
    refine (new_i _ c' _ rfl (by omega)).mono ?_
    rintro e w1 ⟨gz, loZ, hiZ, rfl, -, -, E⟩
    replace BL := below_then BL E
    clear E
    go_wp2_with fail
    refine (new_i _ n _ rfl (by have := HN.out; omega)).mono ?_
    rintro e w2 ⟨g, loS, hiS, rfl, S, lS, E⟩
    have bS := Nat.le_trans BL.size lS
    clear lS
    replace BL := below_then BL E
    clear E
    go_wp2_with fail
    refine (rnew_i _ n _ rfl (by have := HN.out; omega)).mono ?_
    rintro e w3 ⟨gr, loR, hiR, rfl, R, lR, E⟩
    have oSR := Nat.le_trans S.top lR
    have bR := Nat.le_trans BL.size lR
    clear lR
    replace S := S.ext E
    replace BL := below_then BL E
    clear E
    go_wp2
    go_loopw [7] (fun i wr => ∃ k : Nat, k ≤ 60 ∧ i = .int .i64 k ∧ ∃ s, SD wr loS hiS g n s ∧ SR n wr loR hiR gr n s ∧ Below w.heap.size w wr) (fun i _ => 60 - (intOf i).toNat)
    case atStart => exact ⟨0, Nat.zero_le _, rfl, _, S, R, BL⟩
    case round =>
      clear S R BL
      obtain ⟨k, hk, rfl, s, S, R, BL⟩ := hrel
      by_cases hlt : k < m ∧ k < 60
      · obtain ⟨hlt1, hlt2⟩ := hlt
        obtain ⟨av', cap', ev, -, -, hask⟩ := HV.out
        obtain ⟨b0, o0, ea, hask2⟩ := hask k hlt1
        simp only [Value.slice.injEq] at ev
        obtain ⟨rfl, -, rfl⟩ := ev
        subst ea
        obtain ⟨kd, sp, at', na, vb, vv, bs, us, ⟨hkd, hs, ha, hna⟩, ⟨q0, q1, q2, q3, q4, q5⟩, rb, rv⟩ := hask2 k hlt1
        clear hask hask2
        replace q0 := cell_bl q0 BL
        replace q1 := cell_bl q1 BL
        replace q2 := cell_bl q2 BL
        replace q3 := cell_bl q3 BL
        replace q4 := cell_bl q4 BL
        replace q5 := cell_bl q5 BL
        obtain ⟨ab, lnb, cb, nb, lb, rfl, -, hc1, hm1, hk1, hn1, hb1, hmin1, r1⟩ := cut_min rb 50 50 rfl
        obtain ⟨aw, lnw, cw, nw, lw, rfl, -, hc2, hm2, hk2, hn2, hb2, hmin2, r2⟩ := cut_min rv 50 50 rfl
        unfold maxLen at hm1 hm2
        have HB1 := hidden hb1
        have HB2 := hidden hb2
        have R1 := hidden r1
        have R2 := hidden r2
        clear hb1 hb2 rb rv r1 r2
        have hlt1' : (k : Int) < (m : Int) := by omega
        have hlt2' : (k : Int) < 60 := by omega
        have BX := hidden (Blk.new wr tA [.int .i64 kd, .int .i64 sp, .int .i64 at', .int .i64 na, .slice ab lnb cb, .slice aw lnw cw])
        have EA := hidden ((Below.refl wr.heap.size wr).alloc (Nat.le_refl _) (.cells #[.int .i64 kd, .int .i64 sp, .int .i64 at', .int .i64 na, .slice ab lnb cb, .slice aw lnw cw] tA))
        have lA : Hid (hiS ≤ wr.heap.size ∧ hiR ≤ wr.heap.size) := ⟨S.top, R.top⟩
        rcases (show kd = 0 ∨ kd = 1 ∨ ((kd == 0) = false ∧ (kd == 1) = false) by simp only [beq_eq_false_iff_ne]; omega) with rfl | rfl | ⟨kd0, kd1⟩
        · skip
          obtain ⟨yb, hyb⟩ : ∃ y, setB n s sp at' lb = y := ⟨_, rfl⟩
          obtain ⟨ob, hob⟩ : ∃ y, okB n sp at' lb.length = y := ⟨_, rfl⟩
          have Y1 := hidden hyb
          have Y2 := hidden hob
          clear hyb hob
          go_wp2_with fail
          refine c_begin 16 rfl (by kernel_rfl) ?_
          have BY := BX.out.drew
          have E := EA.out.drew
          replace lA := lA.out
          replace S := S.ext E
          replace R := R.ext E
          replace BL := below_then BL E
          clear E
          generalize (wr.alloc (.cells #[.int .i64 0, .int .i64 sp, .int .i64 at', .int .i64 na, .slice ab lnb cb, .slice aw lnw cw] tA)).drew = wc at *
          generalize wr.heap.size = bA at *
          clear BX EA q0 q1 q2 q3 q4 q5
          refine c_P trivial 0 rfl ?_
          refine c_P trivial 1 rfl ?_
          refine c_R (fun w' => Blk w' bA tA [.int .i64 0, .int .i64 sp, .int .i64 at', .int .i64 na, .slice ab lnb cb, .slice aw lnw cw]) BY trivial 2 rfl (fun w' hx => by have cc := hx.cell 1; go_simp; with_reducible rfl) ?_
          refine c_P ⟨BY, trivial⟩ 3 rfl ?_
          refine c_R (fun w' => Blk w' bA tA [.int .i64 0, .int .i64 sp, .int .i64 at', .int .i64 na, .slice ab lnb cb, .slice aw lnw cw]) BY ⟨BY, trivial⟩ 4 rfl (fun w' hx => by have cc := hx.cell 2; go_simp; with_reducible rfl) ?_
          refine c_P ⟨BY, BY, trivial⟩ 5 rfl ?_
          refine c_P ⟨BY, BY, trivial⟩ 7 rfl ?_
          refine c_P ⟨BY, BY, trivial⟩ 8 rfl ?_
          refine c_R (fun w' => Blk w' bA tA [.int .i64 0, .int .i64 sp, .int .i64 at', .int .i64 na, .slice ab lnb cb, .slice aw lnw cw]) BY ⟨BY, BY, trivial⟩ 9 rfl (fun w' hx => by have cc := hx.cell 1; go_simp; with_reducible rfl) ?_
          refine c_P ⟨BY, BY, BY, trivial⟩ 10 rfl ?_
          refine c_R (fun w' => Blk w' bA tA [.int .i64 0, .int .i64 sp, .int .i64 at', .int .i64 na, .slice ab lnb cb, .slice aw lnw cw]) BY ⟨BY, BY, BY, trivial⟩ 11 rfl (fun w' hx => by have cc := hx.cell 2; go_simp; with_reducible rfl) ?_
          refine c_P ⟨BY, BY, BY, BY, trivial⟩ 12 rfl ?_
          refine c_move 6 (by kernel_rfl) (c_op 6 [(11, fun w' => Blk w' bA tA [.int .i64 0, .int .i64 sp, .int .i64 at', .int .i64 na, .slice ab lnb cb, .slice aw lnw cw]), (9, fun w' => Blk w' bA tA [.int .i64 0, .int .i64 sp, .int .i64 at', .int .i64 na, .slice ab lnb cb, .slice aw lnw cw])] (by kernel_rfl) rfl (by kernel_rfl) (fun K hK => ?_))
          go_wp2_with fail
          refine (setB_i lb ob yb S (R1.out.below BL) Y2.out Y1.out ha).mono ?_
          clear S
          rintro e wd ⟨rfl, S, KK⟩
          go_simp
          replace R := R.kp KK (In.apart' oSR)
          replace BY := BY.kp KK (fun h => by have := h.2; have := lA.1; omega)
          replace BL := bel_in BL KK bS
          clear KK
          refine hK.out _ _ ⟨BY, BY, trivial⟩ ?_
          clear K hK
          try simp only [Act.put, List.setIfInBounds_toArray, List.set_cons_zero, List.set_cons_succ]
          refine c_move 13 (by kernel_rfl) (c_op 13 [] (by kernel_rfl) rfl (by kernel_rfl) (fun K hK => ?_))
          go_wp2_with fail
          refine (rsetB_i lb R (R1.out.below BL) ha hs ob yb Y2.out Y1.out).mono ?_
          clear R
          rintro e we ⟨rfl, R, KK⟩
          go_simp
          replace S := S.kp KK (In.apart oSR)
          replace BY := BY.kp KK (fun h => by have := h.2; have := lA.2; omega)
          replace BL := bel_in BL KK bR
          clear KK
          clear Y1 Y2
          refine hK.out _ _ trivial ?_
          clear K hK
          try simp only [Act.put, List.setIfInBounds_toArray, List.set_cons_zero, List.set_cons_succ]
          have obq : (ob == ob) = true := by simp
          refine c_P trivial 14 rfl ?_
          refine c_P trivial 15 rfl ?_
          refine c_done (by kernel_rfl) ?_
          clear obq wc wd
          have z1 : we.cell? ⟨bA, 1, none⟩ = some (.int .i64 sp) := BY.cell 1
          have z2 : we.cell? ⟨bA, 2, none⟩ = some (.int .i64 at') := BY.cell 2
          have z3 : we.cell? ⟨bA, 3, none⟩ = some (.int .i64 na) := BY.cell 3
          clear BY lA
          go_wp2_with fail
          refine (same8_any _ _ _ _ _ _ _ _ _ _ _ _ S R ha hs).mono ?_
          rintro e wf ⟨rfl, E⟩
          replace S := S.ext E
          replace R := R.ext E
          replace BL := below_then BL E
          clear E
          clear z1 z2 z3 we
          go_wp2_with fail
          refine (same8_any _ _ _ _ _ _ _ _ _ _ _ _ S R (by decide) (by unfold i64; omega)).mono ?_
          rintro e wg ⟨rfl, E⟩
          replace S := S.ext E
          replace R := R.ext E
          replace BL := below_then BL E
          clear E
          clear wf
          go_wp2
          go_roundw
          case rel => exact ⟨k + 1, by omega, by go_num, _, S, R, BL⟩
          case measure => simp [intOf]; omega
        · skip
          obtain ⟨yb, hyb⟩ : ∃ y, setV n s sp at' lw = y := ⟨_, rfl⟩
          obtain ⟨ob, hob⟩ : ∃ y, okV n sp at' lw.length = y := ⟨_, rfl⟩
          have Y1 := hidden hyb
          have Y2 := hidden hob
          clear hyb hob
          go_wp2_with fail
          refine c_begin 16 rfl (by kernel_rfl) ?_
          have BY := BX.out.drew
          have E := EA.out.drew
          replace lA := lA.out
          replace S := S.ext E
          replace R := R.ext E
          replace BL := below_then BL E
          clear E
          generalize (wr.alloc (.cells #[.int .i64 1, .int .i64 sp, .int .i64 at', .int .i64 na, .slice ab lnb cb, .slice aw lnw cw] tA)).drew = wc at *
          generalize wr.heap.size = bA at *
          clear BX EA q0 q1 q2 q3 q4 q5
          refine c_P trivial 0 rfl ?_
          refine c_P trivial 1 rfl ?_
          refine c_R (fun w' => Blk w' bA tA [.int .i64 1, .int .i64 sp, .int .i64 at', .int .i64 na, .slice ab lnb cb, .slice aw lnw cw]) BY trivial 2 rfl (fun w' hx => by have cc := hx.cell 1; go_simp; with_reducible rfl) ?_
          refine c_P ⟨BY, trivial⟩ 3 rfl ?_
          refine c_R (fun w' => Blk w' bA tA [.int .i64 1, .int .i64 sp, .int .i64 at', .int .i64 na, .slice ab lnb cb, .slice aw lnw cw]) BY ⟨BY, trivial⟩ 4 rfl (fun w' hx => by have cc := hx.cell 2; go_simp; with_reducible rfl) ?_
          refine c_P ⟨BY, BY, trivial⟩ 5 rfl ?_
          refine c_P ⟨BY, BY, trivial⟩ 7 rfl ?_
          refine c_P ⟨BY, BY, trivial⟩ 8 rfl ?_
          refine c_R (fun w' => Blk w' bA tA [.int .i64 1, .int .i64 sp, .int .i64 at', .int .i64 na, .slice ab lnb cb, .slice aw lnw cw]) BY ⟨BY, BY, trivial⟩ 9 rfl (fun w' hx => by have cc := hx.cell 1; go_simp; with_reducible rfl) ?_
          refine c_P ⟨BY, BY, BY, trivial⟩ 10 rfl ?_
          refine c_R (fun w' => Blk w' bA tA [.int .i64 1, .int .i64 sp, .int .i64 at', .int .i64 na, .slice ab lnb cb, .slice aw lnw cw]) BY ⟨BY, BY, BY, trivial⟩ 11 rfl (fun w' hx => by have cc := hx.cell 2; go_simp; with_reducible rfl) ?_
          refine c_P ⟨BY, BY, BY, BY, trivial⟩ 12 rfl ?_
          refine c_move 6 (by kernel_rfl) (c_op 6 [(11, fun w' => Blk w' bA tA [.int .i64 1, .int .i64 sp, .int .i64 at', .int .i64 na, .slice ab lnb cb, .slice aw lnw cw]), (9, fun w' => Blk w' bA tA [.int .i64 1, .int .i64 sp, .int .i64 at', .int .i64 na, .slice ab lnb cb, .slice aw lnw cw])] (by kernel_rfl) rfl (by kernel_rfl) (fun K hK => ?_))
          go_wp2_with fail
          refine (setV_i lw ob yb S (R2.out.below BL) Y2.out Y1.out ha).mono ?_
          clear S
          rintro e wd ⟨rfl, S, KK⟩
          go_simp
          replace R := R.kp KK (In.apart' oSR)
          replace BY := BY.kp KK (fun h => by have := h.2; have := lA.1; omega)
          replace BL := bel_in BL KK bS
          clear KK
          refine hK.out _ _ ⟨BY, BY, trivial⟩ ?_
          clear K hK
          try simp only [Act.put, List.setIfInBounds_toArray, List.set_cons_zero, List.set_cons_succ]
          refine c_move 13 (by kernel_rfl) (c_op 13 [] (by kernel_rfl) rfl (by kernel_rfl) (fun K hK => ?_))
          go_wp2_with fail
          refine (rsetV_i lw R (R2.out.below BL) ha hs ob yb Y2.out Y1.out).mono ?_
          clear R
          rintro e we ⟨rfl, R, KK⟩
          go_simp
          replace S := S.kp KK (In.apart oSR)
          replace BY := BY.kp KK (fun h => by have := h.2; have := lA.2; omega)
          replace BL := bel_in BL KK bR
          clear KK
          clear Y1 Y2
          refine hK.out _ _ trivial ?_
          clear K hK
          try simp only [Act.put, List.setIfInBounds_toArray, List.set_cons_zero, List.set_cons_succ]
          have obq : (ob == ob) = true := by simp
          refine c_P trivial 14 rfl ?_
          refine c_P trivial 15 rfl ?_
          refine c_done (by kernel_rfl) ?_
          clear obq wc wd
          have z1 : we.cell? ⟨bA, 1, none⟩ = some (.int .i64 sp) := BY.cell 1
          have z2 : we.cell? ⟨bA, 2, none⟩ = some (.int .i64 at') := BY.cell 2
          have z3 : we.cell? ⟨bA, 3, none⟩ = some (.int .i64 na) := BY.cell 3
          clear BY lA
          go_wp2_with fail
          refine (same8_any _ _ _ _ _ _ _ _ _ _ _ _ S R ha hs).mono ?_
          rintro e wf ⟨rfl, E⟩
          replace S := S.ext E
          replace R := R.ext E
          replace BL := below_then BL E
          clear E
          clear z1 z2 z3 we
          go_wp2_with fail
          refine (same8_any _ _ _ _ _ _ _ _ _ _ _ _ S R (by decide) (by unfold i64; omega)).mono ?_
          rintro e wg ⟨rfl, E⟩
          replace S := S.ext E
          replace R := R.ext E
          replace BL := below_then BL E
          clear E
          clear wf
          go_wp2
          go_roundw
          case rel => exact ⟨k + 1, by omega, by go_num, _, S, R, BL⟩
          case measure => simp [intOf]; omega
        · skip
          have BY := BX.out
          have E := EA.out
          replace lA := lA.out
          replace S := S.ext E
          replace R := R.ext E
          replace BL := below_then BL E
          clear E
          obtain ⟨wb, hwb⟩ : ∃ q, q = wr.alloc (.cells #[.int .i64 kd, .int .i64 sp, .int .i64 at', .int .i64 na, .slice ab lnb cb, .slice aw lnw cw] tA) := ⟨_, rfl⟩
          rw [← hwb] at BY S R BL
          obtain ⟨bA, hbA⟩ : ∃ q, q = wr.heap.size := ⟨_, rfl⟩
          rw [← hbA] at BY lA
          have HWB := hidden hwb
          have HBA := hidden hbA
          clear hwb hbA BX EA
          go_wp2_with fail
          rw [← HWB.out]
          have z1 : wb.cell? ⟨bA, 1, none⟩ = some (.int .i64 sp) := BY.cell 1
          have z2 : wb.cell? ⟨bA, 2, none⟩ = some (.int .i64 at') := BY.cell 2
          have z3 : wb.cell? ⟨bA, 3, none⟩ = some (.int .i64 na) := BY.cell 3
          refine (same8_any _ _ _ _ _ _ _ _ _ _ _ _ S R ha hs).mono ?_
          rintro e wf ⟨rfl, E⟩
          replace S := S.ext E
          replace R := R.ext E
          replace BL := below_then BL E
          clear E
          clear z1 z2 z3 BY lA HWB HBA wb
          go_wp2_with fail
          refine (same8_any _ _ _ _ _ _ _ _ _ _ _ _ S R (by decide) (by unfold i64; omega)).mono ?_
          rintro e wg ⟨rfl, E⟩
          replace S := S.ext E
          replace R := R.ext E
          replace BL := below_then BL E
          clear E
          clear wf
          go_wp2
          go_roundw
          case rel => exact ⟨k + 1, by omega, by go_num, _, S, R, BL⟩
          case measure => simp [intOf]; omega
      · have hex : ((k : Int) < (m : Int) ∧ ¬ (k : Int) < 60) ∨ ¬ (k : Int) < (m : Int) := by omega
        clear hlt
        rcases hex with ⟨hx1, hx2⟩ | hx1
        all_goals
          go_wp2_with fail
          refine (len_any _ _ _ _ _ _ S).mono ?_
          rintro e wa ⟨rfl, rfl⟩
          go_wp2_with fail
          refine (copy_i S).mono ?_
          rintro e wb ⟨gc, loC, hiC, rfl, C, -, E⟩
          replace S := S.ext E
          replace R := R.ext E
          replace BL := below_then BL E
          clear E
          go_wp2_with fail
          refine (same_any _ _ _ _ _ _ _ _ _ _ _ S C).mono ?_
          rintro e wc ⟨rfl, nc, rfl⟩
          rw [sameC_self]
          have E := below_drewn0 wb.heap.size wb nc
          replace BL := below_then BL E
          clear E S C R
          generalize wb.drewN nc = wc at *
          go_wp2
          go_ret
          exact ⟨rfl, BL⟩
  · rcases (show c < 1 ∨ (¬ c < 1 ∧ 65536 < c) by omega) with t1 | ⟨t1, t2⟩
    all_goals
      have CN := hidden (new_bad c w h0)
      clear h0
      go_enter Try.func7, Try.ntmps7
      go_wp2_with fail
      refine CN.out.mono ?_
      rintro e w1 ⟨rfl, rfl⟩
      go_wp2
      go_ret
      exact ⟨rfl, BL⟩

end Go.Proofs.Ytaabjgdomookkaa
