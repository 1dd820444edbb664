/- The walk of burgagelaw8.StorePlays. -/
import Derived.Test.YtaabjgdomookkaaYO
namespace Go.Proofs.Ytaabjgdomookkaa
open Go.RowKit

theorem mask_any (a : Int) (k : Nat) (hk : k < 62) (M : Int) (hM : M = ((2 ^ k - 1 : Nat) : Int)) : ∃ x, bits .and .i64 a M = x ∧ 0 ≤ x ∧ x ≤ M := by
  subst hM
  refine ⟨_, i64_and_mask a k hk, Int.emod_nonneg _ (by have := Nat.two_pow_pos k; omega), ?_⟩
  have := Int.emod_lt_of_pos a (show (0 : Int) < ((2 ^ k : Nat) : Int) by have := Nat.two_pow_pos k; omega)
  have := Nat.two_pow_pos k
  omega
def AskP (w0 : World) (c : Nat → Option Value) : Prop := ∃ kd sp a n vb vv, ∃ bs : List Bool, ∃ us : List UInt16, (i64 kd ∧ i64 sp ∧ i64 a ∧ i64 n) ∧
  (c 0 = some (.int .i64 kd) ∧ c 1 = some (.int .i64 sp) ∧ c 2 = some (.int .i64 a) ∧ c 3 = some (.int .i64 n) ∧ c 4 = some vb ∧ c 5 = some vv) ∧ Row w0 vb (bs.map Value.bool) ∧ Row w0 vv (us.map wV)
/-- v is a list of m asks, of one's own, what they hold lies in w0 -/
def PAsks (w0 w : World) (v : Value) (m : Nat) : Prop := ∃ xs, w.ownsRow w0.heap.size tA 6 v m xs ∧ ∀ i, i < m → AskP w0 (fun j => xs[i * 6 + j]?)
theorem PAsks.nil (w0 w : World) : PAsks w0 w (.slice none 0 0) 0 := ⟨[], ⟨rfl, .inl ⟨rfl, rfl⟩⟩, fun i hi => by omega⟩
theorem PAsks.ext {w0 w w' : World} {m : Nat} {v : Value} (h : PAsks w0 w v m) (hb : Below w.heap.size w w') : PAsks w0 w' v m := by
  obtain ⟨xs, h1, h2⟩ := h
  exact ⟨xs, owns_belowS h1 hb, h2⟩
theorem PAsks.lt {w0 w : World} {m : Nat} {v : Value} (h : PAsks w0 w v m) : ∀ k, v.ownBlock = some k → k < w.heap.size := fun k hk => by
  obtain ⟨xs, h1, h2⟩ := h
  exact (h1.lt k hk).2
theorem PAsks.set {w0 w : World} {m g i : Nat} {v u : Value} (h : PAsks w0 w v m) (hne : v.ownBlock ≠ some g) : PAsks w0 (w.setCell ⟨g, i, none⟩ u) v m := by
  obtain ⟨xs, h1, h2⟩ := h
  refine ⟨xs, ?_, h2⟩
  refine h1.kept (w' := w.setCell ⟨g, i, none⟩ u) (row := some g) ⟨rfl, rfl, rfl, by simp, fun k hk hne => ?_⟩ (.inr hne)
  simp only [World.setCell, Array.getElem?_modify]
  rw [if_neg (fun e => hne (by rw [e]))]
theorem PAsks.push {w0 w' : World} {m : Nat} {v' : Value} {xs cs : List Value} (hl : xs.length = m * 6) (h2 : ∀ i, i < m → AskP w0 (fun j => xs[i * 6 + j]?)) (hc : AskP w0 (fun j => cs[j]?)) (ho : w'.ownsRow w0.heap.size tA 6 v' (m + 1) (xs ++ cs)) : PAsks w0 w' v' (m + 1) := by
  refine ⟨xs ++ cs, ho, fun i hi => ?_⟩
  by_cases hlt : i < m
  · obtain ⟨kd, sp, a, n, vb, vv, bs, us, q, ⟨r0, r1, r2, r3, r4, r5⟩, s, t⟩ := h2 i hlt
    have e : ∀ j, j < 6 → (xs ++ cs)[i * 6 + j]? = xs[i * 6 + j]? := fun j hj => List.getElem?_append_left (by omega)
    exact ⟨kd, sp, a, n, vb, vv, bs, us, q, ⟨(e 0 (by omega)).trans r0, (e 1 (by omega)).trans r1, (e 2 (by omega)).trans r2, (e 3 (by omega)).trans r3, (e 4 (by omega)).trans r4, (e 5 (by omega)).trans r5⟩, s, t⟩
  · have : i = m := by omega
    subst this
    obtain ⟨kd, sp, a, n, vb, vv, bs, us, q, ⟨r0, r1, r2, r3, r4, r5⟩, s, t⟩ := hc
    have e : ∀ j, (xs ++ cs)[i * 6 + j]? = cs[j]? := fun j => by rw [List.getElem?_append_right (by omega), hl]; congr 1; omega
    exact ⟨kd, sp, a, n, vb, vv, bs, us, q, ⟨(e 0).trans r0, (e 1).trans r1, (e 2).trans r2, (e 3).trans r3, (e 4).trans r4, (e 5).trans r5⟩, s, t⟩
theorem PAsks.asks {w0 w : World} {m : Nat} {v : Value} (h : PAsks w0 w v m) (hb : Below w0.heap.size w0 w) : Asks w v m := by
  obtain ⟨xs, h1, h2⟩ := h
  refine OAsks.asks (base := w0.heap.size) ⟨xs, h1, fun i hi => ?_⟩
  obtain ⟨kd, sp, a, n, vb, vv, bs, us, q, r, s, t⟩ := h2 i hi
  refine ⟨kd, sp, a, n, vb, vv, bs, us, q, r, ⟨s.below hb, fun h0 k hk e => ?_⟩, ⟨t.below hb, fun h0 k hk e => ?_⟩⟩
  · have p1 := s.ltv h0 hk
    have p2 := (h1.lt k e).1
    omega
  · have p1 := t.ltv h0 hk
    have p2 := (h1.lt k e).1
    omega

set_option maxRecDepth 100000 in
set_option maxHeartbeats 8000000 in
theorem plays_law (v : Value) (m : Nat) (c : Int) (w : World) (hv : Asks w v m) (hc : i64 c) (hm : m * 80 ≤ 140737488351232) :
    Calls Try.prog 4 #[.int .i64 c, v] w fun e w' => e = .returned (.bool true) ∧ Below w.heap.size w w' := by
  have HV := hidden hv
  obtain ⟨av, cap, rfl, hcm, hmx, -⟩ := hv
  unfold maxLen at hmx
  obtain ⟨x, hx, x0, x1⟩ := mask_any c 5 (by decide) 31 rfl
  obtain ⟨kk, hkk⟩ : ∃ y, 1 + x = y := ⟨_, rfl⟩
  have k1 : 1 ≤ kk := by omega
  have k2 : kk ≤ 32 := by omega
  go_enter Try.func4, Try.ntmps4
  go_wp2
  go_loopw [6, 14] (fun s6 s14 wr => ∃ i : Nat, i ≤ m ∧ s14 = .int .i64 i ∧ PAsks w wr s6 i ∧ Below w.heap.size w wr) (fun _ s14 _ => m - (intOf s14).toNat)
  case atStart => exact ⟨0, Nat.zero_le _, rfl, PAsks.nil _ _, Below.refl _ _⟩
  case round =>
    obtain ⟨i, hi, rfl, OA, BL⟩ := hrel
    by_cases hlt : i < m
    · have hlt' : (i : Int) < (m : Int) := by omega
      clear hx hkk x0 x1
      obtain ⟨av', cap', ev, -, -, hask⟩ := HV.out
      obtain ⟨b0, o0, ea, hask2⟩ := hask i hlt
      simp only [Value.slice.injEq] at ev
      obtain ⟨rfl, -, rfl⟩ := ev
      subst ea
      obtain ⟨kd, sp, at', na, vb, vv, bs, us, ⟨hkd, hs, ha, hna⟩, ⟨q0, q1, q2, q3, q4, q5⟩, rb, rv⟩ := hask2 i hlt
      clear hask hask2
      replace q0 := cell_bl q0 BL
      replace q1 := cell_bl q1 BL
      replace q2 := cell_bl q2 BL
      replace q3 := cell_bl q3 BL
      replace q4 := cell_bl q4 BL
      replace q5 := cell_bl q5 BL
      obtain ⟨ab, lnb, cb, nb, lb, rfl, -, hc1, hm1, hk1, hn1, hb1, hmin1, r1⟩ := cut_min rb 5 5 rfl
      obtain ⟨aw, lnw, cw, nw, lw, rfl, -, hc2, hm2, hk2, hn2, hb2, hmin2, r2⟩ := cut_min rv 5 5 rfl
      unfold maxLen at hm1 hm2
      have R1 := hidden r1
      have R2 := hidden r2
      clear rb rv r1 r2 hb1 hb2
      have hnc1 : nb ≤ cb := by omega
      have hnc2 : nw ≤ cw := by omega
      have BX := hidden (Blk.new wr tA [.int .i64 kd, .int .i64 sp, .int .i64 at', .int .i64 na, .slice ab lnb cb, .slice aw lnw cw])
      have EA := hidden ((Below.refl wr.heap.size wr).alloc (Nat.le_refl _) (.cells #[.int .i64 kd, .int .i64 sp, .int .i64 at', .int .i64 na, .slice ab lnb cb, .slice aw lnw cw] tA))
      go_wp2_with fail
      refine c_begin 22 rfl (by kernel_rfl) ?_
      have BY := BX.out.drew
      have hne := OA.lt
      replace OA := OA.ext EA.out.drew
      have hsz : w.heap.size ≤ wr.heap.size := BL.size
      replace BL := below_then BL EA.out.drew
      generalize (wr.alloc (.cells #[.int .i64 kd, .int .i64 sp, .int .i64 at', .int .i64 na, .slice ab lnb cb, .slice aw lnw cw] tA)).drew = wc at *
      generalize wr.heap.size = bA at *
      replace hne := hidden (fun e => Nat.lt_irrefl _ (hne bA e))
      clear BX EA q0 q1 q2 q3 q4 q5
      refine c_P trivial 0 rfl ?_
      refine c_R (fun w' => Blk w' bA tA [.int .i64 kd, .int .i64 sp, .int .i64 at', .int .i64 na, .slice ab lnb cb, .slice aw lnw cw]) BY trivial 1 rfl (fun w' hx => by have cc := hx.cell 0; go_simp; with_reducible rfl) ?_
      refine c_P ⟨BY, trivial⟩ 3 rfl ?_
      refine c_R (fun w' => Blk w' bA tA [.int .i64 kd, .int .i64 sp, .int .i64 at', .int .i64 na, .slice ab lnb cb, .slice aw lnw cw]) BY ⟨BY, trivial⟩ 4 rfl (fun w' hx => by have cc := hx.cell 1; go_simp; with_reducible rfl) ?_
      refine c_P ⟨BY, BY, trivial⟩ 6 rfl ?_
      refine c_R (fun w' => Blk w' bA tA [.int .i64 kd, .int .i64 sp, .int .i64 at', .int .i64 na, .slice ab lnb cb, .slice aw lnw cw]) BY ⟨BY, BY, trivial⟩ 7 rfl (fun w' hx => by have cc := hx.cell 2; go_simp; with_reducible rfl) ?_
      refine c_P ⟨BY, BY, BY, trivial⟩ 8 rfl ?_
      refine c_P ⟨BY, BY, BY, trivial⟩ 10 rfl ?_
      refine c_R (fun w' => Blk w' bA tA [.int .i64 kd, .int .i64 sp, .int .i64 at', .int .i64 na, .slice ab lnb cb, .slice aw lnw cw]) BY ⟨BY, BY, BY, trivial⟩ 11 rfl (fun w' hx => by have cc := hx.cell 3; go_simp; with_reducible rfl) ?_
      refine c_P ⟨BY, BY, BY, BY, trivial⟩ 12 rfl ?_
      refine c_move 2 (by kernel_rfl) (c_op 2 [(11, fun w' => Blk w' bA tA [.int .i64 kd, .int .i64 sp, .int .i64 at', .int .i64 na, .slice ab lnb cb, .slice aw lnw cw]), (7, fun w' => Blk w' bA tA [.int .i64 kd, .int .i64 sp, .int .i64 at', .int .i64 na, .slice ab lnb cb, .slice aw lnw cw]), (4, fun w' => Blk w' bA tA [.int .i64 kd, .int .i64 sp, .int .i64 at', .int .i64 na, .slice ab lnb cb, .slice aw lnw cw])] (by kernel_rfl) rfl (by kernel_rfl) (fun K hK => ?_))
      go_wp2_with fail
      refine (within_any kd 0 2 _ hkd (by decide) (by omega) (by omega)).mono ?_
      rintro e wd ⟨⟨z0, rfl, z0a, z0b⟩, rfl⟩
      go_simp
      refine hK.out _ _ ⟨BY, BY, BY, trivial⟩ ?_
      clear K hK
      try simp only [Act.put, List.setIfInBounds_toArray, List.set_cons_zero, List.set_cons_succ]
      refine c_P ⟨BY, BY, BY, trivial⟩ 14 rfl ?_
      refine c_move 5 (by kernel_rfl) (c_op 5 [(11, fun w' => Blk w' bA tA [.int .i64 kd, .int .i64 sp, .int .i64 at', .int .i64 na, .slice ab lnb cb, .slice aw lnw cw]), (7, fun w' => Blk w' bA tA [.int .i64 kd, .int .i64 sp, .int .i64 at', .int .i64 na, .slice ab lnb cb, .slice aw lnw cw])] (by kernel_rfl) rfl (by kernel_rfl) (fun K hK => ?_))
      go_wp2_with fail
      refine (within_any sp 0 3 _ hs (by decide) (by omega) (by omega)).mono ?_
      rintro e wd ⟨⟨z1, rfl, z1a, z1b⟩, rfl⟩
      go_simp
      refine hK.out _ _ ⟨BY, BY, trivial⟩ ?_
      clear K hK
      try simp only [Act.put, List.setIfInBounds_toArray, List.set_cons_zero, List.set_cons_succ]
      refine c_move 9 (by kernel_rfl) (c_op 9 [(11, fun w' => Blk w' bA tA [.int .i64 kd, .int .i64 sp, .int .i64 at', .int .i64 na, .slice ab lnb cb, .slice aw lnw cw])] (by kernel_rfl) rfl (by kernel_rfl) (fun K hK => ?_))
      go_wp2_with fail
      refine (within_any at' 0 kk _ ha (by decide) (by omega) (by omega)).mono ?_
      rintro e wd ⟨⟨z2, rfl, z2a, z2b⟩, rfl⟩
      go_simp
      refine hK.out _ _ ⟨BY, trivial⟩ ?_
      clear K hK
      try simp only [Act.put, List.setIfInBounds_toArray, List.set_cons_zero, List.set_cons_succ]
      refine c_move 13 (by kernel_rfl) (c_op 13 [] (by kernel_rfl) rfl (by kernel_rfl) (fun K hK => ?_))
      go_wp2_with fail
      refine (within_any na 0 kk _ hna (by decide) (by omega) (by omega)).mono ?_
      rintro e wd ⟨⟨z3, rfl, z3a, z3b⟩, rfl⟩
      go_simp
      refine hK.out _ _ trivial ?_
      clear K hK
      try simp only [Act.put, List.setIfInBounds_toArray, List.set_cons_zero, List.set_cons_succ]
      refine c_move 15 (by kernel_rfl) (c_op 15 [] (by kernel_rfl) rfl (by kernel_rfl) (fun K hK => ?_))
      have cc : wc.cell? ⟨bA, 0, none⟩ = some (.int .i64 kd) := BY.cell 0
      have ff := BY.frozen 0
      go_simp
      clear cc ff
      have ES := OA.set (i := 0) (u := .int .i64 z0) hne.out
      replace BY := BY.set 0 (.int .i64 z0)
      replace BL := BL.setCell (p := ⟨bA, 0, none⟩) hsz (.int .i64 z0)
      replace OA := ES
      clear ES
      refine hK.out _ _ trivial ?_
      clear K hK
      try simp only [Act.put, List.setIfInBounds_toArray, List.set_cons_zero, List.set_cons_succ]
      generalize wc.setCell ⟨bA, 0, none⟩ (.int .i64 z0) = wca at *
      clear wc
      replace BY : Blk wca bA tA [.int .i64 z0, .int .i64 sp, .int .i64 at', .int .i64 na, .slice ab lnb cb, .slice aw lnw cw] := BY
      refine c_P trivial 16 rfl ?_
      refine c_move 17 (by kernel_rfl) (c_op 17 [] (by kernel_rfl) rfl (by kernel_rfl) (fun K hK => ?_))
      have cc : wca.cell? ⟨bA, 1, none⟩ = some (.int .i64 sp) := BY.cell 1
      have ff := BY.frozen 1
      go_simp
      clear cc ff
      have ES := OA.set (i := 1) (u := .int .i64 z1) hne.out
      replace BY := BY.set 1 (.int .i64 z1)
      replace BL := BL.setCell (p := ⟨bA, 1, none⟩) hsz (.int .i64 z1)
      replace OA := ES
      clear ES
      refine hK.out _ _ trivial ?_
      clear K hK
      try simp only [Act.put, List.setIfInBounds_toArray, List.set_cons_zero, List.set_cons_succ]
      generalize wca.setCell ⟨bA, 1, none⟩ (.int .i64 z1) = wcb at *
      clear wca
      replace BY : Blk wcb bA tA [.int .i64 z0, .int .i64 z1, .int .i64 at', .int .i64 na, .slice ab lnb cb, .slice aw lnw cw] := BY
      refine c_P trivial 18 rfl ?_
      refine c_move 19 (by kernel_rfl) (c_op 19 [] (by kernel_rfl) rfl (by kernel_rfl) (fun K hK => ?_))
      have cc : wcb.cell? ⟨bA, 2, none⟩ = some (.int .i64 at') := BY.cell 2
      have ff := BY.frozen 2
      go_simp
      clear cc ff
      have ES := OA.set (i := 2) (u := .int .i64 z2) hne.out
      replace BY := BY.set 2 (.int .i64 z2)
      replace BL := BL.setCell (p := ⟨bA, 2, none⟩) hsz (.int .i64 z2)
      replace OA := ES
      clear ES
      refine hK.out _ _ trivial ?_
      clear K hK
      try simp only [Act.put, List.setIfInBounds_toArray, List.set_cons_zero, List.set_cons_succ]
      generalize wcb.setCell ⟨bA, 2, none⟩ (.int .i64 z2) = wcc at *
      clear wcb
      replace BY : Blk wcc bA tA [.int .i64 z0, .int .i64 z1, .int .i64 z2, .int .i64 na, .slice ab lnb cb, .slice aw lnw cw] := BY
      refine c_P trivial 20 rfl ?_
      refine c_move 21 (by kernel_rfl) (c_op 21 [] (by kernel_rfl) rfl (by kernel_rfl) (fun K hK => ?_))
      have cc : wcc.cell? ⟨bA, 3, none⟩ = some (.int .i64 na) := BY.cell 3
      have ff := BY.frozen 3
      go_simp
      clear cc ff
      have ES := OA.set (i := 3) (u := .int .i64 z3) hne.out
      replace BY := BY.set 3 (.int .i64 z3)
      replace BL := BL.setCell (p := ⟨bA, 3, none⟩) hsz (.int .i64 z3)
      replace OA := ES
      clear ES
      refine hK.out _ _ trivial ?_
      clear K hK
      try simp only [Act.put, List.setIfInBounds_toArray, List.set_cons_zero, List.set_cons_succ]
      generalize wcc.setCell ⟨bA, 3, none⟩ (.int .i64 z3) = wcd at *
      clear wcc
      replace BY : Blk wcd bA tA [.int .i64 z0, .int .i64 z1, .int .i64 z2, .int .i64 z3, .slice ab lnb cb, .slice aw lnw cw] := BY
      refine c_done (by kernel_rfl) ?_
      go_wp2_with fail
      refine c_begin 18 rfl (by kernel_rfl) ?_
      replace BY := BY.drew
      replace OA := OA.ext (Below.refl wcd.heap.size wcd).drew
      replace BL := BL.drew
      generalize wcd.drew = we at *
      refine c_P trivial 0 rfl ?_
      refine c_R (fun w' => Blk w' bA tA [.int .i64 z0, .int .i64 z1, .int .i64 z2, .int .i64 z3, .slice ab lnb cb, .slice aw lnw cw]) BY trivial 1 rfl (fun w' hx => by have cc := hx.cell 4; go_simp; with_reducible rfl) ?_
      refine c_P ⟨BY, trivial⟩ 2 rfl ?_
      refine c_R (fun w' => Blk w' bA tA [.int .i64 z0, .int .i64 z1, .int .i64 z2, .int .i64 z3, .slice ab lnb cb, .slice aw lnw cw]) BY ⟨BY, trivial⟩ 3 rfl (fun w' hx => by have cc := hx.cell 4; go_simp; with_reducible rfl) ?_
      refine c_P ⟨BY, BY, trivial⟩ 4 rfl ?_
      refine c_P ⟨BY, BY, trivial⟩ 5 rfl ?_
      refine c_P (v := .slice ab nb cb) ⟨BY, BY, trivial⟩ 6 rfl ?_ (hv := by intro w'; go_simp)
      refine c_P ⟨BY, BY, trivial⟩ 7 rfl ?_
      refine c_R (fun w' => Blk w' bA tA [.int .i64 z0, .int .i64 z1, .int .i64 z2, .int .i64 z3, .slice ab lnb cb, .slice aw lnw cw]) BY ⟨BY, BY, trivial⟩ 8 rfl (fun w' hx => by have cc := hx.cell 5; go_simp; with_reducible rfl) ?_
      refine c_P ⟨BY, BY, BY, trivial⟩ 9 rfl ?_
      refine c_R (fun w' => Blk w' bA tA [.int .i64 z0, .int .i64 z1, .int .i64 z2, .int .i64 z3, .slice ab lnb cb, .slice aw lnw cw]) BY ⟨BY, BY, BY, trivial⟩ 10 rfl (fun w' hx => by have cc := hx.cell 5; go_simp; with_reducible rfl) ?_
      refine c_P ⟨BY, BY, BY, BY, trivial⟩ 11 rfl ?_
      refine c_P ⟨BY, BY, BY, BY, trivial⟩ 12 rfl ?_
      refine c_P (v := .slice aw nw cw) ⟨BY, BY, BY, BY, trivial⟩ 13 rfl ?_ (hv := by intro w'; go_simp)
      refine c_P ⟨BY, BY, BY, BY, trivial⟩ 14 rfl ?_
      refine c_move 15 (by kernel_rfl) (c_op 15 [] (by kernel_rfl) rfl (by kernel_rfl) (fun K hK => ?_))
      have cc : we.cell? ⟨bA, 4, none⟩ = some (.slice ab lnb cb) := BY.cell 4
      have ff := BY.frozen 4
      go_simp
      clear cc ff
      have ES := OA.set (i := 4) (u := .slice ab nb cb) hne.out
      replace BY := BY.set 4 (.slice ab nb cb)
      replace BL := BL.setCell (p := ⟨bA, 4, none⟩) hsz (.slice ab nb cb)
      replace OA := ES
      clear ES
      refine hK.out _ _ trivial ?_
      clear K hK
      try simp only [Act.put, List.setIfInBounds_toArray, List.set_cons_zero, List.set_cons_succ]
      generalize we.setCell ⟨bA, 4, none⟩ (.slice ab nb cb) = wea at *
      clear we
      replace BY : Blk wea bA tA [.int .i64 z0, .int .i64 z1, .int .i64 z2, .int .i64 z3, .slice ab nb cb, .slice aw lnw cw] := BY
      refine c_P trivial 16 rfl ?_
      refine c_move 17 (by kernel_rfl) (c_op 17 [] (by kernel_rfl) rfl (by kernel_rfl) (fun K hK => ?_))
      have cc : wea.cell? ⟨bA, 5, none⟩ = some (.slice aw lnw cw) := BY.cell 5
      have ff := BY.frozen 5
      go_simp
      clear cc ff
      have ES := OA.set (i := 5) (u := .slice aw nw cw) hne.out
      replace BY := BY.set 5 (.slice aw nw cw)
      replace BL := BL.setCell (p := ⟨bA, 5, none⟩) hsz (.slice aw nw cw)
      replace OA := ES
      clear ES
      refine hK.out _ _ trivial ?_
      clear K hK
      try simp only [Act.put, List.setIfInBounds_toArray, List.set_cons_zero, List.set_cons_succ]
      generalize wea.setCell ⟨bA, 5, none⟩ (.slice aw nw cw) = web at *
      clear wea
      replace BY : Blk web bA tA [.int .i64 z0, .int .i64 z1, .int .i64 z2, .int .i64 z3, .slice ab nb cb, .slice aw nw cw] := BY
      refine c_done (by kernel_rfl) ?_
      have g0 : web.cell? ⟨bA, 0, none⟩ = some (.int .i64 z0) := BY.cell 0
      have g1 : web.cell? ⟨bA, 1, none⟩ = some (.int .i64 z1) := BY.cell 1
      have g2 : web.cell? ⟨bA, 2, none⟩ = some (.int .i64 z2) := BY.cell 2
      have g3 : web.cell? ⟨bA, 3, none⟩ = some (.int .i64 z3) := BY.cell 3
      have g4 : web.cell? ⟨bA, 4, none⟩ = some (.slice ab nb cb) := BY.cell 4
      have g5 : web.cell? ⟨bA, 5, none⟩ = some (.slice aw nw cw) := BY.cell 5
      obtain ⟨xs, ho, hx⟩ := OA
      have HX := hidden hx
      have hxl := ho.1
      clear hx BY
      have HL := hidden hxl
      clear hxl hsz
      have EA := (Below.refl web.heap.size web).alloc (Nat.le_refl _) (.cells #[.int .i64 z0, .int .i64 z1, .int .i64 z2, .int .i64 z3, .slice ab nb cb, .slice aw nw cw] tA)
      replace ho := owns_belowS ho EA
      replace BL := below_then BL EA
      clear EA
      go_wp2_with (at_builtin; refine wpList_pushA rfl (.tmp 55) (.tmp 57) rfl w.heap.size rfl ho _ _ _ rfl (Blk.new _ _ _) rfl (by simp [Value.oneCell']) (by omega) BL.size ?_)
      intro v2 w2 p1 p2 p4
      have AK : AskP w (fun j => ([.int .i64 z0, .int .i64 z1, .int .i64 z2, .int .i64 z3, .slice ab nb cb, .slice aw nw cw] : List Value)[j]?) := ⟨z0, z1, z2, z3, _, _, lb, lw, ⟨by unfold i64; omega, by unfold i64; omega, by unfold i64; omega, by unfold i64; omega⟩, ⟨rfl, rfl, rfl, rfl, rfl, rfl⟩, R1.out, R2.out⟩
      have PS := hidden (PAsks.push HL.out HX.out AK p1)
      have BN := hidden (BL.trans (below_own p2 ho BL.size))
      clear p1 p2 p4 AK HX HL ho BL g0 g1 g2 g3 g4 g5 R1 R2
      go_wp2
      go_roundw
      case rel => exact ⟨i + 1, by omega, by go_num, PS.out, BN.out⟩
      case measure => simp [intOf]; omega
    · have hlt' : ¬ (i : Int) < (m : Int) := by omega
      clear hx hkk hlt hi
      go_wp2_with fail
      refine (play_any c _ m _ (HV.out.ext BL) hc).mono ?_
      rintro e w2 ⟨rfl, E⟩
      replace OA := OA.ext E
      replace BL := below_then BL E
      clear E
      go_wp2_with fail
      refine (play_any kk _ i _ (OA.asks BL) (by unfold i64; omega)).mono ?_
      rintro e w3 ⟨rfl, E⟩
      replace BL := below_then BL E
      clear E OA
      go_wp2_with fail
      refine (known_any _).mono ?_
      rintro e w4 ⟨rfl, E⟩
      replace BL := below_then BL E
      clear E
      go_wp2
      go_ret
      exact ⟨rfl, BL⟩

end Go.Proofs.Ytaabjgdomookkaa
