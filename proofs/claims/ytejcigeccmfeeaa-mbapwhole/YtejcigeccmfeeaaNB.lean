/- The walk of burgagelaw6's MbapWhole. -/
import Derived.Test.YtejcigeccmfeeaaNA
import Derived.Test.YtejcigeccmfeeaaK4
import Derived.Deep.CutRange
namespace Go.Proofs.Ytejcigeccmfeeaa
open Go.RowKit

def lenV : Value → Nat
  | .slice _ n _ => n
  | _ => 0
theorem cell_app {w w' : World} {b o : Nat} {u : Value} (h : w.cell? ⟨b, o, none⟩ = some u) (B : Below w.heap.size w w') : w'.cell? ⟨b, o, none⟩ = some u := (B.cell (p := ⟨b, o, none⟩) (lt_of_cell h)).trans h

set_option maxRecDepth 100000 in
set_option maxHeartbeats 4000000 in
theorem whole_law (vr vn : Value) (xss : List (List UInt8)) (ns : List Int) (w : World) (hr : RowsB w vr xss) (hv : Row w vn (ns.map (Value.int .i64))) (hns : ∀ x ∈ ns, -9223372036854775808 ≤ x ∧ x ≤ 9223372036854775807) :
    Calls Try.prog 5 #[vr, vn] w fun e w' => e = .returned (.bool true) ∧ Below w.heap.size w w' := by
  obtain ⟨ar, cr, rfl, h1, h2, -⟩ := id hr.at
  obtain ⟨an, cn, rfl, -⟩ := id hv
  obtain ⟨-, k1, k2, k3⟩ := hv.at
  unfold maxLen at h2 k2
  simp only [List.length_map] at hv k1 k3 ⊢
  have HN := hidden (fun i (hi : i < ns.length) => mem_getD hns i hi)
  have HNC := hidden k3
  have HR : Hid (∀ w', Below w.heap.size w w' → ∀ i, i < xss.length → ∃ b off u, ar = some ⟨b, off, none⟩ ∧ w'.cell? ⟨b, off + i, none⟩ = some u ∧ Row w' u ((xss.getD i []).map bV)) := fun w' hb i hi => by
    obtain ⟨a', c', e, -, -, q⟩ := (hr.ext hb).at
    simp only [Value.slice.injEq] at e
    obtain ⟨rfl, -, rfl⟩ := e
    obtain ⟨b, off, e1, q2⟩ := q i hi
    obtain ⟨u, q3, q4⟩ := q2 i hi
    exact ⟨b, off, u, e1, q3, q4⟩
  clear hr hns k3 hv
  have PL := hidden (whP_len xss)
  have BL := hidden (whB_len xss)
  have BS := hidden (whB_succ xss)
  have LS := hidden (whL_succ xss)
  have LL := hidden (whL_len xss)
  have RN := hidden (wh_run xss)
  have MB := hidden (wh_mbytes xss)
  have PE : Hid (∀ k, whP xss k = bOf (k : Int) :: (xss.getD k []).take 40) := fun k => rfl
  have ME : Hid (∀ k, whM xss k = ⟨(k : Int) * 7, (k : Int), whP xss k⟩) := fun k => rfl
  have B0 : Hid (whB xss 0 = []) := rfl
  have L0 : Hid (whL xss 0 = []) := rfl
  have EB := hidden bOf_V
  generalize whP xss = P at *
  generalize whM xss = M at *
  generalize whB xss = WB at *
  generalize whL xss = WL at *
  generalize xss.length = lx at *
  go_enter Try.func5, Try.ntmps5
  go_wp2_with fail
  refine (new_any _).mono ?_
  rintro e w1 ⟨rfl, rfl⟩
  have T1 := Str.new w 58 w.heap.size
  have D1 : Below w.heap.size w (w.alloc (.cells #[.slice none 0 0, .bool false] 58)) := (Below.refl _ _).alloc (Nat.le_refl _) _
  have G1 := T1.blk.lt
  generalize w.alloc (.cells #[.slice none 0 0, .bool false] 58) = w1 at *
  go_wp2
  go_loopw [6, 7, 8, 9] (fun z6 z7 z8 _ wr => ∃ k : Nat, k ≤ lx ∧ k ≤ 10 ∧ z8 = .int .i64 (k : Int) ∧ wr.ownsRow w1.heap.size 5 1 z6 (WB k).length ((WB k).map bV) ∧ Mss 30 (Ft w.heap.size z6) wr w1.heap.size z7 (WL k) ∧ Below w1.heap.size w1 wr) (fun _ _ i _ _ => 10 - (intOf i).toNat)
  case atStart => exact ⟨0, Nat.zero_le _, Nat.zero_le _, rfl, by rw [B0.out]; exact World.ownsRow_nil _ _ _ _, by rw [L0.out]; exact Mss.nil _ _ _ _, Below.refl _ _⟩
  case round =>
    obtain ⟨k, hk, hk2, rfl, ho, hm, hb⟩ := hrel
    have hz := hb.size
    by_cases hlt : k < lx ∧ k < 10
    · obtain ⟨l1, l2⟩ := hlt
      have l1' : (k : Int) < (lx : Int) := by omega
      have l2' : (k : Int) < 10 := by omega
      obtain ⟨b, off, u, rfl, cx, ru⟩ := HR.out _ (D1.trans (hb.mono D1.size)) k l1
      obtain ⟨au, cu, e, -⟩ := id ru
      subst e
      simp only [List.length_map] at cx ru
      have BSk := hidden (BS.out k)
      have LSk := hidden (LS.out k)
      have LLk := hidden (LL.out k)
      have BLk := BL.out k
      have PEk := hidden (PE.out k)
      have MEk := hidden (ME.out k)
      have MBk := hidden (MB.out k)
      have PLk := PL.out k
      generalize xss.getD k [] = X at *
      obtain ⟨q, hq⟩ : ∃ q, min X.length 40 = q := ⟨_, rfl⟩
      have hmin : (if (40 : Int) < (X.length : Int) then (40 : Int) else (X.length : Int)) = (q : Int) := by split <;> omega
      have hq1 : q ≤ X.length := by omega
      have HQ : Hid (X.take q = X.take 40) := by
        show _ = _
        rcases Nat.lt_or_ge 40 X.length with h | h
        · rw [show q = 40 by omega]
        · rw [List.take_of_length_le (by omega), List.take_of_length_le (by omega)]
      have hq2 : q ≤ 40 := by omega
      have rq := ru.take q hq1
      rw [← List.map_take, HQ.out] at rq
      have hql : Hid ((X.take 40).length = q) := by show _ = _; simp; omega
      obtain ⟨hcu, hcm⟩ : X.length ≤ cu ∧ cu ≤ 9223372036854775807 := by
        obtain ⟨-, g1, g2, -⟩ := ru.at
        unfold maxLen at g2
        exact ⟨g1, g2⟩
      clear BS LS LL BL PE ME MB PL RN HN HNC HR HQ hq ru
      have hqc : q ≤ cu := by omega
      generalize X.take 40 = Q at *
      generalize X.length = lu at *
      generalize hWB1 : WB (k + 1) = WB1 at *
      have HWB1 := hidden hWB1
      clear hWB1
      generalize WB k = WB0 at *
      generalize hWL1 : WL (k + 1) = WL1 at *
      have HWL1 := hidden hWL1
      clear hWL1
      generalize WL k = WL0 at *
      generalize M k = m at *
      generalize P k = p at *
      have wk7 : IntKind.i64.wrap ((k : Int) * 7) = (k : Int) * 7 := by rw [IntKind.wrap_i64]; omega
      have wk8 : IntKind.u8.wrap (k : Int) = (k : Int) % 256 := by rw [IntKind.wrap_u8]
      have hql' : Hid (1 + (Q.map bV).length = q + 1) := by show _ = _; have := hql.out; simp [this]; omega
      go_wp2
      refine c_begin 21 rfl (by kernel_rfl) ?_
      have ED := (Below.refl wr.heap.size wr).drew
      replace ho := owns_below ho ED
      replace hm := hm.ext ED
      replace hb := hb.trans (ED.mono hz)
      replace cx := cell_app cx ED
      replace rq := rq.below ED
      replace hz := Nat.le_trans hz ED.size
      clear ED
      generalize wr.drew = c0 at *
      have HU := hidden (fun i (h : u6.ownBlock = some i) => (owns_lt ho h).2)
      refine c_pure trivial (by kernel_rfl) (fun _ _ _ d _ h => by cases d <;> exact h) 0 rfl (by kernel_rfl) (by kernel_rfl) (fun w' => by go_simp; with_reducible rfl) ?_; try simp only [Act.put, List.setIfInBounds_toArray, List.set_cons_zero, List.set_cons_succ]
      refine c_pure trivial (by kernel_rfl) (fun _ _ _ d _ h => by cases d <;> exact h) 1 rfl (by kernel_rfl) (by kernel_rfl) (fun w' => by go_simp; with_reducible rfl) ?_; try simp only [Act.put, List.setIfInBounds_toArray, List.set_cons_zero, List.set_cons_succ]
      refine c_pure trivial (by kernel_rfl) (fun _ _ _ d _ h => by cases d <;> exact h) 2 rfl (by kernel_rfl) (by kernel_rfl) (fun w' => by go_simp; with_reducible rfl) ?_; try simp only [Act.put, List.setIfInBounds_toArray, List.set_cons_zero, List.set_cons_succ]
      refine c_pure trivial (by kernel_rfl) (fun _ _ _ d _ h => by cases d <;> exact h) 3 rfl (by kernel_rfl) (by kernel_rfl) (fun w' => by go_simp; with_reducible rfl) ?_; try simp only [Act.put, List.setIfInBounds_toArray, List.set_cons_zero, List.set_cons_succ]
      refine c_pure trivial (by kernel_rfl) (fun _ _ _ d _ h => by cases d <;> exact h) 4 rfl (by kernel_rfl) (by kernel_rfl) (fun w' => by go_simp; with_reducible rfl) ?_; try simp only [Act.put, List.setIfInBounds_toArray, List.set_cons_zero, List.set_cons_succ]
      refine c_pure trivial (by kernel_rfl) (fun _ _ _ d _ h => by cases d <;> exact h) 6 rfl (by kernel_rfl) (by kernel_rfl) (fun w' => by go_simp; with_reducible rfl) ?_; try simp only [Act.put, List.setIfInBounds_toArray, List.set_cons_zero, List.set_cons_succ]
      refine c_pure trivial (by kernel_rfl) (fun _ _ _ d _ h => by cases d <;> exact h) 7 rfl (by kernel_rfl) (by kernel_rfl) (fun w' => by go_simp; with_reducible rfl) ?_; try simp only [Act.put, List.setIfInBounds_toArray, List.set_cons_zero, List.set_cons_succ]
      refine c_pure trivial (by kernel_rfl) (fun _ _ _ d _ h => by cases d <;> exact h) 8 rfl (by kernel_rfl) (by kernel_rfl) (fun w' => by go_simp; with_reducible rfl) ?_; try simp only [Act.put, List.setIfInBounds_toArray, List.set_cons_zero, List.set_cons_succ]
      refine c_pure trivial (by kernel_rfl) (fun _ _ _ d _ h => by cases d <;> exact h) 10 rfl (by kernel_rfl) (by kernel_rfl) (fun w' => by go_simp; with_reducible rfl) ?_; try simp only [Act.put, List.setIfInBounds_toArray, List.set_cons_zero, List.set_cons_succ]
      refine c_pure trivial (by kernel_rfl) (fun _ _ _ d _ h => by cases d <;> exact h) 11 rfl (by kernel_rfl) (by kernel_rfl) (fun w' => by go_simp; with_reducible rfl) ?_; try simp only [Act.put, List.setIfInBounds_toArray, List.set_cons_zero, List.set_cons_succ]
      refine c_pure trivial (by kernel_rfl) (fun _ _ _ d _ h => by cases d <;> exact h) 12 rfl (by kernel_rfl) (by kernel_rfl) (fun w' => by go_simp; with_reducible rfl) ?_; try simp only [Act.put, List.setIfInBounds_toArray, List.set_cons_zero, List.set_cons_succ]
      refine c_read (fun w' => w'.cell? ⟨b, off + k, none⟩ = some (.slice au lu cu)) cx trivial (by kernel_rfl) (fun _ _ _ d _ h => by cases d <;> exact h) 9 rfl (by kernel_rfl) (by kernel_rfl) (fun w' hx => by go_simp; with_reducible rfl) ?_; try simp only [Act.put, List.setIfInBounds_toArray, List.set_cons_zero, List.set_cons_succ]
      refine c_read (fun w' => w'.cell? ⟨b, off + k, none⟩ = some (.slice au lu cu)) cx ⟨cx, trivial⟩ (by kernel_rfl) (fun _ _ _ d _ h => by cases d <;> exact h) 13 rfl (by kernel_rfl) (by kernel_rfl) (fun w' hx => by go_simp; with_reducible rfl) ?_; try simp only [Act.put, List.setIfInBounds_toArray, List.set_cons_zero, List.set_cons_succ]
      refine c_pure ⟨cx, cx, trivial⟩ (by kernel_rfl) (fun _ _ _ d _ h => by cases d <;> exact h) 14 rfl (by kernel_rfl) (by kernel_rfl) (fun w' => by go_simp; with_reducible rfl) ?_; try simp only [Act.put, List.setIfInBounds_toArray, List.set_cons_zero, List.set_cons_succ]
      refine c_pure ⟨cx, cx, trivial⟩ (by kernel_rfl) (fun _ _ _ d _ h => by cases d <;> exact h) 15 rfl (by kernel_rfl) (by kernel_rfl) (fun w' => by go_simp; with_reducible rfl) ?_; try simp only [Act.put, List.setIfInBounds_toArray, List.set_cons_zero, List.set_cons_succ]
      refine c_pure ⟨cx, cx, trivial⟩ (by kernel_rfl) (fun _ _ _ d _ h => by cases d <;> exact h) 16 rfl (by kernel_rfl) (by kernel_rfl) (fun w' => by go_simp; with_reducible rfl) ?_; try simp only [Act.put, List.setIfInBounds_toArray, List.set_cons_zero, List.set_cons_succ]
      have EX : Below c0.heap.size c0 c0 := Below.refl _ _
      have hbx := lt_of_cell cx
      refine c_move2 5 19 (by kernel_rfl) (c_op 5 [(13, (fun w' => w'.cell? ⟨b, off + k, none⟩ = some (.slice au lu cu))), (9, (fun w' => w'.cell? ⟨b, off + k, none⟩ = some (.slice au lu cu)))] (by kernel_rfl) rfl (by kernel_rfl) (fun K hK => ?_)) (c_op 19 [(13, (fun w' => w'.cell? ⟨b, off + k, none⟩ = some (.slice au lu cu))), (9, (fun w' => w'.cell? ⟨b, off + k, none⟩ = some (.slice au lu cu)))] (by kernel_rfl) rfl (by kernel_rfl) (fun K hK => ?_))
      focus
        have N5 : Below c0.heap.size c0 (c0.alloc (.cells #[.int .u8 ((k : Int) % 256)] 5)) := (Below.refl _ _).alloc (Nat.le_refl _) _
        have OL : (c0.alloc (.cells #[.int .u8 ((k : Int) % 256)] 5)).ownsRow c0.heap.size 5 1 (.slice (some ⟨c0.heap.size, 0, none⟩) 1 1) 1 [.int .u8 ((k : Int) % 256)] :=
          ⟨rfl, .inr ⟨c0.heap.size, 1, #[.int .u8 ((k : Int) % 256)], rfl, EX.size, heap_alloc_new c0 _, Nat.le_refl _, by decide, rfl, rfl⟩⟩
        go_simp
        refine hK.out _ _ ⟨cell_app cx N5, cell_app cx N5, trivial⟩ ?_
        clear K hK
        try simp only [Act.put, List.setIfInBounds_toArray, List.set_cons_zero, List.set_cons_succ]
        replace EX := EX.trans (N5.mono EX.size)
        replace cx := cell_app cx N5
        have NE : (Value.slice (some ⟨c0.heap.size, 0, none⟩) 1 1).ownBlock = some c0.heap.size := rfl
        generalize c0.alloc (.cells #[.int .u8 ((k : Int) % 256)] 5) = c1 at *
        refine c_move2 17 19 (by kernel_rfl) (c_op 17 [(13, (fun w' => w'.cell? ⟨b, off + k, none⟩ = some (.slice au lu cu))), (9, (fun w' => w'.cell? ⟨b, off + k, none⟩ = some (.slice au lu cu)))] (by kernel_rfl) rfl (by kernel_rfl) (fun K hK => ?_)) (c_op 19 [(13, (fun w' => w'.cell? ⟨b, off + k, none⟩ = some (.slice au lu cu))), (9, (fun w' => w'.cell? ⟨b, off + k, none⟩ = some (.slice au lu cu)))] (by kernel_rfl) rfl (by kernel_rfl) (fun K hK => ?_))
        focus
          refine wp_app (.tmp 32) (.tmp 43) 27 rfl c0.heap.size 5 (.int .u8 0) 1 Try.underlying27 info_u8 rfl rfl OL rfl (rq.below EX) (one_bytes Q) (by have := hql.out; simp [maxLen]; omega) (by have := hql.out; simp; omega) EX.size ?_
          intro v44 c2 O44 hg44
          have K17 : Kp (fun i => c0.heap.size ≤ i) c1 c2 := (Kp.refl _ _).grown hg44 (fun i _ h => (OL.lt i h).1)
          have E17 : Below c0.heap.size c1 c2 := K17.below _ EX.size (fun i h => h)
          have cy : c2.cell? ⟨b, off + k, none⟩ = some (.slice au lu cu) := (E17.cell (p := ⟨b, off + k, none⟩) hbx).trans cx
          refine hK.out _ _ ⟨cy, cy, trivial⟩ ?_
          clear K hK
          try simp only [Act.put, List.setIfInBounds_toArray, List.set_cons_zero, List.set_cons_succ]
          replace EX := EX.trans E17
          replace cx := cy
          obtain ⟨a44, c44, e44⟩ : ∃ a c, v44 = .slice a (1 + q) c := by
            obtain ⟨a, c, e, -⟩ := Row.of_owns O44
            exact ⟨a, c, by rw [e]; have := hql.out; simp [this]; omega⟩
          subst e44
          refine c_pure ⟨cx, cx, trivial⟩ (by kernel_rfl) (fun _ _ _ d _ h => by cases d <;> exact h) 18 rfl (by kernel_rfl) (by kernel_rfl) (fun w' => by go_simp; with_reducible rfl) ?_; try simp only [Act.put, List.setIfInBounds_toArray, List.set_cons_zero, List.set_cons_succ]
          refine c_move 19 (by kernel_rfl) (c_op 19 [(13, (fun w' => w'.cell? ⟨b, off + k, none⟩ = some (.slice au lu cu))), (9, (fun w' => w'.cell? ⟨b, off + k, none⟩ = some (.slice au lu cu)))] (by kernel_rfl) rfl (by kernel_rfl) (fun K hK => ?_))
          have N9 : Below c2.heap.size c2 (c2.alloc (.cells #[.int .i64 0, .int .i64 0, .slice none 0 0] 30)) := (Below.refl _ _).alloc (Nat.le_refl _) _
          have XC := Blk.new c2 30 [.int .i64 0, .int .i64 0, .slice none 0 0]
          have hgx := EX.size
          go_simp
          refine hK.out _ _ ⟨cell_app cx N9, cell_app cx N9, trivial⟩ ?_
          clear K hK
          try simp only [Act.put, List.setIfInBounds_toArray, List.set_cons_zero, List.set_cons_succ]
          replace EX := EX.trans (N9.mono EX.size)
          replace cx := cell_app cx N9
          replace O44 := O44.alloc (.cells #[.int .i64 0, .int .i64 0, .slice none 0 0] 30)
          have hgl := XC.lt
          generalize c2.alloc (.cells #[.int .i64 0, .int .i64 0, .slice none 0 0] 30) = c3 at *
          generalize c2.heap.size = gx at *
          have d0 := cell_of (i := 0) XC rfl
          have d1 := cell_of (i := 1) XC rfl
          have d2 := cell_of (i := 2) XC rfl
          have f0 := XC.frozen
          have gq := XC.lt
          refine c_move 20 (by kernel_rfl) (c_op 20 [] (by kernel_rfl) rfl (by kernel_rfl) (fun K hK => ?_))
          go_simp
          refine hK.out _ _ trivial ?_
          clear K hK
          try simp only [Act.put, List.setIfInBounds_toArray, List.set_cons_zero, List.set_cons_succ]
          refine c_done (by kernel_rfl) ?_
          have Y0 := ((XC.set 0 (.int .i64 ((k : Int) * 7))).set 1 (.int .i64 (k : Int))).set 2 (.slice a44 (1 + q) c44)
          have KS : Kp (fun i => i = gx) c3 (((c3.setCell ⟨gx, 0, none⟩ (.int .i64 ((k : Int) * 7))).setCell ⟨gx, 1, none⟩ (.int .i64 (k : Int))).setCell ⟨gx, 2, none⟩ (.slice a44 (1 + q) c44)) :=
            Kp.set (Kp.set (Kp.set (Kp.refl (fun i => i = gx) c3) (p := ⟨gx, 0, none⟩) (fun _ => rfl) _) (p := ⟨gx, 1, none⟩) (fun _ => rfl) _) (p := ⟨gx, 2, none⟩) (fun _ => rfl) _
          have hnx2 := owns_blk O44 XC (by decide)
          have O9 := owns_kp O44 KS (fun i hi e => hnx2 (by rw [hi, e]))
          have E9 := EX.trans (KS.below c0.heap.size EX.size (fun i h => by omega))
          generalize (((c3.setCell ⟨gx, 0, none⟩ (.int .i64 ((k : Int) * 7))).setCell ⟨gx, 1, none⟩ (.int .i64 (k : Int))).setCell ⟨gx, 2, none⟩ (.slice a44 (1 + q) c44)) = w9 at *
          clear XC KS O44 EX d0 d1 d2 f0 gq cx hnx2
        rotate_left
        focus
          have N9 : Below c1.heap.size c1 (c1.alloc (.cells #[.int .i64 0, .int .i64 0, .slice none 0 0] 30)) := (Below.refl _ _).alloc (Nat.le_refl _) _
          have XC := Blk.new c1 30 [.int .i64 0, .int .i64 0, .slice none 0 0]
          have hgx := EX.size
          go_simp
          refine hK.out _ _ ⟨cell_app cx N9, cell_app cx N9, trivial⟩ ?_
          clear K hK
          try simp only [Act.put, List.setIfInBounds_toArray, List.set_cons_zero, List.set_cons_succ]
          replace EX := EX.trans (N9.mono EX.size)
          replace cx := cell_app cx N9
          replace OL := OL.alloc (.cells #[.int .i64 0, .int .i64 0, .slice none 0 0] 30)
          have hgl := XC.lt
          generalize c1.alloc (.cells #[.int .i64 0, .int .i64 0, .slice none 0 0] 30) = c2 at *
          generalize c1.heap.size = gx at *
          refine c_move 17 (by kernel_rfl) (c_op 17 [(13, (fun w' => w'.cell? ⟨b, off + k, none⟩ = some (.slice au lu cu))), (9, (fun w' => w'.cell? ⟨b, off + k, none⟩ = some (.slice au lu cu)))] (by kernel_rfl) rfl (by kernel_rfl) (fun K hK => ?_))
          refine wp_app (.tmp 32) (.tmp 43) 27 rfl c0.heap.size 5 (.int .u8 0) 1 Try.underlying27 info_u8 rfl rfl OL rfl (rq.below EX) (one_bytes Q) (by have := hql.out; simp [maxLen]; omega) (by have := hql.out; simp; omega) EX.size ?_
          intro v44 c3 O44 hg44
          have K17 : Kp (fun i => c0.heap.size ≤ i) c2 c3 := (Kp.refl _ _).grown hg44 (fun i _ h => (OL.lt i h).1)
          have E17 : Below c0.heap.size c2 c3 := K17.below _ EX.size (fun i h => h)
          have cy : c3.cell? ⟨b, off + k, none⟩ = some (.slice au lu cu) := (E17.cell (p := ⟨b, off + k, none⟩) hbx).trans cx
          refine hK.out _ _ ⟨cy, cy, trivial⟩ ?_
          clear K hK
          try simp only [Act.put, List.setIfInBounds_toArray, List.set_cons_zero, List.set_cons_succ]
          replace EX := EX.trans E17
          replace cx := cy
          have hnx := owns_blk OL XC (by decide)
          replace XC := XC.kp ((Kp.refl _ c2).grown hg44 (fun i _ h => h)) hnx
          obtain ⟨a44, c44, e44⟩ : ∃ a c, v44 = .slice a (1 + q) c := by
            obtain ⟨a, c, e, -⟩ := Row.of_owns O44
            exact ⟨a, c, by rw [e]; have := hql.out; simp [this]; omega⟩
          subst e44
          refine c_pure ⟨cx, cx, trivial⟩ (by kernel_rfl) (fun _ _ _ d _ h => by cases d <;> exact h) 18 rfl (by kernel_rfl) (by kernel_rfl) (fun w' => by go_simp; with_reducible rfl) ?_; try simp only [Act.put, List.setIfInBounds_toArray, List.set_cons_zero, List.set_cons_succ]
          have d0 := cell_of (i := 0) XC rfl
          have d1 := cell_of (i := 1) XC rfl
          have d2 := cell_of (i := 2) XC rfl
          have f0 := XC.frozen
          have gq := XC.lt
          refine c_move 20 (by kernel_rfl) (c_op 20 [] (by kernel_rfl) rfl (by kernel_rfl) (fun K hK => ?_))
          go_simp
          refine hK.out _ _ trivial ?_
          clear K hK
          try simp only [Act.put, List.setIfInBounds_toArray, List.set_cons_zero, List.set_cons_succ]
          refine c_done (by kernel_rfl) ?_
          have Y0 := ((XC.set 0 (.int .i64 ((k : Int) * 7))).set 1 (.int .i64 (k : Int))).set 2 (.slice a44 (1 + q) c44)
          have KS : Kp (fun i => i = gx) c3 (((c3.setCell ⟨gx, 0, none⟩ (.int .i64 ((k : Int) * 7))).setCell ⟨gx, 1, none⟩ (.int .i64 (k : Int))).setCell ⟨gx, 2, none⟩ (.slice a44 (1 + q) c44)) :=
            Kp.set (Kp.set (Kp.set (Kp.refl (fun i => i = gx) c3) (p := ⟨gx, 0, none⟩) (fun _ => rfl) _) (p := ⟨gx, 1, none⟩) (fun _ => rfl) _) (p := ⟨gx, 2, none⟩) (fun _ => rfl) _
          have hnx2 := owns_blk O44 XC (by decide)
          have O9 := owns_kp O44 KS (fun i hi e => hnx2 (by rw [hi, e]))
          have E9 := EX.trans (KS.below c0.heap.size EX.size (fun i h => by omega))
          generalize (((c3.setCell ⟨gx, 0, none⟩ (.int .i64 ((k : Int) * 7))).setCell ⟨gx, 1, none⟩ (.int .i64 (k : Int))).setCell ⟨gx, 2, none⟩ (.slice a44 (1 + q) c44)) = w9 at *
          clear XC KS O44 EX d0 d1 d2 f0 gq cx hnx2
      rotate_left 2
      focus
        have N9 : Below c0.heap.size c0 (c0.alloc (.cells #[.int .i64 0, .int .i64 0, .slice none 0 0] 30)) := (Below.refl _ _).alloc (Nat.le_refl _) _
        have XC := Blk.new c0 30 [.int .i64 0, .int .i64 0, .slice none 0 0]
        have hgx := EX.size
        go_simp
        refine hK.out _ _ ⟨cell_app cx N9, cell_app cx N9, trivial⟩ ?_
        clear K hK
        try simp only [Act.put, List.setIfInBounds_toArray, List.set_cons_zero, List.set_cons_succ]
        replace EX := EX.trans (N9.mono EX.size)
        replace cx := cell_app cx N9
        have hgl := XC.lt
        generalize c0.alloc (.cells #[.int .i64 0, .int .i64 0, .slice none 0 0] 30) = c1 at *
        obtain ⟨gx, hgx0⟩ : ∃ gx, gx = c0.heap.size := ⟨_, rfl⟩
        rw [← hgx0] at XC hgl ⊢
        replace hgx : c0.heap.size ≤ gx := by omega
        clear hgx0
        refine c_move 5 (by kernel_rfl) (c_op 5 [(13, (fun w' => w'.cell? ⟨b, off + k, none⟩ = some (.slice au lu cu))), (9, (fun w' => w'.cell? ⟨b, off + k, none⟩ = some (.slice au lu cu)))] (by kernel_rfl) rfl (by kernel_rfl) (fun K hK => ?_))
        have N5 : Below c1.heap.size c1 (c1.alloc (.cells #[.int .u8 ((k : Int) % 256)] 5)) := (Below.refl _ _).alloc (Nat.le_refl _) _
        have OL : (c1.alloc (.cells #[.int .u8 ((k : Int) % 256)] 5)).ownsRow c0.heap.size 5 1 (.slice (some ⟨c1.heap.size, 0, none⟩) 1 1) 1 [.int .u8 ((k : Int) % 256)] :=
          ⟨rfl, .inr ⟨c1.heap.size, 1, #[.int .u8 ((k : Int) % 256)], rfl, EX.size, heap_alloc_new c1 _, Nat.le_refl _, by decide, rfl, rfl⟩⟩
        go_simp
        refine hK.out _ _ ⟨cell_app cx N5, cell_app cx N5, trivial⟩ ?_
        clear K hK
        try simp only [Act.put, List.setIfInBounds_toArray, List.set_cons_zero, List.set_cons_succ]
        replace EX := EX.trans (N5.mono EX.size)
        replace cx := cell_app cx N5
        replace XC := XC.alloc (.cells #[.int .u8 ((k : Int) % 256)] 5)
        have NE : (Value.slice (some ⟨c1.heap.size, 0, none⟩) 1 1).ownBlock = some c1.heap.size := rfl
        generalize c1.alloc (.cells #[.int .u8 ((k : Int) % 256)] 5) = c2 at *
        refine c_move 17 (by kernel_rfl) (c_op 17 [(13, (fun w' => w'.cell? ⟨b, off + k, none⟩ = some (.slice au lu cu))), (9, (fun w' => w'.cell? ⟨b, off + k, none⟩ = some (.slice au lu cu)))] (by kernel_rfl) rfl (by kernel_rfl) (fun K hK => ?_))
        refine wp_app (.tmp 32) (.tmp 43) 27 rfl c0.heap.size 5 (.int .u8 0) 1 Try.underlying27 info_u8 rfl rfl OL rfl (rq.below EX) (one_bytes Q) (by have := hql.out; simp [maxLen]; omega) (by have := hql.out; simp; omega) EX.size ?_
        intro v44 c3 O44 hg44
        have K17 : Kp (fun i => c0.heap.size ≤ i) c2 c3 := (Kp.refl _ _).grown hg44 (fun i _ h => (OL.lt i h).1)
        have E17 : Below c0.heap.size c2 c3 := K17.below _ EX.size (fun i h => h)
        have cy : c3.cell? ⟨b, off + k, none⟩ = some (.slice au lu cu) := (E17.cell (p := ⟨b, off + k, none⟩) hbx).trans cx
        refine hK.out _ _ ⟨cy, cy, trivial⟩ ?_
        clear K hK
        try simp only [Act.put, List.setIfInBounds_toArray, List.set_cons_zero, List.set_cons_succ]
        replace EX := EX.trans E17
        replace cx := cy
        have hnx := owns_blk OL XC (by decide)
        replace XC := XC.kp ((Kp.refl _ c2).grown hg44 (fun i _ h => h)) hnx
        obtain ⟨a44, c44, e44⟩ : ∃ a c, v44 = .slice a (1 + q) c := by
          obtain ⟨a, c, e, -⟩ := Row.of_owns O44
          exact ⟨a, c, by rw [e]; have := hql.out; simp [this]; omega⟩
        subst e44
        refine c_pure ⟨cx, cx, trivial⟩ (by kernel_rfl) (fun _ _ _ d _ h => by cases d <;> exact h) 18 rfl (by kernel_rfl) (by kernel_rfl) (fun w' => by go_simp; with_reducible rfl) ?_; try simp only [Act.put, List.setIfInBounds_toArray, List.set_cons_zero, List.set_cons_succ]
        have d0 := cell_of (i := 0) XC rfl
        have d1 := cell_of (i := 1) XC rfl
        have d2 := cell_of (i := 2) XC rfl
        have f0 := XC.frozen
        have gq := XC.lt
        refine c_move 20 (by kernel_rfl) (c_op 20 [] (by kernel_rfl) rfl (by kernel_rfl) (fun K hK => ?_))
        go_simp
        refine hK.out _ _ trivial ?_
        clear K hK
        try simp only [Act.put, List.setIfInBounds_toArray, List.set_cons_zero, List.set_cons_succ]
        refine c_done (by kernel_rfl) ?_
        have Y0 := ((XC.set 0 (.int .i64 ((k : Int) * 7))).set 1 (.int .i64 (k : Int))).set 2 (.slice a44 (1 + q) c44)
        have KS : Kp (fun i => i = gx) c3 (((c3.setCell ⟨gx, 0, none⟩ (.int .i64 ((k : Int) * 7))).setCell ⟨gx, 1, none⟩ (.int .i64 (k : Int))).setCell ⟨gx, 2, none⟩ (.slice a44 (1 + q) c44)) :=
          Kp.set (Kp.set (Kp.set (Kp.refl (fun i => i = gx) c3) (p := ⟨gx, 0, none⟩) (fun _ => rfl) _) (p := ⟨gx, 1, none⟩) (fun _ => rfl) _) (p := ⟨gx, 2, none⟩) (fun _ => rfl) _
        have hnx2 := owns_blk O44 XC (by decide)
        have O9 := owns_kp O44 KS (fun i hi e => hnx2 (by rw [hi, e]))
        have E9 := EX.trans (KS.below c0.heap.size EX.size (fun i h => by omega))
        generalize (((c3.setCell ⟨gx, 0, none⟩ (.int .i64 ((k : Int) * 7))).setCell ⟨gx, 1, none⟩ (.int .i64 (k : Int))).setCell ⟨gx, 2, none⟩ (.slice a44 (1 + q) c44)) = w9 at *
        clear XC KS O44 EX d0 d1 d2 f0 gq cx hnx2
      all_goals
        have S9 := E9.size
        replace ho := owns_below ho E9
        replace hm := hm.ext E9
        replace hb := hb.trans (E9.mono hz)
        have hz9 : w1.heap.size ≤ w9.heap.size := hb.size
        have R9 : Row w9 (.slice a44 (1 + q) c44) (p.map bV) := by
          have := Row.of_owns O9
          rw [PEk.out, List.map_cons, ← EB.out]
          exact this
        have O9' : w9.ownsRow w1.heap.size 5 1 (.slice a44 (1 + q) c44) p.length (p.map bV) := by
          have := owns_from O9 hz
          rw [PEk.out, List.map_cons, ← EB.out, List.length_cons, hql.out]
          rw [hql'.out] at this
          exact this
        have F9 : Off (Ft w.heap.size u6) (.slice a44 (1 + q) c44) := fun i hi h => by
          have h1 := (owns_lt O9 hi).1
          rcases h with h | h
          · omega
          · have := HU.out i h; omega
        clear O9 E9 HU
        have q0 := cell_of (i := 0) Y0 rfl
        have q1 := cell_of (i := 1) Y0 rfl
        have q2 := cell_of (i := 2) Y0 rfl
        go_wp2_with fail
        refine (mbytes_any ((k : Int) * 7) (k : Int) _ p _ (by omega) R9).mono ?_
        rintro e w10 ⟨v48, rfl, o48, B10⟩
        rw [MBk.out] at o48
        have HML := hidden (msgL_len ((k : Int) * 7) (k : Int) p)
        replace ho := owns_below ho B10
        replace hm := hm.ext B10
        replace hb := hb.trans (B10.mono hz9)
        replace Y0 := Y0.below B10 Y0.lt
        replace O9' := owns_below O9' B10
        have S10 := B10.size
        obtain ⟨g48, c48, rfl, hg48⟩ := owns_some o48 (by have := HML.out; omega)
        clear B10 R9 q0 q1 q2
        generalize msgL ((k : Int) * 7) (k : Int) p = ML at *
        obtain ⟨i8, hi8, hz8, hs8, hb8⟩ := info_parts info_u8
        have HI8 := hidden (And.intro hi8 (And.intro hz8 (And.intro hs8 hb8)))
        clear hi8 hz8 hs8 hb8
        have HO48 := hidden o48
        have hbz := hb.size
        go_wp2_with (at_builtin; go_loud (refine wpList_append_own_at (P := Try.prog) _ rfl (.tmp 46) (.tmp 48) 27 rfl w1.heap.size 5 i8 _ 1 1 Try.underlying27 HI8.out.1 HI8.out.2.1 HI8.out.2.2.1 HI8.out.2.2.2 rfl (by decide) _ WB0.length _ rfl ho ⟨g48, 0, none⟩ ML.length c48 (ML.map bV) rfl (by simp) ?q1 (one_bytes ML) ?q3 ?q4 ?q5 ?q6))
        case q1 =>
          intro j y hj
          have hadd : (⟨g48, 0, none⟩ : Addr).add j = ⟨g48, j, none⟩ := by unfold Addr.add; split <;> simp_all
          have hjl : j < ML.length * 1 := by
            rcases Nat.lt_or_ge j (ML.map bV).length with h | h
            · simp at h; omega
            · rw [List.getElem?_eq_none h] at hj; cases hj
          rw [hadd, HO48.out.cellAt j hjl, hj]
        case q3 => have := HML.out; unfold maxLen; omega
        case q4 => have := HML.out; omega
        case q5 => exact hbz
        case q6 =>
          intro v49 w11 o49 hg49 _ hat49
          have K11 : Kp (fun i => u6.ownBlock = some i) w10 w11 := (Kp.refl _ w10).grown hg49 (fun i _ h => h)
          have hn11 := owns_blk ho Y0 (by decide)
          have Y11 := Y0.kp K11 hn11
          have P11 := owns_kp O9' K11 (fun i hi h => F9 i hi (.inr h))
          have M11 := (hm.off (N' := fun i => Ft w.heap.size u6 i ∨ Ft w.heap.size v49 i) (fun i hi h => by
            rcases h with h | h | h
            · exact h
            · exact .inl h
            · rcases hat49 with h2 | h2
              · exact .inr (h2 ▸ h)
              · rw [h2] at h; simp at h; omega)).kp K11 (fun i h => .inl (.inr h))
          replace M11 := M11.off (N' := Ft w.heap.size v49) (fun i _ h => .inr h)
          have F11 : Off (Ft w.heap.size v49) (.slice a44 (1 + q) c44) := fun i hi h => by
            have hlt := (owns_lt O9' hi).2
            rcases h with h | h
            · exact F9 i hi (.inl h)
            · rcases hat49 with h2 | h2
              · exact F9 i hi (.inr (h2 ▸ h))
              · rw [h2] at h; simp at h; omega
          have B11 : Below w1.heap.size w10 w11 := K11.below _ hbz (fun i h => (owns_lt ho h).1)
          replace hb := hb.trans B11
          have o49' : w11.ownsRow w1.heap.size 5 1 v49 WB1.length (WB1.map bV) := by
            rw [BSk.out, List.length_append, List.map_append]; exact o49
          obtain ⟨a49, c49, e49⟩ : ∃ a c, v49 = .slice a WB1.length c := by
            obtain ⟨a, c, e, -⟩ := Row.of_owns o49'
            exact ⟨a, c, by simpa using e⟩
          subst e49
          clear K11 B11 hat49 hg49 o49 ho hm F9 O9' Y0 HO48 o48 hn11
          have q0 := cell_of (i := 0) Y11 rfl
          have q1 := cell_of (i := 1) Y11 rfl
          have q2 := cell_of (i := 2) Y11 rfl
          have hz11 : w1.heap.size ≤ w11.heap.size := hb.size
          have AL : Below w11.heap.size w11 (w11.alloc (.cells #[.int .i64 ((k : Int) * 7), .int .i64 (k : Int), .slice a44 (1 + q) c44] 30)) := (Below.refl _ _).alloc (Nat.le_refl _) _
          have BLn := Blk.new w11 30 [.int .i64 ((k : Int) * 7), .int .i64 (k : Int), .slice a44 (1 + q) c44]
          have gl11 := Y11.lt
          obtain ⟨us, hul2, hov, hof, hpd⟩ := M11.ext AL
          have HP := hidden hpd
          clear hpd
          obtain ⟨ii, hii, hiz, his, hib⟩ := info_parts info_msg
          have HII := hidden (And.intro hii (And.intro hiz (And.intro his hib)))
          clear hii hiz his hib
          have HOV := hidden hov
          go_wp2_with (at_builtin; refine wpList_append_own_at (P := Try.prog) _ rfl (.tmp 50) (.tmp 52) 39 rfl w1.heap.size 30 ii _ 3 40 Try.underlying39 HII.out.1 HII.out.2.1 HII.out.2.2.1 HII.out.2.2.2 rfl (by decide) _ WL0.length _ rfl HOV.out ⟨w11.heap.size, 0, none⟩ 1 1 [.int .i64 ((k : Int) * 7), .int .i64 (k : Int), .slice a44 (1 + q) c44] rfl rfl ?p1 ?p2 ?p3 ?p4 ?p5 ?p6)
          case p1 =>
            intro j y hj
            have : (⟨w11.heap.size, 0, none⟩ : Addr).add j = ⟨w11.heap.size, j, none⟩ := by unfold Addr.add; split <;> simp_all
            rw [this, BLn.cell j, hj]
          case p2 => intro y hy; simp at hy; rcases hy with rfl | rfl | rfl <;> rfl
          case p3 => have := LLk.out; unfold maxLen; omega
          case p4 => have := LLk.out; omega
          case p5 => simp; omega
          case p6 =>
            intro v53 w12 o53 hg53 _ hat53
            have K12 : Kp (fun i => u7.ownBlock = some i) w11 w12 := (Kp.of_below AL).grown hg53 (fun i _ h => h)
            have M12 : Mss 30 (Ft w.heap.size (.slice a49 WB1.length c49)) w12 w1.heap.size v53 WL1 := by
              rw [LSk.out, MEk.out]
              refine Mss.push (by decide) hul2 hov hof HP.out (P11.alloc _) F11 o53 rfl hg53 (fun i hi h => ?_)
              rcases hat53 with h7 | h7
              · exact hof i (h7 ▸ hi) h
              · rw [h7] at hi
                simp at hi
                rcases h with h | h
                · omega
                · have := (owns_lt o49' h).2; omega
            have o12 := owns_kp o49' K12 (fun i hi h => hof i h (.inr hi))
            have B12 : Below w1.heap.size w11 w12 := K12.below _ hz11 (fun i h => (owns_lt hov h).1)
            replace hb := hb.trans B12
            obtain ⟨a53, c53, e53⟩ : ∃ a c, v53 = .slice a (WL0.length + 1) c := by
              rcases o53.2 with ⟨_, h⟩ | ⟨g', cap', cur', h, -⟩
              · omega
              · exact ⟨_, _, h⟩
            subst e53
            clear K12 B12 hov hof hat53 hg53 o53 HOV HP BLn AL o49' P11 F11 M11 Y11 q0 q1 q2
            go_wp2
            go_roundw
            case rel => exact ⟨k + 1, by omega, by omega, by go_num, by rw [HWB1.out]; exact o12, by rw [HWL1.out]; exact M12, hb⟩
            case measure => simp [intOf]; omega
    · have RNk := hidden (RN.out k hk2)
      have LLk := hidden (LL.out k)
      have BLk := BL.out k
      have hnl : Hid ((WB k).length ≤ 480) := by show _ ≤ _; omega
      clear RN LL BL BS LS PL PE ME MB HR
      generalize WB k = TT at *
      generalize WL k = WK at *
      have T2 := T1.ext hb
      have DL := D1.trans (hb.mono D1.size)
      have RA : RowO (Ft w.heap.size (.slice none 0 0)) wr u6 (TT.map bV) := RowO.of_owns ho (fun j h1 h2 h => by
        rcases h with h | h
        · omega
        · cases h)
      have HA := hidden (fun j (h : u6.ownBlock = some j) => (owns_lt ho h).2)
      have HW := hidden hm
      have hgw : w.heap.size < wr.heap.size := by omega
      clear hm ho hb T1 D1 G1 hz B0 L0 EB
      obtain ⟨wL, hwL⟩ : ∃ wL, wL = wr := ⟨_, rfl⟩
      subst hwL
      have hc : ¬ ((k : Int) < (lx : Int)) ∨ ((k : Int) < (lx : Int) ∧ ¬ ((k : Int) < 10)) := by omega
      have H0 : Hid (∃ (i d : Nat) (vc : Value) (s : Sm), d ≤ TT.length ∧ .int .i64 0 = Value.int .i64 (i : Int) ∧ i ≤ 61 ∧ (i ≤ 60 ∨ d = TT.length) ∧ Hid (smRun ⟨[], false, []⟩ (TT.take d) = s) ∧ Str 58 wL w.heap.size w.heap.size vc s.wait s.shut ∧ Hid (∀ j, vc.ownBlock = some j → wL.heap.size ≤ j) ∧ Mss 30 (Ft w.heap.size vc) wL wL.heap.size (.slice none 0 0) s.out ∧ RowO (Ft w.heap.size vc) wL u6 ((TT.drop d).map bV) ∧ Hid (∀ j, u6.ownBlock = some j → j < wL.heap.size) ∧ Kp (fun j => j = w.heap.size) wL wL) :=
        ⟨0, 0, .slice none 0 0, ⟨[], false, []⟩, Nat.zero_le _, rfl, Nat.zero_le _, .inl (Nat.zero_le _), rfl, T2, (fun j h => by cases h), Mss.nil _ _ _ _, by simpa using RA, HA.out, Kp.refl _ _⟩
      clear T2 RA HA hlt hk hk2
      rcases hc with hc | ⟨hc, hc2⟩
      all_goals
        go_wp2
        go_loopw [6, 10, 11, 12] (fun z6 z10 z11 _ wr => ∃ (i d : Nat) (vc : Value) (s : Sm), d ≤ TT.length ∧ z11 = Value.int .i64 (i : Int) ∧ i ≤ 61 ∧ (i ≤ 60 ∨ d = TT.length) ∧ Hid (smRun ⟨[], false, []⟩ (TT.take d) = s) ∧ Str 58 wr w.heap.size w.heap.size vc s.wait s.shut ∧ Hid (∀ j, vc.ownBlock = some j → wL.heap.size ≤ j) ∧ Mss 30 (Ft w.heap.size vc) wr wL.heap.size z10 s.out ∧ RowO (Ft w.heap.size vc) wr z6 ((TT.drop d).map bV) ∧ Hid (∀ j, z6.ownBlock = some j → j < wL.heap.size) ∧ Kp (fun j => j = w.heap.size) wL wr) (fun z6 _ z11 _ _ => 61 - (intOf z11).toNat + lenV z6)
        case atStart => exact H0.out
        case round =>
          clear H0
          obtain ⟨i, d, vc, s, hd, rfl, hi, hid, HS, hst, hvc, hgt, hra, hza, hkp⟩ := hrel
          obtain ⟨a6, c6, e6⟩ : ∃ a c, u6 = .slice a (TT.length - d) c := by
            obtain ⟨a, c, e, -⟩ := hra.1
            exact ⟨a, c, by simpa using e⟩
          subst e6
          have OKs := hidden (HS.out ▸ OkW.many (TT.take d) ⟨[], false, []⟩ OkW.nil)
          have OL := (smRun_le (TT.take d) ⟨[], false, []⟩).2
          rw [HS.out] at OL
          simp only [List.length_nil, List.length_take] at OL
          have OL2 : s.out.length ≤ 480 := by have := hnl.out; omega
          clear OL
          by_cases hdl : d < TT.length
          · have SM := hidden (fun q => sm_more TT d q s HS.out)
            have hrl : (0 : Int) < ((TT.length - d : Nat) : Int) := by omega
            obtain ⟨rem, hrem⟩ : ∃ rem, TT.length - d = rem := ⟨_, rfl⟩
            have hrd : Hid (d + rem = TT.length) := by show _ = _; omega
            have hrl' : rem ≤ 480 := by have := hnl.out; omega
            rw [hrem] at hra hza hrl
            have hTd : Hid ((TT.drop d).length = rem) := by show _ = _; simp; omega
            obtain ⟨b6, o6, rfl⟩ : ∃ b o, a6 = some ⟨b, o, none⟩ := by
              obtain ⟨a, c, e, -, -, -, h⟩ := hra.1
              simp only [Value.slice.injEq] at e
              rcases h with h | ⟨b, o, h, -⟩
              · have := congrArg List.length h
                simp at this
                omega
              · exact ⟨b, o, by rw [e.1, h]⟩
            have hc6 : rem ≤ c6 ∧ c6 ≤ 9223372036854775807 := by
              obtain ⟨a, c, e, h1, h2, -⟩ := hra.1
              simp only [Value.slice.injEq] at e
              obtain ⟨-, e2, rfl⟩ := e
              unfold maxLen at h2
              omega
            obtain ⟨hc61, hc62⟩ := hc6
            have hcase : (∃ q : Nat, q ≤ rem ∧ ((i : Int) < (ns.length : Int) ∧ (i : Int) < 60)) ∨ (∃ q : Nat, q = rem ∧ (¬ ((i : Int) < (ns.length : Int)) ∨ ((i : Int) < (ns.length : Int) ∧ ¬ ((i : Int) < 60)))) := by
              by_cases h : (i : Int) < (ns.length : Int) ∧ (i : Int) < 60
              · exact .inl ⟨0, Nat.zero_le _, h⟩
              · exact .inr ⟨rem, rfl, by omega⟩
            have FIN : Hid (∀ (q : Nat), q ≤ rem → (i < 60 ∨ q = rem) → i + 1 ≤ 61 ∧ (i + 1 ≤ 60 ∨ d + q = TT.length) ∧ d + q ≤ TT.length) := fun q h1 h2 => by
              have := hrd.out
              omega
            rcases hcase with ⟨-, -, hi1, hi2⟩ | ⟨q, hq, hi1 | ⟨hi1, hi2⟩⟩
            · obtain ⟨bn, on, rfl, hcn⟩ := HNC.out i 0 (by omega)
              have cn' := cell_app (hcn i (by omega)) (DL.trans (hkp.below w.heap.size (by omega) (fun j h => by omega)))
              have hni := HN.out i (by omega)
              generalize ns.getD i 0 = ni at *
              go_wp2_with fail
              refine (within_any ni 0 13 _ hni (by decide) (by decide) (by decide)).mono ?_
              rintro e wx ⟨⟨m, rfl, m0, m1⟩, rfl⟩
              obtain ⟨m', rfl⟩ : ∃ m' : Nat, m = (m' : Int) := ⟨m.toNat, by omega⟩
              obtain ⟨q, hq⟩ : ∃ q, min rem m' = q := ⟨_, rfl⟩
              have hmin : (if (m' : Int) < (rem : Int) then (m' : Int) else (rem : Int)) = (q : Int) := by split <;> omega
              have hmin2 : (if m' < rem then (m' : Int) else (rem : Int)) = (q : Int) := by split <;> omega
              have hqr : q ≤ rem := by omega
              have hfin := hidden (FIN.out q hqr (.inl (by omega)))
              have hqc : q ≤ c6 := by omega
              have hqc' : (q : Int) ≤ (c6 : Int) := by omega
              have hqr' : (q : Int) ≤ (rem : Int) := by omega
              clear hq FIN hcn
              go_wp2_with fail
              have hpq := hra.take q hqr
              rw [← List.map_take] at hpq
              have SMq := hidden (SM.out q)
              have DD : Hid ((TT.drop d).drop q = TT.drop (d + q)) := by show _ = _; rw [List.drop_drop]
              have hpl : ((TT.drop d).take q).length ≤ 2000000000000 := by have := hTd.out; simp; omega
              have hpl2 := (smRun_le ((TT.drop d).take q) ⟨s.wait, s.shut, []⟩).2
              simp only [List.length_nil] at hpl2
              have hpl3 : (smRun ⟨s.wait, s.shut, []⟩ ((TT.drop d).take q)).out.length ≤ 480 := by have := hTd.out; simp at hpl2; omega
              clear SM hpl2
              refine (sput_eq _ rfl hst hpq (Nat.le_refl _) OKs.out hpl).mono ?_
              generalize smRun ⟨s.wait, s.shut, []⟩ ((TT.drop d).take q) = s1 at *
              rintro e w3 ⟨v3, vo, rfl, T3, Mo, K3, F3⟩
              replace hgt := hgt.put K3 F3
              replace hra := hra.put K3 F3
              have z3 := K3.size
              have zL := hkp.size
              replace hkp := hkp.then K3 (fun j hj h => h.elim id (fun h => absurd (hvc.out j h) (by omega)))
              replace hvc : Hid (∀ j, v3.ownBlock = some j → wL.heap.size ≤ j) := fun j h => by
                rcases F3 j h with h1 | h1
                · exact hvc.out j h1
                · omega
              clear K3 F3 hst hpq
              have HFL := hidden T3.footlt
              obtain ⟨ao, co, rfl, hco⟩ := Mo.len
              obtain ⟨at', ct, rfl, hct⟩ := hgt.len
              obtain ⟨ad, had⟩ : ∃ ad, (if c6 = q then some (⟨b6, o6, none⟩ : Addr) else some ⟨b6, o6 + q, none⟩) = ad := ⟨_, rfl⟩
              have hcut := hra.cut q hqr
              rw [had, ← List.map_drop, DD.out] at hcut
              have hadb : Hid (∀ j n c, (Value.slice ad n c).ownBlock = some j → j = b6) := fun j n c h => by
                rw [← had] at h
                split at h
                · exact (Option.some.inj h).symm
                · exact (Option.some.inj h).symm
              go_wp2_with (at_builtin; refine wpList_appM rfl (.tmp 76) (.tmp 81) 39 rfl 30 40 (Ft w.heap.size v3) Try.underlying39 info_msg (by decide) rfl rfl hgt Mo zL (by omega) (fun h => by have := HFL.out _ h; omega) (by unfold maxLen; omega) (by omega) ?_)
              intro v4 w4 M4 hg4
              have K4 : Kp (fun j => (Value.slice at' s.out.length ct).ownBlock = some j) w3 w4 := (Kp.refl _ w3).grown hg4 (fun j _ h => h)
              have hgo : Off (Ft w.heap.size v3) (.slice at' s.out.length ct) := by obtain ⟨us, -, -, h, -⟩ := hgt; exact h
              have hgb : Hid (∀ j, (Value.slice at' s.out.length ct).ownBlock = some j → wL.heap.size ≤ j) := fun j h => by obtain ⟨us, -, h2, -⟩ := hgt; exact (owns_lt h2 h).1
              have T4 := T3.kp K4 (fun h => hgo _ h (.inl rfl)) (fun j h1 h2 => hgo j h2 (.inr h1))
              have R4 : RowO (Ft w.heap.size v3) w4 (.slice ad (rem - q) (c6 - q)) ((TT.drop (d + q)).map bV) :=
                ⟨hcut.1.kp K4 (fun j h1 h2 => by have := hgb.out j h2; have := hza.out j (by rw [hadb.out j _ _ h1]; rfl); omega), fun j h => ⟨(hcut.2 j h).1, Nat.lt_of_lt_of_le (hcut.2 j h).2 K4.size⟩⟩
              have hkp4 := hkp.then K4 (fun j hj h => absurd (hgb.out j h) (by omega))
              have hza4 : Hid (∀ j, (Value.slice ad (rem - q) (c6 - q)).ownBlock = some j → j < wL.heap.size) := fun j h => hza.out j (by rw [hadb.out j _ _ h]; rfl)
              obtain ⟨a4, c4, rfl, -⟩ := M4.len
              clear hgt Mo T3 hra hcut K4 hkp hgo hgb hg4 hadb hza
              go_wp2
              go_roundw
              case rel => exact ⟨i + 1, d + q, v3, ⟨s1.wait, s1.shut, s.out ++ s1.out⟩, hfin.out.2.2, by go_num, hfin.out.1, hfin.out.2.1, SMq.out, T4, hvc, M4, R4, hza4, hkp4⟩
              case measure => simp [intOf, lenV]; omega
            · have hqr : q ≤ rem := by omega
              have hfin := hidden (FIN.out q hqr (.inr hq))
              have hqc : q ≤ c6 := by omega
              have hqc' : (q : Int) ≤ (c6 : Int) := by omega
              have hqr' : (q : Int) ≤ (rem : Int) := by omega
              clear FIN
              subst hq
              go_wp2_with fail
              have hpq := hra.take q hqr
              rw [← List.map_take] at hpq
              have SMq := hidden (SM.out q)
              have DD : Hid ((TT.drop d).drop q = TT.drop (d + q)) := by show _ = _; rw [List.drop_drop]
              have hpl : ((TT.drop d).take q).length ≤ 2000000000000 := by have := hTd.out; simp; omega
              have hpl2 := (smRun_le ((TT.drop d).take q) ⟨s.wait, s.shut, []⟩).2
              simp only [List.length_nil] at hpl2
              have hpl3 : (smRun ⟨s.wait, s.shut, []⟩ ((TT.drop d).take q)).out.length ≤ 480 := by have := hTd.out; simp at hpl2; omega
              clear SM hpl2
              refine (sput_eq _ rfl hst hpq (Nat.le_refl _) OKs.out hpl).mono ?_
              generalize smRun ⟨s.wait, s.shut, []⟩ ((TT.drop d).take q) = s1 at *
              rintro e w3 ⟨v3, vo, rfl, T3, Mo, K3, F3⟩
              replace hgt := hgt.put K3 F3
              replace hra := hra.put K3 F3
              have z3 := K3.size
              have zL := hkp.size
              replace hkp := hkp.then K3 (fun j hj h => h.elim id (fun h => absurd (hvc.out j h) (by omega)))
              replace hvc : Hid (∀ j, v3.ownBlock = some j → wL.heap.size ≤ j) := fun j h => by
                rcases F3 j h with h1 | h1
                · exact hvc.out j h1
                · omega
              clear K3 F3 hst hpq
              have HFL := hidden T3.footlt
              obtain ⟨ao, co, rfl, hco⟩ := Mo.len
              obtain ⟨at', ct, rfl, hct⟩ := hgt.len
              obtain ⟨ad, had⟩ : ∃ ad, (if c6 = q then some (⟨b6, o6, none⟩ : Addr) else some ⟨b6, o6 + q, none⟩) = ad := ⟨_, rfl⟩
              have hcut := hra.cut q hqr
              rw [had, ← List.map_drop, DD.out, Nat.sub_self] at hcut
              have hadb : Hid (∀ j n c, (Value.slice ad n c).ownBlock = some j → j = b6) := fun j n c h => by
                rw [← had] at h
                split at h
                · exact (Option.some.inj h).symm
                · exact (Option.some.inj h).symm
              go_wp2_with (at_builtin; refine wpList_appM rfl (.tmp 76) (.tmp 81) 39 rfl 30 40 (Ft w.heap.size v3) Try.underlying39 info_msg (by decide) rfl rfl hgt Mo zL (by omega) (fun h => by have := HFL.out _ h; omega) (by unfold maxLen; omega) (by omega) ?_)
              intro v4 w4 M4 hg4
              have K4 : Kp (fun j => (Value.slice at' s.out.length ct).ownBlock = some j) w3 w4 := (Kp.refl _ w3).grown hg4 (fun j _ h => h)
              have hgo : Off (Ft w.heap.size v3) (.slice at' s.out.length ct) := by obtain ⟨us, -, -, h, -⟩ := hgt; exact h
              have hgb : Hid (∀ j, (Value.slice at' s.out.length ct).ownBlock = some j → wL.heap.size ≤ j) := fun j h => by obtain ⟨us, -, h2, -⟩ := hgt; exact (owns_lt h2 h).1
              have T4 := T3.kp K4 (fun h => hgo _ h (.inl rfl)) (fun j h1 h2 => hgo j h2 (.inr h1))
              have R4 : RowO (Ft w.heap.size v3) w4 (.slice ad 0 (c6 - q)) ((TT.drop (d + q)).map bV) :=
                ⟨hcut.1.kp K4 (fun j h1 h2 => by have := hgb.out j h2; have := hza.out j (by rw [hadb.out j _ _ h1]; rfl); omega), fun j h => ⟨(hcut.2 j h).1, Nat.lt_of_lt_of_le (hcut.2 j h).2 K4.size⟩⟩
              have hkp4 := hkp.then K4 (fun j hj h => absurd (hgb.out j h) (by omega))
              have hza4 : Hid (∀ j, (Value.slice ad 0 (c6 - q)).ownBlock = some j → j < wL.heap.size) := fun j h => hza.out j (by rw [hadb.out j _ _ h]; rfl)
              obtain ⟨a4, c4, rfl, -⟩ := M4.len
              clear hgt Mo T3 hra hcut K4 hkp hgo hgb hg4 hadb hza
              go_wp2
              go_roundw
              case rel => exact ⟨i + 1, d + q, v3, ⟨s1.wait, s1.shut, s.out ++ s1.out⟩, hfin.out.2.2, by go_num, hfin.out.1, hfin.out.2.1, SMq.out, T4, hvc, M4, R4, hza4, hkp4⟩
              case measure => simp [intOf, lenV]; omega
            · have hqr : q ≤ rem := by omega
              have hfin := hidden (FIN.out q hqr (.inr hq))
              have hqc : q ≤ c6 := by omega
              have hqc' : (q : Int) ≤ (c6 : Int) := by omega
              have hqr' : (q : Int) ≤ (rem : Int) := by omega
              clear FIN
              subst hq
              go_wp2_with fail
              have hpq := hra.take q hqr
              rw [← List.map_take] at hpq
              have SMq := hidden (SM.out q)
              have DD : Hid ((TT.drop d).drop q = TT.drop (d + q)) := by show _ = _; rw [List.drop_drop]
              have hpl : ((TT.drop d).take q).length ≤ 2000000000000 := by have := hTd.out; simp; omega
              have hpl2 := (smRun_le ((TT.drop d).take q) ⟨s.wait, s.shut, []⟩).2
              simp only [List.length_nil] at hpl2
              have hpl3 : (smRun ⟨s.wait, s.shut, []⟩ ((TT.drop d).take q)).out.length ≤ 480 := by have := hTd.out; simp at hpl2; omega
              clear SM hpl2
              refine (sput_eq _ rfl hst hpq (Nat.le_refl _) OKs.out hpl).mono ?_
              generalize smRun ⟨s.wait, s.shut, []⟩ ((TT.drop d).take q) = s1 at *
              rintro e w3 ⟨v3, vo, rfl, T3, Mo, K3, F3⟩
              replace hgt := hgt.put K3 F3
              replace hra := hra.put K3 F3
              have z3 := K3.size
              have zL := hkp.size
              replace hkp := hkp.then K3 (fun j hj h => h.elim id (fun h => absurd (hvc.out j h) (by omega)))
              replace hvc : Hid (∀ j, v3.ownBlock = some j → wL.heap.size ≤ j) := fun j h => by
                rcases F3 j h with h1 | h1
                · exact hvc.out j h1
                · omega
              clear K3 F3 hst hpq
              have HFL := hidden T3.footlt
              obtain ⟨ao, co, rfl, hco⟩ := Mo.len
              obtain ⟨at', ct, rfl, hct⟩ := hgt.len
              obtain ⟨ad, had⟩ : ∃ ad, (if c6 = q then some (⟨b6, o6, none⟩ : Addr) else some ⟨b6, o6 + q, none⟩) = ad := ⟨_, rfl⟩
              have hcut := hra.cut q hqr
              rw [had, ← List.map_drop, DD.out, Nat.sub_self] at hcut
              have hadb : Hid (∀ j n c, (Value.slice ad n c).ownBlock = some j → j = b6) := fun j n c h => by
                rw [← had] at h
                split at h
                · exact (Option.some.inj h).symm
                · exact (Option.some.inj h).symm
              go_wp2_with (at_builtin; refine wpList_appM rfl (.tmp 76) (.tmp 81) 39 rfl 30 40 (Ft w.heap.size v3) Try.underlying39 info_msg (by decide) rfl rfl hgt Mo zL (by omega) (fun h => by have := HFL.out _ h; omega) (by unfold maxLen; omega) (by omega) ?_)
              intro v4 w4 M4 hg4
              have K4 : Kp (fun j => (Value.slice at' s.out.length ct).ownBlock = some j) w3 w4 := (Kp.refl _ w3).grown hg4 (fun j _ h => h)
              have hgo : Off (Ft w.heap.size v3) (.slice at' s.out.length ct) := by obtain ⟨us, -, -, h, -⟩ := hgt; exact h
              have hgb : Hid (∀ j, (Value.slice at' s.out.length ct).ownBlock = some j → wL.heap.size ≤ j) := fun j h => by obtain ⟨us, -, h2, -⟩ := hgt; exact (owns_lt h2 h).1
              have T4 := T3.kp K4 (fun h => hgo _ h (.inl rfl)) (fun j h1 h2 => hgo j h2 (.inr h1))
              have R4 : RowO (Ft w.heap.size v3) w4 (.slice ad 0 (c6 - q)) ((TT.drop (d + q)).map bV) :=
                ⟨hcut.1.kp K4 (fun j h1 h2 => by have := hgb.out j h2; have := hza.out j (by rw [hadb.out j _ _ h1]; rfl); omega), fun j h => ⟨(hcut.2 j h).1, Nat.lt_of_lt_of_le (hcut.2 j h).2 K4.size⟩⟩
              have hkp4 := hkp.then K4 (fun j hj h => absurd (hgb.out j h) (by omega))
              have hza4 : Hid (∀ j, (Value.slice ad 0 (c6 - q)).ownBlock = some j → j < wL.heap.size) := fun j h => hza.out j (by rw [hadb.out j _ _ h]; rfl)
              obtain ⟨a4, c4, rfl, -⟩ := M4.len
              clear hgt Mo T3 hra hcut K4 hkp hgo hgb hg4 hadb hza
              go_wp2
              go_roundw
              case rel => exact ⟨i + 1, d + q, v3, ⟨s1.wait, s1.shut, s.out ++ s1.out⟩, hfin.out.2.2, by go_num, hfin.out.1, hfin.out.2.1, SMq.out, T4, hvc, M4, R4, hza4, hkp4⟩
              case measure => simp [intOf, lenV]; omega
          · have hdT : d = TT.length := by omega
            have hs : s = ⟨[], false, WK⟩ := by
              have := HS.out
              rw [hdT, List.take_length, RNk.out] at this
              exact this.symm
            subst hs
            simp only at *
            have z0 : TT.length - d = 0 := by omega
            rw [z0] at hra
            obtain ⟨a7, c7, e7, hc7⟩ := HW.out.len
            subst e7
            replace HW := hidden (HW.out.off (N' := fun j => j = w.heap.size) (fun j _ h => .inl h))
            have MW := HW.out.kp hkp (fun j h => h)
            have zL := hkp.size
            have DF := DL.trans (hkp.below w.heap.size (by omega) (fun j h => by omega))
            obtain ⟨a10, c10, e10, -⟩ := hgt.len
            subst e10
            obtain ⟨avc, cvc, evc⟩ := hst.slice
            subst evc
            simp only [List.length_nil] at hst
            obtain ⟨x1, x2, ex, hg⟩ := hgt.at
            simp only [Value.slice.injEq] at ex
            obtain ⟨rfl, -, rfl⟩ := ex
            obtain ⟨y1, y2, ey, hw7⟩ := MW.at
            simp only [Value.slice.injEq] at ey
            obtain ⟨rfl, -, rfl⟩ := ey
            have HG := hidden hg
            have HW7 := hidden hw7
            clear hg hw7 hgt MW HW hra hkp hza HS hvc OKs HNC HN
            have hlw : WK.length = k := LLk.out
            have hlw' : Hid (WK.length ≤ 1000000) := by show _ ≤ _; omega
            clear hlw
            have HJ : Hid (∀ j, j < WK.length → ∃ m, WK[j]? = some m) := fun j h => ⟨WK[j], by simp⟩
            generalize WK.length = lw at *
            go_wp2_with fail
            refine (closed_any _ _ _ _ hst.blk).mono ?_
            rintro e wx ⟨rfl, rfl⟩
            go_wp2_with fail
            refine (len_any _ _ _ _ _ _ hst.blk).mono ?_
            rintro e wx ⟨rfl, rfl⟩
            obtain ⟨wF, hwF⟩ : ∃ wF, wF = wr := ⟨_, rfl⟩
            subst hwF
            go_wp2
            go_loopw [102, 13] (fun z _ wr => ∃ j n : Nat, j ≤ lw ∧ z = .int .i64 (j : Int) ∧ wr = wF.drewN n) (fun i _ _ => lw - (intOf i).toNat)
            case atStart => exact ⟨0, 0, Nat.zero_le _, rfl, rfl⟩
            case round =>
              obtain ⟨j, n, hj, rfl, rfl⟩ := hrel
              have hlw2 := hlw'.out
              by_cases hjl : j < lw
              · have hjl' : (j : Int) < (lw : Int) := by omega
                obtain ⟨m, hm⟩ := HJ.out j hjl
                obtain ⟨bG, uG, rfl, g0, g1, g2, gr⟩ := HG.out j m hm
                obtain ⟨bW, uW, rfl, y0, y1, y2, yr⟩ := HW7.out j m hm
                have CG := fun x => conv_row (P := Try.prog) (gr.drewN x) 27 9 5 Try.underlying27 Try.underlying5 Try.underlying9
                have CW := fun x => conv_row (P := Try.prog) (yr.drewN x) 27 9 5 Try.underlying27 Try.underlying5 Try.underlying9
                obtain ⟨aG, cG, rfl, -⟩ := id gr
                obtain ⟨aW, cW, rfl, -⟩ := id yr
                rw [Nat.mul_comm 3 j] at g0 g1 g2 y0 y1 y2
                simp only [List.length_map] at g2 y2 CG CW
                clear gr yr hm
                go_wp2
                go_quiet (fail)
                go_wp2
                go_roundw
                case rel => exact ⟨j + 1, n + nq, by omega, by go_num, rfl⟩
                case measure => simp [intOf]; omega
              · have : j = lw := by omega
                subst this
                have hjl' : ¬ (j : Int) < (j : Int) := by omega
                go_wp2_with fail
                refine (known_any _).mono ?_
                rintro e wz ⟨rfl, Ez⟩
                have Dz := DF.trans ((below_then (below_drewn0 _ wF n) Ez).mono DF.size)
                go_wp2
                go_ret
                exact ⟨rfl, Dz⟩

end Go.Proofs.Ytejcigeccmfeeaa
