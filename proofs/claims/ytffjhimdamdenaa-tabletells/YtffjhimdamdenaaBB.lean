/- Contracts of table's small functions. -/
import Derived.Test.YtffjhimdamdenaaBA
namespace Go.Proofs.Ytffjhimdamdenaa
open Go.RowKit

theorem tin_any (n m : Int) (w : World) :
    Calls Try.prog 30 #[.int .i64 n, .int .i64 m] w fun e w' => e = .returned (.bool (inB2 n m)) ∧ Below w.heap.size w w' := by
  unfold inB2
  by_cases h1 : 1 ≤ n
  · have d1 : decide (1 ≤ n) = true := by simpa using h1
    go_enter Try.func30, Try.ntmps30
    go_wp2
    go_ret
    exact ⟨by simp [h1], Below.refl _ _⟩
  · have d1 : decide (1 ≤ n) = false := by simpa using h1
    go_enter Try.func30, Try.ntmps30
    go_wp2
    go_ret
    exact ⟨by simp, Below.refl _ _⟩

abbrev boxS (p q : Int) : Obj := .cells #[.int .i64 p, .int .i64 q] 48
theorem slsp (w : World) (p q a b : Int) : Bx ((w.alloc (boxS p q)).alloc (.cells #[.int .i64 a, .int .i64 b] 79)) w.heap.size 48 p q ∧ Bx ((w.alloc (boxS p q)).alloc (.cells #[.int .i64 a, .int .i64 b] 79)) (w.heap.size + 1) 79 a b ∧ Below w.heap.size w ((w.alloc (boxS p q)).alloc (.cells #[.int .i64 a, .int .i64 b] 79)) := by
  refine ⟨(Bx.new w _ p q).alloc _, ?_, ((Below.refl w.heap.size w).alloc (Nat.le_refl _) _).alloc (by simp) _⟩
  have := Bx.new (w.alloc (boxS p q)) 79 a b
  simpa using this

theorem ticks_any (p q : Int) (w : World) :
    Calls Try.prog 45 #[spV p q] w fun e w' => e = .returned (spV p q) ∧ Below w.heap.size w w' := by
  have T := hidden (slsp w p q p q)
  obtain ⟨b1, b2, -⟩ := slsp w p q 0 0
  obtain ⟨c0, c1⟩ := b1.cells2
  obtain ⟨q0, q1, f0, f1⟩ := b2.cells
  go_enter Try.func45, Try.ntmps45
  go_wp2
  obtain ⟨-, z, BB⟩ := T.out
  clear q0 q1 f0 f1 b1 b2 c0 c1
  obtain ⟨q0, q1⟩ := z.cells2
  refine bodyPost_ret (v := _) (by simp [results, Try.results45, go_sem, q0, q1]; with_reducible rfl) rfl ?_
  exact ⟨rfl, BB⟩

/-- what a step of a drawing region keeps: standing memory, and that a new box of a span is one -/
def TrS (N : Nat) (w w' : World) : Prop := (N ≤ w.heap.size → Below N w w') ∧ w.heap.size ≤ w'.heap.size ∧ ∀ b, N ≤ b → (∃ x y, Bx w b 79 x y) → ∃ x y, Bx w' b 79 x y
theorem TrS.refl {N : Nat} (w : World) : TrS N w w := ⟨fun _ => Below.refl _ _, Nat.le_refl _, fun _ _ h => h⟩
theorem TrS.trans {N : Nat} (a b c : World) (h : TrS N a b) (k : TrS N b c) : TrS N a c := ⟨fun hn => (h.1 hn).trans (k.1 (Nat.le_trans hn h.2.1)), Nat.le_trans h.2.1 k.2.1, fun g hg hx => k.2.2 g hg (h.2.2 g hg hx)⟩
theorem TrS.ext {N : Nat} {w w' : World} (h : Below w.heap.size w w') : TrS N w w' := ⟨fun hn => h.mono hn, h.size, fun _ _ ⟨x, y, hx⟩ => ⟨x, y, hx.ext h⟩⟩
def PsM (N : Nat) (p q c d ma mn : Int) (me : Bool) (i : Nat) (v : Value) (w : World) : Prop :=
  match i with
  | 1 => v = spV p q
  | 3 => v = spV c d
  | 4 => v = .tuple #[spV ma mn, .bool me]
  | 5 => v = .tuple #[spV ma mn, .bool me]
  | 6 => v = spV ma mn
  | 7 => v = .bool me
  | 8 => ∃ b, v = .pointer (some ⟨b, 0, none⟩) ∧ N ≤ b ∧ ∃ x y, Bx w b 79 x y
  | _ => True
theorem PsM.tr {N : Nat} {p q c d ma mn : Int} {me : Bool} (i : Nat) (v : Value) (w w' : World) (h : PsM N p q c d ma mn me i v w) (k : TrS N w w') : PsM N p q c d ma mn me i v w' := by
  unfold PsM at h ⊢
  split at h
  all_goals first | exact h | (obtain ⟨b, e, hb, hX⟩ := h; exact ⟨b, e, hb, k.2.2 b hb hX⟩)

set_option maxHeartbeats 4000000 in
theorem meetsOne_any (p q : Int) (vl : Value) (l : SL) (w : World) (hl : Sts w vl l) (hq : i64 q) (ho : OkL l) :
    Calls Try.prog 37 #[spV p q, vl] w fun e w' => e = .returned (.bool (l.any (mE (p, q)))) ∧ Below w.heap.size w w' := by
  have HL := hidden hl
  obtain ⟨a, cap, rfl, -⟩ := id hl
  obtain ⟨-, hc, hm, -⟩ := hl.at
  unfold maxLen at hm
  have OL := hidden ho
  have HQ := hidden hq
  obtain ⟨Z, hZ⟩ : ∃ Z, l.any (mE (p, q)) = Z := ⟨_, rfl⟩
  rw [hZ]
  have HZ := hidden hZ
  have b0 := Bx.new w 48 p q
  have B0 := (Below.refl w.heap.size w).alloc (Nat.le_refl _) (boxS p q)
  clear hl ho hq hZ
  go_enter Try.func37, Try.ntmps37
  go_wp2
  go_loopw [11] (fun i wr => ∃ k : Nat, k ≤ l.length ∧ i = .int .i64 k ∧ Hid ((l.take k).any (mE (p, q)) = false) ∧ Bx wr w.heap.size 48 p q ∧ Below w.heap.size w wr) (fun i _ => l.length - (intOf i).toNat)
  case atStart => exact ⟨0, Nat.zero_le _, rfl, hidden rfl, b0, B0⟩
  case round =>
    clear b0 B0
    obtain ⟨k, hk, rfl, HE, x1, hb⟩ := hrel
    by_cases hlt : k < l.length
    · obtain ⟨⟨c, d⟩, hx⟩ := getx hlt
      obtain ⟨b, off, rfl, c0, c1⟩ := (HL.out.ext hb).st hx
      have hlt' : (k : Int) < (l.length : Int) := by omega
      have HS := hidden (any_snoc hx (mE (p, q)))
      have HT := hidden (any_hit hx (mE (p, q)))
      have M := hidden (fun w => meet_any p q c d w HQ.out (OL.out.get hx).2)
      have E : mE (p, q) (c, d) = meetE p q c d := rfl
      rw [E] at HS HT
      clear E
      generalize meetA p q c d = ma at *
      generalize meetN p q c d = mn at *
      generalize meetE p q c d = me at *
      have x2 := (Bx.new wr 48 c d).drew
      replace x1 := (x1.alloc (boxS c d)).drew
      replace hb := (hb.alloc hb.size (boxS c d)).drew
      have xx := Ext.refl (wr.alloc (boxS c d)).drew
      go_wp2
      refine c_begin 11 rfl (by kernel_rfl) ?_
      clear c0 c1
      generalize wr.heap.size = g9 at *
      generalize (wr.alloc (boxS c d)).drew = w4 at *
      have hgw : w.heap.size < w4.heap.size := x1.lt
      refine c_R (fun w' => Ext w4 w') xx trivial 0 rfl (fun w' hw' => by obtain ⟨q0, q1⟩ := (x1.ext hw').cells2; go_simp; with_reducible rfl) ?_
      refine c_R (fun w' => Ext w4 w') xx ⟨xx, trivial⟩ 2 rfl (fun w' hw' => by obtain ⟨q0, q1⟩ := (x2.ext hw').cells2; go_simp; with_reducible rfl) ?_
      refine c_phaseT (n := 1) [1, 3, 4, 5, 6, 7, 8, 9] [(some 17, 1), (some 19, 3), (some 20, 4), (some 15, 5), (some 21, 6), (some 22, 7), (some 7, 8), (none, 9)] (TrS w4.heap.size) TrS.refl TrS.trans (PsM w4.heap.size p q c d ma mn me) (fun _ _ => True) (fun _ _ _ => trivial) (by kernel_rfl) (by kernel_rfl) ?mono ?hC ?hops ?hend
      case mono => exact PsM.tr
      case hC => exact fun w' hx => ⟨hx.1 (Nat.le_refl _), hx.1 (Nat.le_refl _), trivial⟩
      case hops =>
        intro i hi vs w3 hx hd
        have z3 := hx.2.1
        clear hx
        simp only [List.mem_cons, List.not_mem_nil, or_false] at hi
        rcases hi with rfl | rfl | rfl | rfl | rfl | rfl | rfl | rfl
        · refine phase_opT 1 [] (by kernel_rfl) rfl (fun K hK => ?_)
          simp only [putsD] at hK ⊢
          go_wp2_with fail
          refine (ticks_any p q _).mono ?_
          rintro e y2 ⟨rfl, D⟩
          go_simp
          exact hK.out _ _ (TrS.ext D) rfl (fun _ _ _ _ _ => trivial)
        · have e1 : vs 1 = spV p q := hd 1 (by simp) (by kernel_rfl)
          refine phase_opT 3 [(some 17, 1)] (by kernel_rfl) rfl (fun K hK => ?_)
          simp only [putsD, e1] at hK ⊢
          try simp only [Act.put, List.setIfInBounds_toArray, List.set_cons_zero, List.set_cons_succ]
          go_wp2_with fail
          refine (ticks_any c d _).mono ?_
          rintro e y2 ⟨rfl, D⟩
          go_simp
          exact hK.out _ _ (TrS.ext D) rfl (fun _ _ _ _ _ => trivial)
        · have e1 : vs 1 = spV p q := hd 1 (by simp) (by kernel_rfl)
          have e3 : vs 3 = spV c d := hd 3 (by simp) (by kernel_rfl)
          refine phase_opT 4 [(some 17, 1), (some 19, 3)] (by kernel_rfl) rfl (fun K hK => ?_)
          simp only [putsD, e1, e3] at hK ⊢
          try simp only [Act.put, List.setIfInBounds_toArray, List.set_cons_zero, List.set_cons_succ]
          go_wp2_with fail
          refine (M.out _).mono ?_
          rintro e y2 ⟨rfl, D⟩
          go_simp
          exact hK.out _ _ (TrS.ext D) rfl (fun _ _ _ _ _ => trivial)
        · have e4 : vs 4 = .tuple #[spV ma mn, .bool me] := hd 4 (by simp) (by kernel_rfl)
          refine phase_opT 5 [(some 20, 4)] (by kernel_rfl) rfl (fun K hK => ?_)
          simp only [putsD, e4] at hK ⊢
          try simp only [Act.put, List.setIfInBounds_toArray, List.set_cons_zero, List.set_cons_succ]
          go_simp
          exact hK.out _ _ (TrS.refl _) rfl (fun _ _ _ _ _ => trivial)
        · have e5 : vs 5 = .tuple #[spV ma mn, .bool me] := hd 5 (by simp) (by kernel_rfl)
          refine phase_opT 6 [(some 15, 5)] (by kernel_rfl) rfl (fun K hK => ?_)
          simp only [putsD, e5] at hK ⊢
          try simp only [Act.put, List.setIfInBounds_toArray, List.set_cons_zero, List.set_cons_succ]
          go_simp
          exact hK.out _ _ (TrS.refl _) rfl (fun _ _ _ _ _ => trivial)
        · have e5 : vs 5 = .tuple #[spV ma mn, .bool me] := hd 5 (by simp) (by kernel_rfl)
          refine phase_opT 7 [(some 15, 5)] (by kernel_rfl) rfl (fun K hK => ?_)
          simp only [putsD, e5] at hK ⊢
          try simp only [Act.put, List.setIfInBounds_toArray, List.set_cons_zero, List.set_cons_succ]
          go_simp
          exact hK.out _ _ (TrS.refl _) rfl (fun _ _ _ _ _ => trivial)
        · refine phase_opT 8 [] (by kernel_rfl) rfl (fun K hK => ?_)
          simp only [putsD] at hK ⊢
          go_simp
          exact hK.out _ _ (TrS.ext ((Below.refl _ _).alloc (Nat.le_refl _) _)) ⟨_, rfl, z3, 0, 0, Bx.new w3 _ 0 0⟩ (fun _ _ _ _ _ => trivial)
        · have e6 : vs 6 = spV ma mn := hd 6 (by simp) (by kernel_rfl)
          obtain ⟨g0, e8, l0, zx, zy, z0⟩ : PsM w4.heap.size p q c d ma mn me 8 (vs 8) w3 := hd 8 (by simp) (by kernel_rfl)
          have e1 : vs 1 = spV p q := hd 1 (by simp) (by kernel_rfl)
          have e3 : vs 3 = spV c d := hd 3 (by simp) (by kernel_rfl)
          have e4 : vs 4 = .tuple #[spV ma mn, .bool me] := hd 4 (by simp) (by kernel_rfl)
          have e5 : vs 5 = .tuple #[spV ma mn, .bool me] := hd 5 (by simp) (by kernel_rfl)
          refine phase_opT 9 [(some 17, 1), (some 19, 3), (some 20, 4), (some 15, 5), (some 21, 6), (some 7, 8)] (by kernel_rfl) rfl (fun K hK => ?_)
          simp only [putsD, e1, e3, e4, e5, e6, e8] at hK ⊢
          try simp only [Act.put, List.setIfInBounds_toArray, List.set_cons_zero, List.set_cons_succ]
          obtain ⟨y0, y1, f0, f1⟩ := z0.cells
          go_simp
          refine hK.out undef _ ?_ trivial (fun _ _ _ _ _ => trivial)
          refine ⟨fun hn => ((Below.refl _ _).setCell (p := ⟨g0, 0, none⟩) l0 _).setCell (p := ⟨g0, 1, none⟩) l0 _, by simp, fun b hb ⟨x, y, hX⟩ => ?_⟩
          by_cases eb : g0 = b
          · subst eb
            exact ⟨ma, mn, Blk.set (Blk.set hX 0 _) 1 _⟩
          · exact ⟨x, y, Blk.set_neW (Blk.set_neW hX eb 0 _) eb 1 _⟩
      case hend =>
        intro vs w5 BZ hP hR
        have e1 : vs 1 = spV p q := hP 1 (by simp)
        have e3 : vs 3 = spV c d := hP 3 (by simp)
        have e4 : vs 4 = .tuple #[spV ma mn, .bool me] := hP 4 (by simp)
        have e5 : vs 5 = .tuple #[spV ma mn, .bool me] := hP 5 (by simp)
        have e6 : vs 6 = spV ma mn := hP 6 (by simp)
        have e7 : vs 7 = .bool me := hP 7 (by simp)
        obtain ⟨g0, e8, -, -⟩ : PsM w4.heap.size p q c d ma mn me 8 (vs 8) w5 := hP 8 (by simp)
        have BZ := BZ.1 (Nat.le_refl _)
        simp only [putsD, e1, e3, e4, e5, e6, e7, e8]
        clear hP hR e1 e3 e4 e5 e6 e7 e8
        generalize vs 9 = v9 at *
        clear vs
        try simp only [Act.put, List.setIfInBounds_toArray, List.set_cons_zero, List.set_cons_succ]
        have X1 := x1.ext BZ
        have HB := below_then hb BZ
        refine c_P ⟨BZ, BZ, trivial⟩ 10 rfl ?_
        refine c_done (by kernel_rfl) ?_
        cases me
        · have E2 : Hid ((l.take (k + 1)).any (mE (p, q)) = false) := by
            show _ = _
            rw [HS.out, HE.out]; rfl
          go_wp2
          go_roundw
          case rel => exact ⟨k + 1, by omega, by go_num, E2, X1, HB⟩
          case measure => simp [intOf]; omega
        · have E2 : Z = true := by rw [← HZ.out]; exact HT.out rfl
          subst E2
          go_wp2
          go_ret
          exact ⟨rfl, HB⟩
    · have e : l.take k = l := List.take_of_length_le (by omega)
      rw [e] at HE
      have E2 : Z = false := by rw [← HZ.out]; exact HE.out
      subst E2
      go_wp2
      go_ret
      exact ⟨rfl, hb⟩

theorem all_snoc {α : Type} {l : List α} {i : Nat} {x : α} (h : l[i]? = some x) (q : α → Bool) : (l.take (i + 1)).all q = ((l.take i).all q && q x) := by
  rw [take_snoc h, List.all_append]; simp
theorem all_miss {α : Type} {l : List α} {i : Nat} {x : α} (h : l[i]? = some x) (q : α → Bool) (hq : q x = false) : l.all q = false := by
  rw [List.all_eq_false]
  exact ⟨x, List.mem_of_getElem? h, by simp [hq]⟩

set_option maxHeartbeats 4000000 in
theorem slotsRight_any (vl : Value) (l : SL) (fr : Int) (w : World) (hl : Sts w vl l) (hf : i64 fr) (ho : OkL l) :
    Calls Try.prog 35 #[vl, .int .i64 fr] w fun e w' => e = .returned (.bool (slB l fr)) ∧ Below w.heap.size w w' := by
  have HL := hidden hl
  obtain ⟨a, cap, rfl, -⟩ := id hl
  obtain ⟨-, hc, hm, -⟩ := hl.at
  unfold maxLen at hm
  have OL := hidden ho
  have HF := hidden hf
  obtain ⟨Z, hZ⟩ : ∃ Z, slB l fr = Z := ⟨_, rfl⟩
  rw [hZ]
  obtain ⟨q, hq⟩ : ∃ q : Int × Int → Bool, q = fun s => decide (72 ≤ s.2) && okR s.1 s.2 fr := ⟨_, rfl⟩
  have HZ : Hid (l.all q = Z) := by rw [hq]; exact hZ
  have Hq : Hid (∀ c d, q (c, d) = (decide (72 ≤ d) && okR c d fr)) := fun c d => by rw [hq]
  clear hl ho hf hZ hq
  go_enter Try.func35, Try.ntmps35
  go_wp2
  go_loopw [9] (fun i wr => ∃ k : Nat, k ≤ l.length ∧ i = .int .i64 k ∧ Hid ((l.take k).all q = true) ∧ Below w.heap.size w wr) (fun i _ => l.length - (intOf i).toNat)
  case atStart => exact ⟨0, Nat.zero_le _, rfl, hidden rfl, Below.refl _ _⟩
  case round =>
    obtain ⟨k, hk, rfl, HE, hb⟩ := hrel
    by_cases hlt : k < l.length
    · obtain ⟨⟨c, d⟩, hx⟩ := getx hlt
      obtain ⟨b, off, rfl, c0, c1⟩ := (HL.out.ext hb).st hx
      have hlt' : (k : Int) < (l.length : Int) := by omega
      have HS := hidden (all_snoc hx q)
      have HT := hidden (all_miss hx q)
      rw [Hq.out] at HS HT
      have R := hidden (fun w => right_any c d fr w (OL.out.get hx).2 HF.out)
      generalize okR c d fr = ok at *
      have x2 := Bx.new wr 48 c d
      have hb0 := hb.alloc hb.size (boxS c d)
      obtain ⟨q0, q1⟩ := x2.cells2
      by_cases h72 : 72 ≤ d
      · have d1 : decide (d < 72) = false := by simp; omega
        rw [decide_eq_true h72, Bool.true_and] at HS HT
        go_wp2_with fail
        refine (ticks_any c d _).mono ?_
        rintro e w1 ⟨rfl, B1⟩
        replace hb0 := below_then hb0 B1
        go_wp2_with fail
        refine (R.out _).mono ?_
        rintro e w2 ⟨rfl, B2⟩
        replace hb0 := below_then hb0 B2
        clear q0 q1 c0 c1
        cases ok
        · have E2 : Z = false := by rw [← HZ.out]; exact HT.out rfl
          subst E2
          go_wp2
          go_ret
          exact ⟨rfl, hb0⟩
        · have E2 : Hid ((l.take (k + 1)).all q = true) := by
            show _ = _
            rw [HS.out, HE.out]; rfl
          go_wp2
          go_roundw
          case rel => exact ⟨k + 1, by omega, by go_num, E2, hb0⟩
          case measure => simp [intOf]; omega
      · have d1 : decide (d < 72) = true := by simp; omega
        rw [decide_eq_false h72, Bool.false_and] at HT
        have E2 : Z = false := by rw [← HZ.out]; exact HT.out rfl
        subst E2
        go_wp2
        go_ret
        exact ⟨rfl, hb0⟩
    · have e : l.take k = l := List.take_of_length_le (by omega)
      rw [e] at HE
      have E2 : Z = true := by rw [← HZ.out]; exact HE.out
      subst E2
      go_wp2
      go_ret
      exact ⟨rfl, hb⟩

set_option maxHeartbeats 4000000 in
theorem windowsRight_any (vl : Value) (l : WL) (w : World) (hl : Wns w vl l) (ho : OkW l) (hn : l.length ≤ 1000) :
    Calls Try.prog 34 #[vl] w fun e w' => e = .returned (.bool (wsB l)) ∧ Below w.heap.size w w' := by
  have HL := hidden hl
  obtain ⟨a, cap, rfl, -⟩ := id hl
  obtain ⟨-, hc, hm, -⟩ := hl.at
  unfold maxLen at hm
  have OL := hidden ho
  have OW := hidden (fun w' (h : Wns w' (.slice a l.length cap) l) => own_any _ l w' h ho (by omega))
  obtain ⟨Z, hZ⟩ : ∃ Z, wsB l = Z := ⟨_, rfl⟩
  rw [hZ]
  have HZ : Hid ((l.all wR && ownB l) = Z) := hZ
  generalize ownB l = ow at *
  clear hl ho hZ hn
  go_enter Try.func34, Try.ntmps34
  go_wp2
  go_loopw [7] (fun i wr => ∃ k : Nat, k ≤ l.length ∧ i = .int .i64 k ∧ Hid ((l.take k).all wR = true) ∧ Below w.heap.size w wr) (fun i _ => l.length - (intOf i).toNat)
  case atStart => exact ⟨0, Nat.zero_le _, rfl, hidden rfl, Below.refl _ _⟩
  case round =>
    obtain ⟨k, hk, rfl, HE, hb⟩ := hrel
    by_cases hlt : k < l.length
    · obtain ⟨⟨s, v, p, n⟩, hx⟩ := getx hlt
      obtain ⟨b, off, rfl, c0, c1, c2, c3⟩ := (HL.out.ext hb).wn hx
      have hlt' : (k : Int) < (l.length : Int) := by omega
      have HS := hidden (all_snoc hx wR)
      have HT := hidden (all_miss hx wR)
      have R := hidden (fun w => wright_any s v p n w (OL.out.at hx).2.2.2)
      generalize wR (s, v, p, n) = ok at *
      have x2 := BxW.new wr s v p n
      have hb0 := hb.alloc hb.size (boxW s v p n)
      obtain ⟨q0, q1, q2, q3⟩ := x2.cells
      go_wp2_with fail
      refine (R.out _).mono ?_
      rintro e w1 ⟨rfl, B1⟩
      replace hb0 := below_then hb0 B1
      clear q0 q1 q2 q3 c0 c1 c2 c3
      cases ok
      · have E2 : Z = false := by rw [← HZ.out, HT.out rfl]; rfl
        subst E2
        go_wp2
        go_ret
        exact ⟨rfl, hb0⟩
      · have E2 : Hid ((l.take (k + 1)).all wR = true) := by
          show _ = _
          rw [HS.out, HE.out]; rfl
        go_wp2
        go_roundw
        case rel => exact ⟨k + 1, by omega, by go_num, E2, hb0⟩
        case measure => simp [intOf]; omega
    · have e : l.take k = l := List.take_of_length_le (by omega)
      rw [e] at HE
      have E2 : Z = ow := by rw [← HZ.out, HE.out]; rfl
      subst E2
      go_wp2_with fail
      refine (OW.out _ (HL.out.ext hb)).mono ?_
      rintro e w1 ⟨rfl, B1⟩
      replace hb := below_then hb B1
      go_wp2
      go_ret
      exact ⟨rfl, hb⟩

/-- a box with a tenant -/
abbrev boxT (x : Tn) (vw vs : Value) : Obj := .cells #[.int .i64 x.u, .int .u32 x.f, .int .i64 x.q, vw, vs] 43
def BxT (w : World) (g : Nat) (x : Tn) (vw vs : Value) : Prop := Blk w g 43 (tnC x vw vs)
theorem BxT.cells {w : World} {g : Nat} {x : Tn} {vw vs : Value} (h : BxT w g x vw vs) : w.cell? ⟨g, 0, none⟩ = some (.int .i64 x.u) ∧ w.cell? ⟨g, 1, none⟩ = some (.int .u32 x.f) ∧ w.cell? ⟨g, 2, none⟩ = some (.int .i64 x.q) ∧ w.cell? ⟨g, 3, none⟩ = some vw ∧ w.cell? ⟨g, 4, none⟩ = some vs := ⟨Blk.cell h 0, Blk.cell h 1, Blk.cell h 2, Blk.cell h 3, Blk.cell h 4⟩
theorem BxT.lt {w : World} {g : Nat} {x : Tn} {vw vs : Value} (h : BxT w g x vw vs) : g < w.heap.size := Blk.lt h
theorem BxT.new (w : World) (x : Tn) (vw vs : Value) : BxT (w.alloc (boxT x vw vs)) w.heap.size x vw vs := Blk.new w _ (tnC x vw vs)
theorem BxT.ext {w w' : World} {g : Nat} {x : Tn} {vw vs : Value} (h : BxT w g x vw vs) (hb : Below w.heap.size w w') : BxT w' g x vw vs := Blk.below h hb (Blk.lt h)
theorem BxT.alloc {w : World} {g : Nat} {x : Tn} {vw vs : Value} (h : BxT w g x vw vs) (o : Obj) : BxT (w.alloc o) g x vw vs := Blk.alloc h o
theorem BxT.drew {w : World} {g : Nat} {x : Tn} {vw vs : Value} (h : BxT w g x vw vs) : BxT w.drew g x vw vs := h

set_option maxHeartbeats 4000000 in
theorem alone_any (x : Tn) (vw vs : Value) (fr : Int) (w : World) (hw : Wns w vw x.ws) (hs : Sts w vs x.ss) (ho : OkT x) (hf : i64 fr) :
    Calls Try.prog 31 #[tnV x vw vs, .int .i64 fr] w fun e w' => e = .returned (.int .i64 (aloneE x fr)) ∧ Below w.heap.size w w' := by
  obtain ⟨aw, cw, rfl, -⟩ := id hw
  obtain ⟨as', cs, rfl, -⟩ := id hs
  obtain ⟨-, hcw, hmw, -⟩ := hw.at
  obtain ⟨-, hcs, hms, -⟩ := hs.at
  unfold maxLen at hmw hms
  have HW := hidden hw
  have HS := hidden hs
  have b0 := BxT.new w x (.slice aw x.ws.length cw) (.slice as' x.ss.length cs)
  have B0 := (Below.refl w.heap.size w).alloc (Nat.le_refl _) (boxT x (.slice aw x.ws.length cw) (.slice as' x.ss.length cs))
  have C1 := hidden (fun w' (h : Wns w' (.slice aw x.ws.length cw) x.ws) => windowsRight_any _ x.ws w' h ho.ws ho.wl)
  have C2 := hidden (fun w' (h : Sts w' (.slice as' x.ss.length cs) x.ss) => slotsRight_any _ x.ss fr w' h hf ho.ss)
  have D1 := hidden (fun w => tin_any x.u 247 w)
  have D2 := hidden (fun w => tin_any x.q 6 w)
  have D3 := hidden (fun w => tin_any x.ss.length 3 w)
  unfold aloneE
  generalize wsB x.ws = r4 at *
  generalize slB x.ss fr = r5 at *
  generalize inB2 x.u 247 = r1 at *
  generalize inB2 x.q 6 = r2 at *
  generalize inB2 x.ss.length 3 = r3 at *
  obtain ⟨xu, xf, xq, xw, xs⟩ := x
  simp only at *
  generalize xw.length = lw at *
  generalize xs.length = ls at *
  clear hw hs ho hf
  obtain ⟨c0, c1, c2, c3, c4⟩ := b0.cells
  go_enter Try.func31, Try.ntmps31
  go_wp2_with fail
  refine (D1.out _).mono ?_
  rintro e w1 ⟨rfl, B1⟩
  replace B0 := below_then B0 B1
  replace b0 := b0.ext B1
  clear c0 c1 c2 c3 c4
  obtain ⟨c0, c1, c2, c3, c4⟩ := b0.cells
  cases r1
  · go_wp2
    go_ret
    exact ⟨rfl, B0⟩
  go_wp2_with fail
  refine (D2.out _).mono ?_
  rintro e w2 ⟨rfl, B2⟩
  replace B0 := below_then B0 B2
  replace b0 := b0.ext B2
  clear c0 c1 c2 c3 c4
  obtain ⟨c0, c1, c2, c3, c4⟩ := b0.cells
  cases r2
  · go_wp2
    go_ret
    exact ⟨rfl, B0⟩
  by_cases h6 : 6 < lw
  · have d6 : decide ((6 : Int) < (lw : Int)) = true := by simp; omega
    go_wp2
    go_ret
    exact ⟨by simp, B0⟩
  have d6 : decide ((6 : Int) < (lw : Int)) = false := by simp; omega
  go_wp2_with fail
  refine (D3.out _).mono ?_
  rintro e w3 ⟨rfl, B3⟩
  replace B0 := below_then B0 B3
  replace b0 := b0.ext B3
  clear c0 c1 c2 c3 c4
  obtain ⟨c0, c1, c2, c3, c4⟩ := b0.cells
  cases r3
  · go_wp2
    go_ret
    exact ⟨by simp, B0⟩
  have BW := (Below.mono B0 (Nat.le_refl _))
  go_wp2_with fail
  refine (C1.out _ (HW.out.ext B0)).mono ?_
  rintro e w4 ⟨rfl, B4⟩
  replace B0 := below_then B0 B4
  replace b0 := b0.ext B4
  clear c0 c1 c2 c3 c4 BW
  obtain ⟨c0, c1, c2, c3, c4⟩ := b0.cells
  cases r4
  · go_wp2
    go_ret
    exact ⟨by simp, B0⟩
  go_wp2_with fail
  refine (C2.out _ (HS.out.ext B0)).mono ?_
  rintro e w5 ⟨rfl, B5⟩
  replace B0 := below_then B0 B5
  clear c0 c1 c2 c3 c4
  cases r5
  · go_wp2
    go_ret
    exact ⟨by simp, B0⟩
  go_wp2
  go_ret
  exact ⟨by simp, B0⟩

end Go.Proofs.Ytffjhimdamdenaa
