/- (*Tape).Request: a right request, whatever the tape. -/
import Derived.Deep.CutBlock
import Derived.Test.YtbajlhpmmmhkoaaJ32
namespace Go.Proofs.Ytbajlhpmmmhkoaa
open Go.RowKit
theorem owns_dev {w w' : World} {base g : Nat} {e : TypeId} {v : Value} {n : Nat} {xs : List Value} (h : w.ownsRow base e 1 v n xs) (hd : Dev w.heap.size g w w') (hg : g < base) : w'.ownsRow base e 1 v n xs := by
 refine h.kept (w' := w') (row := some g) ⟨hd.os, hd.tape, hd.output, hd.size, fun k hk hne => hd.block k hk (fun e => hne (by rw [e]))⟩ ?_
 rcases h.2 with ⟨rfl, -⟩ | ⟨g', cap, cur, rfl, hb, -⟩
 ·
  simp [Value.ownBlock]
 ·
  simp [Value.ownBlock]; omega
theorem Blk.grown {w w' : World} {k : Nat} {e : TypeId} {xs : List Value} {row : Option Nat} (h : Blk w k e xs) (hg : w.grownBy w' row) (hr : ∀ r, row = Option.some r → k < r) : Blk w' k e xs :=
 (hg.block k h.lt (fun e => by have := hr k e.symm; omega)).trans h
theorem owns_setCell {w : World} {base : Nat} {e : TypeId} {v u : Value} {n : Nat} {xs : List Value} (h : w.ownsRow base e 1 v n xs) (g o : Nat) (hg : g < base) : (w.setCell ⟨g, o, none⟩ u).ownsRow base e 1 v n xs := by
 refine h.kept (w' := w.setCell ⟨g, o, none⟩ u) (row := some g) ⟨rfl, rfl, rfl, by simp, fun k hk hne => ?_⟩ ?_
 ·
  simp only [World.setCell, Array.getElem?_modify]
  rw [if_neg (fun e => hne (by rw [e]))]
 ·
  rcases h.2 with ⟨rfl, -⟩ | ⟨g', cap, cur, rfl, hb, -⟩
  ·
   simp [Value.ownBlock]
  ·
   simp [Value.ownBlock]; omega
theorem sub_at (m : Int) (h1 : 0 ≤ m) (h2 : m < 8) : ∃ sv : Int, ([.int .i64 0, .int .i64 10, .int .i64 11, .int .i64 12, .int .i64 13, .int .i64 14, .int .i64 2, .int .i64 300] : List Value)[m.toNat]? = some (.int .i64 sv) ∧ 0 ≤ sv ∧ sv ≤ 300 := by
 rcases (show m = 0 ∨ m = 1 ∨ m = 2 ∨ m = 3 ∨ m = 4 ∨ m = 5 ∨ m = 6 ∨ m = 7 by omega) with rfl | rfl | rfl | rfl | rfl | rfl | rfl | rfl
 all_goals exact ⟨_, rfl, by decide, by decide⟩
theorem val_at (m : Int) (h1 : 0 ≤ m) (h2 : m < 4) : ∃ uv : Int, ([.int .u16 0, .int .u16 0, .int .u16 0, .int .u16 777] : List Value)[m.toNat]? = some (.int .u16 uv) ∧ 0 ≤ uv ∧ uv ≤ 777 := by
 rcases (show m = 0 ∨ m = 1 ∨ m = 2 ∨ m = 3 by omega) with rfl | rfl | rfl | rfl
 all_goals exact ⟨_, rfl, by decide, by decide⟩
theorem Tap.drew {B : Nat} {w : World} {g : Nat} {l : List Int} (h : Tap B w g l) : Tap B w.drew g l := h.below (Below.refl _ _).drew
set_option maxRecDepth 100000 in
set_option maxHeartbeats 20000000 in
theorem request_walk (B g : Nat) (l : List Int) (w : World) (hT : Tap B w g l) (hB : B ≤ w.heap.size) :
    Calls Try.prog 6 #[.pointer (some ⟨g, 0, none⟩)] w fun e w' => ∃ v', e = .returned v' ∧ ∃ q, IsRq w' v' q ∧ rightE q = 0 ∧ q.bits.length ≤ 30 ∧ (q.vals.length ≤ 30 ∧ q.cnt ≤ 30) ∧ NewQ B v' ∧ Dev B g w w' := by
  have hgB := hT.lt
  go_enter Try.func6, Try.ntmps6
  go_wp2_with (go_at_call 17; refine (functions_any _).mono ?_; rintro e w1 ⟨rfl, rfl⟩)
  have X0 := (Blk.new w 26 [.int .i64 0, .int .i64 0, .int .i64 0, .int .i64 0, .int .i64 0, .slice none 0 0, .slice none 0 0, .int .u16 0, .int .u16 0]).alloc (.cells #[.int .i64 1, .int .i64 2, .int .i64 3, .int .i64 4, .int .i64 5, .int .i64 6, .int .i64 8, .int .i64 15, .int .i64 16, .int .i64 17, .int .i64 22, .int .i64 23] 3)
  have XF := Blk.new_at (w.alloc (.cells #[.int .i64 0, .int .i64 0, .int .i64 0, .int .i64 0, .int .i64 0, .slice none 0 0, .slice none 0 0, .int .u16 0, .int .u16 0] 26)) 3 [.int .i64 1, .int .i64 2, .int .i64 3, .int .i64 4, .int .i64 5, .int .i64 6, .int .i64 8, .int .i64 15, .int .i64 16, .int .i64 17, .int .i64 22, .int .i64 23] (w.heap.size + 1) (by simp)
  have Bl := ((Below.refl B w).alloc hB (.cells #[.int .i64 0, .int .i64 0, .int .i64 0, .int .i64 0, .int .i64 0, .slice none 0 0, .slice none 0 0, .int .u16 0, .int .u16 0] 26)).alloc (by simp; omega) (.cells #[.int .i64 1, .int .i64 2, .int .i64 3, .int .i64 4, .int .i64 5, .int .i64 6, .int .i64 8, .int .i64 15, .int .i64 16, .int .i64 17, .int .i64 22, .int .i64 23] 3)
  refine (next_any B g l 12 _ (hT.below Bl) (by simp; omega) (by decide)).mono ?_
  rintro e w1 ⟨m, rfl, m1, m2, T1, S1, D1⟩
  simp at S1
  replace X0 := X0.dev D1 (by simp; omega) (by omega)
  replace XF := XF.dev D1 (by simp) (by omega)
  have D : Dev B g w w1 := (Dev.of_below Bl).trans (D1.mono (by simp; omega))
  clear D1 Bl hT
  have k0 := XF.cell 0
  have k1 := XF.cell 1
  have k2 := XF.cell 2
  have k3 := XF.cell 3
  have k4 := XF.cell 4
  have k5 := XF.cell 5
  have k6 := XF.cell 6
  have k7 := XF.cell 7
  have k8 := XF.cell 8
  have k9 := XF.cell 9
  have k10 := XF.cell 10
  have k11 := XF.cell 11
  simp at k0 k1 k2 k3 k4 k5 k6 k7 k8 k9 k10 k11
  clear XF
  rcases (show m = 0 ∨ m = 1 ∨ m = 2 ∨ m = 3 ∨ m = 4 ∨ m = 5 ∨ m = 6 ∨ m = 7 ∨ m = 8 ∨ m = 9 ∨ m = 10 ∨ m = 11 by omega) with rfl | rfl | rfl | rfl | rfl | rfl | rfl | rfl | rfl | rfl | rfl | rfl
  all_goals
    clear m1 m2
    go_wp2_with fail
    clear k0 k1 k2 k3 k4 k5 k6 k7 k8 k9 k10 k11
  · have Bl := (Below.refl B w1).alloc (by omega) (.cells #[.int .i64 1, .int .i64 0, .int .i64 0, .int .i64 0, .int .i64 0, .slice none 0 0, .slice none 0 0, .int .u16 0, .int .u16 0] 26)
    have X1 := Blk.new_at w1 26 [.int .i64 1, .int .i64 0, .int .i64 0, .int .i64 0, .int .i64 0, .slice none 0 0, .slice none 0 0, .int .u16 0, .int .u16 0] (w.heap.size + 1 + 1) S1.symm
    refine (next_any B g l 70 _ (T1.below Bl) (by simp; omega) (by decide)).mono ?_
    rintro e w2 ⟨ax, rfl, a1, a2, T2, S2, D2⟩
    simp at S2
    replace X0 := (X0.alloc _).dev D2 (by simp; omega) (by omega)
    replace X1 := X1.dev D2 (by simp; omega) (by omega)
    replace D := (D.alloc (by omega) _).trans (D2.mono (by simp; omega))
    clear D2 Bl T1
    have d0 := X0.cell 0
    have d1 := X0.cell 1
    have d2 := X0.cell 2
    have d3 := X0.cell 3
    have d4 := X0.cell 4
    have d5 := X0.cell 5
    have d6 := X0.cell 6
    have d7 := X0.cell 7
    have d8 := X0.cell 8
    simp at d0 d1 d2 d3 d4 d5 d6 d7 d8
    have fd := X0.frozen
    have gd := X0.lt
    have c0 := X1.cell 0
    have c1 := X1.cell 1
    have c2 := X1.cell 2
    have c3 := X1.cell 3
    have c4 := X1.cell 4
    have c5 := X1.cell 5
    have c6 := X1.cell 6
    have c7 := X1.cell 7
    have c8 := X1.cell 8
    simp at c0 c1 c2 c3 c4 c5 c6 c7 c8
    have fc := X1.frozen
    have gc := X1.lt
    go_wp2_with fail
    clear c0 d0 c1 d1 c2 d2 c3 d3 c4 d4 c5 d5 c6 d6 c7 d7 c8 d8 fc fd gc gd
    refine (next_any B g l 26 _ T2 (by omega) (by decide)).mono ?_
    rintro e w3 ⟨cx, rfl, cx1, cx2, T3, S3, D3⟩
    rw [S2] at S3
    replace X0 := X0.dev D3 (by omega) (by omega)
    replace X1 := X1.dev D3 (by omega) (by omega)
    replace D := D.trans (D3.mono (by omega))
    clear D3 T2
    have d0 := X0.cell 0
    have d1 := X0.cell 1
    have d2 := X0.cell 2
    have d3 := X0.cell 3
    have d4 := X0.cell 4
    have d5 := X0.cell 5
    have d6 := X0.cell 6
    have d7 := X0.cell 7
    have d8 := X0.cell 8
    simp at d0 d1 d2 d3 d4 d5 d6 d7 d8
    have fd := X0.frozen
    have gd := X0.lt
    have c0 := X1.cell 0
    have c1 := X1.cell 1
    have c2 := X1.cell 2
    have c3 := X1.cell 3
    have c4 := X1.cell 4
    have c5 := X1.cell 5
    have c6 := X1.cell 6
    have c7 := X1.cell 7
    have c8 := X1.cell 8
    simp at c0 c1 c2 c3 c4 c5 c6 c7 c8
    have fc := X1.frozen
    have gc := X1.lt
    go_wp2
    refine bodyPost_ret (v := _) (by simp [results, Try.results6, go_sem, d0, d1, d2, d3, d4, d5, d6, d7, d8]; with_reducible rfl) rfl ?_
    refine ⟨_, rfl, ⟨1, ax, cx, 0, 0, [], [], 0, 0⟩, ⟨_, _, rfl, Row.nil _, Row.nil _⟩, rightE_0 rfl (by simp [formP]) (by simp [numB]; omega) (by simp [listB]), by simp, ⟨by simp, by first | (simp; done) | (simp only; omega)⟩, ⟨_, _, _, _, _, _, _, _, _, rfl, NewV.none _ _ _, NewV.none _ _ _⟩, ?_⟩
    repeat' (refine Dev.setCell ?_ (by simp; omega) _)
    exact D
  · have Bl := (Below.refl B w1).alloc (by omega) (.cells #[.int .i64 2, .int .i64 0, .int .i64 0, .int .i64 0, .int .i64 0, .slice none 0 0, .slice none 0 0, .int .u16 0, .int .u16 0] 26)
    have X1 := Blk.new_at w1 26 [.int .i64 2, .int .i64 0, .int .i64 0, .int .i64 0, .int .i64 0, .slice none 0 0, .slice none 0 0, .int .u16 0, .int .u16 0] (w.heap.size + 1 + 1) S1.symm
    refine (next_any B g l 70 _ (T1.below Bl) (by simp; omega) (by decide)).mono ?_
    rintro e w2 ⟨ax, rfl, a1, a2, T2, S2, D2⟩
    simp at S2
    replace X0 := (X0.alloc _).dev D2 (by simp; omega) (by omega)
    replace X1 := X1.dev D2 (by simp; omega) (by omega)
    replace D := (D.alloc (by omega) _).trans (D2.mono (by simp; omega))
    clear D2 Bl T1
    have d0 := X0.cell 0
    have d1 := X0.cell 1
    have d2 := X0.cell 2
    have d3 := X0.cell 3
    have d4 := X0.cell 4
    have d5 := X0.cell 5
    have d6 := X0.cell 6
    have d7 := X0.cell 7
    have d8 := X0.cell 8
    simp at d0 d1 d2 d3 d4 d5 d6 d7 d8
    have fd := X0.frozen
    have gd := X0.lt
    have c0 := X1.cell 0
    have c1 := X1.cell 1
    have c2 := X1.cell 2
    have c3 := X1.cell 3
    have c4 := X1.cell 4
    have c5 := X1.cell 5
    have c6 := X1.cell 6
    have c7 := X1.cell 7
    have c8 := X1.cell 8
    simp at c0 c1 c2 c3 c4 c5 c6 c7 c8
    have fc := X1.frozen
    have gc := X1.lt
    go_wp2_with fail
    clear c0 d0 c1 d1 c2 d2 c3 d3 c4 d4 c5 d5 c6 d6 c7 d7 c8 d8 fc fd gc gd
    refine (next_any B g l 26 _ T2 (by omega) (by decide)).mono ?_
    rintro e w3 ⟨cx, rfl, cx1, cx2, T3, S3, D3⟩
    rw [S2] at S3
    replace X0 := X0.dev D3 (by omega) (by omega)
    replace X1 := X1.dev D3 (by omega) (by omega)
    replace D := D.trans (D3.mono (by omega))
    clear D3 T2
    have d0 := X0.cell 0
    have d1 := X0.cell 1
    have d2 := X0.cell 2
    have d3 := X0.cell 3
    have d4 := X0.cell 4
    have d5 := X0.cell 5
    have d6 := X0.cell 6
    have d7 := X0.cell 7
    have d8 := X0.cell 8
    simp at d0 d1 d2 d3 d4 d5 d6 d7 d8
    have fd := X0.frozen
    have gd := X0.lt
    have c0 := X1.cell 0
    have c1 := X1.cell 1
    have c2 := X1.cell 2
    have c3 := X1.cell 3
    have c4 := X1.cell 4
    have c5 := X1.cell 5
    have c6 := X1.cell 6
    have c7 := X1.cell 7
    have c8 := X1.cell 8
    simp at c0 c1 c2 c3 c4 c5 c6 c7 c8
    have fc := X1.frozen
    have gc := X1.lt
    go_wp2
    refine bodyPost_ret (v := _) (by simp [results, Try.results6, go_sem, d0, d1, d2, d3, d4, d5, d6, d7, d8]; with_reducible rfl) rfl ?_
    refine ⟨_, rfl, ⟨2, ax, cx, 0, 0, [], [], 0, 0⟩, ⟨_, _, rfl, Row.nil _, Row.nil _⟩, rightE_0 rfl (by simp [formP]) (by simp [numB]; omega) (by simp [listB]), by simp, ⟨by simp, by first | (simp; done) | (simp only; omega)⟩, ⟨_, _, _, _, _, _, _, _, _, rfl, NewV.none _ _ _, NewV.none _ _ _⟩, ?_⟩
    repeat' (refine Dev.setCell ?_ (by simp; omega) _)
    exact D
  · have Bl := (Below.refl B w1).alloc (by omega) (.cells #[.int .i64 3, .int .i64 0, .int .i64 0, .int .i64 0, .int .i64 0, .slice none 0 0, .slice none 0 0, .int .u16 0, .int .u16 0] 26)
    have X1 := Blk.new_at w1 26 [.int .i64 3, .int .i64 0, .int .i64 0, .int .i64 0, .int .i64 0, .slice none 0 0, .slice none 0 0, .int .u16 0, .int .u16 0] (w.heap.size + 1 + 1) S1.symm
    refine (next_any B g l 70 _ (T1.below Bl) (by simp; omega) (by decide)).mono ?_
    rintro e w2 ⟨ax, rfl, a1, a2, T2, S2, D2⟩
    simp at S2
    replace X0 := (X0.alloc _).dev D2 (by simp; omega) (by omega)
    replace X1 := X1.dev D2 (by simp; omega) (by omega)
    replace D := (D.alloc (by omega) _).trans (D2.mono (by simp; omega))
    clear D2 Bl T1
    have d0 := X0.cell 0
    have d1 := X0.cell 1
    have d2 := X0.cell 2
    have d3 := X0.cell 3
    have d4 := X0.cell 4
    have d5 := X0.cell 5
    have d6 := X0.cell 6
    have d7 := X0.cell 7
    have d8 := X0.cell 8
    simp at d0 d1 d2 d3 d4 d5 d6 d7 d8
    have fd := X0.frozen
    have gd := X0.lt
    have c0 := X1.cell 0
    have c1 := X1.cell 1
    have c2 := X1.cell 2
    have c3 := X1.cell 3
    have c4 := X1.cell 4
    have c5 := X1.cell 5
    have c6 := X1.cell 6
    have c7 := X1.cell 7
    have c8 := X1.cell 8
    simp at c0 c1 c2 c3 c4 c5 c6 c7 c8
    have fc := X1.frozen
    have gc := X1.lt
    go_wp2_with fail
    clear c0 d0 c1 d1 c2 d2 c3 d3 c4 d4 c5 d5 c6 d6 c7 d7 c8 d8 fc fd gc gd
    refine (next_any B g l 26 _ T2 (by omega) (by decide)).mono ?_
    rintro e w3 ⟨cx, rfl, cx1, cx2, T3, S3, D3⟩
    rw [S2] at S3
    replace X0 := X0.dev D3 (by omega) (by omega)
    replace X1 := X1.dev D3 (by omega) (by omega)
    replace D := D.trans (D3.mono (by omega))
    clear D3 T2
    have d0 := X0.cell 0
    have d1 := X0.cell 1
    have d2 := X0.cell 2
    have d3 := X0.cell 3
    have d4 := X0.cell 4
    have d5 := X0.cell 5
    have d6 := X0.cell 6
    have d7 := X0.cell 7
    have d8 := X0.cell 8
    simp at d0 d1 d2 d3 d4 d5 d6 d7 d8
    have fd := X0.frozen
    have gd := X0.lt
    have c0 := X1.cell 0
    have c1 := X1.cell 1
    have c2 := X1.cell 2
    have c3 := X1.cell 3
    have c4 := X1.cell 4
    have c5 := X1.cell 5
    have c6 := X1.cell 6
    have c7 := X1.cell 7
    have c8 := X1.cell 8
    simp at c0 c1 c2 c3 c4 c5 c6 c7 c8
    have fc := X1.frozen
    have gc := X1.lt
    go_wp2
    refine bodyPost_ret (v := _) (by simp [results, Try.results6, go_sem, d0, d1, d2, d3, d4, d5, d6, d7, d8]; with_reducible rfl) rfl ?_
    refine ⟨_, rfl, ⟨3, ax, cx, 0, 0, [], [], 0, 0⟩, ⟨_, _, rfl, Row.nil _, Row.nil _⟩, rightE_0 rfl (by simp [formP]) (by simp [numB]; omega) (by simp [listB]), by simp, ⟨by simp, by first | (simp; done) | (simp only; omega)⟩, ⟨_, _, _, _, _, _, _, _, _, rfl, NewV.none _ _ _, NewV.none _ _ _⟩, ?_⟩
    repeat' (refine Dev.setCell ?_ (by simp; omega) _)
    exact D
  · have Bl := (Below.refl B w1).alloc (by omega) (.cells #[.int .i64 4, .int .i64 0, .int .i64 0, .int .i64 0, .int .i64 0, .slice none 0 0, .slice none 0 0, .int .u16 0, .int .u16 0] 26)
    have X1 := Blk.new_at w1 26 [.int .i64 4, .int .i64 0, .int .i64 0, .int .i64 0, .int .i64 0, .slice none 0 0, .slice none 0 0, .int .u16 0, .int .u16 0] (w.heap.size + 1 + 1) S1.symm
    refine (next_any B g l 70 _ (T1.below Bl) (by simp; omega) (by decide)).mono ?_
    rintro e w2 ⟨ax, rfl, a1, a2, T2, S2, D2⟩
    simp at S2
    replace X0 := (X0.alloc _).dev D2 (by simp; omega) (by omega)
    replace X1 := X1.dev D2 (by simp; omega) (by omega)
    replace D := (D.alloc (by omega) _).trans (D2.mono (by simp; omega))
    clear D2 Bl T1
    have d0 := X0.cell 0
    have d1 := X0.cell 1
    have d2 := X0.cell 2
    have d3 := X0.cell 3
    have d4 := X0.cell 4
    have d5 := X0.cell 5
    have d6 := X0.cell 6
    have d7 := X0.cell 7
    have d8 := X0.cell 8
    simp at d0 d1 d2 d3 d4 d5 d6 d7 d8
    have fd := X0.frozen
    have gd := X0.lt
    have c0 := X1.cell 0
    have c1 := X1.cell 1
    have c2 := X1.cell 2
    have c3 := X1.cell 3
    have c4 := X1.cell 4
    have c5 := X1.cell 5
    have c6 := X1.cell 6
    have c7 := X1.cell 7
    have c8 := X1.cell 8
    simp at c0 c1 c2 c3 c4 c5 c6 c7 c8
    have fc := X1.frozen
    have gc := X1.lt
    go_wp2_with fail
    clear c0 d0 c1 d1 c2 d2 c3 d3 c4 d4 c5 d5 c6 d6 c7 d7 c8 d8 fc fd gc gd
    refine (next_any B g l 26 _ T2 (by omega) (by decide)).mono ?_
    rintro e w3 ⟨cx, rfl, cx1, cx2, T3, S3, D3⟩
    rw [S2] at S3
    replace X0 := X0.dev D3 (by omega) (by omega)
    replace X1 := X1.dev D3 (by omega) (by omega)
    replace D := D.trans (D3.mono (by omega))
    clear D3 T2
    have d0 := X0.cell 0
    have d1 := X0.cell 1
    have d2 := X0.cell 2
    have d3 := X0.cell 3
    have d4 := X0.cell 4
    have d5 := X0.cell 5
    have d6 := X0.cell 6
    have d7 := X0.cell 7
    have d8 := X0.cell 8
    simp at d0 d1 d2 d3 d4 d5 d6 d7 d8
    have fd := X0.frozen
    have gd := X0.lt
    have c0 := X1.cell 0
    have c1 := X1.cell 1
    have c2 := X1.cell 2
    have c3 := X1.cell 3
    have c4 := X1.cell 4
    have c5 := X1.cell 5
    have c6 := X1.cell 6
    have c7 := X1.cell 7
    have c8 := X1.cell 8
    simp at c0 c1 c2 c3 c4 c5 c6 c7 c8
    have fc := X1.frozen
    have gc := X1.lt
    go_wp2
    refine bodyPost_ret (v := _) (by simp [results, Try.results6, go_sem, d0, d1, d2, d3, d4, d5, d6, d7, d8]; with_reducible rfl) rfl ?_
    refine ⟨_, rfl, ⟨4, ax, cx, 0, 0, [], [], 0, 0⟩, ⟨_, _, rfl, Row.nil _, Row.nil _⟩, rightE_0 rfl (by simp [formP]) (by simp [numB]; omega) (by simp [listB]), by simp, ⟨by simp, by first | (simp; done) | (simp only; omega)⟩, ⟨_, _, _, _, _, _, _, _, _, rfl, NewV.none _ _ _, NewV.none _ _ _⟩, ?_⟩
    repeat' (refine Dev.setCell ?_ (by simp; omega) _)
    exact D
  · have Bl := (Below.refl B w1).alloc (by omega) (.cells #[.int .i64 5, .int .i64 0, .int .i64 0, .int .i64 0, .int .i64 0, .slice none 0 0, .slice none 0 0, .int .u16 0, .int .u16 0] 26)
    have X1 := Blk.new_at w1 26 [.int .i64 5, .int .i64 0, .int .i64 0, .int .i64 0, .int .i64 0, .slice none 0 0, .slice none 0 0, .int .u16 0, .int .u16 0] (w.heap.size + 1 + 1) S1.symm
    refine (next_any B g l 70 _ (T1.below Bl) (by simp; omega) (by decide)).mono ?_
    rintro e w2 ⟨ax, rfl, a1, a2, T2, S2, D2⟩
    simp at S2
    replace X0 := (X0.alloc _).dev D2 (by simp; omega) (by omega)
    replace X1 := X1.dev D2 (by simp; omega) (by omega)
    replace D := (D.alloc (by omega) _).trans (D2.mono (by simp; omega))
    clear D2 Bl T1
    have d0 := X0.cell 0
    have d1 := X0.cell 1
    have d2 := X0.cell 2
    have d3 := X0.cell 3
    have d4 := X0.cell 4
    have d5 := X0.cell 5
    have d6 := X0.cell 6
    have d7 := X0.cell 7
    have d8 := X0.cell 8
    simp at d0 d1 d2 d3 d4 d5 d6 d7 d8
    have fd := X0.frozen
    have gd := X0.lt
    have c0 := X1.cell 0
    have c1 := X1.cell 1
    have c2 := X1.cell 2
    have c3 := X1.cell 3
    have c4 := X1.cell 4
    have c5 := X1.cell 5
    have c6 := X1.cell 6
    have c7 := X1.cell 7
    have c8 := X1.cell 8
    simp at c0 c1 c2 c3 c4 c5 c6 c7 c8
    have fc := X1.frozen
    have gc := X1.lt
    go_wp2_with fail
    clear c0 d0 c1 d1 c2 d2 c3 d3 c4 d4 c5 d5 c6 d6 c7 d7 c8 d8 fc fd gc gd
    refine (next_any B g l 2 _ T2 (by omega) (by decide)).mono ?_
    rintro e w3 ⟨cx, rfl, cx1, cx2, T3, S3, D3⟩
    rw [S2] at S3
    replace X0 := X0.dev D3 (by omega) (by omega)
    replace X1 := X1.dev D3 (by omega) (by omega)
    replace D := D.trans (D3.mono (by omega))
    clear D3 T2
    have d0 := X0.cell 0
    have d1 := X0.cell 1
    have d2 := X0.cell 2
    have d3 := X0.cell 3
    have d4 := X0.cell 4
    have d5 := X0.cell 5
    have d6 := X0.cell 6
    have d7 := X0.cell 7
    have d8 := X0.cell 8
    simp at d0 d1 d2 d3 d4 d5 d6 d7 d8
    have fd := X0.frozen
    have gd := X0.lt
    have c0 := X1.cell 0
    have c1 := X1.cell 1
    have c2 := X1.cell 2
    have c3 := X1.cell 3
    have c4 := X1.cell 4
    have c5 := X1.cell 5
    have c6 := X1.cell 6
    have c7 := X1.cell 7
    have c8 := X1.cell 8
    simp at c0 c1 c2 c3 c4 c5 c6 c7 c8
    have fc := X1.frozen
    have gc := X1.lt
    go_wp2
    refine bodyPost_ret (v := _) (by simp [results, Try.results6, go_sem, d0, d1, d2, d3, d4, d5, d6, d7, d8, S3, S1]; with_reducible rfl) rfl ?_
    refine ⟨_, rfl, ⟨5, ax, 0, 0, 0, [cx == 1], [], 0, 0⟩, ⟨_, _, rfl, row_one_b _ _ _ (by simp [S3, S1]), Row.nil _⟩, rightE_0 rfl (by simp [formP]) (by simp [numB]; omega) (by simp [listB]), by simp, ⟨by simp, by first | (simp; done) | (simp only; omega)⟩, ⟨_, _, _, _, _, _, _, _, _, rfl, NewV.some _ _ _ _ _ (by omega), NewV.none _ _ _⟩, ?_⟩
    refine Dev.alloc ?_ (by simp; omega) _
    repeat' (refine Dev.setCell ?_ (by simp; omega) _)
    exact D
  · have Bl := (Below.refl B w1).alloc (by omega) (.cells #[.int .i64 6, .int .i64 0, .int .i64 0, .int .i64 0, .int .i64 0, .slice none 0 0, .slice none 0 0, .int .u16 0, .int .u16 0] 26)
    have X1 := Blk.new_at w1 26 [.int .i64 6, .int .i64 0, .int .i64 0, .int .i64 0, .int .i64 0, .slice none 0 0, .slice none 0 0, .int .u16 0, .int .u16 0] (w.heap.size + 1 + 1) S1.symm
    refine (next_any B g l 70 _ (T1.below Bl) (by simp; omega) (by decide)).mono ?_
    rintro e w2 ⟨ax, rfl, a1, a2, T2, S2, D2⟩
    simp at S2
    replace X0 := (X0.alloc _).dev D2 (by simp; omega) (by omega)
    replace X1 := X1.dev D2 (by simp; omega) (by omega)
    replace D := (D.alloc (by omega) _).trans (D2.mono (by simp; omega))
    clear D2 Bl T1
    have d0 := X0.cell 0
    have d1 := X0.cell 1
    have d2 := X0.cell 2
    have d3 := X0.cell 3
    have d4 := X0.cell 4
    have d5 := X0.cell 5
    have d6 := X0.cell 6
    have d7 := X0.cell 7
    have d8 := X0.cell 8
    simp at d0 d1 d2 d3 d4 d5 d6 d7 d8
    have fd := X0.frozen
    have gd := X0.lt
    have c0 := X1.cell 0
    have c1 := X1.cell 1
    have c2 := X1.cell 2
    have c3 := X1.cell 3
    have c4 := X1.cell 4
    have c5 := X1.cell 5
    have c6 := X1.cell 6
    have c7 := X1.cell 7
    have c8 := X1.cell 8
    simp at c0 c1 c2 c3 c4 c5 c6 c7 c8
    have fc := X1.frozen
    have gc := X1.lt
    go_wp2_with fail
    clear c0 d0 c1 d1 c2 d2 c3 d3 c4 d4 c5 d5 c6 d6 c7 d7 c8 d8 fc fd gc gd
    refine (next_any B g l 65536 _ T2 (by omega) (by decide)).mono ?_
    rintro e w3 ⟨cx, rfl, cx1, cx2, T3, S3, D3⟩
    rw [S2] at S3
    replace X0 := X0.dev D3 (by omega) (by omega)
    replace X1 := X1.dev D3 (by omega) (by omega)
    replace D := D.trans (D3.mono (by omega))
    clear D3 T2
    have d0 := X0.cell 0
    have d1 := X0.cell 1
    have d2 := X0.cell 2
    have d3 := X0.cell 3
    have d4 := X0.cell 4
    have d5 := X0.cell 5
    have d6 := X0.cell 6
    have d7 := X0.cell 7
    have d8 := X0.cell 8
    simp at d0 d1 d2 d3 d4 d5 d6 d7 d8
    have fd := X0.frozen
    have gd := X0.lt
    have c0 := X1.cell 0
    have c1 := X1.cell 1
    have c2 := X1.cell 2
    have c3 := X1.cell 3
    have c4 := X1.cell 4
    have c5 := X1.cell 5
    have c6 := X1.cell 6
    have c7 := X1.cell 7
    have c8 := X1.cell 8
    simp at c0 c1 c2 c3 c4 c5 c6 c7 c8
    have fc := X1.frozen
    have gc := X1.lt
    go_wp2
    refine bodyPost_ret (v := _) (by simp [results, Try.results6, go_sem, d0, d1, d2, d3, d4, d5, d6, d7, d8, S3, S1]; with_reducible rfl) rfl ?_
    refine ⟨_, rfl, ⟨6, ax, 0, 0, 0, [], [wOf cx], 0, 0⟩, ⟨_, _, rfl, Row.nil _, row_one_w _ _ ⟨cx1, by omega⟩ _ (by simp [S3, S1])⟩, rightE_0 rfl (by simp [formP]) (by simp [numB]; omega) (by simp [listB]), by simp, ⟨by simp, by first | (simp; done) | (simp only; omega)⟩, ⟨_, _, _, _, _, _, _, _, _, rfl, NewV.none _ _ _, NewV.some _ _ _ _ _ (by omega)⟩, ?_⟩
    refine Dev.alloc ?_ (by simp; omega) _
    repeat' (refine Dev.setCell ?_ (by simp; omega) _)
    exact D
  · have Bl := (Below.refl B w1).alloc (by omega) (.cells #[.int .i64 8, .int .i64 0, .int .i64 0, .int .i64 0, .int .i64 0, .slice none 0 0, .slice none 0 0, .int .u16 0, .int .u16 0] 26)
    have X1 := Blk.new_at w1 26 [.int .i64 8, .int .i64 0, .int .i64 0, .int .i64 0, .int .i64 0, .slice none 0 0, .slice none 0 0, .int .u16 0, .int .u16 0] (w.heap.size + 1 + 1) S1.symm
    refine (next_any B g l 70 _ (T1.below Bl) (by simp; omega) (by decide)).mono ?_
    rintro e w2 ⟨ax, rfl, a1, a2, T2, S2, D2⟩
    simp at S2
    replace X0 := (X0.alloc _).dev D2 (by simp; omega) (by omega)
    replace X1 := X1.dev D2 (by simp; omega) (by omega)
    replace D := (D.alloc (by omega) _).trans (D2.mono (by simp; omega))
    clear D2 Bl T1
    have d0 := X0.cell 0
    have d1 := X0.cell 1
    have d2 := X0.cell 2
    have d3 := X0.cell 3
    have d4 := X0.cell 4
    have d5 := X0.cell 5
    have d6 := X0.cell 6
    have d7 := X0.cell 7
    have d8 := X0.cell 8
    simp at d0 d1 d2 d3 d4 d5 d6 d7 d8
    have fd := X0.frozen
    have gd := X0.lt
    have c0 := X1.cell 0
    have c1 := X1.cell 1
    have c2 := X1.cell 2
    have c3 := X1.cell 3
    have c4 := X1.cell 4
    have c5 := X1.cell 5
    have c6 := X1.cell 6
    have c7 := X1.cell 7
    have c8 := X1.cell 8
    simp at c0 c1 c2 c3 c4 c5 c6 c7 c8
    have fc := X1.frozen
    have gc := X1.lt
    go_upto_block 0 with fail
    go_cut [] from 18 to 138 (fun wx => ∃ (sv uv : Int) (bC : Nat), 0 ≤ sv ∧ sv ≤ 300 ∧ 0 ≤ uv ∧ uv ≤ 777 ∧ w.heap.size + 1 + 1 + 1 ≤ bC ∧ Blk wx w.heap.size 26 [.int .i64 0, .int .i64 0, .int .i64 0, .int .i64 0, .int .i64 0, .slice none 0 0, .slice none 0 0, .int .u16 0, .int .u16 0] ∧ Blk wx (w.heap.size + 1 + 1) 26 [.int .i64 8, .int .i64 0, .int .i64 0, .int .i64 0, .int .i64 sv, .slice none 0 0, .slice (some ⟨bC, 0, none⟩) 1 1, .int .u16 0, .int .u16 0] ∧ Row wx (.slice (some ⟨bC, 0, none⟩) 1 1) ([wOf uv].map wV) ∧ Dev B g w wx)
    case rest =>
      clear c0 d0 c1 d1 c2 d2 c3 d3 c4 d4 c5 d5 c6 d6 c7 d7 c8 d8 fc fd gc gd
      clear X0 X1 D T2 S2
      obtain ⟨sv, uv, bC, s1, s2, u1, u2, kC, X0, X1, RC, D⟩ := hcut
      have d0 := X0.cell 0
      have d1 := X0.cell 1
      have d2 := X0.cell 2
      have d3 := X0.cell 3
      have d4 := X0.cell 4
      have d5 := X0.cell 5
      have d6 := X0.cell 6
      have d7 := X0.cell 7
      have d8 := X0.cell 8
      simp at d0 d1 d2 d3 d4 d5 d6 d7 d8
      have fd := X0.frozen
      have gd := X0.lt
      have c0 := X1.cell 0
      have c1 := X1.cell 1
      have c2 := X1.cell 2
      have c3 := X1.cell 3
      have c4 := X1.cell 4
      have c5 := X1.cell 5
      have c6 := X1.cell 6
      have c7 := X1.cell 7
      have c8 := X1.cell 8
      simp at c0 c1 c2 c3 c4 c5 c6 c7 c8
      have fc := X1.frozen
      have gc := X1.lt
      go_wp2
      refine bodyPost_ret (v := _) (by simp [results, Try.results6, go_sem, d0, d1, d2, d3, d4, d5, d6, d7, d8]; with_reducible rfl) rfl ?_
      refine ⟨_, rfl, ⟨8, 0, 0, 0, sv, [], [wOf uv], 0, 0⟩, ⟨_, _, rfl, Row.nil _, ?r⟩, rightE_0 rfl (by simp [formP]) (by simp [numB]; omega) (by simp [listB]), by simp, ⟨by simp, by first | (simp; done) | (simp only; omega)⟩, ⟨_, _, _, _, _, _, _, _, _, rfl, NewV.none _ _ _, NewV.some _ _ _ _ _ (by omega)⟩, ?_⟩
      case r =>
        repeat' (refine Row.setCell_new ?_ (NewV.some (w.heap.size + 1 + 1 + 1) _ _ _ _ kC) (by omega))
        exact RC
      · repeat' (refine Dev.setCell ?_ (by simp; omega) _)
        exact D
    case first =>
      go_wp2
      clear c0 d0 c1 d1 c2 d2 c3 d3 c4 d4 c5 d5 c6 d6 c7 d7 c8 d8 fc fd gc gd
      refine h_begin 15 rfl (by kernel_rfl) ?_
      replace X0 := X0.drew
      replace X1 := X1.drew
      replace D := D.drew
      replace T2 := T2.drew
      have hz : w.heap.size + 1 + 1 + 1 ≤ w2.drew.heap.size := by show _ ≤ w2.heap.size; omega
      clear S2
      generalize w2.drew = y0 at *
      have T := T2
      clear T2
      refine h_P trivial 1 rfl ?_
      refine h_P trivial 6 rfl ?_
      refine h_move3 0 2 5 (by kernel_rfl) (h_op 0 rfl (by kernel_rfl) (fun K hK => ?_)) (h_op 2 rfl (by kernel_rfl) (fun K hK => ?_)) (h_op 5 rfl (by kernel_rfl) (fun K hK => ?_))
      ·have Bl := (Below.refl y0.heap.size y0).alloc (Nat.le_refl _) (.cells #[.int .i64 0, .int .i64 10, .int .i64 11, .int .i64 12, .int .i64 13, .int .i64 14, .int .i64 2, .int .i64 300] 3)
       replace X0 := X0.below Bl X0.lt
       replace X1 := X1.below Bl X1.lt
       replace T := T.below (Bl.mono (by omega))
       replace D := D.trans (Dev.of_below (Bl.mono (by omega)))
       have PA := Blk.new y0 3 [.int .i64 0, .int .i64 10, .int .i64 11, .int .i64 12, .int .i64 13, .int .i64 14, .int .i64 2, .int .i64 300]
       have hz2 : w.heap.size + 1 + 1 + 1 ≤ (y0.alloc (.cells #[.int .i64 0, .int .i64 10, .int .i64 11, .int .i64 12, .int .i64 13, .int .i64 14, .int .i64 2, .int .i64 300] 3)).heap.size := by simp; omega
       have lA : y0.heap.size < (y0.alloc (.cells #[.int .i64 0, .int .i64 10, .int .i64 11, .int .i64 12, .int .i64 13, .int .i64 14, .int .i64 2, .int .i64 300] 3)).heap.size := by simp
       go_simp
       refine hK.out _ _ trivial ?_
       clear K hK Bl
       try simp only [Act.put, PuA, PuB, PuC]
       generalize y0.alloc (.cells #[.int .i64 0, .int .i64 10, .int .i64 11, .int .i64 12, .int .i64 13, .int .i64 14, .int .i64 2, .int .i64 300] 3) = y1 at *
       have kA := hz
       replace hz := hz2
       generalize y0.heap.size = bA at *
       clear hz2
       refine h_move2 2 5 (by kernel_rfl) (h_op 2 rfl (by kernel_rfl) (fun K hK => ?_)) (h_op 5 rfl (by kernel_rfl) (fun K hK => ?_))
       ·go_wp2_with fail
        refine (next_any B g l 8 _ T (by omega) (by decide)).mono ?_
        rintro e y2 ⟨mx, rfl, mx1, mx2, T', S', D'⟩
        have hz2 : w.heap.size + 1 + 1 + 1 ≤ y2.heap.size := by omega
        replace X0 := X0.dev D' X0.lt (by omega)
        replace X1 := X1.dev D' X1.lt (by omega)
        replace PA := PA.dev D' PA.lt (by omega)
        replace T := T'
        replace D := D.trans (D'.mono (by omega))
        clear S' D' T'
        replace hz := hz2
        clear hz2
        go_simp
        refine hK.out _ _ trivial ?_
        clear K hK
        try simp only [Act.put, PuA, PuB, PuC]
        obtain ⟨sv, hsv, s1, s2⟩ := sub_at mx mx1 mx2
        have FA : ∀ {W : World}, Blk W bA 3 [.int .i64 0, .int .i64 10, .int .i64 11, .int .i64 12, .int .i64 13, .int .i64 14, .int .i64 2, .int .i64 300] → W.cell? ⟨bA, mx.toNat, none⟩ = some (.int .i64 sv) := fun h => (h.cell _).trans hsv
        clear hsv
        refine h_P trivial 3 rfl ?_
        refine h_R (fun w' => (True) ∧ w'.cell? ⟨bA, mx.toNat, none⟩ = some (.int .i64 sv)) (fun _ h => h.1) ⟨trivial, FA PA⟩ 4 rfl (fun w' hx => by have hc := hx.2; go_simp; with_reducible rfl) ?_
        refine h_P ⟨trivial, FA PA⟩ 11 rfl ?_
        refine h_move2 5 7 (by kernel_rfl) (h_op 5 rfl (by kernel_rfl) (fun K hK => ?_)) (h_op 7 rfl (by kernel_rfl) (fun K hK => ?_))
        ·have Bl := (Below.refl y2.heap.size y2).alloc (Nat.le_refl _) (.cells #[.int .u16 0, .int .u16 0, .int .u16 0, .int .u16 777] 24)
         replace X0 := X0.below Bl X0.lt
         replace X1 := X1.below Bl X1.lt
         replace PA := PA.below Bl PA.lt
         replace T := T.below (Bl.mono (by omega))
         replace D := D.trans (Dev.of_below (Bl.mono (by omega)))
         have PB := Blk.new y2 24 [.int .u16 0, .int .u16 0, .int .u16 0, .int .u16 777]
         have hz2 : w.heap.size + 1 + 1 + 1 ≤ (y2.alloc (.cells #[.int .u16 0, .int .u16 0, .int .u16 0, .int .u16 777] 24)).heap.size := by simp; omega
         have lB : y2.heap.size < (y2.alloc (.cells #[.int .u16 0, .int .u16 0, .int .u16 0, .int .u16 777] 24)).heap.size := by simp
         go_simp
         refine hK.out _ _ ⟨trivial, FA PA⟩ ?_
         clear K hK Bl
         try simp only [Act.put, PuA, PuB, PuC]
         generalize y2.alloc (.cells #[.int .u16 0, .int .u16 0, .int .u16 0, .int .u16 777] 24) = y3 at *
         have kB := hz
         replace hz := hz2
         generalize y2.heap.size = bB at *
         clear hz2
         refine h_move 7 (by kernel_rfl) (h_op 7 rfl (by kernel_rfl) (fun K hK => ?_))
         go_wp2_with fail
         refine (next_any B g l 4 _ T (by omega) (by decide)).mono ?_
         rintro e y4 ⟨nx, rfl, nx1, nx2, T', S', D'⟩
         have hz2 : w.heap.size + 1 + 1 + 1 ≤ y4.heap.size := by omega
         replace X0 := X0.dev D' X0.lt (by omega)
         replace X1 := X1.dev D' X1.lt (by omega)
         replace PA := PA.dev D' PA.lt (by omega)
         replace PB := PB.dev D' PB.lt (by omega)
         replace T := T'
         replace D := D.trans (D'.mono (by omega))
         clear S' D' T'
         replace hz := hz2
         clear hz2
         go_simp
         refine hK.out _ _ ⟨trivial, FA PA⟩ ?_
         clear K hK
         try simp only [Act.put, PuA, PuB, PuC]
         obtain ⟨uv, huv, u1, u2⟩ := val_at nx nx1 nx2
         have FB : ∀ {W : World}, Blk W bB 24 [.int .u16 0, .int .u16 0, .int .u16 0, .int .u16 777] → W.cell? ⟨bB, nx.toNat, none⟩ = some (.int .u16 uv) := fun h => (h.cell _).trans huv
         clear huv
         refine h_P ⟨trivial, FA PA⟩ 8 rfl ?_
         refine h_R (fun w' => ((True) ∧ w'.cell? ⟨bA, mx.toNat, none⟩ = some (.int .i64 sv)) ∧ w'.cell? ⟨bB, nx.toNat, none⟩ = some (.int .u16 uv)) (fun _ h => h.1) ⟨⟨trivial, FA PA⟩, FB PB⟩ 9 rfl (fun w' hx => by have hc := hx.2; go_simp; with_reducible rfl) ?_
         refine h_move2 10 12 (by kernel_rfl) (h_op 10 rfl (by kernel_rfl) (fun K hK => ?_)) (h_op 12 rfl (by kernel_rfl) (fun K hK => ?_))
         ·have Bl := (Below.refl y4.heap.size y4).alloc (Nat.le_refl _) (.cells #[.int .u16 uv] 24)
          replace X0 := X0.below Bl X0.lt
          replace X1 := X1.below Bl X1.lt
          replace PA := PA.below Bl PA.lt
          replace PB := PB.below Bl PB.lt
          replace T := T.below (Bl.mono (by omega))
          replace D := D.trans (Dev.of_below (Bl.mono (by omega)))
          have RC := row_one_w y4 uv ⟨u1, by omega⟩ _ rfl
          have hz2 : w.heap.size + 1 + 1 + 1 ≤ (y4.alloc (.cells #[.int .u16 uv] 24)).heap.size := by simp; omega
          have lC : y4.heap.size < (y4.alloc (.cells #[.int .u16 uv] 24)).heap.size := by simp
          go_simp
          refine hK.out _ _ ⟨⟨trivial, FA PA⟩, FB PB⟩ ?_
          clear K hK Bl
          try simp only [Act.put, PuA, PuB, PuC]
          generalize y4.alloc (.cells #[.int .u16 uv] 24) = y5 at *
          have kC := hz
          replace hz := hz2
          generalize y4.heap.size = bC at *
          clear hz2
          refine h_move 12 (by kernel_rfl) (h_op 12 rfl (by kernel_rfl) (fun K hK => ?_))
          have e4 : y5.cell? ⟨w.heap.size + 1 + 1, 4, none⟩ = _ := X1.cell 4
          simp at e4
          have f4 := X1.frozen
          go_simp
          clear e4 f4
          replace X0 := X0.set_ne (g := w.heap.size + 1 + 1) (by omega) 4 (.int .i64 sv)
          replace X1 := X1.set 4 (.int .i64 sv)
          simp at X1
          replace PA := PA.set_ne (g := w.heap.size + 1 + 1) (by omega) 4 (.int .i64 sv)
          replace PB := PB.set_ne (g := w.heap.size + 1 + 1) (by omega) 4 (.int .i64 sv)
          replace RC := RC.setCell_new (g := w.heap.size + 1 + 1) (o := 4) (u := (.int .i64 sv)) (NewV.some (w.heap.size + 1 + 1 + 1) _ _ _ _ kC) (by omega)
          replace T := T.below ((Below.refl B y5).setCell (p := ⟨w.heap.size + 1 + 1, 4, none⟩) (by simp; omega) (.int .i64 sv))
          replace D := D.setCell (p := ⟨w.heap.size + 1 + 1, 4, none⟩) (by simp; omega) (.int .i64 sv)
          have hz2 : w.heap.size + 1 + 1 + 1 ≤ (y5.setCell ⟨w.heap.size + 1 + 1, 4, none⟩ (.int .i64 sv)).heap.size := by simp; omega
          refine hK.out _ _ ⟨⟨trivial, FA PA⟩, FB PB⟩ ?_
          clear K hK
          try simp only [Act.put, PuA, PuB, PuC]
          generalize y5.setCell ⟨w.heap.size + 1 + 1, 4, none⟩ (.int .i64 sv) = y6 at *
          replace hz := hz2
          clear hz2
          refine h_P ⟨⟨trivial, FA PA⟩, FB PB⟩ 13 rfl ?_
          refine h_move 14 (by kernel_rfl) (h_op 14 rfl (by kernel_rfl) (fun K hK => ?_))
          have e4 : y6.cell? ⟨w.heap.size + 1 + 1, 6, none⟩ = _ := X1.cell 6
          simp at e4
          have f4 := X1.frozen
          go_simp
          clear e4 f4
          replace X0 := X0.set_ne (g := w.heap.size + 1 + 1) (by omega) 6 (.slice (some ⟨bC, 0, none⟩) 1 1)
          replace X1 := X1.set 6 (.slice (some ⟨bC, 0, none⟩) 1 1)
          simp at X1
          replace PA := PA.set_ne (g := w.heap.size + 1 + 1) (by omega) 6 (.slice (some ⟨bC, 0, none⟩) 1 1)
          replace PB := PB.set_ne (g := w.heap.size + 1 + 1) (by omega) 6 (.slice (some ⟨bC, 0, none⟩) 1 1)
          replace RC := RC.setCell_new (g := w.heap.size + 1 + 1) (o := 6) (u := (.slice (some ⟨bC, 0, none⟩) 1 1)) (NewV.some (w.heap.size + 1 + 1 + 1) _ _ _ _ kC) (by omega)
          replace T := T.below ((Below.refl B y6).setCell (p := ⟨w.heap.size + 1 + 1, 6, none⟩) (by simp; omega) (.slice (some ⟨bC, 0, none⟩) 1 1))
          replace D := D.setCell (p := ⟨w.heap.size + 1 + 1, 6, none⟩) (by simp; omega) (.slice (some ⟨bC, 0, none⟩) 1 1)
          have hz2 : w.heap.size + 1 + 1 + 1 ≤ (y6.setCell ⟨w.heap.size + 1 + 1, 6, none⟩ (.slice (some ⟨bC, 0, none⟩) 1 1)).heap.size := by simp; omega
          refine hK.out _ _ ⟨⟨trivial, FA PA⟩, FB PB⟩ ?_
          clear K hK
          try simp only [Act.put, PuA, PuB, PuC]
          generalize y6.setCell ⟨w.heap.size + 1 + 1, 6, none⟩ (.slice (some ⟨bC, 0, none⟩) 1 1) = y7 at *
          replace hz := hz2
          clear hz2
          refine h_done (by kernel_rfl) ?_
          go_wp2_with fail
          go_meet
          exact ⟨sv, uv, bC, s1, s2, u1, u2, kC, X0, X1, RC, D⟩
         ·have e4 : y4.cell? ⟨w.heap.size + 1 + 1, 4, none⟩ = _ := X1.cell 4
          simp at e4
          have f4 := X1.frozen
          go_simp
          clear e4 f4
          replace X0 := X0.set_ne (g := w.heap.size + 1 + 1) (by omega) 4 (.int .i64 sv)
          replace X1 := X1.set 4 (.int .i64 sv)
          simp at X1
          replace PA := PA.set_ne (g := w.heap.size + 1 + 1) (by omega) 4 (.int .i64 sv)
          replace PB := PB.set_ne (g := w.heap.size + 1 + 1) (by omega) 4 (.int .i64 sv)
          replace T := T.below ((Below.refl B y4).setCell (p := ⟨w.heap.size + 1 + 1, 4, none⟩) (by simp; omega) (.int .i64 sv))
          replace D := D.setCell (p := ⟨w.heap.size + 1 + 1, 4, none⟩) (by simp; omega) (.int .i64 sv)
          have hz2 : w.heap.size + 1 + 1 + 1 ≤ (y4.setCell ⟨w.heap.size + 1 + 1, 4, none⟩ (.int .i64 sv)).heap.size := by simp; omega
          refine hK.out _ _ ⟨⟨trivial, FA PA⟩, FB PB⟩ ?_
          clear K hK
          try simp only [Act.put, PuA, PuB, PuC]
          generalize y4.setCell ⟨w.heap.size + 1 + 1, 4, none⟩ (.int .i64 sv) = y5 at *
          replace hz := hz2
          clear hz2
          refine h_move 10 (by kernel_rfl) (h_op 10 rfl (by kernel_rfl) (fun K hK => ?_))
          have Bl := (Below.refl y5.heap.size y5).alloc (Nat.le_refl _) (.cells #[.int .u16 uv] 24)
          replace X0 := X0.below Bl X0.lt
          replace X1 := X1.below Bl X1.lt
          replace PA := PA.below Bl PA.lt
          replace PB := PB.below Bl PB.lt
          replace T := T.below (Bl.mono (by omega))
          replace D := D.trans (Dev.of_below (Bl.mono (by omega)))
          have RC := row_one_w y5 uv ⟨u1, by omega⟩ _ rfl
          have hz2 : w.heap.size + 1 + 1 + 1 ≤ (y5.alloc (.cells #[.int .u16 uv] 24)).heap.size := by simp; omega
          have lC : y5.heap.size < (y5.alloc (.cells #[.int .u16 uv] 24)).heap.size := by simp
          go_simp
          refine hK.out _ _ ⟨⟨trivial, FA PA⟩, FB PB⟩ ?_
          clear K hK Bl
          try simp only [Act.put, PuA, PuB, PuC]
          generalize y5.alloc (.cells #[.int .u16 uv] 24) = y6 at *
          have kC := hz
          replace hz := hz2
          generalize y5.heap.size = bC at *
          clear hz2
          refine h_P ⟨⟨trivial, FA PA⟩, FB PB⟩ 13 rfl ?_
          refine h_move 14 (by kernel_rfl) (h_op 14 rfl (by kernel_rfl) (fun K hK => ?_))
          have e4 : y6.cell? ⟨w.heap.size + 1 + 1, 6, none⟩ = _ := X1.cell 6
          simp at e4
          have f4 := X1.frozen
          go_simp
          clear e4 f4
          replace X0 := X0.set_ne (g := w.heap.size + 1 + 1) (by omega) 6 (.slice (some ⟨bC, 0, none⟩) 1 1)
          replace X1 := X1.set 6 (.slice (some ⟨bC, 0, none⟩) 1 1)
          simp at X1
          replace PA := PA.set_ne (g := w.heap.size + 1 + 1) (by omega) 6 (.slice (some ⟨bC, 0, none⟩) 1 1)
          replace PB := PB.set_ne (g := w.heap.size + 1 + 1) (by omega) 6 (.slice (some ⟨bC, 0, none⟩) 1 1)
          replace RC := RC.setCell_new (g := w.heap.size + 1 + 1) (o := 6) (u := (.slice (some ⟨bC, 0, none⟩) 1 1)) (NewV.some (w.heap.size + 1 + 1 + 1) _ _ _ _ kC) (by omega)
          replace T := T.below ((Below.refl B y6).setCell (p := ⟨w.heap.size + 1 + 1, 6, none⟩) (by simp; omega) (.slice (some ⟨bC, 0, none⟩) 1 1))
          replace D := D.setCell (p := ⟨w.heap.size + 1 + 1, 6, none⟩) (by simp; omega) (.slice (some ⟨bC, 0, none⟩) 1 1)
          have hz2 : w.heap.size + 1 + 1 + 1 ≤ (y6.setCell ⟨w.heap.size + 1 + 1, 6, none⟩ (.slice (some ⟨bC, 0, none⟩) 1 1)).heap.size := by simp; omega
          refine hK.out _ _ ⟨⟨trivial, FA PA⟩, FB PB⟩ ?_
          clear K hK
          try simp only [Act.put, PuA, PuB, PuC]
          generalize y6.setCell ⟨w.heap.size + 1 + 1, 6, none⟩ (.slice (some ⟨bC, 0, none⟩) 1 1) = y7 at *
          replace hz := hz2
          clear hz2
          refine h_done (by kernel_rfl) ?_
          go_wp2_with fail
          go_meet
          exact ⟨sv, uv, bC, s1, s2, u1, u2, kC, X0, X1, RC, D⟩
        ·go_wp2_with fail
         refine (next_any B g l 4 _ T (by omega) (by decide)).mono ?_
         rintro e y3 ⟨nx, rfl, nx1, nx2, T', S', D'⟩
         have hz2 : w.heap.size + 1 + 1 + 1 ≤ y3.heap.size := by omega
         replace X0 := X0.dev D' X0.lt (by omega)
         replace X1 := X1.dev D' X1.lt (by omega)
         replace PA := PA.dev D' PA.lt (by omega)
         replace T := T'
         replace D := D.trans (D'.mono (by omega))
         clear S' D' T'
         replace hz := hz2
         clear hz2
         go_simp
         refine hK.out _ _ ⟨trivial, FA PA⟩ ?_
         clear K hK
         try simp only [Act.put, PuA, PuB, PuC]
         refine h_move2 5 12 (by kernel_rfl) (h_op 5 rfl (by kernel_rfl) (fun K hK => ?_)) (h_op 12 rfl (by kernel_rfl) (fun K hK => ?_))
         ·have Bl := (Below.refl y3.heap.size y3).alloc (Nat.le_refl _) (.cells #[.int .u16 0, .int .u16 0, .int .u16 0, .int .u16 777] 24)
          replace X0 := X0.below Bl X0.lt
          replace X1 := X1.below Bl X1.lt
          replace PA := PA.below Bl PA.lt
          replace T := T.below (Bl.mono (by omega))
          replace D := D.trans (Dev.of_below (Bl.mono (by omega)))
          have PB := Blk.new y3 24 [.int .u16 0, .int .u16 0, .int .u16 0, .int .u16 777]
          have hz2 : w.heap.size + 1 + 1 + 1 ≤ (y3.alloc (.cells #[.int .u16 0, .int .u16 0, .int .u16 0, .int .u16 777] 24)).heap.size := by simp; omega
          have lB : y3.heap.size < (y3.alloc (.cells #[.int .u16 0, .int .u16 0, .int .u16 0, .int .u16 777] 24)).heap.size := by simp
          go_simp
          refine hK.out _ _ ⟨trivial, FA PA⟩ ?_
          clear K hK Bl
          try simp only [Act.put, PuA, PuB, PuC]
          generalize y3.alloc (.cells #[.int .u16 0, .int .u16 0, .int .u16 0, .int .u16 777] 24) = y4 at *
          have kB := hz
          replace hz := hz2
          generalize y3.heap.size = bB at *
          clear hz2
          obtain ⟨uv, huv, u1, u2⟩ := val_at nx nx1 nx2
          have FB : ∀ {W : World}, Blk W bB 24 [.int .u16 0, .int .u16 0, .int .u16 0, .int .u16 777] → W.cell? ⟨bB, nx.toNat, none⟩ = some (.int .u16 uv) := fun h => (h.cell _).trans huv
          clear huv
          refine h_P ⟨trivial, FA PA⟩ 8 rfl ?_
          refine h_R (fun w' => ((True) ∧ w'.cell? ⟨bA, mx.toNat, none⟩ = some (.int .i64 sv)) ∧ w'.cell? ⟨bB, nx.toNat, none⟩ = some (.int .u16 uv)) (fun _ h => h.1) ⟨⟨trivial, FA PA⟩, FB PB⟩ 9 rfl (fun w' hx => by have hc := hx.2; go_simp; with_reducible rfl) ?_
          refine h_move2 10 12 (by kernel_rfl) (h_op 10 rfl (by kernel_rfl) (fun K hK => ?_)) (h_op 12 rfl (by kernel_rfl) (fun K hK => ?_))
          ·have Bl := (Below.refl y4.heap.size y4).alloc (Nat.le_refl _) (.cells #[.int .u16 uv] 24)
           replace X0 := X0.below Bl X0.lt
           replace X1 := X1.below Bl X1.lt
           replace PA := PA.below Bl PA.lt
           replace PB := PB.below Bl PB.lt
           replace T := T.below (Bl.mono (by omega))
           replace D := D.trans (Dev.of_below (Bl.mono (by omega)))
           have RC := row_one_w y4 uv ⟨u1, by omega⟩ _ rfl
           have hz2 : w.heap.size + 1 + 1 + 1 ≤ (y4.alloc (.cells #[.int .u16 uv] 24)).heap.size := by simp; omega
           have lC : y4.heap.size < (y4.alloc (.cells #[.int .u16 uv] 24)).heap.size := by simp
           go_simp
           refine hK.out _ _ ⟨⟨trivial, FA PA⟩, FB PB⟩ ?_
           clear K hK Bl
           try simp only [Act.put, PuA, PuB, PuC]
           generalize y4.alloc (.cells #[.int .u16 uv] 24) = y5 at *
           have kC := hz
           replace hz := hz2
           generalize y4.heap.size = bC at *
           clear hz2
           refine h_move 12 (by kernel_rfl) (h_op 12 rfl (by kernel_rfl) (fun K hK => ?_))
           have e4 : y5.cell? ⟨w.heap.size + 1 + 1, 4, none⟩ = _ := X1.cell 4
           simp at e4
           have f4 := X1.frozen
           go_simp
           clear e4 f4
           replace X0 := X0.set_ne (g := w.heap.size + 1 + 1) (by omega) 4 (.int .i64 sv)
           replace X1 := X1.set 4 (.int .i64 sv)
           simp at X1
           replace PA := PA.set_ne (g := w.heap.size + 1 + 1) (by omega) 4 (.int .i64 sv)
           replace PB := PB.set_ne (g := w.heap.size + 1 + 1) (by omega) 4 (.int .i64 sv)
           replace RC := RC.setCell_new (g := w.heap.size + 1 + 1) (o := 4) (u := (.int .i64 sv)) (NewV.some (w.heap.size + 1 + 1 + 1) _ _ _ _ kC) (by omega)
           replace T := T.below ((Below.refl B y5).setCell (p := ⟨w.heap.size + 1 + 1, 4, none⟩) (by simp; omega) (.int .i64 sv))
           replace D := D.setCell (p := ⟨w.heap.size + 1 + 1, 4, none⟩) (by simp; omega) (.int .i64 sv)
           have hz2 : w.heap.size + 1 + 1 + 1 ≤ (y5.setCell ⟨w.heap.size + 1 + 1, 4, none⟩ (.int .i64 sv)).heap.size := by simp; omega
           refine hK.out _ _ ⟨⟨trivial, FA PA⟩, FB PB⟩ ?_
           clear K hK
           try simp only [Act.put, PuA, PuB, PuC]
           generalize y5.setCell ⟨w.heap.size + 1 + 1, 4, none⟩ (.int .i64 sv) = y6 at *
           replace hz := hz2
           clear hz2
           refine h_P ⟨⟨trivial, FA PA⟩, FB PB⟩ 13 rfl ?_
           refine h_move 14 (by kernel_rfl) (h_op 14 rfl (by kernel_rfl) (fun K hK => ?_))
           have e4 : y6.cell? ⟨w.heap.size + 1 + 1, 6, none⟩ = _ := X1.cell 6
           simp at e4
           have f4 := X1.frozen
           go_simp
           clear e4 f4
           replace X0 := X0.set_ne (g := w.heap.size + 1 + 1) (by omega) 6 (.slice (some ⟨bC, 0, none⟩) 1 1)
           replace X1 := X1.set 6 (.slice (some ⟨bC, 0, none⟩) 1 1)
           simp at X1
           replace PA := PA.set_ne (g := w.heap.size + 1 + 1) (by omega) 6 (.slice (some ⟨bC, 0, none⟩) 1 1)
           replace PB := PB.set_ne (g := w.heap.size + 1 + 1) (by omega) 6 (.slice (some ⟨bC, 0, none⟩) 1 1)
           replace RC := RC.setCell_new (g := w.heap.size + 1 + 1) (o := 6) (u := (.slice (some ⟨bC, 0, none⟩) 1 1)) (NewV.some (w.heap.size + 1 + 1 + 1) _ _ _ _ kC) (by omega)
           replace T := T.below ((Below.refl B y6).setCell (p := ⟨w.heap.size + 1 + 1, 6, none⟩) (by simp; omega) (.slice (some ⟨bC, 0, none⟩) 1 1))
           replace D := D.setCell (p := ⟨w.heap.size + 1 + 1, 6, none⟩) (by simp; omega) (.slice (some ⟨bC, 0, none⟩) 1 1)
           have hz2 : w.heap.size + 1 + 1 + 1 ≤ (y6.setCell ⟨w.heap.size + 1 + 1, 6, none⟩ (.slice (some ⟨bC, 0, none⟩) 1 1)).heap.size := by simp; omega
           refine hK.out _ _ ⟨⟨trivial, FA PA⟩, FB PB⟩ ?_
           clear K hK
           try simp only [Act.put, PuA, PuB, PuC]
           generalize y6.setCell ⟨w.heap.size + 1 + 1, 6, none⟩ (.slice (some ⟨bC, 0, none⟩) 1 1) = y7 at *
           replace hz := hz2
           clear hz2
           refine h_done (by kernel_rfl) ?_
           go_wp2_with fail
           go_meet
           exact ⟨sv, uv, bC, s1, s2, u1, u2, kC, X0, X1, RC, D⟩
          ·have e4 : y4.cell? ⟨w.heap.size + 1 + 1, 4, none⟩ = _ := X1.cell 4
           simp at e4
           have f4 := X1.frozen
           go_simp
           clear e4 f4
           replace X0 := X0.set_ne (g := w.heap.size + 1 + 1) (by omega) 4 (.int .i64 sv)
           replace X1 := X1.set 4 (.int .i64 sv)
           simp at X1
           replace PA := PA.set_ne (g := w.heap.size + 1 + 1) (by omega) 4 (.int .i64 sv)
           replace PB := PB.set_ne (g := w.heap.size + 1 + 1) (by omega) 4 (.int .i64 sv)
           replace T := T.below ((Below.refl B y4).setCell (p := ⟨w.heap.size + 1 + 1, 4, none⟩) (by simp; omega) (.int .i64 sv))
           replace D := D.setCell (p := ⟨w.heap.size + 1 + 1, 4, none⟩) (by simp; omega) (.int .i64 sv)
           have hz2 : w.heap.size + 1 + 1 + 1 ≤ (y4.setCell ⟨w.heap.size + 1 + 1, 4, none⟩ (.int .i64 sv)).heap.size := by simp; omega
           refine hK.out _ _ ⟨⟨trivial, FA PA⟩, FB PB⟩ ?_
           clear K hK
           try simp only [Act.put, PuA, PuB, PuC]
           generalize y4.setCell ⟨w.heap.size + 1 + 1, 4, none⟩ (.int .i64 sv) = y5 at *
           replace hz := hz2
           clear hz2
           refine h_move 10 (by kernel_rfl) (h_op 10 rfl (by kernel_rfl) (fun K hK => ?_))
           have Bl := (Below.refl y5.heap.size y5).alloc (Nat.le_refl _) (.cells #[.int .u16 uv] 24)
           replace X0 := X0.below Bl X0.lt
           replace X1 := X1.below Bl X1.lt
           replace PA := PA.below Bl PA.lt
           replace PB := PB.below Bl PB.lt
           replace T := T.below (Bl.mono (by omega))
           replace D := D.trans (Dev.of_below (Bl.mono (by omega)))
           have RC := row_one_w y5 uv ⟨u1, by omega⟩ _ rfl
           have hz2 : w.heap.size + 1 + 1 + 1 ≤ (y5.alloc (.cells #[.int .u16 uv] 24)).heap.size := by simp; omega
           have lC : y5.heap.size < (y5.alloc (.cells #[.int .u16 uv] 24)).heap.size := by simp
           go_simp
           refine hK.out _ _ ⟨⟨trivial, FA PA⟩, FB PB⟩ ?_
           clear K hK Bl
           try simp only [Act.put, PuA, PuB, PuC]
           generalize y5.alloc (.cells #[.int .u16 uv] 24) = y6 at *
           have kC := hz
           replace hz := hz2
           generalize y5.heap.size = bC at *
           clear hz2
           refine h_P ⟨⟨trivial, FA PA⟩, FB PB⟩ 13 rfl ?_
           refine h_move 14 (by kernel_rfl) (h_op 14 rfl (by kernel_rfl) (fun K hK => ?_))
           have e4 : y6.cell? ⟨w.heap.size + 1 + 1, 6, none⟩ = _ := X1.cell 6
           simp at e4
           have f4 := X1.frozen
           go_simp
           clear e4 f4
           replace X0 := X0.set_ne (g := w.heap.size + 1 + 1) (by omega) 6 (.slice (some ⟨bC, 0, none⟩) 1 1)
           replace X1 := X1.set 6 (.slice (some ⟨bC, 0, none⟩) 1 1)
           simp at X1
           replace PA := PA.set_ne (g := w.heap.size + 1 + 1) (by omega) 6 (.slice (some ⟨bC, 0, none⟩) 1 1)
           replace PB := PB.set_ne (g := w.heap.size + 1 + 1) (by omega) 6 (.slice (some ⟨bC, 0, none⟩) 1 1)
           replace RC := RC.setCell_new (g := w.heap.size + 1 + 1) (o := 6) (u := (.slice (some ⟨bC, 0, none⟩) 1 1)) (NewV.some (w.heap.size + 1 + 1 + 1) _ _ _ _ kC) (by omega)
           replace T := T.below ((Below.refl B y6).setCell (p := ⟨w.heap.size + 1 + 1, 6, none⟩) (by simp; omega) (.slice (some ⟨bC, 0, none⟩) 1 1))
           replace D := D.setCell (p := ⟨w.heap.size + 1 + 1, 6, none⟩) (by simp; omega) (.slice (some ⟨bC, 0, none⟩) 1 1)
           have hz2 : w.heap.size + 1 + 1 + 1 ≤ (y6.setCell ⟨w.heap.size + 1 + 1, 6, none⟩ (.slice (some ⟨bC, 0, none⟩) 1 1)).heap.size := by simp; omega
           refine hK.out _ _ ⟨⟨trivial, FA PA⟩, FB PB⟩ ?_
           clear K hK
           try simp only [Act.put, PuA, PuB, PuC]
           generalize y6.setCell ⟨w.heap.size + 1 + 1, 6, none⟩ (.slice (some ⟨bC, 0, none⟩) 1 1) = y7 at *
           replace hz := hz2
           clear hz2
           refine h_done (by kernel_rfl) ?_
           go_wp2_with fail
           go_meet
           exact ⟨sv, uv, bC, s1, s2, u1, u2, kC, X0, X1, RC, D⟩
         ·have e4 : y3.cell? ⟨w.heap.size + 1 + 1, 4, none⟩ = _ := X1.cell 4
          simp at e4
          have f4 := X1.frozen
          go_simp
          clear e4 f4
          replace X0 := X0.set_ne (g := w.heap.size + 1 + 1) (by omega) 4 (.int .i64 sv)
          replace X1 := X1.set 4 (.int .i64 sv)
          simp at X1
          replace PA := PA.set_ne (g := w.heap.size + 1 + 1) (by omega) 4 (.int .i64 sv)
          replace T := T.below ((Below.refl B y3).setCell (p := ⟨w.heap.size + 1 + 1, 4, none⟩) (by simp; omega) (.int .i64 sv))
          replace D := D.setCell (p := ⟨w.heap.size + 1 + 1, 4, none⟩) (by simp; omega) (.int .i64 sv)
          have hz2 : w.heap.size + 1 + 1 + 1 ≤ (y3.setCell ⟨w.heap.size + 1 + 1, 4, none⟩ (.int .i64 sv)).heap.size := by simp; omega
          refine hK.out _ _ ⟨trivial, FA PA⟩ ?_
          clear K hK
          try simp only [Act.put, PuA, PuB, PuC]
          generalize y3.setCell ⟨w.heap.size + 1 + 1, 4, none⟩ (.int .i64 sv) = y4 at *
          replace hz := hz2
          clear hz2
          refine h_move 5 (by kernel_rfl) (h_op 5 rfl (by kernel_rfl) (fun K hK => ?_))
          have Bl := (Below.refl y4.heap.size y4).alloc (Nat.le_refl _) (.cells #[.int .u16 0, .int .u16 0, .int .u16 0, .int .u16 777] 24)
          replace X0 := X0.below Bl X0.lt
          replace X1 := X1.below Bl X1.lt
          replace PA := PA.below Bl PA.lt
          replace T := T.below (Bl.mono (by omega))
          replace D := D.trans (Dev.of_below (Bl.mono (by omega)))
          have PB := Blk.new y4 24 [.int .u16 0, .int .u16 0, .int .u16 0, .int .u16 777]
          have hz2 : w.heap.size + 1 + 1 + 1 ≤ (y4.alloc (.cells #[.int .u16 0, .int .u16 0, .int .u16 0, .int .u16 777] 24)).heap.size := by simp; omega
          have lB : y4.heap.size < (y4.alloc (.cells #[.int .u16 0, .int .u16 0, .int .u16 0, .int .u16 777] 24)).heap.size := by simp
          go_simp
          refine hK.out _ _ ⟨trivial, FA PA⟩ ?_
          clear K hK Bl
          try simp only [Act.put, PuA, PuB, PuC]
          generalize y4.alloc (.cells #[.int .u16 0, .int .u16 0, .int .u16 0, .int .u16 777] 24) = y5 at *
          have kB := hz
          replace hz := hz2
          generalize y4.heap.size = bB at *
          clear hz2
          obtain ⟨uv, huv, u1, u2⟩ := val_at nx nx1 nx2
          have FB : ∀ {W : World}, Blk W bB 24 [.int .u16 0, .int .u16 0, .int .u16 0, .int .u16 777] → W.cell? ⟨bB, nx.toNat, none⟩ = some (.int .u16 uv) := fun h => (h.cell _).trans huv
          clear huv
          refine h_P ⟨trivial, FA PA⟩ 8 rfl ?_
          refine h_R (fun w' => ((True) ∧ w'.cell? ⟨bA, mx.toNat, none⟩ = some (.int .i64 sv)) ∧ w'.cell? ⟨bB, nx.toNat, none⟩ = some (.int .u16 uv)) (fun _ h => h.1) ⟨⟨trivial, FA PA⟩, FB PB⟩ 9 rfl (fun w' hx => by have hc := hx.2; go_simp; with_reducible rfl) ?_
          refine h_move 10 (by kernel_rfl) (h_op 10 rfl (by kernel_rfl) (fun K hK => ?_))
          have Bl := (Below.refl y5.heap.size y5).alloc (Nat.le_refl _) (.cells #[.int .u16 uv] 24)
          replace X0 := X0.below Bl X0.lt
          replace X1 := X1.below Bl X1.lt
          replace PA := PA.below Bl PA.lt
          replace PB := PB.below Bl PB.lt
          replace T := T.below (Bl.mono (by omega))
          replace D := D.trans (Dev.of_below (Bl.mono (by omega)))
          have RC := row_one_w y5 uv ⟨u1, by omega⟩ _ rfl
          have hz2 : w.heap.size + 1 + 1 + 1 ≤ (y5.alloc (.cells #[.int .u16 uv] 24)).heap.size := by simp; omega
          have lC : y5.heap.size < (y5.alloc (.cells #[.int .u16 uv] 24)).heap.size := by simp
          go_simp
          refine hK.out _ _ ⟨⟨trivial, FA PA⟩, FB PB⟩ ?_
          clear K hK Bl
          try simp only [Act.put, PuA, PuB, PuC]
          generalize y5.alloc (.cells #[.int .u16 uv] 24) = y6 at *
          have kC := hz
          replace hz := hz2
          generalize y5.heap.size = bC at *
          clear hz2
          refine h_P ⟨⟨trivial, FA PA⟩, FB PB⟩ 13 rfl ?_
          refine h_move 14 (by kernel_rfl) (h_op 14 rfl (by kernel_rfl) (fun K hK => ?_))
          have e4 : y6.cell? ⟨w.heap.size + 1 + 1, 6, none⟩ = _ := X1.cell 6
          simp at e4
          have f4 := X1.frozen
          go_simp
          clear e4 f4
          replace X0 := X0.set_ne (g := w.heap.size + 1 + 1) (by omega) 6 (.slice (some ⟨bC, 0, none⟩) 1 1)
          replace X1 := X1.set 6 (.slice (some ⟨bC, 0, none⟩) 1 1)
          simp at X1
          replace PA := PA.set_ne (g := w.heap.size + 1 + 1) (by omega) 6 (.slice (some ⟨bC, 0, none⟩) 1 1)
          replace PB := PB.set_ne (g := w.heap.size + 1 + 1) (by omega) 6 (.slice (some ⟨bC, 0, none⟩) 1 1)
          replace RC := RC.setCell_new (g := w.heap.size + 1 + 1) (o := 6) (u := (.slice (some ⟨bC, 0, none⟩) 1 1)) (NewV.some (w.heap.size + 1 + 1 + 1) _ _ _ _ kC) (by omega)
          replace T := T.below ((Below.refl B y6).setCell (p := ⟨w.heap.size + 1 + 1, 6, none⟩) (by simp; omega) (.slice (some ⟨bC, 0, none⟩) 1 1))
          replace D := D.setCell (p := ⟨w.heap.size + 1 + 1, 6, none⟩) (by simp; omega) (.slice (some ⟨bC, 0, none⟩) 1 1)
          have hz2 : w.heap.size + 1 + 1 + 1 ≤ (y6.setCell ⟨w.heap.size + 1 + 1, 6, none⟩ (.slice (some ⟨bC, 0, none⟩) 1 1)).heap.size := by simp; omega
          refine hK.out _ _ ⟨⟨trivial, FA PA⟩, FB PB⟩ ?_
          clear K hK
          try simp only [Act.put, PuA, PuB, PuC]
          generalize y6.setCell ⟨w.heap.size + 1 + 1, 6, none⟩ (.slice (some ⟨bC, 0, none⟩) 1 1) = y7 at *
          replace hz := hz2
          clear hz2
          refine h_done (by kernel_rfl) ?_
          go_wp2_with fail
          go_meet
          exact ⟨sv, uv, bC, s1, s2, u1, u2, kC, X0, X1, RC, D⟩
       ·have Bl := (Below.refl y1.heap.size y1).alloc (Nat.le_refl _) (.cells #[.int .u16 0, .int .u16 0, .int .u16 0, .int .u16 777] 24)
        replace X0 := X0.below Bl X0.lt
        replace X1 := X1.below Bl X1.lt
        replace PA := PA.below Bl PA.lt
        replace T := T.below (Bl.mono (by omega))
        replace D := D.trans (Dev.of_below (Bl.mono (by omega)))
        have PB := Blk.new y1 24 [.int .u16 0, .int .u16 0, .int .u16 0, .int .u16 777]
        have hz2 : w.heap.size + 1 + 1 + 1 ≤ (y1.alloc (.cells #[.int .u16 0, .int .u16 0, .int .u16 0, .int .u16 777] 24)).heap.size := by simp; omega
        have lB : y1.heap.size < (y1.alloc (.cells #[.int .u16 0, .int .u16 0, .int .u16 0, .int .u16 777] 24)).heap.size := by simp
        go_simp
        refine hK.out _ _ trivial ?_
        clear K hK Bl
        try simp only [Act.put, PuA, PuB, PuC]
        generalize y1.alloc (.cells #[.int .u16 0, .int .u16 0, .int .u16 0, .int .u16 777] 24) = y2 at *
        have kB := hz
        replace hz := hz2
        generalize y1.heap.size = bB at *
        clear hz2
        refine h_move 2 (by kernel_rfl) (h_op 2 rfl (by kernel_rfl) (fun K hK => ?_))
        go_wp2_with fail
        refine (next_any B g l 8 _ T (by omega) (by decide)).mono ?_
        rintro e y3 ⟨mx, rfl, mx1, mx2, T', S', D'⟩
        have hz2 : w.heap.size + 1 + 1 + 1 ≤ y3.heap.size := by omega
        replace X0 := X0.dev D' X0.lt (by omega)
        replace X1 := X1.dev D' X1.lt (by omega)
        replace PA := PA.dev D' PA.lt (by omega)
        replace PB := PB.dev D' PB.lt (by omega)
        replace T := T'
        replace D := D.trans (D'.mono (by omega))
        clear S' D' T'
        replace hz := hz2
        clear hz2
        go_simp
        refine hK.out _ _ trivial ?_
        clear K hK
        try simp only [Act.put, PuA, PuB, PuC]
        obtain ⟨sv, hsv, s1, s2⟩ := sub_at mx mx1 mx2
        have FA : ∀ {W : World}, Blk W bA 3 [.int .i64 0, .int .i64 10, .int .i64 11, .int .i64 12, .int .i64 13, .int .i64 14, .int .i64 2, .int .i64 300] → W.cell? ⟨bA, mx.toNat, none⟩ = some (.int .i64 sv) := fun h => (h.cell _).trans hsv
        clear hsv
        refine h_P trivial 3 rfl ?_
        refine h_R (fun w' => (True) ∧ w'.cell? ⟨bA, mx.toNat, none⟩ = some (.int .i64 sv)) (fun _ h => h.1) ⟨trivial, FA PA⟩ 4 rfl (fun w' hx => by have hc := hx.2; go_simp; with_reducible rfl) ?_
        refine h_P ⟨trivial, FA PA⟩ 11 rfl ?_
        refine h_move 7 (by kernel_rfl) (h_op 7 rfl (by kernel_rfl) (fun K hK => ?_))
        go_wp2_with fail
        refine (next_any B g l 4 _ T (by omega) (by decide)).mono ?_
        rintro e y4 ⟨nx, rfl, nx1, nx2, T', S', D'⟩
        have hz2 : w.heap.size + 1 + 1 + 1 ≤ y4.heap.size := by omega
        replace X0 := X0.dev D' X0.lt (by omega)
        replace X1 := X1.dev D' X1.lt (by omega)
        replace PA := PA.dev D' PA.lt (by omega)
        replace PB := PB.dev D' PB.lt (by omega)
        replace T := T'
        replace D := D.trans (D'.mono (by omega))
        clear S' D' T'
        replace hz := hz2
        clear hz2
        go_simp
        refine hK.out _ _ ⟨trivial, FA PA⟩ ?_
        clear K hK
        try simp only [Act.put, PuA, PuB, PuC]
        obtain ⟨uv, huv, u1, u2⟩ := val_at nx nx1 nx2
        have FB : ∀ {W : World}, Blk W bB 24 [.int .u16 0, .int .u16 0, .int .u16 0, .int .u16 777] → W.cell? ⟨bB, nx.toNat, none⟩ = some (.int .u16 uv) := fun h => (h.cell _).trans huv
        clear huv
        refine h_P ⟨trivial, FA PA⟩ 8 rfl ?_
        refine h_R (fun w' => ((True) ∧ w'.cell? ⟨bA, mx.toNat, none⟩ = some (.int .i64 sv)) ∧ w'.cell? ⟨bB, nx.toNat, none⟩ = some (.int .u16 uv)) (fun _ h => h.1) ⟨⟨trivial, FA PA⟩, FB PB⟩ 9 rfl (fun w' hx => by have hc := hx.2; go_simp; with_reducible rfl) ?_
        refine h_move2 10 12 (by kernel_rfl) (h_op 10 rfl (by kernel_rfl) (fun K hK => ?_)) (h_op 12 rfl (by kernel_rfl) (fun K hK => ?_))
        ·have Bl := (Below.refl y4.heap.size y4).alloc (Nat.le_refl _) (.cells #[.int .u16 uv] 24)
         replace X0 := X0.below Bl X0.lt
         replace X1 := X1.below Bl X1.lt
         replace PA := PA.below Bl PA.lt
         replace PB := PB.below Bl PB.lt
         replace T := T.below (Bl.mono (by omega))
         replace D := D.trans (Dev.of_below (Bl.mono (by omega)))
         have RC := row_one_w y4 uv ⟨u1, by omega⟩ _ rfl
         have hz2 : w.heap.size + 1 + 1 + 1 ≤ (y4.alloc (.cells #[.int .u16 uv] 24)).heap.size := by simp; omega
         have lC : y4.heap.size < (y4.alloc (.cells #[.int .u16 uv] 24)).heap.size := by simp
         go_simp
         refine hK.out _ _ ⟨⟨trivial, FA PA⟩, FB PB⟩ ?_
         clear K hK Bl
         try simp only [Act.put, PuA, PuB, PuC]
         generalize y4.alloc (.cells #[.int .u16 uv] 24) = y5 at *
         have kC := hz
         replace hz := hz2
         generalize y4.heap.size = bC at *
         clear hz2
         refine h_move 12 (by kernel_rfl) (h_op 12 rfl (by kernel_rfl) (fun K hK => ?_))
         have e4 : y5.cell? ⟨w.heap.size + 1 + 1, 4, none⟩ = _ := X1.cell 4
         simp at e4
         have f4 := X1.frozen
         go_simp
         clear e4 f4
         replace X0 := X0.set_ne (g := w.heap.size + 1 + 1) (by omega) 4 (.int .i64 sv)
         replace X1 := X1.set 4 (.int .i64 sv)
         simp at X1
         replace PA := PA.set_ne (g := w.heap.size + 1 + 1) (by omega) 4 (.int .i64 sv)
         replace PB := PB.set_ne (g := w.heap.size + 1 + 1) (by omega) 4 (.int .i64 sv)
         replace RC := RC.setCell_new (g := w.heap.size + 1 + 1) (o := 4) (u := (.int .i64 sv)) (NewV.some (w.heap.size + 1 + 1 + 1) _ _ _ _ kC) (by omega)
         replace T := T.below ((Below.refl B y5).setCell (p := ⟨w.heap.size + 1 + 1, 4, none⟩) (by simp; omega) (.int .i64 sv))
         replace D := D.setCell (p := ⟨w.heap.size + 1 + 1, 4, none⟩) (by simp; omega) (.int .i64 sv)
         have hz2 : w.heap.size + 1 + 1 + 1 ≤ (y5.setCell ⟨w.heap.size + 1 + 1, 4, none⟩ (.int .i64 sv)).heap.size := by simp; omega
         refine hK.out _ _ ⟨⟨trivial, FA PA⟩, FB PB⟩ ?_
         clear K hK
         try simp only [Act.put, PuA, PuB, PuC]
         generalize y5.setCell ⟨w.heap.size + 1 + 1, 4, none⟩ (.int .i64 sv) = y6 at *
         replace hz := hz2
         clear hz2
         refine h_P ⟨⟨trivial, FA PA⟩, FB PB⟩ 13 rfl ?_
         refine h_move 14 (by kernel_rfl) (h_op 14 rfl (by kernel_rfl) (fun K hK => ?_))
         have e4 : y6.cell? ⟨w.heap.size + 1 + 1, 6, none⟩ = _ := X1.cell 6
         simp at e4
         have f4 := X1.frozen
         go_simp
         clear e4 f4
         replace X0 := X0.set_ne (g := w.heap.size + 1 + 1) (by omega) 6 (.slice (some ⟨bC, 0, none⟩) 1 1)
         replace X1 := X1.set 6 (.slice (some ⟨bC, 0, none⟩) 1 1)
         simp at X1
         replace PA := PA.set_ne (g := w.heap.size + 1 + 1) (by omega) 6 (.slice (some ⟨bC, 0, none⟩) 1 1)
         replace PB := PB.set_ne (g := w.heap.size + 1 + 1) (by omega) 6 (.slice (some ⟨bC, 0, none⟩) 1 1)
         replace RC := RC.setCell_new (g := w.heap.size + 1 + 1) (o := 6) (u := (.slice (some ⟨bC, 0, none⟩) 1 1)) (NewV.some (w.heap.size + 1 + 1 + 1) _ _ _ _ kC) (by omega)
         replace T := T.below ((Below.refl B y6).setCell (p := ⟨w.heap.size + 1 + 1, 6, none⟩) (by simp; omega) (.slice (some ⟨bC, 0, none⟩) 1 1))
         replace D := D.setCell (p := ⟨w.heap.size + 1 + 1, 6, none⟩) (by simp; omega) (.slice (some ⟨bC, 0, none⟩) 1 1)
         have hz2 : w.heap.size + 1 + 1 + 1 ≤ (y6.setCell ⟨w.heap.size + 1 + 1, 6, none⟩ (.slice (some ⟨bC, 0, none⟩) 1 1)).heap.size := by simp; omega
         refine hK.out _ _ ⟨⟨trivial, FA PA⟩, FB PB⟩ ?_
         clear K hK
         try simp only [Act.put, PuA, PuB, PuC]
         generalize y6.setCell ⟨w.heap.size + 1 + 1, 6, none⟩ (.slice (some ⟨bC, 0, none⟩) 1 1) = y7 at *
         replace hz := hz2
         clear hz2
         refine h_done (by kernel_rfl) ?_
         go_wp2_with fail
         go_meet
         exact ⟨sv, uv, bC, s1, s2, u1, u2, kC, X0, X1, RC, D⟩
        ·have e4 : y4.cell? ⟨w.heap.size + 1 + 1, 4, none⟩ = _ := X1.cell 4
         simp at e4
         have f4 := X1.frozen
         go_simp
         clear e4 f4
         replace X0 := X0.set_ne (g := w.heap.size + 1 + 1) (by omega) 4 (.int .i64 sv)
         replace X1 := X1.set 4 (.int .i64 sv)
         simp at X1
         replace PA := PA.set_ne (g := w.heap.size + 1 + 1) (by omega) 4 (.int .i64 sv)
         replace PB := PB.set_ne (g := w.heap.size + 1 + 1) (by omega) 4 (.int .i64 sv)
         replace T := T.below ((Below.refl B y4).setCell (p := ⟨w.heap.size + 1 + 1, 4, none⟩) (by simp; omega) (.int .i64 sv))
         replace D := D.setCell (p := ⟨w.heap.size + 1 + 1, 4, none⟩) (by simp; omega) (.int .i64 sv)
         have hz2 : w.heap.size + 1 + 1 + 1 ≤ (y4.setCell ⟨w.heap.size + 1 + 1, 4, none⟩ (.int .i64 sv)).heap.size := by simp; omega
         refine hK.out _ _ ⟨⟨trivial, FA PA⟩, FB PB⟩ ?_
         clear K hK
         try simp only [Act.put, PuA, PuB, PuC]
         generalize y4.setCell ⟨w.heap.size + 1 + 1, 4, none⟩ (.int .i64 sv) = y5 at *
         replace hz := hz2
         clear hz2
         refine h_move 10 (by kernel_rfl) (h_op 10 rfl (by kernel_rfl) (fun K hK => ?_))
         have Bl := (Below.refl y5.heap.size y5).alloc (Nat.le_refl _) (.cells #[.int .u16 uv] 24)
         replace X0 := X0.below Bl X0.lt
         replace X1 := X1.below Bl X1.lt
         replace PA := PA.below Bl PA.lt
         replace PB := PB.below Bl PB.lt
         replace T := T.below (Bl.mono (by omega))
         replace D := D.trans (Dev.of_below (Bl.mono (by omega)))
         have RC := row_one_w y5 uv ⟨u1, by omega⟩ _ rfl
         have hz2 : w.heap.size + 1 + 1 + 1 ≤ (y5.alloc (.cells #[.int .u16 uv] 24)).heap.size := by simp; omega
         have lC : y5.heap.size < (y5.alloc (.cells #[.int .u16 uv] 24)).heap.size := by simp
         go_simp
         refine hK.out _ _ ⟨⟨trivial, FA PA⟩, FB PB⟩ ?_
         clear K hK Bl
         try simp only [Act.put, PuA, PuB, PuC]
         generalize y5.alloc (.cells #[.int .u16 uv] 24) = y6 at *
         have kC := hz
         replace hz := hz2
         generalize y5.heap.size = bC at *
         clear hz2
         refine h_P ⟨⟨trivial, FA PA⟩, FB PB⟩ 13 rfl ?_
         refine h_move 14 (by kernel_rfl) (h_op 14 rfl (by kernel_rfl) (fun K hK => ?_))
         have e4 : y6.cell? ⟨w.heap.size + 1 + 1, 6, none⟩ = _ := X1.cell 6
         simp at e4
         have f4 := X1.frozen
         go_simp
         clear e4 f4
         replace X0 := X0.set_ne (g := w.heap.size + 1 + 1) (by omega) 6 (.slice (some ⟨bC, 0, none⟩) 1 1)
         replace X1 := X1.set 6 (.slice (some ⟨bC, 0, none⟩) 1 1)
         simp at X1
         replace PA := PA.set_ne (g := w.heap.size + 1 + 1) (by omega) 6 (.slice (some ⟨bC, 0, none⟩) 1 1)
         replace PB := PB.set_ne (g := w.heap.size + 1 + 1) (by omega) 6 (.slice (some ⟨bC, 0, none⟩) 1 1)
         replace RC := RC.setCell_new (g := w.heap.size + 1 + 1) (o := 6) (u := (.slice (some ⟨bC, 0, none⟩) 1 1)) (NewV.some (w.heap.size + 1 + 1 + 1) _ _ _ _ kC) (by omega)
         replace T := T.below ((Below.refl B y6).setCell (p := ⟨w.heap.size + 1 + 1, 6, none⟩) (by simp; omega) (.slice (some ⟨bC, 0, none⟩) 1 1))
         replace D := D.setCell (p := ⟨w.heap.size + 1 + 1, 6, none⟩) (by simp; omega) (.slice (some ⟨bC, 0, none⟩) 1 1)
         have hz2 : w.heap.size + 1 + 1 + 1 ≤ (y6.setCell ⟨w.heap.size + 1 + 1, 6, none⟩ (.slice (some ⟨bC, 0, none⟩) 1 1)).heap.size := by simp; omega
         refine hK.out _ _ ⟨⟨trivial, FA PA⟩, FB PB⟩ ?_
         clear K hK
         try simp only [Act.put, PuA, PuB, PuC]
         generalize y6.setCell ⟨w.heap.size + 1 + 1, 6, none⟩ (.slice (some ⟨bC, 0, none⟩) 1 1) = y7 at *
         replace hz := hz2
         clear hz2
         refine h_done (by kernel_rfl) ?_
         go_wp2_with fail
         go_meet
         exact ⟨sv, uv, bC, s1, s2, u1, u2, kC, X0, X1, RC, D⟩
      ·go_wp2_with fail
       refine (next_any B g l 8 _ T (by omega) (by decide)).mono ?_
       rintro e y1 ⟨mx, rfl, mx1, mx2, T', S', D'⟩
       have hz2 : w.heap.size + 1 + 1 + 1 ≤ y1.heap.size := by omega
       replace X0 := X0.dev D' X0.lt (by omega)
       replace X1 := X1.dev D' X1.lt (by omega)
       replace T := T'
       replace D := D.trans (D'.mono (by omega))
       clear S' D' T'
       replace hz := hz2
       clear hz2
       go_simp
       refine hK.out _ _ trivial ?_
       clear K hK
       try simp only [Act.put, PuA, PuB, PuC]
       refine h_move3 0 5 7 (by kernel_rfl) (h_op 0 rfl (by kernel_rfl) (fun K hK => ?_)) (h_op 5 rfl (by kernel_rfl) (fun K hK => ?_)) (h_op 7 rfl (by kernel_rfl) (fun K hK => ?_))
       ·have Bl := (Below.refl y1.heap.size y1).alloc (Nat.le_refl _) (.cells #[.int .i64 0, .int .i64 10, .int .i64 11, .int .i64 12, .int .i64 13, .int .i64 14, .int .i64 2, .int .i64 300] 3)
        replace X0 := X0.below Bl X0.lt
        replace X1 := X1.below Bl X1.lt
        replace T := T.below (Bl.mono (by omega))
        replace D := D.trans (Dev.of_below (Bl.mono (by omega)))
        have PA := Blk.new y1 3 [.int .i64 0, .int .i64 10, .int .i64 11, .int .i64 12, .int .i64 13, .int .i64 14, .int .i64 2, .int .i64 300]
        have hz2 : w.heap.size + 1 + 1 + 1 ≤ (y1.alloc (.cells #[.int .i64 0, .int .i64 10, .int .i64 11, .int .i64 12, .int .i64 13, .int .i64 14, .int .i64 2, .int .i64 300] 3)).heap.size := by simp; omega
        have lA : y1.heap.size < (y1.alloc (.cells #[.int .i64 0, .int .i64 10, .int .i64 11, .int .i64 12, .int .i64 13, .int .i64 14, .int .i64 2, .int .i64 300] 3)).heap.size := by simp
        go_simp
        refine hK.out _ _ trivial ?_
        clear K hK Bl
        try simp only [Act.put, PuA, PuB, PuC]
        generalize y1.alloc (.cells #[.int .i64 0, .int .i64 10, .int .i64 11, .int .i64 12, .int .i64 13, .int .i64 14, .int .i64 2, .int .i64 300] 3) = y2 at *
        have kA := hz
        replace hz := hz2
        generalize y1.heap.size = bA at *
        clear hz2
        obtain ⟨sv, hsv, s1, s2⟩ := sub_at mx mx1 mx2
        have FA : ∀ {W : World}, Blk W bA 3 [.int .i64 0, .int .i64 10, .int .i64 11, .int .i64 12, .int .i64 13, .int .i64 14, .int .i64 2, .int .i64 300] → W.cell? ⟨bA, mx.toNat, none⟩ = some (.int .i64 sv) := fun h => (h.cell _).trans hsv
        clear hsv
        refine h_P trivial 3 rfl ?_
        refine h_R (fun w' => (True) ∧ w'.cell? ⟨bA, mx.toNat, none⟩ = some (.int .i64 sv)) (fun _ h => h.1) ⟨trivial, FA PA⟩ 4 rfl (fun w' hx => by have hc := hx.2; go_simp; with_reducible rfl) ?_
        refine h_P ⟨trivial, FA PA⟩ 11 rfl ?_
        refine h_move2 5 7 (by kernel_rfl) (h_op 5 rfl (by kernel_rfl) (fun K hK => ?_)) (h_op 7 rfl (by kernel_rfl) (fun K hK => ?_))
        ·have Bl := (Below.refl y2.heap.size y2).alloc (Nat.le_refl _) (.cells #[.int .u16 0, .int .u16 0, .int .u16 0, .int .u16 777] 24)
         replace X0 := X0.below Bl X0.lt
         replace X1 := X1.below Bl X1.lt
         replace PA := PA.below Bl PA.lt
         replace T := T.below (Bl.mono (by omega))
         replace D := D.trans (Dev.of_below (Bl.mono (by omega)))
         have PB := Blk.new y2 24 [.int .u16 0, .int .u16 0, .int .u16 0, .int .u16 777]
         have hz2 : w.heap.size + 1 + 1 + 1 ≤ (y2.alloc (.cells #[.int .u16 0, .int .u16 0, .int .u16 0, .int .u16 777] 24)).heap.size := by simp; omega
         have lB : y2.heap.size < (y2.alloc (.cells #[.int .u16 0, .int .u16 0, .int .u16 0, .int .u16 777] 24)).heap.size := by simp
         go_simp
         refine hK.out _ _ ⟨trivial, FA PA⟩ ?_
         clear K hK Bl
         try simp only [Act.put, PuA, PuB, PuC]
         generalize y2.alloc (.cells #[.int .u16 0, .int .u16 0, .int .u16 0, .int .u16 777] 24) = y3 at *
         have kB := hz
         replace hz := hz2
         generalize y2.heap.size = bB at *
         clear hz2
         refine h_move 7 (by kernel_rfl) (h_op 7 rfl (by kernel_rfl) (fun K hK => ?_))
         go_wp2_with fail
         refine (next_any B g l 4 _ T (by omega) (by decide)).mono ?_
         rintro e y4 ⟨nx, rfl, nx1, nx2, T', S', D'⟩
         have hz2 : w.heap.size + 1 + 1 + 1 ≤ y4.heap.size := by omega
         replace X0 := X0.dev D' X0.lt (by omega)
         replace X1 := X1.dev D' X1.lt (by omega)
         replace PA := PA.dev D' PA.lt (by omega)
         replace PB := PB.dev D' PB.lt (by omega)
         replace T := T'
         replace D := D.trans (D'.mono (by omega))
         clear S' D' T'
         replace hz := hz2
         clear hz2
         go_simp
         refine hK.out _ _ ⟨trivial, FA PA⟩ ?_
         clear K hK
         try simp only [Act.put, PuA, PuB, PuC]
         obtain ⟨uv, huv, u1, u2⟩ := val_at nx nx1 nx2
         have FB : ∀ {W : World}, Blk W bB 24 [.int .u16 0, .int .u16 0, .int .u16 0, .int .u16 777] → W.cell? ⟨bB, nx.toNat, none⟩ = some (.int .u16 uv) := fun h => (h.cell _).trans huv
         clear huv
         refine h_P ⟨trivial, FA PA⟩ 8 rfl ?_
         refine h_R (fun w' => ((True) ∧ w'.cell? ⟨bA, mx.toNat, none⟩ = some (.int .i64 sv)) ∧ w'.cell? ⟨bB, nx.toNat, none⟩ = some (.int .u16 uv)) (fun _ h => h.1) ⟨⟨trivial, FA PA⟩, FB PB⟩ 9 rfl (fun w' hx => by have hc := hx.2; go_simp; with_reducible rfl) ?_
         refine h_move2 10 12 (by kernel_rfl) (h_op 10 rfl (by kernel_rfl) (fun K hK => ?_)) (h_op 12 rfl (by kernel_rfl) (fun K hK => ?_))
         ·have Bl := (Below.refl y4.heap.size y4).alloc (Nat.le_refl _) (.cells #[.int .u16 uv] 24)
          replace X0 := X0.below Bl X0.lt
          replace X1 := X1.below Bl X1.lt
          replace PA := PA.below Bl PA.lt
          replace PB := PB.below Bl PB.lt
          replace T := T.below (Bl.mono (by omega))
          replace D := D.trans (Dev.of_below (Bl.mono (by omega)))
          have RC := row_one_w y4 uv ⟨u1, by omega⟩ _ rfl
          have hz2 : w.heap.size + 1 + 1 + 1 ≤ (y4.alloc (.cells #[.int .u16 uv] 24)).heap.size := by simp; omega
          have lC : y4.heap.size < (y4.alloc (.cells #[.int .u16 uv] 24)).heap.size := by simp
          go_simp
          refine hK.out _ _ ⟨⟨trivial, FA PA⟩, FB PB⟩ ?_
          clear K hK Bl
          try simp only [Act.put, PuA, PuB, PuC]
          generalize y4.alloc (.cells #[.int .u16 uv] 24) = y5 at *
          have kC := hz
          replace hz := hz2
          generalize y4.heap.size = bC at *
          clear hz2
          refine h_move 12 (by kernel_rfl) (h_op 12 rfl (by kernel_rfl) (fun K hK => ?_))
          have e4 : y5.cell? ⟨w.heap.size + 1 + 1, 4, none⟩ = _ := X1.cell 4
          simp at e4
          have f4 := X1.frozen
          go_simp
          clear e4 f4
          replace X0 := X0.set_ne (g := w.heap.size + 1 + 1) (by omega) 4 (.int .i64 sv)
          replace X1 := X1.set 4 (.int .i64 sv)
          simp at X1
          replace PA := PA.set_ne (g := w.heap.size + 1 + 1) (by omega) 4 (.int .i64 sv)
          replace PB := PB.set_ne (g := w.heap.size + 1 + 1) (by omega) 4 (.int .i64 sv)
          replace RC := RC.setCell_new (g := w.heap.size + 1 + 1) (o := 4) (u := (.int .i64 sv)) (NewV.some (w.heap.size + 1 + 1 + 1) _ _ _ _ kC) (by omega)
          replace T := T.below ((Below.refl B y5).setCell (p := ⟨w.heap.size + 1 + 1, 4, none⟩) (by simp; omega) (.int .i64 sv))
          replace D := D.setCell (p := ⟨w.heap.size + 1 + 1, 4, none⟩) (by simp; omega) (.int .i64 sv)
          have hz2 : w.heap.size + 1 + 1 + 1 ≤ (y5.setCell ⟨w.heap.size + 1 + 1, 4, none⟩ (.int .i64 sv)).heap.size := by simp; omega
          refine hK.out _ _ ⟨⟨trivial, FA PA⟩, FB PB⟩ ?_
          clear K hK
          try simp only [Act.put, PuA, PuB, PuC]
          generalize y5.setCell ⟨w.heap.size + 1 + 1, 4, none⟩ (.int .i64 sv) = y6 at *
          replace hz := hz2
          clear hz2
          refine h_P ⟨⟨trivial, FA PA⟩, FB PB⟩ 13 rfl ?_
          refine h_move 14 (by kernel_rfl) (h_op 14 rfl (by kernel_rfl) (fun K hK => ?_))
          have e4 : y6.cell? ⟨w.heap.size + 1 + 1, 6, none⟩ = _ := X1.cell 6
          simp at e4
          have f4 := X1.frozen
          go_simp
          clear e4 f4
          replace X0 := X0.set_ne (g := w.heap.size + 1 + 1) (by omega) 6 (.slice (some ⟨bC, 0, none⟩) 1 1)
          replace X1 := X1.set 6 (.slice (some ⟨bC, 0, none⟩) 1 1)
          simp at X1
          replace PA := PA.set_ne (g := w.heap.size + 1 + 1) (by omega) 6 (.slice (some ⟨bC, 0, none⟩) 1 1)
          replace PB := PB.set_ne (g := w.heap.size + 1 + 1) (by omega) 6 (.slice (some ⟨bC, 0, none⟩) 1 1)
          replace RC := RC.setCell_new (g := w.heap.size + 1 + 1) (o := 6) (u := (.slice (some ⟨bC, 0, none⟩) 1 1)) (NewV.some (w.heap.size + 1 + 1 + 1) _ _ _ _ kC) (by omega)
          replace T := T.below ((Below.refl B y6).setCell (p := ⟨w.heap.size + 1 + 1, 6, none⟩) (by simp; omega) (.slice (some ⟨bC, 0, none⟩) 1 1))
          replace D := D.setCell (p := ⟨w.heap.size + 1 + 1, 6, none⟩) (by simp; omega) (.slice (some ⟨bC, 0, none⟩) 1 1)
          have hz2 : w.heap.size + 1 + 1 + 1 ≤ (y6.setCell ⟨w.heap.size + 1 + 1, 6, none⟩ (.slice (some ⟨bC, 0, none⟩) 1 1)).heap.size := by simp; omega
          refine hK.out _ _ ⟨⟨trivial, FA PA⟩, FB PB⟩ ?_
          clear K hK
          try simp only [Act.put, PuA, PuB, PuC]
          generalize y6.setCell ⟨w.heap.size + 1 + 1, 6, none⟩ (.slice (some ⟨bC, 0, none⟩) 1 1) = y7 at *
          replace hz := hz2
          clear hz2
          refine h_done (by kernel_rfl) ?_
          go_wp2_with fail
          go_meet
          exact ⟨sv, uv, bC, s1, s2, u1, u2, kC, X0, X1, RC, D⟩
         ·have e4 : y4.cell? ⟨w.heap.size + 1 + 1, 4, none⟩ = _ := X1.cell 4
          simp at e4
          have f4 := X1.frozen
          go_simp
          clear e4 f4
          replace X0 := X0.set_ne (g := w.heap.size + 1 + 1) (by omega) 4 (.int .i64 sv)
          replace X1 := X1.set 4 (.int .i64 sv)
          simp at X1
          replace PA := PA.set_ne (g := w.heap.size + 1 + 1) (by omega) 4 (.int .i64 sv)
          replace PB := PB.set_ne (g := w.heap.size + 1 + 1) (by omega) 4 (.int .i64 sv)
          replace T := T.below ((Below.refl B y4).setCell (p := ⟨w.heap.size + 1 + 1, 4, none⟩) (by simp; omega) (.int .i64 sv))
          replace D := D.setCell (p := ⟨w.heap.size + 1 + 1, 4, none⟩) (by simp; omega) (.int .i64 sv)
          have hz2 : w.heap.size + 1 + 1 + 1 ≤ (y4.setCell ⟨w.heap.size + 1 + 1, 4, none⟩ (.int .i64 sv)).heap.size := by simp; omega
          refine hK.out _ _ ⟨⟨trivial, FA PA⟩, FB PB⟩ ?_
          clear K hK
          try simp only [Act.put, PuA, PuB, PuC]
          generalize y4.setCell ⟨w.heap.size + 1 + 1, 4, none⟩ (.int .i64 sv) = y5 at *
          replace hz := hz2
          clear hz2
          refine h_move 10 (by kernel_rfl) (h_op 10 rfl (by kernel_rfl) (fun K hK => ?_))
          have Bl := (Below.refl y5.heap.size y5).alloc (Nat.le_refl _) (.cells #[.int .u16 uv] 24)
          replace X0 := X0.below Bl X0.lt
          replace X1 := X1.below Bl X1.lt
          replace PA := PA.below Bl PA.lt
          replace PB := PB.below Bl PB.lt
          replace T := T.below (Bl.mono (by omega))
          replace D := D.trans (Dev.of_below (Bl.mono (by omega)))
          have RC := row_one_w y5 uv ⟨u1, by omega⟩ _ rfl
          have hz2 : w.heap.size + 1 + 1 + 1 ≤ (y5.alloc (.cells #[.int .u16 uv] 24)).heap.size := by simp; omega
          have lC : y5.heap.size < (y5.alloc (.cells #[.int .u16 uv] 24)).heap.size := by simp
          go_simp
          refine hK.out _ _ ⟨⟨trivial, FA PA⟩, FB PB⟩ ?_
          clear K hK Bl
          try simp only [Act.put, PuA, PuB, PuC]
          generalize y5.alloc (.cells #[.int .u16 uv] 24) = y6 at *
          have kC := hz
          replace hz := hz2
          generalize y5.heap.size = bC at *
          clear hz2
          refine h_P ⟨⟨trivial, FA PA⟩, FB PB⟩ 13 rfl ?_
          refine h_move 14 (by kernel_rfl) (h_op 14 rfl (by kernel_rfl) (fun K hK => ?_))
          have e4 : y6.cell? ⟨w.heap.size + 1 + 1, 6, none⟩ = _ := X1.cell 6
          simp at e4
          have f4 := X1.frozen
          go_simp
          clear e4 f4
          replace X0 := X0.set_ne (g := w.heap.size + 1 + 1) (by omega) 6 (.slice (some ⟨bC, 0, none⟩) 1 1)
          replace X1 := X1.set 6 (.slice (some ⟨bC, 0, none⟩) 1 1)
          simp at X1
          replace PA := PA.set_ne (g := w.heap.size + 1 + 1) (by omega) 6 (.slice (some ⟨bC, 0, none⟩) 1 1)
          replace PB := PB.set_ne (g := w.heap.size + 1 + 1) (by omega) 6 (.slice (some ⟨bC, 0, none⟩) 1 1)
          replace RC := RC.setCell_new (g := w.heap.size + 1 + 1) (o := 6) (u := (.slice (some ⟨bC, 0, none⟩) 1 1)) (NewV.some (w.heap.size + 1 + 1 + 1) _ _ _ _ kC) (by omega)
          replace T := T.below ((Below.refl B y6).setCell (p := ⟨w.heap.size + 1 + 1, 6, none⟩) (by simp; omega) (.slice (some ⟨bC, 0, none⟩) 1 1))
          replace D := D.setCell (p := ⟨w.heap.size + 1 + 1, 6, none⟩) (by simp; omega) (.slice (some ⟨bC, 0, none⟩) 1 1)
          have hz2 : w.heap.size + 1 + 1 + 1 ≤ (y6.setCell ⟨w.heap.size + 1 + 1, 6, none⟩ (.slice (some ⟨bC, 0, none⟩) 1 1)).heap.size := by simp; omega
          refine hK.out _ _ ⟨⟨trivial, FA PA⟩, FB PB⟩ ?_
          clear K hK
          try simp only [Act.put, PuA, PuB, PuC]
          generalize y6.setCell ⟨w.heap.size + 1 + 1, 6, none⟩ (.slice (some ⟨bC, 0, none⟩) 1 1) = y7 at *
          replace hz := hz2
          clear hz2
          refine h_done (by kernel_rfl) ?_
          go_wp2_with fail
          go_meet
          exact ⟨sv, uv, bC, s1, s2, u1, u2, kC, X0, X1, RC, D⟩
        ·go_wp2_with fail
         refine (next_any B g l 4 _ T (by omega) (by decide)).mono ?_
         rintro e y3 ⟨nx, rfl, nx1, nx2, T', S', D'⟩
         have hz2 : w.heap.size + 1 + 1 + 1 ≤ y3.heap.size := by omega
         replace X0 := X0.dev D' X0.lt (by omega)
         replace X1 := X1.dev D' X1.lt (by omega)
         replace PA := PA.dev D' PA.lt (by omega)
         replace T := T'
         replace D := D.trans (D'.mono (by omega))
         clear S' D' T'
         replace hz := hz2
         clear hz2
         go_simp
         refine hK.out _ _ ⟨trivial, FA PA⟩ ?_
         clear K hK
         try simp only [Act.put, PuA, PuB, PuC]
         refine h_move2 5 12 (by kernel_rfl) (h_op 5 rfl (by kernel_rfl) (fun K hK => ?_)) (h_op 12 rfl (by kernel_rfl) (fun K hK => ?_))
         ·have Bl := (Below.refl y3.heap.size y3).alloc (Nat.le_refl _) (.cells #[.int .u16 0, .int .u16 0, .int .u16 0, .int .u16 777] 24)
          replace X0 := X0.below Bl X0.lt
          replace X1 := X1.below Bl X1.lt
          replace PA := PA.below Bl PA.lt
          replace T := T.below (Bl.mono (by omega))
          replace D := D.trans (Dev.of_below (Bl.mono (by omega)))
          have PB := Blk.new y3 24 [.int .u16 0, .int .u16 0, .int .u16 0, .int .u16 777]
          have hz2 : w.heap.size + 1 + 1 + 1 ≤ (y3.alloc (.cells #[.int .u16 0, .int .u16 0, .int .u16 0, .int .u16 777] 24)).heap.size := by simp; omega
          have lB : y3.heap.size < (y3.alloc (.cells #[.int .u16 0, .int .u16 0, .int .u16 0, .int .u16 777] 24)).heap.size := by simp
          go_simp
          refine hK.out _ _ ⟨trivial, FA PA⟩ ?_
          clear K hK Bl
          try simp only [Act.put, PuA, PuB, PuC]
          generalize y3.alloc (.cells #[.int .u16 0, .int .u16 0, .int .u16 0, .int .u16 777] 24) = y4 at *
          have kB := hz
          replace hz := hz2
          generalize y3.heap.size = bB at *
          clear hz2
          obtain ⟨uv, huv, u1, u2⟩ := val_at nx nx1 nx2
          have FB : ∀ {W : World}, Blk W bB 24 [.int .u16 0, .int .u16 0, .int .u16 0, .int .u16 777] → W.cell? ⟨bB, nx.toNat, none⟩ = some (.int .u16 uv) := fun h => (h.cell _).trans huv
          clear huv
          refine h_P ⟨trivial, FA PA⟩ 8 rfl ?_
          refine h_R (fun w' => ((True) ∧ w'.cell? ⟨bA, mx.toNat, none⟩ = some (.int .i64 sv)) ∧ w'.cell? ⟨bB, nx.toNat, none⟩ = some (.int .u16 uv)) (fun _ h => h.1) ⟨⟨trivial, FA PA⟩, FB PB⟩ 9 rfl (fun w' hx => by have hc := hx.2; go_simp; with_reducible rfl) ?_
          refine h_move2 10 12 (by kernel_rfl) (h_op 10 rfl (by kernel_rfl) (fun K hK => ?_)) (h_op 12 rfl (by kernel_rfl) (fun K hK => ?_))
          ·have Bl := (Below.refl y4.heap.size y4).alloc (Nat.le_refl _) (.cells #[.int .u16 uv] 24)
           replace X0 := X0.below Bl X0.lt
           replace X1 := X1.below Bl X1.lt
           replace PA := PA.below Bl PA.lt
           replace PB := PB.below Bl PB.lt
           replace T := T.below (Bl.mono (by omega))
           replace D := D.trans (Dev.of_below (Bl.mono (by omega)))
           have RC := row_one_w y4 uv ⟨u1, by omega⟩ _ rfl
           have hz2 : w.heap.size + 1 + 1 + 1 ≤ (y4.alloc (.cells #[.int .u16 uv] 24)).heap.size := by simp; omega
           have lC : y4.heap.size < (y4.alloc (.cells #[.int .u16 uv] 24)).heap.size := by simp
           go_simp
           refine hK.out _ _ ⟨⟨trivial, FA PA⟩, FB PB⟩ ?_
           clear K hK Bl
           try simp only [Act.put, PuA, PuB, PuC]
           generalize y4.alloc (.cells #[.int .u16 uv] 24) = y5 at *
           have kC := hz
           replace hz := hz2
           generalize y4.heap.size = bC at *
           clear hz2
           refine h_move 12 (by kernel_rfl) (h_op 12 rfl (by kernel_rfl) (fun K hK => ?_))
           have e4 : y5.cell? ⟨w.heap.size + 1 + 1, 4, none⟩ = _ := X1.cell 4
           simp at e4
           have f4 := X1.frozen
           go_simp
           clear e4 f4
           replace X0 := X0.set_ne (g := w.heap.size + 1 + 1) (by omega) 4 (.int .i64 sv)
           replace X1 := X1.set 4 (.int .i64 sv)
           simp at X1
           replace PA := PA.set_ne (g := w.heap.size + 1 + 1) (by omega) 4 (.int .i64 sv)
           replace PB := PB.set_ne (g := w.heap.size + 1 + 1) (by omega) 4 (.int .i64 sv)
           replace RC := RC.setCell_new (g := w.heap.size + 1 + 1) (o := 4) (u := (.int .i64 sv)) (NewV.some (w.heap.size + 1 + 1 + 1) _ _ _ _ kC) (by omega)
           replace T := T.below ((Below.refl B y5).setCell (p := ⟨w.heap.size + 1 + 1, 4, none⟩) (by simp; omega) (.int .i64 sv))
           replace D := D.setCell (p := ⟨w.heap.size + 1 + 1, 4, none⟩) (by simp; omega) (.int .i64 sv)
           have hz2 : w.heap.size + 1 + 1 + 1 ≤ (y5.setCell ⟨w.heap.size + 1 + 1, 4, none⟩ (.int .i64 sv)).heap.size := by simp; omega
           refine hK.out _ _ ⟨⟨trivial, FA PA⟩, FB PB⟩ ?_
           clear K hK
           try simp only [Act.put, PuA, PuB, PuC]
           generalize y5.setCell ⟨w.heap.size + 1 + 1, 4, none⟩ (.int .i64 sv) = y6 at *
           replace hz := hz2
           clear hz2
           refine h_P ⟨⟨trivial, FA PA⟩, FB PB⟩ 13 rfl ?_
           refine h_move 14 (by kernel_rfl) (h_op 14 rfl (by kernel_rfl) (fun K hK => ?_))
           have e4 : y6.cell? ⟨w.heap.size + 1 + 1, 6, none⟩ = _ := X1.cell 6
           simp at e4
           have f4 := X1.frozen
           go_simp
           clear e4 f4
           replace X0 := X0.set_ne (g := w.heap.size + 1 + 1) (by omega) 6 (.slice (some ⟨bC, 0, none⟩) 1 1)
           replace X1 := X1.set 6 (.slice (some ⟨bC, 0, none⟩) 1 1)
           simp at X1
           replace PA := PA.set_ne (g := w.heap.size + 1 + 1) (by omega) 6 (.slice (some ⟨bC, 0, none⟩) 1 1)
           replace PB := PB.set_ne (g := w.heap.size + 1 + 1) (by omega) 6 (.slice (some ⟨bC, 0, none⟩) 1 1)
           replace RC := RC.setCell_new (g := w.heap.size + 1 + 1) (o := 6) (u := (.slice (some ⟨bC, 0, none⟩) 1 1)) (NewV.some (w.heap.size + 1 + 1 + 1) _ _ _ _ kC) (by omega)
           replace T := T.below ((Below.refl B y6).setCell (p := ⟨w.heap.size + 1 + 1, 6, none⟩) (by simp; omega) (.slice (some ⟨bC, 0, none⟩) 1 1))
           replace D := D.setCell (p := ⟨w.heap.size + 1 + 1, 6, none⟩) (by simp; omega) (.slice (some ⟨bC, 0, none⟩) 1 1)
           have hz2 : w.heap.size + 1 + 1 + 1 ≤ (y6.setCell ⟨w.heap.size + 1 + 1, 6, none⟩ (.slice (some ⟨bC, 0, none⟩) 1 1)).heap.size := by simp; omega
           refine hK.out _ _ ⟨⟨trivial, FA PA⟩, FB PB⟩ ?_
           clear K hK
           try simp only [Act.put, PuA, PuB, PuC]
           generalize y6.setCell ⟨w.heap.size + 1 + 1, 6, none⟩ (.slice (some ⟨bC, 0, none⟩) 1 1) = y7 at *
           replace hz := hz2
           clear hz2
           refine h_done (by kernel_rfl) ?_
           go_wp2_with fail
           go_meet
           exact ⟨sv, uv, bC, s1, s2, u1, u2, kC, X0, X1, RC, D⟩
          ·have e4 : y4.cell? ⟨w.heap.size + 1 + 1, 4, none⟩ = _ := X1.cell 4
           simp at e4
           have f4 := X1.frozen
           go_simp
           clear e4 f4
           replace X0 := X0.set_ne (g := w.heap.size + 1 + 1) (by omega) 4 (.int .i64 sv)
           replace X1 := X1.set 4 (.int .i64 sv)
           simp at X1
           replace PA := PA.set_ne (g := w.heap.size + 1 + 1) (by omega) 4 (.int .i64 sv)
           replace PB := PB.set_ne (g := w.heap.size + 1 + 1) (by omega) 4 (.int .i64 sv)
           replace T := T.below ((Below.refl B y4).setCell (p := ⟨w.heap.size + 1 + 1, 4, none⟩) (by simp; omega) (.int .i64 sv))
           replace D := D.setCell (p := ⟨w.heap.size + 1 + 1, 4, none⟩) (by simp; omega) (.int .i64 sv)
           have hz2 : w.heap.size + 1 + 1 + 1 ≤ (y4.setCell ⟨w.heap.size + 1 + 1, 4, none⟩ (.int .i64 sv)).heap.size := by simp; omega
           refine hK.out _ _ ⟨⟨trivial, FA PA⟩, FB PB⟩ ?_
           clear K hK
           try simp only [Act.put, PuA, PuB, PuC]
           generalize y4.setCell ⟨w.heap.size + 1 + 1, 4, none⟩ (.int .i64 sv) = y5 at *
           replace hz := hz2
           clear hz2
           refine h_move 10 (by kernel_rfl) (h_op 10 rfl (by kernel_rfl) (fun K hK => ?_))
           have Bl := (Below.refl y5.heap.size y5).alloc (Nat.le_refl _) (.cells #[.int .u16 uv] 24)
           replace X0 := X0.below Bl X0.lt
           replace X1 := X1.below Bl X1.lt
           replace PA := PA.below Bl PA.lt
           replace PB := PB.below Bl PB.lt
           replace T := T.below (Bl.mono (by omega))
           replace D := D.trans (Dev.of_below (Bl.mono (by omega)))
           have RC := row_one_w y5 uv ⟨u1, by omega⟩ _ rfl
           have hz2 : w.heap.size + 1 + 1 + 1 ≤ (y5.alloc (.cells #[.int .u16 uv] 24)).heap.size := by simp; omega
           have lC : y5.heap.size < (y5.alloc (.cells #[.int .u16 uv] 24)).heap.size := by simp
           go_simp
           refine hK.out _ _ ⟨⟨trivial, FA PA⟩, FB PB⟩ ?_
           clear K hK Bl
           try simp only [Act.put, PuA, PuB, PuC]
           generalize y5.alloc (.cells #[.int .u16 uv] 24) = y6 at *
           have kC := hz
           replace hz := hz2
           generalize y5.heap.size = bC at *
           clear hz2
           refine h_P ⟨⟨trivial, FA PA⟩, FB PB⟩ 13 rfl ?_
           refine h_move 14 (by kernel_rfl) (h_op 14 rfl (by kernel_rfl) (fun K hK => ?_))
           have e4 : y6.cell? ⟨w.heap.size + 1 + 1, 6, none⟩ = _ := X1.cell 6
           simp at e4
           have f4 := X1.frozen
           go_simp
           clear e4 f4
           replace X0 := X0.set_ne (g := w.heap.size + 1 + 1) (by omega) 6 (.slice (some ⟨bC, 0, none⟩) 1 1)
           replace X1 := X1.set 6 (.slice (some ⟨bC, 0, none⟩) 1 1)
           simp at X1
           replace PA := PA.set_ne (g := w.heap.size + 1 + 1) (by omega) 6 (.slice (some ⟨bC, 0, none⟩) 1 1)
           replace PB := PB.set_ne (g := w.heap.size + 1 + 1) (by omega) 6 (.slice (some ⟨bC, 0, none⟩) 1 1)
           replace RC := RC.setCell_new (g := w.heap.size + 1 + 1) (o := 6) (u := (.slice (some ⟨bC, 0, none⟩) 1 1)) (NewV.some (w.heap.size + 1 + 1 + 1) _ _ _ _ kC) (by omega)
           replace T := T.below ((Below.refl B y6).setCell (p := ⟨w.heap.size + 1 + 1, 6, none⟩) (by simp; omega) (.slice (some ⟨bC, 0, none⟩) 1 1))
           replace D := D.setCell (p := ⟨w.heap.size + 1 + 1, 6, none⟩) (by simp; omega) (.slice (some ⟨bC, 0, none⟩) 1 1)
           have hz2 : w.heap.size + 1 + 1 + 1 ≤ (y6.setCell ⟨w.heap.size + 1 + 1, 6, none⟩ (.slice (some ⟨bC, 0, none⟩) 1 1)).heap.size := by simp; omega
           refine hK.out _ _ ⟨⟨trivial, FA PA⟩, FB PB⟩ ?_
           clear K hK
           try simp only [Act.put, PuA, PuB, PuC]
           generalize y6.setCell ⟨w.heap.size + 1 + 1, 6, none⟩ (.slice (some ⟨bC, 0, none⟩) 1 1) = y7 at *
           replace hz := hz2
           clear hz2
           refine h_done (by kernel_rfl) ?_
           go_wp2_with fail
           go_meet
           exact ⟨sv, uv, bC, s1, s2, u1, u2, kC, X0, X1, RC, D⟩
         ·have e4 : y3.cell? ⟨w.heap.size + 1 + 1, 4, none⟩ = _ := X1.cell 4
          simp at e4
          have f4 := X1.frozen
          go_simp
          clear e4 f4
          replace X0 := X0.set_ne (g := w.heap.size + 1 + 1) (by omega) 4 (.int .i64 sv)
          replace X1 := X1.set 4 (.int .i64 sv)
          simp at X1
          replace PA := PA.set_ne (g := w.heap.size + 1 + 1) (by omega) 4 (.int .i64 sv)
          replace T := T.below ((Below.refl B y3).setCell (p := ⟨w.heap.size + 1 + 1, 4, none⟩) (by simp; omega) (.int .i64 sv))
          replace D := D.setCell (p := ⟨w.heap.size + 1 + 1, 4, none⟩) (by simp; omega) (.int .i64 sv)
          have hz2 : w.heap.size + 1 + 1 + 1 ≤ (y3.setCell ⟨w.heap.size + 1 + 1, 4, none⟩ (.int .i64 sv)).heap.size := by simp; omega
          refine hK.out _ _ ⟨trivial, FA PA⟩ ?_
          clear K hK
          try simp only [Act.put, PuA, PuB, PuC]
          generalize y3.setCell ⟨w.heap.size + 1 + 1, 4, none⟩ (.int .i64 sv) = y4 at *
          replace hz := hz2
          clear hz2
          refine h_move 5 (by kernel_rfl) (h_op 5 rfl (by kernel_rfl) (fun K hK => ?_))
          have Bl := (Below.refl y4.heap.size y4).alloc (Nat.le_refl _) (.cells #[.int .u16 0, .int .u16 0, .int .u16 0, .int .u16 777] 24)
          replace X0 := X0.below Bl X0.lt
          replace X1 := X1.below Bl X1.lt
          replace PA := PA.below Bl PA.lt
          replace T := T.below (Bl.mono (by omega))
          replace D := D.trans (Dev.of_below (Bl.mono (by omega)))
          have PB := Blk.new y4 24 [.int .u16 0, .int .u16 0, .int .u16 0, .int .u16 777]
          have hz2 : w.heap.size + 1 + 1 + 1 ≤ (y4.alloc (.cells #[.int .u16 0, .int .u16 0, .int .u16 0, .int .u16 777] 24)).heap.size := by simp; omega
          have lB : y4.heap.size < (y4.alloc (.cells #[.int .u16 0, .int .u16 0, .int .u16 0, .int .u16 777] 24)).heap.size := by simp
          go_simp
          refine hK.out _ _ ⟨trivial, FA PA⟩ ?_
          clear K hK Bl
          try simp only [Act.put, PuA, PuB, PuC]
          generalize y4.alloc (.cells #[.int .u16 0, .int .u16 0, .int .u16 0, .int .u16 777] 24) = y5 at *
          have kB := hz
          replace hz := hz2
          generalize y4.heap.size = bB at *
          clear hz2
          obtain ⟨uv, huv, u1, u2⟩ := val_at nx nx1 nx2
          have FB : ∀ {W : World}, Blk W bB 24 [.int .u16 0, .int .u16 0, .int .u16 0, .int .u16 777] → W.cell? ⟨bB, nx.toNat, none⟩ = some (.int .u16 uv) := fun h => (h.cell _).trans huv
          clear huv
          refine h_P ⟨trivial, FA PA⟩ 8 rfl ?_
          refine h_R (fun w' => ((True) ∧ w'.cell? ⟨bA, mx.toNat, none⟩ = some (.int .i64 sv)) ∧ w'.cell? ⟨bB, nx.toNat, none⟩ = some (.int .u16 uv)) (fun _ h => h.1) ⟨⟨trivial, FA PA⟩, FB PB⟩ 9 rfl (fun w' hx => by have hc := hx.2; go_simp; with_reducible rfl) ?_
          refine h_move 10 (by kernel_rfl) (h_op 10 rfl (by kernel_rfl) (fun K hK => ?_))
          have Bl := (Below.refl y5.heap.size y5).alloc (Nat.le_refl _) (.cells #[.int .u16 uv] 24)
          replace X0 := X0.below Bl X0.lt
          replace X1 := X1.below Bl X1.lt
          replace PA := PA.below Bl PA.lt
          replace PB := PB.below Bl PB.lt
          replace T := T.below (Bl.mono (by omega))
          replace D := D.trans (Dev.of_below (Bl.mono (by omega)))
          have RC := row_one_w y5 uv ⟨u1, by omega⟩ _ rfl
          have hz2 : w.heap.size + 1 + 1 + 1 ≤ (y5.alloc (.cells #[.int .u16 uv] 24)).heap.size := by simp; omega
          have lC : y5.heap.size < (y5.alloc (.cells #[.int .u16 uv] 24)).heap.size := by simp
          go_simp
          refine hK.out _ _ ⟨⟨trivial, FA PA⟩, FB PB⟩ ?_
          clear K hK Bl
          try simp only [Act.put, PuA, PuB, PuC]
          generalize y5.alloc (.cells #[.int .u16 uv] 24) = y6 at *
          have kC := hz
          replace hz := hz2
          generalize y5.heap.size = bC at *
          clear hz2
          refine h_P ⟨⟨trivial, FA PA⟩, FB PB⟩ 13 rfl ?_
          refine h_move 14 (by kernel_rfl) (h_op 14 rfl (by kernel_rfl) (fun K hK => ?_))
          have e4 : y6.cell? ⟨w.heap.size + 1 + 1, 6, none⟩ = _ := X1.cell 6
          simp at e4
          have f4 := X1.frozen
          go_simp
          clear e4 f4
          replace X0 := X0.set_ne (g := w.heap.size + 1 + 1) (by omega) 6 (.slice (some ⟨bC, 0, none⟩) 1 1)
          replace X1 := X1.set 6 (.slice (some ⟨bC, 0, none⟩) 1 1)
          simp at X1
          replace PA := PA.set_ne (g := w.heap.size + 1 + 1) (by omega) 6 (.slice (some ⟨bC, 0, none⟩) 1 1)
          replace PB := PB.set_ne (g := w.heap.size + 1 + 1) (by omega) 6 (.slice (some ⟨bC, 0, none⟩) 1 1)
          replace RC := RC.setCell_new (g := w.heap.size + 1 + 1) (o := 6) (u := (.slice (some ⟨bC, 0, none⟩) 1 1)) (NewV.some (w.heap.size + 1 + 1 + 1) _ _ _ _ kC) (by omega)
          replace T := T.below ((Below.refl B y6).setCell (p := ⟨w.heap.size + 1 + 1, 6, none⟩) (by simp; omega) (.slice (some ⟨bC, 0, none⟩) 1 1))
          replace D := D.setCell (p := ⟨w.heap.size + 1 + 1, 6, none⟩) (by simp; omega) (.slice (some ⟨bC, 0, none⟩) 1 1)
          have hz2 : w.heap.size + 1 + 1 + 1 ≤ (y6.setCell ⟨w.heap.size + 1 + 1, 6, none⟩ (.slice (some ⟨bC, 0, none⟩) 1 1)).heap.size := by simp; omega
          refine hK.out _ _ ⟨⟨trivial, FA PA⟩, FB PB⟩ ?_
          clear K hK
          try simp only [Act.put, PuA, PuB, PuC]
          generalize y6.setCell ⟨w.heap.size + 1 + 1, 6, none⟩ (.slice (some ⟨bC, 0, none⟩) 1 1) = y7 at *
          replace hz := hz2
          clear hz2
          refine h_done (by kernel_rfl) ?_
          go_wp2_with fail
          go_meet
          exact ⟨sv, uv, bC, s1, s2, u1, u2, kC, X0, X1, RC, D⟩
       ·have Bl := (Below.refl y1.heap.size y1).alloc (Nat.le_refl _) (.cells #[.int .u16 0, .int .u16 0, .int .u16 0, .int .u16 777] 24)
        replace X0 := X0.below Bl X0.lt
        replace X1 := X1.below Bl X1.lt
        replace T := T.below (Bl.mono (by omega))
        replace D := D.trans (Dev.of_below (Bl.mono (by omega)))
        have PB := Blk.new y1 24 [.int .u16 0, .int .u16 0, .int .u16 0, .int .u16 777]
        have hz2 : w.heap.size + 1 + 1 + 1 ≤ (y1.alloc (.cells #[.int .u16 0, .int .u16 0, .int .u16 0, .int .u16 777] 24)).heap.size := by simp; omega
        have lB : y1.heap.size < (y1.alloc (.cells #[.int .u16 0, .int .u16 0, .int .u16 0, .int .u16 777] 24)).heap.size := by simp
        go_simp
        refine hK.out _ _ trivial ?_
        clear K hK Bl
        try simp only [Act.put, PuA, PuB, PuC]
        generalize y1.alloc (.cells #[.int .u16 0, .int .u16 0, .int .u16 0, .int .u16 777] 24) = y2 at *
        have kB := hz
        replace hz := hz2
        generalize y1.heap.size = bB at *
        clear hz2
        refine h_move2 0 7 (by kernel_rfl) (h_op 0 rfl (by kernel_rfl) (fun K hK => ?_)) (h_op 7 rfl (by kernel_rfl) (fun K hK => ?_))
        ·have Bl := (Below.refl y2.heap.size y2).alloc (Nat.le_refl _) (.cells #[.int .i64 0, .int .i64 10, .int .i64 11, .int .i64 12, .int .i64 13, .int .i64 14, .int .i64 2, .int .i64 300] 3)
         replace X0 := X0.below Bl X0.lt
         replace X1 := X1.below Bl X1.lt
         replace PB := PB.below Bl PB.lt
         replace T := T.below (Bl.mono (by omega))
         replace D := D.trans (Dev.of_below (Bl.mono (by omega)))
         have PA := Blk.new y2 3 [.int .i64 0, .int .i64 10, .int .i64 11, .int .i64 12, .int .i64 13, .int .i64 14, .int .i64 2, .int .i64 300]
         have hz2 : w.heap.size + 1 + 1 + 1 ≤ (y2.alloc (.cells #[.int .i64 0, .int .i64 10, .int .i64 11, .int .i64 12, .int .i64 13, .int .i64 14, .int .i64 2, .int .i64 300] 3)).heap.size := by simp; omega
         have lA : y2.heap.size < (y2.alloc (.cells #[.int .i64 0, .int .i64 10, .int .i64 11, .int .i64 12, .int .i64 13, .int .i64 14, .int .i64 2, .int .i64 300] 3)).heap.size := by simp
         go_simp
         refine hK.out _ _ trivial ?_
         clear K hK Bl
         try simp only [Act.put, PuA, PuB, PuC]
         generalize y2.alloc (.cells #[.int .i64 0, .int .i64 10, .int .i64 11, .int .i64 12, .int .i64 13, .int .i64 14, .int .i64 2, .int .i64 300] 3) = y3 at *
         have kA := hz
         replace hz := hz2
         generalize y2.heap.size = bA at *
         clear hz2
         obtain ⟨sv, hsv, s1, s2⟩ := sub_at mx mx1 mx2
         have FA : ∀ {W : World}, Blk W bA 3 [.int .i64 0, .int .i64 10, .int .i64 11, .int .i64 12, .int .i64 13, .int .i64 14, .int .i64 2, .int .i64 300] → W.cell? ⟨bA, mx.toNat, none⟩ = some (.int .i64 sv) := fun h => (h.cell _).trans hsv
         clear hsv
         refine h_P trivial 3 rfl ?_
         refine h_R (fun w' => (True) ∧ w'.cell? ⟨bA, mx.toNat, none⟩ = some (.int .i64 sv)) (fun _ h => h.1) ⟨trivial, FA PA⟩ 4 rfl (fun w' hx => by have hc := hx.2; go_simp; with_reducible rfl) ?_
         refine h_P ⟨trivial, FA PA⟩ 11 rfl ?_
         refine h_move 7 (by kernel_rfl) (h_op 7 rfl (by kernel_rfl) (fun K hK => ?_))
         go_wp2_with fail
         refine (next_any B g l 4 _ T (by omega) (by decide)).mono ?_
         rintro e y4 ⟨nx, rfl, nx1, nx2, T', S', D'⟩
         have hz2 : w.heap.size + 1 + 1 + 1 ≤ y4.heap.size := by omega
         replace X0 := X0.dev D' X0.lt (by omega)
         replace X1 := X1.dev D' X1.lt (by omega)
         replace PA := PA.dev D' PA.lt (by omega)
         replace PB := PB.dev D' PB.lt (by omega)
         replace T := T'
         replace D := D.trans (D'.mono (by omega))
         clear S' D' T'
         replace hz := hz2
         clear hz2
         go_simp
         refine hK.out _ _ ⟨trivial, FA PA⟩ ?_
         clear K hK
         try simp only [Act.put, PuA, PuB, PuC]
         obtain ⟨uv, huv, u1, u2⟩ := val_at nx nx1 nx2
         have FB : ∀ {W : World}, Blk W bB 24 [.int .u16 0, .int .u16 0, .int .u16 0, .int .u16 777] → W.cell? ⟨bB, nx.toNat, none⟩ = some (.int .u16 uv) := fun h => (h.cell _).trans huv
         clear huv
         refine h_P ⟨trivial, FA PA⟩ 8 rfl ?_
         refine h_R (fun w' => ((True) ∧ w'.cell? ⟨bA, mx.toNat, none⟩ = some (.int .i64 sv)) ∧ w'.cell? ⟨bB, nx.toNat, none⟩ = some (.int .u16 uv)) (fun _ h => h.1) ⟨⟨trivial, FA PA⟩, FB PB⟩ 9 rfl (fun w' hx => by have hc := hx.2; go_simp; with_reducible rfl) ?_
         refine h_move2 10 12 (by kernel_rfl) (h_op 10 rfl (by kernel_rfl) (fun K hK => ?_)) (h_op 12 rfl (by kernel_rfl) (fun K hK => ?_))
         ·have Bl := (Below.refl y4.heap.size y4).alloc (Nat.le_refl _) (.cells #[.int .u16 uv] 24)
          replace X0 := X0.below Bl X0.lt
          replace X1 := X1.below Bl X1.lt
          replace PA := PA.below Bl PA.lt
          replace PB := PB.below Bl PB.lt
          replace T := T.below (Bl.mono (by omega))
          replace D := D.trans (Dev.of_below (Bl.mono (by omega)))
          have RC := row_one_w y4 uv ⟨u1, by omega⟩ _ rfl
          have hz2 : w.heap.size + 1 + 1 + 1 ≤ (y4.alloc (.cells #[.int .u16 uv] 24)).heap.size := by simp; omega
          have lC : y4.heap.size < (y4.alloc (.cells #[.int .u16 uv] 24)).heap.size := by simp
          go_simp
          refine hK.out _ _ ⟨⟨trivial, FA PA⟩, FB PB⟩ ?_
          clear K hK Bl
          try simp only [Act.put, PuA, PuB, PuC]
          generalize y4.alloc (.cells #[.int .u16 uv] 24) = y5 at *
          have kC := hz
          replace hz := hz2
          generalize y4.heap.size = bC at *
          clear hz2
          refine h_move 12 (by kernel_rfl) (h_op 12 rfl (by kernel_rfl) (fun K hK => ?_))
          have e4 : y5.cell? ⟨w.heap.size + 1 + 1, 4, none⟩ = _ := X1.cell 4
          simp at e4
          have f4 := X1.frozen
          go_simp
          clear e4 f4
          replace X0 := X0.set_ne (g := w.heap.size + 1 + 1) (by omega) 4 (.int .i64 sv)
          replace X1 := X1.set 4 (.int .i64 sv)
          simp at X1
          replace PA := PA.set_ne (g := w.heap.size + 1 + 1) (by omega) 4 (.int .i64 sv)
          replace PB := PB.set_ne (g := w.heap.size + 1 + 1) (by omega) 4 (.int .i64 sv)
          replace RC := RC.setCell_new (g := w.heap.size + 1 + 1) (o := 4) (u := (.int .i64 sv)) (NewV.some (w.heap.size + 1 + 1 + 1) _ _ _ _ kC) (by omega)
          replace T := T.below ((Below.refl B y5).setCell (p := ⟨w.heap.size + 1 + 1, 4, none⟩) (by simp; omega) (.int .i64 sv))
          replace D := D.setCell (p := ⟨w.heap.size + 1 + 1, 4, none⟩) (by simp; omega) (.int .i64 sv)
          have hz2 : w.heap.size + 1 + 1 + 1 ≤ (y5.setCell ⟨w.heap.size + 1 + 1, 4, none⟩ (.int .i64 sv)).heap.size := by simp; omega
          refine hK.out _ _ ⟨⟨trivial, FA PA⟩, FB PB⟩ ?_
          clear K hK
          try simp only [Act.put, PuA, PuB, PuC]
          generalize y5.setCell ⟨w.heap.size + 1 + 1, 4, none⟩ (.int .i64 sv) = y6 at *
          replace hz := hz2
          clear hz2
          refine h_P ⟨⟨trivial, FA PA⟩, FB PB⟩ 13 rfl ?_
          refine h_move 14 (by kernel_rfl) (h_op 14 rfl (by kernel_rfl) (fun K hK => ?_))
          have e4 : y6.cell? ⟨w.heap.size + 1 + 1, 6, none⟩ = _ := X1.cell 6
          simp at e4
          have f4 := X1.frozen
          go_simp
          clear e4 f4
          replace X0 := X0.set_ne (g := w.heap.size + 1 + 1) (by omega) 6 (.slice (some ⟨bC, 0, none⟩) 1 1)
          replace X1 := X1.set 6 (.slice (some ⟨bC, 0, none⟩) 1 1)
          simp at X1
          replace PA := PA.set_ne (g := w.heap.size + 1 + 1) (by omega) 6 (.slice (some ⟨bC, 0, none⟩) 1 1)
          replace PB := PB.set_ne (g := w.heap.size + 1 + 1) (by omega) 6 (.slice (some ⟨bC, 0, none⟩) 1 1)
          replace RC := RC.setCell_new (g := w.heap.size + 1 + 1) (o := 6) (u := (.slice (some ⟨bC, 0, none⟩) 1 1)) (NewV.some (w.heap.size + 1 + 1 + 1) _ _ _ _ kC) (by omega)
          replace T := T.below ((Below.refl B y6).setCell (p := ⟨w.heap.size + 1 + 1, 6, none⟩) (by simp; omega) (.slice (some ⟨bC, 0, none⟩) 1 1))
          replace D := D.setCell (p := ⟨w.heap.size + 1 + 1, 6, none⟩) (by simp; omega) (.slice (some ⟨bC, 0, none⟩) 1 1)
          have hz2 : w.heap.size + 1 + 1 + 1 ≤ (y6.setCell ⟨w.heap.size + 1 + 1, 6, none⟩ (.slice (some ⟨bC, 0, none⟩) 1 1)).heap.size := by simp; omega
          refine hK.out _ _ ⟨⟨trivial, FA PA⟩, FB PB⟩ ?_
          clear K hK
          try simp only [Act.put, PuA, PuB, PuC]
          generalize y6.setCell ⟨w.heap.size + 1 + 1, 6, none⟩ (.slice (some ⟨bC, 0, none⟩) 1 1) = y7 at *
          replace hz := hz2
          clear hz2
          refine h_done (by kernel_rfl) ?_
          go_wp2_with fail
          go_meet
          exact ⟨sv, uv, bC, s1, s2, u1, u2, kC, X0, X1, RC, D⟩
         ·have e4 : y4.cell? ⟨w.heap.size + 1 + 1, 4, none⟩ = _ := X1.cell 4
          simp at e4
          have f4 := X1.frozen
          go_simp
          clear e4 f4
          replace X0 := X0.set_ne (g := w.heap.size + 1 + 1) (by omega) 4 (.int .i64 sv)
          replace X1 := X1.set 4 (.int .i64 sv)
          simp at X1
          replace PA := PA.set_ne (g := w.heap.size + 1 + 1) (by omega) 4 (.int .i64 sv)
          replace PB := PB.set_ne (g := w.heap.size + 1 + 1) (by omega) 4 (.int .i64 sv)
          replace T := T.below ((Below.refl B y4).setCell (p := ⟨w.heap.size + 1 + 1, 4, none⟩) (by simp; omega) (.int .i64 sv))
          replace D := D.setCell (p := ⟨w.heap.size + 1 + 1, 4, none⟩) (by simp; omega) (.int .i64 sv)
          have hz2 : w.heap.size + 1 + 1 + 1 ≤ (y4.setCell ⟨w.heap.size + 1 + 1, 4, none⟩ (.int .i64 sv)).heap.size := by simp; omega
          refine hK.out _ _ ⟨⟨trivial, FA PA⟩, FB PB⟩ ?_
          clear K hK
          try simp only [Act.put, PuA, PuB, PuC]
          generalize y4.setCell ⟨w.heap.size + 1 + 1, 4, none⟩ (.int .i64 sv) = y5 at *
          replace hz := hz2
          clear hz2
          refine h_move 10 (by kernel_rfl) (h_op 10 rfl (by kernel_rfl) (fun K hK => ?_))
          have Bl := (Below.refl y5.heap.size y5).alloc (Nat.le_refl _) (.cells #[.int .u16 uv] 24)
          replace X0 := X0.below Bl X0.lt
          replace X1 := X1.below Bl X1.lt
          replace PA := PA.below Bl PA.lt
          replace PB := PB.below Bl PB.lt
          replace T := T.below (Bl.mono (by omega))
          replace D := D.trans (Dev.of_below (Bl.mono (by omega)))
          have RC := row_one_w y5 uv ⟨u1, by omega⟩ _ rfl
          have hz2 : w.heap.size + 1 + 1 + 1 ≤ (y5.alloc (.cells #[.int .u16 uv] 24)).heap.size := by simp; omega
          have lC : y5.heap.size < (y5.alloc (.cells #[.int .u16 uv] 24)).heap.size := by simp
          go_simp
          refine hK.out _ _ ⟨⟨trivial, FA PA⟩, FB PB⟩ ?_
          clear K hK Bl
          try simp only [Act.put, PuA, PuB, PuC]
          generalize y5.alloc (.cells #[.int .u16 uv] 24) = y6 at *
          have kC := hz
          replace hz := hz2
          generalize y5.heap.size = bC at *
          clear hz2
          refine h_P ⟨⟨trivial, FA PA⟩, FB PB⟩ 13 rfl ?_
          refine h_move 14 (by kernel_rfl) (h_op 14 rfl (by kernel_rfl) (fun K hK => ?_))
          have e4 : y6.cell? ⟨w.heap.size + 1 + 1, 6, none⟩ = _ := X1.cell 6
          simp at e4
          have f4 := X1.frozen
          go_simp
          clear e4 f4
          replace X0 := X0.set_ne (g := w.heap.size + 1 + 1) (by omega) 6 (.slice (some ⟨bC, 0, none⟩) 1 1)
          replace X1 := X1.set 6 (.slice (some ⟨bC, 0, none⟩) 1 1)
          simp at X1
          replace PA := PA.set_ne (g := w.heap.size + 1 + 1) (by omega) 6 (.slice (some ⟨bC, 0, none⟩) 1 1)
          replace PB := PB.set_ne (g := w.heap.size + 1 + 1) (by omega) 6 (.slice (some ⟨bC, 0, none⟩) 1 1)
          replace RC := RC.setCell_new (g := w.heap.size + 1 + 1) (o := 6) (u := (.slice (some ⟨bC, 0, none⟩) 1 1)) (NewV.some (w.heap.size + 1 + 1 + 1) _ _ _ _ kC) (by omega)
          replace T := T.below ((Below.refl B y6).setCell (p := ⟨w.heap.size + 1 + 1, 6, none⟩) (by simp; omega) (.slice (some ⟨bC, 0, none⟩) 1 1))
          replace D := D.setCell (p := ⟨w.heap.size + 1 + 1, 6, none⟩) (by simp; omega) (.slice (some ⟨bC, 0, none⟩) 1 1)
          have hz2 : w.heap.size + 1 + 1 + 1 ≤ (y6.setCell ⟨w.heap.size + 1 + 1, 6, none⟩ (.slice (some ⟨bC, 0, none⟩) 1 1)).heap.size := by simp; omega
          refine hK.out _ _ ⟨⟨trivial, FA PA⟩, FB PB⟩ ?_
          clear K hK
          try simp only [Act.put, PuA, PuB, PuC]
          generalize y6.setCell ⟨w.heap.size + 1 + 1, 6, none⟩ (.slice (some ⟨bC, 0, none⟩) 1 1) = y7 at *
          replace hz := hz2
          clear hz2
          refine h_done (by kernel_rfl) ?_
          go_wp2_with fail
          go_meet
          exact ⟨sv, uv, bC, s1, s2, u1, u2, kC, X0, X1, RC, D⟩
        ·go_wp2_with fail
         refine (next_any B g l 4 _ T (by omega) (by decide)).mono ?_
         rintro e y3 ⟨nx, rfl, nx1, nx2, T', S', D'⟩
         have hz2 : w.heap.size + 1 + 1 + 1 ≤ y3.heap.size := by omega
         replace X0 := X0.dev D' X0.lt (by omega)
         replace X1 := X1.dev D' X1.lt (by omega)
         replace PB := PB.dev D' PB.lt (by omega)
         replace T := T'
         replace D := D.trans (D'.mono (by omega))
         clear S' D' T'
         replace hz := hz2
         clear hz2
         go_simp
         refine hK.out _ _ trivial ?_
         clear K hK
         try simp only [Act.put, PuA, PuB, PuC]
         obtain ⟨uv, huv, u1, u2⟩ := val_at nx nx1 nx2
         have FB : ∀ {W : World}, Blk W bB 24 [.int .u16 0, .int .u16 0, .int .u16 0, .int .u16 777] → W.cell? ⟨bB, nx.toNat, none⟩ = some (.int .u16 uv) := fun h => (h.cell _).trans huv
         clear huv
         refine h_P trivial 8 rfl ?_
         refine h_R (fun w' => (True) ∧ w'.cell? ⟨bB, nx.toNat, none⟩ = some (.int .u16 uv)) (fun _ h => h.1) ⟨trivial, FB PB⟩ 9 rfl (fun w' hx => by have hc := hx.2; go_simp; with_reducible rfl) ?_
         refine h_move2 0 10 (by kernel_rfl) (h_op 0 rfl (by kernel_rfl) (fun K hK => ?_)) (h_op 10 rfl (by kernel_rfl) (fun K hK => ?_))
         ·have Bl := (Below.refl y3.heap.size y3).alloc (Nat.le_refl _) (.cells #[.int .i64 0, .int .i64 10, .int .i64 11, .int .i64 12, .int .i64 13, .int .i64 14, .int .i64 2, .int .i64 300] 3)
          replace X0 := X0.below Bl X0.lt
          replace X1 := X1.below Bl X1.lt
          replace PB := PB.below Bl PB.lt
          replace T := T.below (Bl.mono (by omega))
          replace D := D.trans (Dev.of_below (Bl.mono (by omega)))
          have PA := Blk.new y3 3 [.int .i64 0, .int .i64 10, .int .i64 11, .int .i64 12, .int .i64 13, .int .i64 14, .int .i64 2, .int .i64 300]
          have hz2 : w.heap.size + 1 + 1 + 1 ≤ (y3.alloc (.cells #[.int .i64 0, .int .i64 10, .int .i64 11, .int .i64 12, .int .i64 13, .int .i64 14, .int .i64 2, .int .i64 300] 3)).heap.size := by simp; omega
          have lA : y3.heap.size < (y3.alloc (.cells #[.int .i64 0, .int .i64 10, .int .i64 11, .int .i64 12, .int .i64 13, .int .i64 14, .int .i64 2, .int .i64 300] 3)).heap.size := by simp
          go_simp
          refine hK.out _ _ ⟨trivial, FB PB⟩ ?_
          clear K hK Bl
          try simp only [Act.put, PuA, PuB, PuC]
          generalize y3.alloc (.cells #[.int .i64 0, .int .i64 10, .int .i64 11, .int .i64 12, .int .i64 13, .int .i64 14, .int .i64 2, .int .i64 300] 3) = y4 at *
          have kA := hz
          replace hz := hz2
          generalize y3.heap.size = bA at *
          clear hz2
          obtain ⟨sv, hsv, s1, s2⟩ := sub_at mx mx1 mx2
          have FA : ∀ {W : World}, Blk W bA 3 [.int .i64 0, .int .i64 10, .int .i64 11, .int .i64 12, .int .i64 13, .int .i64 14, .int .i64 2, .int .i64 300] → W.cell? ⟨bA, mx.toNat, none⟩ = some (.int .i64 sv) := fun h => (h.cell _).trans hsv
          clear hsv
          refine h_P ⟨trivial, FB PB⟩ 3 rfl ?_
          refine h_R (fun w' => ((True) ∧ w'.cell? ⟨bB, nx.toNat, none⟩ = some (.int .u16 uv)) ∧ w'.cell? ⟨bA, mx.toNat, none⟩ = some (.int .i64 sv)) (fun _ h => h.1) ⟨⟨trivial, FB PB⟩, FA PA⟩ 4 rfl (fun w' hx => by have hc := hx.2; go_simp; with_reducible rfl) ?_
          refine h_P ⟨⟨trivial, FB PB⟩, FA PA⟩ 11 rfl ?_
          refine h_move2 10 12 (by kernel_rfl) (h_op 10 rfl (by kernel_rfl) (fun K hK => ?_)) (h_op 12 rfl (by kernel_rfl) (fun K hK => ?_))
          ·have Bl := (Below.refl y4.heap.size y4).alloc (Nat.le_refl _) (.cells #[.int .u16 uv] 24)
           replace X0 := X0.below Bl X0.lt
           replace X1 := X1.below Bl X1.lt
           replace PA := PA.below Bl PA.lt
           replace PB := PB.below Bl PB.lt
           replace T := T.below (Bl.mono (by omega))
           replace D := D.trans (Dev.of_below (Bl.mono (by omega)))
           have RC := row_one_w y4 uv ⟨u1, by omega⟩ _ rfl
           have hz2 : w.heap.size + 1 + 1 + 1 ≤ (y4.alloc (.cells #[.int .u16 uv] 24)).heap.size := by simp; omega
           have lC : y4.heap.size < (y4.alloc (.cells #[.int .u16 uv] 24)).heap.size := by simp
           go_simp
           refine hK.out _ _ ⟨⟨trivial, FB PB⟩, FA PA⟩ ?_
           clear K hK Bl
           try simp only [Act.put, PuA, PuB, PuC]
           generalize y4.alloc (.cells #[.int .u16 uv] 24) = y5 at *
           have kC := hz
           replace hz := hz2
           generalize y4.heap.size = bC at *
           clear hz2
           refine h_move 12 (by kernel_rfl) (h_op 12 rfl (by kernel_rfl) (fun K hK => ?_))
           have e4 : y5.cell? ⟨w.heap.size + 1 + 1, 4, none⟩ = _ := X1.cell 4
           simp at e4
           have f4 := X1.frozen
           go_simp
           clear e4 f4
           replace X0 := X0.set_ne (g := w.heap.size + 1 + 1) (by omega) 4 (.int .i64 sv)
           replace X1 := X1.set 4 (.int .i64 sv)
           simp at X1
           replace PA := PA.set_ne (g := w.heap.size + 1 + 1) (by omega) 4 (.int .i64 sv)
           replace PB := PB.set_ne (g := w.heap.size + 1 + 1) (by omega) 4 (.int .i64 sv)
           replace RC := RC.setCell_new (g := w.heap.size + 1 + 1) (o := 4) (u := (.int .i64 sv)) (NewV.some (w.heap.size + 1 + 1 + 1) _ _ _ _ kC) (by omega)
           replace T := T.below ((Below.refl B y5).setCell (p := ⟨w.heap.size + 1 + 1, 4, none⟩) (by simp; omega) (.int .i64 sv))
           replace D := D.setCell (p := ⟨w.heap.size + 1 + 1, 4, none⟩) (by simp; omega) (.int .i64 sv)
           have hz2 : w.heap.size + 1 + 1 + 1 ≤ (y5.setCell ⟨w.heap.size + 1 + 1, 4, none⟩ (.int .i64 sv)).heap.size := by simp; omega
           refine hK.out _ _ ⟨⟨trivial, FB PB⟩, FA PA⟩ ?_
           clear K hK
           try simp only [Act.put, PuA, PuB, PuC]
           generalize y5.setCell ⟨w.heap.size + 1 + 1, 4, none⟩ (.int .i64 sv) = y6 at *
           replace hz := hz2
           clear hz2
           refine h_P ⟨⟨trivial, FB PB⟩, FA PA⟩ 13 rfl ?_
           refine h_move 14 (by kernel_rfl) (h_op 14 rfl (by kernel_rfl) (fun K hK => ?_))
           have e4 : y6.cell? ⟨w.heap.size + 1 + 1, 6, none⟩ = _ := X1.cell 6
           simp at e4
           have f4 := X1.frozen
           go_simp
           clear e4 f4
           replace X0 := X0.set_ne (g := w.heap.size + 1 + 1) (by omega) 6 (.slice (some ⟨bC, 0, none⟩) 1 1)
           replace X1 := X1.set 6 (.slice (some ⟨bC, 0, none⟩) 1 1)
           simp at X1
           replace PA := PA.set_ne (g := w.heap.size + 1 + 1) (by omega) 6 (.slice (some ⟨bC, 0, none⟩) 1 1)
           replace PB := PB.set_ne (g := w.heap.size + 1 + 1) (by omega) 6 (.slice (some ⟨bC, 0, none⟩) 1 1)
           replace RC := RC.setCell_new (g := w.heap.size + 1 + 1) (o := 6) (u := (.slice (some ⟨bC, 0, none⟩) 1 1)) (NewV.some (w.heap.size + 1 + 1 + 1) _ _ _ _ kC) (by omega)
           replace T := T.below ((Below.refl B y6).setCell (p := ⟨w.heap.size + 1 + 1, 6, none⟩) (by simp; omega) (.slice (some ⟨bC, 0, none⟩) 1 1))
           replace D := D.setCell (p := ⟨w.heap.size + 1 + 1, 6, none⟩) (by simp; omega) (.slice (some ⟨bC, 0, none⟩) 1 1)
           have hz2 : w.heap.size + 1 + 1 + 1 ≤ (y6.setCell ⟨w.heap.size + 1 + 1, 6, none⟩ (.slice (some ⟨bC, 0, none⟩) 1 1)).heap.size := by simp; omega
           refine hK.out _ _ ⟨⟨trivial, FB PB⟩, FA PA⟩ ?_
           clear K hK
           try simp only [Act.put, PuA, PuB, PuC]
           generalize y6.setCell ⟨w.heap.size + 1 + 1, 6, none⟩ (.slice (some ⟨bC, 0, none⟩) 1 1) = y7 at *
           replace hz := hz2
           clear hz2
           refine h_done (by kernel_rfl) ?_
           go_wp2_with fail
           go_meet
           exact ⟨sv, uv, bC, s1, s2, u1, u2, kC, X0, X1, RC, D⟩
          ·have e4 : y4.cell? ⟨w.heap.size + 1 + 1, 4, none⟩ = _ := X1.cell 4
           simp at e4
           have f4 := X1.frozen
           go_simp
           clear e4 f4
           replace X0 := X0.set_ne (g := w.heap.size + 1 + 1) (by omega) 4 (.int .i64 sv)
           replace X1 := X1.set 4 (.int .i64 sv)
           simp at X1
           replace PA := PA.set_ne (g := w.heap.size + 1 + 1) (by omega) 4 (.int .i64 sv)
           replace PB := PB.set_ne (g := w.heap.size + 1 + 1) (by omega) 4 (.int .i64 sv)
           replace T := T.below ((Below.refl B y4).setCell (p := ⟨w.heap.size + 1 + 1, 4, none⟩) (by simp; omega) (.int .i64 sv))
           replace D := D.setCell (p := ⟨w.heap.size + 1 + 1, 4, none⟩) (by simp; omega) (.int .i64 sv)
           have hz2 : w.heap.size + 1 + 1 + 1 ≤ (y4.setCell ⟨w.heap.size + 1 + 1, 4, none⟩ (.int .i64 sv)).heap.size := by simp; omega
           refine hK.out _ _ ⟨⟨trivial, FB PB⟩, FA PA⟩ ?_
           clear K hK
           try simp only [Act.put, PuA, PuB, PuC]
           generalize y4.setCell ⟨w.heap.size + 1 + 1, 4, none⟩ (.int .i64 sv) = y5 at *
           replace hz := hz2
           clear hz2
           refine h_move 10 (by kernel_rfl) (h_op 10 rfl (by kernel_rfl) (fun K hK => ?_))
           have Bl := (Below.refl y5.heap.size y5).alloc (Nat.le_refl _) (.cells #[.int .u16 uv] 24)
           replace X0 := X0.below Bl X0.lt
           replace X1 := X1.below Bl X1.lt
           replace PA := PA.below Bl PA.lt
           replace PB := PB.below Bl PB.lt
           replace T := T.below (Bl.mono (by omega))
           replace D := D.trans (Dev.of_below (Bl.mono (by omega)))
           have RC := row_one_w y5 uv ⟨u1, by omega⟩ _ rfl
           have hz2 : w.heap.size + 1 + 1 + 1 ≤ (y5.alloc (.cells #[.int .u16 uv] 24)).heap.size := by simp; omega
           have lC : y5.heap.size < (y5.alloc (.cells #[.int .u16 uv] 24)).heap.size := by simp
           go_simp
           refine hK.out _ _ ⟨⟨trivial, FB PB⟩, FA PA⟩ ?_
           clear K hK Bl
           try simp only [Act.put, PuA, PuB, PuC]
           generalize y5.alloc (.cells #[.int .u16 uv] 24) = y6 at *
           have kC := hz
           replace hz := hz2
           generalize y5.heap.size = bC at *
           clear hz2
           refine h_P ⟨⟨trivial, FB PB⟩, FA PA⟩ 13 rfl ?_
           refine h_move 14 (by kernel_rfl) (h_op 14 rfl (by kernel_rfl) (fun K hK => ?_))
           have e4 : y6.cell? ⟨w.heap.size + 1 + 1, 6, none⟩ = _ := X1.cell 6
           simp at e4
           have f4 := X1.frozen
           go_simp
           clear e4 f4
           replace X0 := X0.set_ne (g := w.heap.size + 1 + 1) (by omega) 6 (.slice (some ⟨bC, 0, none⟩) 1 1)
           replace X1 := X1.set 6 (.slice (some ⟨bC, 0, none⟩) 1 1)
           simp at X1
           replace PA := PA.set_ne (g := w.heap.size + 1 + 1) (by omega) 6 (.slice (some ⟨bC, 0, none⟩) 1 1)
           replace PB := PB.set_ne (g := w.heap.size + 1 + 1) (by omega) 6 (.slice (some ⟨bC, 0, none⟩) 1 1)
           replace RC := RC.setCell_new (g := w.heap.size + 1 + 1) (o := 6) (u := (.slice (some ⟨bC, 0, none⟩) 1 1)) (NewV.some (w.heap.size + 1 + 1 + 1) _ _ _ _ kC) (by omega)
           replace T := T.below ((Below.refl B y6).setCell (p := ⟨w.heap.size + 1 + 1, 6, none⟩) (by simp; omega) (.slice (some ⟨bC, 0, none⟩) 1 1))
           replace D := D.setCell (p := ⟨w.heap.size + 1 + 1, 6, none⟩) (by simp; omega) (.slice (some ⟨bC, 0, none⟩) 1 1)
           have hz2 : w.heap.size + 1 + 1 + 1 ≤ (y6.setCell ⟨w.heap.size + 1 + 1, 6, none⟩ (.slice (some ⟨bC, 0, none⟩) 1 1)).heap.size := by simp; omega
           refine hK.out _ _ ⟨⟨trivial, FB PB⟩, FA PA⟩ ?_
           clear K hK
           try simp only [Act.put, PuA, PuB, PuC]
           generalize y6.setCell ⟨w.heap.size + 1 + 1, 6, none⟩ (.slice (some ⟨bC, 0, none⟩) 1 1) = y7 at *
           replace hz := hz2
           clear hz2
           refine h_done (by kernel_rfl) ?_
           go_wp2_with fail
           go_meet
           exact ⟨sv, uv, bC, s1, s2, u1, u2, kC, X0, X1, RC, D⟩
         ·have Bl := (Below.refl y3.heap.size y3).alloc (Nat.le_refl _) (.cells #[.int .u16 uv] 24)
          replace X0 := X0.below Bl X0.lt
          replace X1 := X1.below Bl X1.lt
          replace PB := PB.below Bl PB.lt
          replace T := T.below (Bl.mono (by omega))
          replace D := D.trans (Dev.of_below (Bl.mono (by omega)))
          have RC := row_one_w y3 uv ⟨u1, by omega⟩ _ rfl
          have hz2 : w.heap.size + 1 + 1 + 1 ≤ (y3.alloc (.cells #[.int .u16 uv] 24)).heap.size := by simp; omega
          have lC : y3.heap.size < (y3.alloc (.cells #[.int .u16 uv] 24)).heap.size := by simp
          go_simp
          refine hK.out _ _ ⟨trivial, FB PB⟩ ?_
          clear K hK Bl
          try simp only [Act.put, PuA, PuB, PuC]
          generalize y3.alloc (.cells #[.int .u16 uv] 24) = y4 at *
          have kC := hz
          replace hz := hz2
          generalize y3.heap.size = bC at *
          clear hz2
          refine h_move 0 (by kernel_rfl) (h_op 0 rfl (by kernel_rfl) (fun K hK => ?_))
          have Bl := (Below.refl y4.heap.size y4).alloc (Nat.le_refl _) (.cells #[.int .i64 0, .int .i64 10, .int .i64 11, .int .i64 12, .int .i64 13, .int .i64 14, .int .i64 2, .int .i64 300] 3)
          replace X0 := X0.below Bl X0.lt
          replace X1 := X1.below Bl X1.lt
          replace PB := PB.below Bl PB.lt
          replace T := T.below (Bl.mono (by omega))
          replace D := D.trans (Dev.of_below (Bl.mono (by omega)))
          replace RC := RC.below Bl
          have PA := Blk.new y4 3 [.int .i64 0, .int .i64 10, .int .i64 11, .int .i64 12, .int .i64 13, .int .i64 14, .int .i64 2, .int .i64 300]
          have hz2 : w.heap.size + 1 + 1 + 1 ≤ (y4.alloc (.cells #[.int .i64 0, .int .i64 10, .int .i64 11, .int .i64 12, .int .i64 13, .int .i64 14, .int .i64 2, .int .i64 300] 3)).heap.size := by simp; omega
          have lA : y4.heap.size < (y4.alloc (.cells #[.int .i64 0, .int .i64 10, .int .i64 11, .int .i64 12, .int .i64 13, .int .i64 14, .int .i64 2, .int .i64 300] 3)).heap.size := by simp
          go_simp
          refine hK.out _ _ ⟨trivial, FB PB⟩ ?_
          clear K hK Bl
          try simp only [Act.put, PuA, PuB, PuC]
          generalize y4.alloc (.cells #[.int .i64 0, .int .i64 10, .int .i64 11, .int .i64 12, .int .i64 13, .int .i64 14, .int .i64 2, .int .i64 300] 3) = y5 at *
          have kA := hz
          replace hz := hz2
          generalize y4.heap.size = bA at *
          clear hz2
          obtain ⟨sv, hsv, s1, s2⟩ := sub_at mx mx1 mx2
          have FA : ∀ {W : World}, Blk W bA 3 [.int .i64 0, .int .i64 10, .int .i64 11, .int .i64 12, .int .i64 13, .int .i64 14, .int .i64 2, .int .i64 300] → W.cell? ⟨bA, mx.toNat, none⟩ = some (.int .i64 sv) := fun h => (h.cell _).trans hsv
          clear hsv
          refine h_P ⟨trivial, FB PB⟩ 3 rfl ?_
          refine h_R (fun w' => ((True) ∧ w'.cell? ⟨bB, nx.toNat, none⟩ = some (.int .u16 uv)) ∧ w'.cell? ⟨bA, mx.toNat, none⟩ = some (.int .i64 sv)) (fun _ h => h.1) ⟨⟨trivial, FB PB⟩, FA PA⟩ 4 rfl (fun w' hx => by have hc := hx.2; go_simp; with_reducible rfl) ?_
          refine h_P ⟨⟨trivial, FB PB⟩, FA PA⟩ 11 rfl ?_
          refine h_move 12 (by kernel_rfl) (h_op 12 rfl (by kernel_rfl) (fun K hK => ?_))
          have e4 : y5.cell? ⟨w.heap.size + 1 + 1, 4, none⟩ = _ := X1.cell 4
          simp at e4
          have f4 := X1.frozen
          go_simp
          clear e4 f4
          replace X0 := X0.set_ne (g := w.heap.size + 1 + 1) (by omega) 4 (.int .i64 sv)
          replace X1 := X1.set 4 (.int .i64 sv)
          simp at X1
          replace PA := PA.set_ne (g := w.heap.size + 1 + 1) (by omega) 4 (.int .i64 sv)
          replace PB := PB.set_ne (g := w.heap.size + 1 + 1) (by omega) 4 (.int .i64 sv)
          replace RC := RC.setCell_new (g := w.heap.size + 1 + 1) (o := 4) (u := (.int .i64 sv)) (NewV.some (w.heap.size + 1 + 1 + 1) _ _ _ _ kC) (by omega)
          replace T := T.below ((Below.refl B y5).setCell (p := ⟨w.heap.size + 1 + 1, 4, none⟩) (by simp; omega) (.int .i64 sv))
          replace D := D.setCell (p := ⟨w.heap.size + 1 + 1, 4, none⟩) (by simp; omega) (.int .i64 sv)
          have hz2 : w.heap.size + 1 + 1 + 1 ≤ (y5.setCell ⟨w.heap.size + 1 + 1, 4, none⟩ (.int .i64 sv)).heap.size := by simp; omega
          refine hK.out _ _ ⟨⟨trivial, FB PB⟩, FA PA⟩ ?_
          clear K hK
          try simp only [Act.put, PuA, PuB, PuC]
          generalize y5.setCell ⟨w.heap.size + 1 + 1, 4, none⟩ (.int .i64 sv) = y6 at *
          replace hz := hz2
          clear hz2
          refine h_P ⟨⟨trivial, FB PB⟩, FA PA⟩ 13 rfl ?_
          refine h_move 14 (by kernel_rfl) (h_op 14 rfl (by kernel_rfl) (fun K hK => ?_))
          have e4 : y6.cell? ⟨w.heap.size + 1 + 1, 6, none⟩ = _ := X1.cell 6
          simp at e4
          have f4 := X1.frozen
          go_simp
          clear e4 f4
          replace X0 := X0.set_ne (g := w.heap.size + 1 + 1) (by omega) 6 (.slice (some ⟨bC, 0, none⟩) 1 1)
          replace X1 := X1.set 6 (.slice (some ⟨bC, 0, none⟩) 1 1)
          simp at X1
          replace PA := PA.set_ne (g := w.heap.size + 1 + 1) (by omega) 6 (.slice (some ⟨bC, 0, none⟩) 1 1)
          replace PB := PB.set_ne (g := w.heap.size + 1 + 1) (by omega) 6 (.slice (some ⟨bC, 0, none⟩) 1 1)
          replace RC := RC.setCell_new (g := w.heap.size + 1 + 1) (o := 6) (u := (.slice (some ⟨bC, 0, none⟩) 1 1)) (NewV.some (w.heap.size + 1 + 1 + 1) _ _ _ _ kC) (by omega)
          replace T := T.below ((Below.refl B y6).setCell (p := ⟨w.heap.size + 1 + 1, 6, none⟩) (by simp; omega) (.slice (some ⟨bC, 0, none⟩) 1 1))
          replace D := D.setCell (p := ⟨w.heap.size + 1 + 1, 6, none⟩) (by simp; omega) (.slice (some ⟨bC, 0, none⟩) 1 1)
          have hz2 : w.heap.size + 1 + 1 + 1 ≤ (y6.setCell ⟨w.heap.size + 1 + 1, 6, none⟩ (.slice (some ⟨bC, 0, none⟩) 1 1)).heap.size := by simp; omega
          refine hK.out _ _ ⟨⟨trivial, FB PB⟩, FA PA⟩ ?_
          clear K hK
          try simp only [Act.put, PuA, PuB, PuC]
          generalize y6.setCell ⟨w.heap.size + 1 + 1, 6, none⟩ (.slice (some ⟨bC, 0, none⟩) 1 1) = y7 at *
          replace hz := hz2
          clear hz2
          refine h_done (by kernel_rfl) ?_
          go_wp2_with fail
          go_meet
          exact ⟨sv, uv, bC, s1, s2, u1, u2, kC, X0, X1, RC, D⟩
       ·go_wp2_with fail
        refine (next_any B g l 4 _ T (by omega) (by decide)).mono ?_
        rintro e y2 ⟨nx, rfl, nx1, nx2, T', S', D'⟩
        have hz2 : w.heap.size + 1 + 1 + 1 ≤ y2.heap.size := by omega
        replace X0 := X0.dev D' X0.lt (by omega)
        replace X1 := X1.dev D' X1.lt (by omega)
        replace T := T'
        replace D := D.trans (D'.mono (by omega))
        clear S' D' T'
        replace hz := hz2
        clear hz2
        go_simp
        refine hK.out _ _ trivial ?_
        clear K hK
        try simp only [Act.put, PuA, PuB, PuC]
        refine h_move2 0 5 (by kernel_rfl) (h_op 0 rfl (by kernel_rfl) (fun K hK => ?_)) (h_op 5 rfl (by kernel_rfl) (fun K hK => ?_))
        ·have Bl := (Below.refl y2.heap.size y2).alloc (Nat.le_refl _) (.cells #[.int .i64 0, .int .i64 10, .int .i64 11, .int .i64 12, .int .i64 13, .int .i64 14, .int .i64 2, .int .i64 300] 3)
         replace X0 := X0.below Bl X0.lt
         replace X1 := X1.below Bl X1.lt
         replace T := T.below (Bl.mono (by omega))
         replace D := D.trans (Dev.of_below (Bl.mono (by omega)))
         have PA := Blk.new y2 3 [.int .i64 0, .int .i64 10, .int .i64 11, .int .i64 12, .int .i64 13, .int .i64 14, .int .i64 2, .int .i64 300]
         have hz2 : w.heap.size + 1 + 1 + 1 ≤ (y2.alloc (.cells #[.int .i64 0, .int .i64 10, .int .i64 11, .int .i64 12, .int .i64 13, .int .i64 14, .int .i64 2, .int .i64 300] 3)).heap.size := by simp; omega
         have lA : y2.heap.size < (y2.alloc (.cells #[.int .i64 0, .int .i64 10, .int .i64 11, .int .i64 12, .int .i64 13, .int .i64 14, .int .i64 2, .int .i64 300] 3)).heap.size := by simp
         go_simp
         refine hK.out _ _ trivial ?_
         clear K hK Bl
         try simp only [Act.put, PuA, PuB, PuC]
         generalize y2.alloc (.cells #[.int .i64 0, .int .i64 10, .int .i64 11, .int .i64 12, .int .i64 13, .int .i64 14, .int .i64 2, .int .i64 300] 3) = y3 at *
         have kA := hz
         replace hz := hz2
         generalize y2.heap.size = bA at *
         clear hz2
         obtain ⟨sv, hsv, s1, s2⟩ := sub_at mx mx1 mx2
         have FA : ∀ {W : World}, Blk W bA 3 [.int .i64 0, .int .i64 10, .int .i64 11, .int .i64 12, .int .i64 13, .int .i64 14, .int .i64 2, .int .i64 300] → W.cell? ⟨bA, mx.toNat, none⟩ = some (.int .i64 sv) := fun h => (h.cell _).trans hsv
         clear hsv
         refine h_P trivial 3 rfl ?_
         refine h_R (fun w' => (True) ∧ w'.cell? ⟨bA, mx.toNat, none⟩ = some (.int .i64 sv)) (fun _ h => h.1) ⟨trivial, FA PA⟩ 4 rfl (fun w' hx => by have hc := hx.2; go_simp; with_reducible rfl) ?_
         refine h_P ⟨trivial, FA PA⟩ 11 rfl ?_
         refine h_move2 5 12 (by kernel_rfl) (h_op 5 rfl (by kernel_rfl) (fun K hK => ?_)) (h_op 12 rfl (by kernel_rfl) (fun K hK => ?_))
         ·have Bl := (Below.refl y3.heap.size y3).alloc (Nat.le_refl _) (.cells #[.int .u16 0, .int .u16 0, .int .u16 0, .int .u16 777] 24)
          replace X0 := X0.below Bl X0.lt
          replace X1 := X1.below Bl X1.lt
          replace PA := PA.below Bl PA.lt
          replace T := T.below (Bl.mono (by omega))
          replace D := D.trans (Dev.of_below (Bl.mono (by omega)))
          have PB := Blk.new y3 24 [.int .u16 0, .int .u16 0, .int .u16 0, .int .u16 777]
          have hz2 : w.heap.size + 1 + 1 + 1 ≤ (y3.alloc (.cells #[.int .u16 0, .int .u16 0, .int .u16 0, .int .u16 777] 24)).heap.size := by simp; omega
          have lB : y3.heap.size < (y3.alloc (.cells #[.int .u16 0, .int .u16 0, .int .u16 0, .int .u16 777] 24)).heap.size := by simp
          go_simp
          refine hK.out _ _ ⟨trivial, FA PA⟩ ?_
          clear K hK Bl
          try simp only [Act.put, PuA, PuB, PuC]
          generalize y3.alloc (.cells #[.int .u16 0, .int .u16 0, .int .u16 0, .int .u16 777] 24) = y4 at *
          have kB := hz
          replace hz := hz2
          generalize y3.heap.size = bB at *
          clear hz2
          obtain ⟨uv, huv, u1, u2⟩ := val_at nx nx1 nx2
          have FB : ∀ {W : World}, Blk W bB 24 [.int .u16 0, .int .u16 0, .int .u16 0, .int .u16 777] → W.cell? ⟨bB, nx.toNat, none⟩ = some (.int .u16 uv) := fun h => (h.cell _).trans huv
          clear huv
          refine h_P ⟨trivial, FA PA⟩ 8 rfl ?_
          refine h_R (fun w' => ((True) ∧ w'.cell? ⟨bA, mx.toNat, none⟩ = some (.int .i64 sv)) ∧ w'.cell? ⟨bB, nx.toNat, none⟩ = some (.int .u16 uv)) (fun _ h => h.1) ⟨⟨trivial, FA PA⟩, FB PB⟩ 9 rfl (fun w' hx => by have hc := hx.2; go_simp; with_reducible rfl) ?_
          refine h_move2 10 12 (by kernel_rfl) (h_op 10 rfl (by kernel_rfl) (fun K hK => ?_)) (h_op 12 rfl (by kernel_rfl) (fun K hK => ?_))
          ·have Bl := (Below.refl y4.heap.size y4).alloc (Nat.le_refl _) (.cells #[.int .u16 uv] 24)
           replace X0 := X0.below Bl X0.lt
           replace X1 := X1.below Bl X1.lt
           replace PA := PA.below Bl PA.lt
           replace PB := PB.below Bl PB.lt
           replace T := T.below (Bl.mono (by omega))
           replace D := D.trans (Dev.of_below (Bl.mono (by omega)))
           have RC := row_one_w y4 uv ⟨u1, by omega⟩ _ rfl
           have hz2 : w.heap.size + 1 + 1 + 1 ≤ (y4.alloc (.cells #[.int .u16 uv] 24)).heap.size := by simp; omega
           have lC : y4.heap.size < (y4.alloc (.cells #[.int .u16 uv] 24)).heap.size := by simp
           go_simp
           refine hK.out _ _ ⟨⟨trivial, FA PA⟩, FB PB⟩ ?_
           clear K hK Bl
           try simp only [Act.put, PuA, PuB, PuC]
           generalize y4.alloc (.cells #[.int .u16 uv] 24) = y5 at *
           have kC := hz
           replace hz := hz2
           generalize y4.heap.size = bC at *
           clear hz2
           refine h_move 12 (by kernel_rfl) (h_op 12 rfl (by kernel_rfl) (fun K hK => ?_))
           have e4 : y5.cell? ⟨w.heap.size + 1 + 1, 4, none⟩ = _ := X1.cell 4
           simp at e4
           have f4 := X1.frozen
           go_simp
           clear e4 f4
           replace X0 := X0.set_ne (g := w.heap.size + 1 + 1) (by omega) 4 (.int .i64 sv)
           replace X1 := X1.set 4 (.int .i64 sv)
           simp at X1
           replace PA := PA.set_ne (g := w.heap.size + 1 + 1) (by omega) 4 (.int .i64 sv)
           replace PB := PB.set_ne (g := w.heap.size + 1 + 1) (by omega) 4 (.int .i64 sv)
           replace RC := RC.setCell_new (g := w.heap.size + 1 + 1) (o := 4) (u := (.int .i64 sv)) (NewV.some (w.heap.size + 1 + 1 + 1) _ _ _ _ kC) (by omega)
           replace T := T.below ((Below.refl B y5).setCell (p := ⟨w.heap.size + 1 + 1, 4, none⟩) (by simp; omega) (.int .i64 sv))
           replace D := D.setCell (p := ⟨w.heap.size + 1 + 1, 4, none⟩) (by simp; omega) (.int .i64 sv)
           have hz2 : w.heap.size + 1 + 1 + 1 ≤ (y5.setCell ⟨w.heap.size + 1 + 1, 4, none⟩ (.int .i64 sv)).heap.size := by simp; omega
           refine hK.out _ _ ⟨⟨trivial, FA PA⟩, FB PB⟩ ?_
           clear K hK
           try simp only [Act.put, PuA, PuB, PuC]
           generalize y5.setCell ⟨w.heap.size + 1 + 1, 4, none⟩ (.int .i64 sv) = y6 at *
           replace hz := hz2
           clear hz2
           refine h_P ⟨⟨trivial, FA PA⟩, FB PB⟩ 13 rfl ?_
           refine h_move 14 (by kernel_rfl) (h_op 14 rfl (by kernel_rfl) (fun K hK => ?_))
           have e4 : y6.cell? ⟨w.heap.size + 1 + 1, 6, none⟩ = _ := X1.cell 6
           simp at e4
           have f4 := X1.frozen
           go_simp
           clear e4 f4
           replace X0 := X0.set_ne (g := w.heap.size + 1 + 1) (by omega) 6 (.slice (some ⟨bC, 0, none⟩) 1 1)
           replace X1 := X1.set 6 (.slice (some ⟨bC, 0, none⟩) 1 1)
           simp at X1
           replace PA := PA.set_ne (g := w.heap.size + 1 + 1) (by omega) 6 (.slice (some ⟨bC, 0, none⟩) 1 1)
           replace PB := PB.set_ne (g := w.heap.size + 1 + 1) (by omega) 6 (.slice (some ⟨bC, 0, none⟩) 1 1)
           replace RC := RC.setCell_new (g := w.heap.size + 1 + 1) (o := 6) (u := (.slice (some ⟨bC, 0, none⟩) 1 1)) (NewV.some (w.heap.size + 1 + 1 + 1) _ _ _ _ kC) (by omega)
           replace T := T.below ((Below.refl B y6).setCell (p := ⟨w.heap.size + 1 + 1, 6, none⟩) (by simp; omega) (.slice (some ⟨bC, 0, none⟩) 1 1))
           replace D := D.setCell (p := ⟨w.heap.size + 1 + 1, 6, none⟩) (by simp; omega) (.slice (some ⟨bC, 0, none⟩) 1 1)
           have hz2 : w.heap.size + 1 + 1 + 1 ≤ (y6.setCell ⟨w.heap.size + 1 + 1, 6, none⟩ (.slice (some ⟨bC, 0, none⟩) 1 1)).heap.size := by simp; omega
           refine hK.out _ _ ⟨⟨trivial, FA PA⟩, FB PB⟩ ?_
           clear K hK
           try simp only [Act.put, PuA, PuB, PuC]
           generalize y6.setCell ⟨w.heap.size + 1 + 1, 6, none⟩ (.slice (some ⟨bC, 0, none⟩) 1 1) = y7 at *
           replace hz := hz2
           clear hz2
           refine h_done (by kernel_rfl) ?_
           go_wp2_with fail
           go_meet
           exact ⟨sv, uv, bC, s1, s2, u1, u2, kC, X0, X1, RC, D⟩
          ·have e4 : y4.cell? ⟨w.heap.size + 1 + 1, 4, none⟩ = _ := X1.cell 4
           simp at e4
           have f4 := X1.frozen
           go_simp
           clear e4 f4
           replace X0 := X0.set_ne (g := w.heap.size + 1 + 1) (by omega) 4 (.int .i64 sv)
           replace X1 := X1.set 4 (.int .i64 sv)
           simp at X1
           replace PA := PA.set_ne (g := w.heap.size + 1 + 1) (by omega) 4 (.int .i64 sv)
           replace PB := PB.set_ne (g := w.heap.size + 1 + 1) (by omega) 4 (.int .i64 sv)
           replace T := T.below ((Below.refl B y4).setCell (p := ⟨w.heap.size + 1 + 1, 4, none⟩) (by simp; omega) (.int .i64 sv))
           replace D := D.setCell (p := ⟨w.heap.size + 1 + 1, 4, none⟩) (by simp; omega) (.int .i64 sv)
           have hz2 : w.heap.size + 1 + 1 + 1 ≤ (y4.setCell ⟨w.heap.size + 1 + 1, 4, none⟩ (.int .i64 sv)).heap.size := by simp; omega
           refine hK.out _ _ ⟨⟨trivial, FA PA⟩, FB PB⟩ ?_
           clear K hK
           try simp only [Act.put, PuA, PuB, PuC]
           generalize y4.setCell ⟨w.heap.size + 1 + 1, 4, none⟩ (.int .i64 sv) = y5 at *
           replace hz := hz2
           clear hz2
           refine h_move 10 (by kernel_rfl) (h_op 10 rfl (by kernel_rfl) (fun K hK => ?_))
           have Bl := (Below.refl y5.heap.size y5).alloc (Nat.le_refl _) (.cells #[.int .u16 uv] 24)
           replace X0 := X0.below Bl X0.lt
           replace X1 := X1.below Bl X1.lt
           replace PA := PA.below Bl PA.lt
           replace PB := PB.below Bl PB.lt
           replace T := T.below (Bl.mono (by omega))
           replace D := D.trans (Dev.of_below (Bl.mono (by omega)))
           have RC := row_one_w y5 uv ⟨u1, by omega⟩ _ rfl
           have hz2 : w.heap.size + 1 + 1 + 1 ≤ (y5.alloc (.cells #[.int .u16 uv] 24)).heap.size := by simp; omega
           have lC : y5.heap.size < (y5.alloc (.cells #[.int .u16 uv] 24)).heap.size := by simp
           go_simp
           refine hK.out _ _ ⟨⟨trivial, FA PA⟩, FB PB⟩ ?_
           clear K hK Bl
           try simp only [Act.put, PuA, PuB, PuC]
           generalize y5.alloc (.cells #[.int .u16 uv] 24) = y6 at *
           have kC := hz
           replace hz := hz2
           generalize y5.heap.size = bC at *
           clear hz2
           refine h_P ⟨⟨trivial, FA PA⟩, FB PB⟩ 13 rfl ?_
           refine h_move 14 (by kernel_rfl) (h_op 14 rfl (by kernel_rfl) (fun K hK => ?_))
           have e4 : y6.cell? ⟨w.heap.size + 1 + 1, 6, none⟩ = _ := X1.cell 6
           simp at e4
           have f4 := X1.frozen
           go_simp
           clear e4 f4
           replace X0 := X0.set_ne (g := w.heap.size + 1 + 1) (by omega) 6 (.slice (some ⟨bC, 0, none⟩) 1 1)
           replace X1 := X1.set 6 (.slice (some ⟨bC, 0, none⟩) 1 1)
           simp at X1
           replace PA := PA.set_ne (g := w.heap.size + 1 + 1) (by omega) 6 (.slice (some ⟨bC, 0, none⟩) 1 1)
           replace PB := PB.set_ne (g := w.heap.size + 1 + 1) (by omega) 6 (.slice (some ⟨bC, 0, none⟩) 1 1)
           replace RC := RC.setCell_new (g := w.heap.size + 1 + 1) (o := 6) (u := (.slice (some ⟨bC, 0, none⟩) 1 1)) (NewV.some (w.heap.size + 1 + 1 + 1) _ _ _ _ kC) (by omega)
           replace T := T.below ((Below.refl B y6).setCell (p := ⟨w.heap.size + 1 + 1, 6, none⟩) (by simp; omega) (.slice (some ⟨bC, 0, none⟩) 1 1))
           replace D := D.setCell (p := ⟨w.heap.size + 1 + 1, 6, none⟩) (by simp; omega) (.slice (some ⟨bC, 0, none⟩) 1 1)
           have hz2 : w.heap.size + 1 + 1 + 1 ≤ (y6.setCell ⟨w.heap.size + 1 + 1, 6, none⟩ (.slice (some ⟨bC, 0, none⟩) 1 1)).heap.size := by simp; omega
           refine hK.out _ _ ⟨⟨trivial, FA PA⟩, FB PB⟩ ?_
           clear K hK
           try simp only [Act.put, PuA, PuB, PuC]
           generalize y6.setCell ⟨w.heap.size + 1 + 1, 6, none⟩ (.slice (some ⟨bC, 0, none⟩) 1 1) = y7 at *
           replace hz := hz2
           clear hz2
           refine h_done (by kernel_rfl) ?_
           go_wp2_with fail
           go_meet
           exact ⟨sv, uv, bC, s1, s2, u1, u2, kC, X0, X1, RC, D⟩
         ·have e4 : y3.cell? ⟨w.heap.size + 1 + 1, 4, none⟩ = _ := X1.cell 4
          simp at e4
          have f4 := X1.frozen
          go_simp
          clear e4 f4
          replace X0 := X0.set_ne (g := w.heap.size + 1 + 1) (by omega) 4 (.int .i64 sv)
          replace X1 := X1.set 4 (.int .i64 sv)
          simp at X1
          replace PA := PA.set_ne (g := w.heap.size + 1 + 1) (by omega) 4 (.int .i64 sv)
          replace T := T.below ((Below.refl B y3).setCell (p := ⟨w.heap.size + 1 + 1, 4, none⟩) (by simp; omega) (.int .i64 sv))
          replace D := D.setCell (p := ⟨w.heap.size + 1 + 1, 4, none⟩) (by simp; omega) (.int .i64 sv)
          have hz2 : w.heap.size + 1 + 1 + 1 ≤ (y3.setCell ⟨w.heap.size + 1 + 1, 4, none⟩ (.int .i64 sv)).heap.size := by simp; omega
          refine hK.out _ _ ⟨trivial, FA PA⟩ ?_
          clear K hK
          try simp only [Act.put, PuA, PuB, PuC]
          generalize y3.setCell ⟨w.heap.size + 1 + 1, 4, none⟩ (.int .i64 sv) = y4 at *
          replace hz := hz2
          clear hz2
          refine h_move 5 (by kernel_rfl) (h_op 5 rfl (by kernel_rfl) (fun K hK => ?_))
          have Bl := (Below.refl y4.heap.size y4).alloc (Nat.le_refl _) (.cells #[.int .u16 0, .int .u16 0, .int .u16 0, .int .u16 777] 24)
          replace X0 := X0.below Bl X0.lt
          replace X1 := X1.below Bl X1.lt
          replace PA := PA.below Bl PA.lt
          replace T := T.below (Bl.mono (by omega))
          replace D := D.trans (Dev.of_below (Bl.mono (by omega)))
          have PB := Blk.new y4 24 [.int .u16 0, .int .u16 0, .int .u16 0, .int .u16 777]
          have hz2 : w.heap.size + 1 + 1 + 1 ≤ (y4.alloc (.cells #[.int .u16 0, .int .u16 0, .int .u16 0, .int .u16 777] 24)).heap.size := by simp; omega
          have lB : y4.heap.size < (y4.alloc (.cells #[.int .u16 0, .int .u16 0, .int .u16 0, .int .u16 777] 24)).heap.size := by simp
          go_simp
          refine hK.out _ _ ⟨trivial, FA PA⟩ ?_
          clear K hK Bl
          try simp only [Act.put, PuA, PuB, PuC]
          generalize y4.alloc (.cells #[.int .u16 0, .int .u16 0, .int .u16 0, .int .u16 777] 24) = y5 at *
          have kB := hz
          replace hz := hz2
          generalize y4.heap.size = bB at *
          clear hz2
          obtain ⟨uv, huv, u1, u2⟩ := val_at nx nx1 nx2
          have FB : ∀ {W : World}, Blk W bB 24 [.int .u16 0, .int .u16 0, .int .u16 0, .int .u16 777] → W.cell? ⟨bB, nx.toNat, none⟩ = some (.int .u16 uv) := fun h => (h.cell _).trans huv
          clear huv
          refine h_P ⟨trivial, FA PA⟩ 8 rfl ?_
          refine h_R (fun w' => ((True) ∧ w'.cell? ⟨bA, mx.toNat, none⟩ = some (.int .i64 sv)) ∧ w'.cell? ⟨bB, nx.toNat, none⟩ = some (.int .u16 uv)) (fun _ h => h.1) ⟨⟨trivial, FA PA⟩, FB PB⟩ 9 rfl (fun w' hx => by have hc := hx.2; go_simp; with_reducible rfl) ?_
          refine h_move 10 (by kernel_rfl) (h_op 10 rfl (by kernel_rfl) (fun K hK => ?_))
          have Bl := (Below.refl y5.heap.size y5).alloc (Nat.le_refl _) (.cells #[.int .u16 uv] 24)
          replace X0 := X0.below Bl X0.lt
          replace X1 := X1.below Bl X1.lt
          replace PA := PA.below Bl PA.lt
          replace PB := PB.below Bl PB.lt
          replace T := T.below (Bl.mono (by omega))
          replace D := D.trans (Dev.of_below (Bl.mono (by omega)))
          have RC := row_one_w y5 uv ⟨u1, by omega⟩ _ rfl
          have hz2 : w.heap.size + 1 + 1 + 1 ≤ (y5.alloc (.cells #[.int .u16 uv] 24)).heap.size := by simp; omega
          have lC : y5.heap.size < (y5.alloc (.cells #[.int .u16 uv] 24)).heap.size := by simp
          go_simp
          refine hK.out _ _ ⟨⟨trivial, FA PA⟩, FB PB⟩ ?_
          clear K hK Bl
          try simp only [Act.put, PuA, PuB, PuC]
          generalize y5.alloc (.cells #[.int .u16 uv] 24) = y6 at *
          have kC := hz
          replace hz := hz2
          generalize y5.heap.size = bC at *
          clear hz2
          refine h_P ⟨⟨trivial, FA PA⟩, FB PB⟩ 13 rfl ?_
          refine h_move 14 (by kernel_rfl) (h_op 14 rfl (by kernel_rfl) (fun K hK => ?_))
          have e4 : y6.cell? ⟨w.heap.size + 1 + 1, 6, none⟩ = _ := X1.cell 6
          simp at e4
          have f4 := X1.frozen
          go_simp
          clear e4 f4
          replace X0 := X0.set_ne (g := w.heap.size + 1 + 1) (by omega) 6 (.slice (some ⟨bC, 0, none⟩) 1 1)
          replace X1 := X1.set 6 (.slice (some ⟨bC, 0, none⟩) 1 1)
          simp at X1
          replace PA := PA.set_ne (g := w.heap.size + 1 + 1) (by omega) 6 (.slice (some ⟨bC, 0, none⟩) 1 1)
          replace PB := PB.set_ne (g := w.heap.size + 1 + 1) (by omega) 6 (.slice (some ⟨bC, 0, none⟩) 1 1)
          replace RC := RC.setCell_new (g := w.heap.size + 1 + 1) (o := 6) (u := (.slice (some ⟨bC, 0, none⟩) 1 1)) (NewV.some (w.heap.size + 1 + 1 + 1) _ _ _ _ kC) (by omega)
          replace T := T.below ((Below.refl B y6).setCell (p := ⟨w.heap.size + 1 + 1, 6, none⟩) (by simp; omega) (.slice (some ⟨bC, 0, none⟩) 1 1))
          replace D := D.setCell (p := ⟨w.heap.size + 1 + 1, 6, none⟩) (by simp; omega) (.slice (some ⟨bC, 0, none⟩) 1 1)
          have hz2 : w.heap.size + 1 + 1 + 1 ≤ (y6.setCell ⟨w.heap.size + 1 + 1, 6, none⟩ (.slice (some ⟨bC, 0, none⟩) 1 1)).heap.size := by simp; omega
          refine hK.out _ _ ⟨⟨trivial, FA PA⟩, FB PB⟩ ?_
          clear K hK
          try simp only [Act.put, PuA, PuB, PuC]
          generalize y6.setCell ⟨w.heap.size + 1 + 1, 6, none⟩ (.slice (some ⟨bC, 0, none⟩) 1 1) = y7 at *
          replace hz := hz2
          clear hz2
          refine h_done (by kernel_rfl) ?_
          go_wp2_with fail
          go_meet
          exact ⟨sv, uv, bC, s1, s2, u1, u2, kC, X0, X1, RC, D⟩
        ·have Bl := (Below.refl y2.heap.size y2).alloc (Nat.le_refl _) (.cells #[.int .u16 0, .int .u16 0, .int .u16 0, .int .u16 777] 24)
         replace X0 := X0.below Bl X0.lt
         replace X1 := X1.below Bl X1.lt
         replace T := T.below (Bl.mono (by omega))
         replace D := D.trans (Dev.of_below (Bl.mono (by omega)))
         have PB := Blk.new y2 24 [.int .u16 0, .int .u16 0, .int .u16 0, .int .u16 777]
         have hz2 : w.heap.size + 1 + 1 + 1 ≤ (y2.alloc (.cells #[.int .u16 0, .int .u16 0, .int .u16 0, .int .u16 777] 24)).heap.size := by simp; omega
         have lB : y2.heap.size < (y2.alloc (.cells #[.int .u16 0, .int .u16 0, .int .u16 0, .int .u16 777] 24)).heap.size := by simp
         go_simp
         refine hK.out _ _ trivial ?_
         clear K hK Bl
         try simp only [Act.put, PuA, PuB, PuC]
         generalize y2.alloc (.cells #[.int .u16 0, .int .u16 0, .int .u16 0, .int .u16 777] 24) = y3 at *
         have kB := hz
         replace hz := hz2
         generalize y2.heap.size = bB at *
         clear hz2
         obtain ⟨uv, huv, u1, u2⟩ := val_at nx nx1 nx2
         have FB : ∀ {W : World}, Blk W bB 24 [.int .u16 0, .int .u16 0, .int .u16 0, .int .u16 777] → W.cell? ⟨bB, nx.toNat, none⟩ = some (.int .u16 uv) := fun h => (h.cell _).trans huv
         clear huv
         refine h_P trivial 8 rfl ?_
         refine h_R (fun w' => (True) ∧ w'.cell? ⟨bB, nx.toNat, none⟩ = some (.int .u16 uv)) (fun _ h => h.1) ⟨trivial, FB PB⟩ 9 rfl (fun w' hx => by have hc := hx.2; go_simp; with_reducible rfl) ?_
         refine h_move2 0 10 (by kernel_rfl) (h_op 0 rfl (by kernel_rfl) (fun K hK => ?_)) (h_op 10 rfl (by kernel_rfl) (fun K hK => ?_))
         ·have Bl := (Below.refl y3.heap.size y3).alloc (Nat.le_refl _) (.cells #[.int .i64 0, .int .i64 10, .int .i64 11, .int .i64 12, .int .i64 13, .int .i64 14, .int .i64 2, .int .i64 300] 3)
          replace X0 := X0.below Bl X0.lt
          replace X1 := X1.below Bl X1.lt
          replace PB := PB.below Bl PB.lt
          replace T := T.below (Bl.mono (by omega))
          replace D := D.trans (Dev.of_below (Bl.mono (by omega)))
          have PA := Blk.new y3 3 [.int .i64 0, .int .i64 10, .int .i64 11, .int .i64 12, .int .i64 13, .int .i64 14, .int .i64 2, .int .i64 300]
          have hz2 : w.heap.size + 1 + 1 + 1 ≤ (y3.alloc (.cells #[.int .i64 0, .int .i64 10, .int .i64 11, .int .i64 12, .int .i64 13, .int .i64 14, .int .i64 2, .int .i64 300] 3)).heap.size := by simp; omega
          have lA : y3.heap.size < (y3.alloc (.cells #[.int .i64 0, .int .i64 10, .int .i64 11, .int .i64 12, .int .i64 13, .int .i64 14, .int .i64 2, .int .i64 300] 3)).heap.size := by simp
          go_simp
          refine hK.out _ _ ⟨trivial, FB PB⟩ ?_
          clear K hK Bl
          try simp only [Act.put, PuA, PuB, PuC]
          generalize y3.alloc (.cells #[.int .i64 0, .int .i64 10, .int .i64 11, .int .i64 12, .int .i64 13, .int .i64 14, .int .i64 2, .int .i64 300] 3) = y4 at *
          have kA := hz
          replace hz := hz2
          generalize y3.heap.size = bA at *
          clear hz2
          obtain ⟨sv, hsv, s1, s2⟩ := sub_at mx mx1 mx2
          have FA : ∀ {W : World}, Blk W bA 3 [.int .i64 0, .int .i64 10, .int .i64 11, .int .i64 12, .int .i64 13, .int .i64 14, .int .i64 2, .int .i64 300] → W.cell? ⟨bA, mx.toNat, none⟩ = some (.int .i64 sv) := fun h => (h.cell _).trans hsv
          clear hsv
          refine h_P ⟨trivial, FB PB⟩ 3 rfl ?_
          refine h_R (fun w' => ((True) ∧ w'.cell? ⟨bB, nx.toNat, none⟩ = some (.int .u16 uv)) ∧ w'.cell? ⟨bA, mx.toNat, none⟩ = some (.int .i64 sv)) (fun _ h => h.1) ⟨⟨trivial, FB PB⟩, FA PA⟩ 4 rfl (fun w' hx => by have hc := hx.2; go_simp; with_reducible rfl) ?_
          refine h_P ⟨⟨trivial, FB PB⟩, FA PA⟩ 11 rfl ?_
          refine h_move2 10 12 (by kernel_rfl) (h_op 10 rfl (by kernel_rfl) (fun K hK => ?_)) (h_op 12 rfl (by kernel_rfl) (fun K hK => ?_))
          ·have Bl := (Below.refl y4.heap.size y4).alloc (Nat.le_refl _) (.cells #[.int .u16 uv] 24)
           replace X0 := X0.below Bl X0.lt
           replace X1 := X1.below Bl X1.lt
           replace PA := PA.below Bl PA.lt
           replace PB := PB.below Bl PB.lt
           replace T := T.below (Bl.mono (by omega))
           replace D := D.trans (Dev.of_below (Bl.mono (by omega)))
           have RC := row_one_w y4 uv ⟨u1, by omega⟩ _ rfl
           have hz2 : w.heap.size + 1 + 1 + 1 ≤ (y4.alloc (.cells #[.int .u16 uv] 24)).heap.size := by simp; omega
           have lC : y4.heap.size < (y4.alloc (.cells #[.int .u16 uv] 24)).heap.size := by simp
           go_simp
           refine hK.out _ _ ⟨⟨trivial, FB PB⟩, FA PA⟩ ?_
           clear K hK Bl
           try simp only [Act.put, PuA, PuB, PuC]
           generalize y4.alloc (.cells #[.int .u16 uv] 24) = y5 at *
           have kC := hz
           replace hz := hz2
           generalize y4.heap.size = bC at *
           clear hz2
           refine h_move 12 (by kernel_rfl) (h_op 12 rfl (by kernel_rfl) (fun K hK => ?_))
           have e4 : y5.cell? ⟨w.heap.size + 1 + 1, 4, none⟩ = _ := X1.cell 4
           simp at e4
           have f4 := X1.frozen
           go_simp
           clear e4 f4
           replace X0 := X0.set_ne (g := w.heap.size + 1 + 1) (by omega) 4 (.int .i64 sv)
           replace X1 := X1.set 4 (.int .i64 sv)
           simp at X1
           replace PA := PA.set_ne (g := w.heap.size + 1 + 1) (by omega) 4 (.int .i64 sv)
           replace PB := PB.set_ne (g := w.heap.size + 1 + 1) (by omega) 4 (.int .i64 sv)
           replace RC := RC.setCell_new (g := w.heap.size + 1 + 1) (o := 4) (u := (.int .i64 sv)) (NewV.some (w.heap.size + 1 + 1 + 1) _ _ _ _ kC) (by omega)
           replace T := T.below ((Below.refl B y5).setCell (p := ⟨w.heap.size + 1 + 1, 4, none⟩) (by simp; omega) (.int .i64 sv))
           replace D := D.setCell (p := ⟨w.heap.size + 1 + 1, 4, none⟩) (by simp; omega) (.int .i64 sv)
           have hz2 : w.heap.size + 1 + 1 + 1 ≤ (y5.setCell ⟨w.heap.size + 1 + 1, 4, none⟩ (.int .i64 sv)).heap.size := by simp; omega
           refine hK.out _ _ ⟨⟨trivial, FB PB⟩, FA PA⟩ ?_
           clear K hK
           try simp only [Act.put, PuA, PuB, PuC]
           generalize y5.setCell ⟨w.heap.size + 1 + 1, 4, none⟩ (.int .i64 sv) = y6 at *
           replace hz := hz2
           clear hz2
           refine h_P ⟨⟨trivial, FB PB⟩, FA PA⟩ 13 rfl ?_
           refine h_move 14 (by kernel_rfl) (h_op 14 rfl (by kernel_rfl) (fun K hK => ?_))
           have e4 : y6.cell? ⟨w.heap.size + 1 + 1, 6, none⟩ = _ := X1.cell 6
           simp at e4
           have f4 := X1.frozen
           go_simp
           clear e4 f4
           replace X0 := X0.set_ne (g := w.heap.size + 1 + 1) (by omega) 6 (.slice (some ⟨bC, 0, none⟩) 1 1)
           replace X1 := X1.set 6 (.slice (some ⟨bC, 0, none⟩) 1 1)
           simp at X1
           replace PA := PA.set_ne (g := w.heap.size + 1 + 1) (by omega) 6 (.slice (some ⟨bC, 0, none⟩) 1 1)
           replace PB := PB.set_ne (g := w.heap.size + 1 + 1) (by omega) 6 (.slice (some ⟨bC, 0, none⟩) 1 1)
           replace RC := RC.setCell_new (g := w.heap.size + 1 + 1) (o := 6) (u := (.slice (some ⟨bC, 0, none⟩) 1 1)) (NewV.some (w.heap.size + 1 + 1 + 1) _ _ _ _ kC) (by omega)
           replace T := T.below ((Below.refl B y6).setCell (p := ⟨w.heap.size + 1 + 1, 6, none⟩) (by simp; omega) (.slice (some ⟨bC, 0, none⟩) 1 1))
           replace D := D.setCell (p := ⟨w.heap.size + 1 + 1, 6, none⟩) (by simp; omega) (.slice (some ⟨bC, 0, none⟩) 1 1)
           have hz2 : w.heap.size + 1 + 1 + 1 ≤ (y6.setCell ⟨w.heap.size + 1 + 1, 6, none⟩ (.slice (some ⟨bC, 0, none⟩) 1 1)).heap.size := by simp; omega
           refine hK.out _ _ ⟨⟨trivial, FB PB⟩, FA PA⟩ ?_
           clear K hK
           try simp only [Act.put, PuA, PuB, PuC]
           generalize y6.setCell ⟨w.heap.size + 1 + 1, 6, none⟩ (.slice (some ⟨bC, 0, none⟩) 1 1) = y7 at *
           replace hz := hz2
           clear hz2
           refine h_done (by kernel_rfl) ?_
           go_wp2_with fail
           go_meet
           exact ⟨sv, uv, bC, s1, s2, u1, u2, kC, X0, X1, RC, D⟩
          ·have e4 : y4.cell? ⟨w.heap.size + 1 + 1, 4, none⟩ = _ := X1.cell 4
           simp at e4
           have f4 := X1.frozen
           go_simp
           clear e4 f4
           replace X0 := X0.set_ne (g := w.heap.size + 1 + 1) (by omega) 4 (.int .i64 sv)
           replace X1 := X1.set 4 (.int .i64 sv)
           simp at X1
           replace PA := PA.set_ne (g := w.heap.size + 1 + 1) (by omega) 4 (.int .i64 sv)
           replace PB := PB.set_ne (g := w.heap.size + 1 + 1) (by omega) 4 (.int .i64 sv)
           replace T := T.below ((Below.refl B y4).setCell (p := ⟨w.heap.size + 1 + 1, 4, none⟩) (by simp; omega) (.int .i64 sv))
           replace D := D.setCell (p := ⟨w.heap.size + 1 + 1, 4, none⟩) (by simp; omega) (.int .i64 sv)
           have hz2 : w.heap.size + 1 + 1 + 1 ≤ (y4.setCell ⟨w.heap.size + 1 + 1, 4, none⟩ (.int .i64 sv)).heap.size := by simp; omega
           refine hK.out _ _ ⟨⟨trivial, FB PB⟩, FA PA⟩ ?_
           clear K hK
           try simp only [Act.put, PuA, PuB, PuC]
           generalize y4.setCell ⟨w.heap.size + 1 + 1, 4, none⟩ (.int .i64 sv) = y5 at *
           replace hz := hz2
           clear hz2
           refine h_move 10 (by kernel_rfl) (h_op 10 rfl (by kernel_rfl) (fun K hK => ?_))
           have Bl := (Below.refl y5.heap.size y5).alloc (Nat.le_refl _) (.cells #[.int .u16 uv] 24)
           replace X0 := X0.below Bl X0.lt
           replace X1 := X1.below Bl X1.lt
           replace PA := PA.below Bl PA.lt
           replace PB := PB.below Bl PB.lt
           replace T := T.below (Bl.mono (by omega))
           replace D := D.trans (Dev.of_below (Bl.mono (by omega)))
           have RC := row_one_w y5 uv ⟨u1, by omega⟩ _ rfl
           have hz2 : w.heap.size + 1 + 1 + 1 ≤ (y5.alloc (.cells #[.int .u16 uv] 24)).heap.size := by simp; omega
           have lC : y5.heap.size < (y5.alloc (.cells #[.int .u16 uv] 24)).heap.size := by simp
           go_simp
           refine hK.out _ _ ⟨⟨trivial, FB PB⟩, FA PA⟩ ?_
           clear K hK Bl
           try simp only [Act.put, PuA, PuB, PuC]
           generalize y5.alloc (.cells #[.int .u16 uv] 24) = y6 at *
           have kC := hz
           replace hz := hz2
           generalize y5.heap.size = bC at *
           clear hz2
           refine h_P ⟨⟨trivial, FB PB⟩, FA PA⟩ 13 rfl ?_
           refine h_move 14 (by kernel_rfl) (h_op 14 rfl (by kernel_rfl) (fun K hK => ?_))
           have e4 : y6.cell? ⟨w.heap.size + 1 + 1, 6, none⟩ = _ := X1.cell 6
           simp at e4
           have f4 := X1.frozen
           go_simp
           clear e4 f4
           replace X0 := X0.set_ne (g := w.heap.size + 1 + 1) (by omega) 6 (.slice (some ⟨bC, 0, none⟩) 1 1)
           replace X1 := X1.set 6 (.slice (some ⟨bC, 0, none⟩) 1 1)
           simp at X1
           replace PA := PA.set_ne (g := w.heap.size + 1 + 1) (by omega) 6 (.slice (some ⟨bC, 0, none⟩) 1 1)
           replace PB := PB.set_ne (g := w.heap.size + 1 + 1) (by omega) 6 (.slice (some ⟨bC, 0, none⟩) 1 1)
           replace RC := RC.setCell_new (g := w.heap.size + 1 + 1) (o := 6) (u := (.slice (some ⟨bC, 0, none⟩) 1 1)) (NewV.some (w.heap.size + 1 + 1 + 1) _ _ _ _ kC) (by omega)
           replace T := T.below ((Below.refl B y6).setCell (p := ⟨w.heap.size + 1 + 1, 6, none⟩) (by simp; omega) (.slice (some ⟨bC, 0, none⟩) 1 1))
           replace D := D.setCell (p := ⟨w.heap.size + 1 + 1, 6, none⟩) (by simp; omega) (.slice (some ⟨bC, 0, none⟩) 1 1)
           have hz2 : w.heap.size + 1 + 1 + 1 ≤ (y6.setCell ⟨w.heap.size + 1 + 1, 6, none⟩ (.slice (some ⟨bC, 0, none⟩) 1 1)).heap.size := by simp; omega
           refine hK.out _ _ ⟨⟨trivial, FB PB⟩, FA PA⟩ ?_
           clear K hK
           try simp only [Act.put, PuA, PuB, PuC]
           generalize y6.setCell ⟨w.heap.size + 1 + 1, 6, none⟩ (.slice (some ⟨bC, 0, none⟩) 1 1) = y7 at *
           replace hz := hz2
           clear hz2
           refine h_done (by kernel_rfl) ?_
           go_wp2_with fail
           go_meet
           exact ⟨sv, uv, bC, s1, s2, u1, u2, kC, X0, X1, RC, D⟩
         ·have Bl := (Below.refl y3.heap.size y3).alloc (Nat.le_refl _) (.cells #[.int .u16 uv] 24)
          replace X0 := X0.below Bl X0.lt
          replace X1 := X1.below Bl X1.lt
          replace PB := PB.below Bl PB.lt
          replace T := T.below (Bl.mono (by omega))
          replace D := D.trans (Dev.of_below (Bl.mono (by omega)))
          have RC := row_one_w y3 uv ⟨u1, by omega⟩ _ rfl
          have hz2 : w.heap.size + 1 + 1 + 1 ≤ (y3.alloc (.cells #[.int .u16 uv] 24)).heap.size := by simp; omega
          have lC : y3.heap.size < (y3.alloc (.cells #[.int .u16 uv] 24)).heap.size := by simp
          go_simp
          refine hK.out _ _ ⟨trivial, FB PB⟩ ?_
          clear K hK Bl
          try simp only [Act.put, PuA, PuB, PuC]
          generalize y3.alloc (.cells #[.int .u16 uv] 24) = y4 at *
          have kC := hz
          replace hz := hz2
          generalize y3.heap.size = bC at *
          clear hz2
          refine h_move 0 (by kernel_rfl) (h_op 0 rfl (by kernel_rfl) (fun K hK => ?_))
          have Bl := (Below.refl y4.heap.size y4).alloc (Nat.le_refl _) (.cells #[.int .i64 0, .int .i64 10, .int .i64 11, .int .i64 12, .int .i64 13, .int .i64 14, .int .i64 2, .int .i64 300] 3)
          replace X0 := X0.below Bl X0.lt
          replace X1 := X1.below Bl X1.lt
          replace PB := PB.below Bl PB.lt
          replace T := T.below (Bl.mono (by omega))
          replace D := D.trans (Dev.of_below (Bl.mono (by omega)))
          replace RC := RC.below Bl
          have PA := Blk.new y4 3 [.int .i64 0, .int .i64 10, .int .i64 11, .int .i64 12, .int .i64 13, .int .i64 14, .int .i64 2, .int .i64 300]
          have hz2 : w.heap.size + 1 + 1 + 1 ≤ (y4.alloc (.cells #[.int .i64 0, .int .i64 10, .int .i64 11, .int .i64 12, .int .i64 13, .int .i64 14, .int .i64 2, .int .i64 300] 3)).heap.size := by simp; omega
          have lA : y4.heap.size < (y4.alloc (.cells #[.int .i64 0, .int .i64 10, .int .i64 11, .int .i64 12, .int .i64 13, .int .i64 14, .int .i64 2, .int .i64 300] 3)).heap.size := by simp
          go_simp
          refine hK.out _ _ ⟨trivial, FB PB⟩ ?_
          clear K hK Bl
          try simp only [Act.put, PuA, PuB, PuC]
          generalize y4.alloc (.cells #[.int .i64 0, .int .i64 10, .int .i64 11, .int .i64 12, .int .i64 13, .int .i64 14, .int .i64 2, .int .i64 300] 3) = y5 at *
          have kA := hz
          replace hz := hz2
          generalize y4.heap.size = bA at *
          clear hz2
          obtain ⟨sv, hsv, s1, s2⟩ := sub_at mx mx1 mx2
          have FA : ∀ {W : World}, Blk W bA 3 [.int .i64 0, .int .i64 10, .int .i64 11, .int .i64 12, .int .i64 13, .int .i64 14, .int .i64 2, .int .i64 300] → W.cell? ⟨bA, mx.toNat, none⟩ = some (.int .i64 sv) := fun h => (h.cell _).trans hsv
          clear hsv
          refine h_P ⟨trivial, FB PB⟩ 3 rfl ?_
          refine h_R (fun w' => ((True) ∧ w'.cell? ⟨bB, nx.toNat, none⟩ = some (.int .u16 uv)) ∧ w'.cell? ⟨bA, mx.toNat, none⟩ = some (.int .i64 sv)) (fun _ h => h.1) ⟨⟨trivial, FB PB⟩, FA PA⟩ 4 rfl (fun w' hx => by have hc := hx.2; go_simp; with_reducible rfl) ?_
          refine h_P ⟨⟨trivial, FB PB⟩, FA PA⟩ 11 rfl ?_
          refine h_move 12 (by kernel_rfl) (h_op 12 rfl (by kernel_rfl) (fun K hK => ?_))
          have e4 : y5.cell? ⟨w.heap.size + 1 + 1, 4, none⟩ = _ := X1.cell 4
          simp at e4
          have f4 := X1.frozen
          go_simp
          clear e4 f4
          replace X0 := X0.set_ne (g := w.heap.size + 1 + 1) (by omega) 4 (.int .i64 sv)
          replace X1 := X1.set 4 (.int .i64 sv)
          simp at X1
          replace PA := PA.set_ne (g := w.heap.size + 1 + 1) (by omega) 4 (.int .i64 sv)
          replace PB := PB.set_ne (g := w.heap.size + 1 + 1) (by omega) 4 (.int .i64 sv)
          replace RC := RC.setCell_new (g := w.heap.size + 1 + 1) (o := 4) (u := (.int .i64 sv)) (NewV.some (w.heap.size + 1 + 1 + 1) _ _ _ _ kC) (by omega)
          replace T := T.below ((Below.refl B y5).setCell (p := ⟨w.heap.size + 1 + 1, 4, none⟩) (by simp; omega) (.int .i64 sv))
          replace D := D.setCell (p := ⟨w.heap.size + 1 + 1, 4, none⟩) (by simp; omega) (.int .i64 sv)
          have hz2 : w.heap.size + 1 + 1 + 1 ≤ (y5.setCell ⟨w.heap.size + 1 + 1, 4, none⟩ (.int .i64 sv)).heap.size := by simp; omega
          refine hK.out _ _ ⟨⟨trivial, FB PB⟩, FA PA⟩ ?_
          clear K hK
          try simp only [Act.put, PuA, PuB, PuC]
          generalize y5.setCell ⟨w.heap.size + 1 + 1, 4, none⟩ (.int .i64 sv) = y6 at *
          replace hz := hz2
          clear hz2
          refine h_P ⟨⟨trivial, FB PB⟩, FA PA⟩ 13 rfl ?_
          refine h_move 14 (by kernel_rfl) (h_op 14 rfl (by kernel_rfl) (fun K hK => ?_))
          have e4 : y6.cell? ⟨w.heap.size + 1 + 1, 6, none⟩ = _ := X1.cell 6
          simp at e4
          have f4 := X1.frozen
          go_simp
          clear e4 f4
          replace X0 := X0.set_ne (g := w.heap.size + 1 + 1) (by omega) 6 (.slice (some ⟨bC, 0, none⟩) 1 1)
          replace X1 := X1.set 6 (.slice (some ⟨bC, 0, none⟩) 1 1)
          simp at X1
          replace PA := PA.set_ne (g := w.heap.size + 1 + 1) (by omega) 6 (.slice (some ⟨bC, 0, none⟩) 1 1)
          replace PB := PB.set_ne (g := w.heap.size + 1 + 1) (by omega) 6 (.slice (some ⟨bC, 0, none⟩) 1 1)
          replace RC := RC.setCell_new (g := w.heap.size + 1 + 1) (o := 6) (u := (.slice (some ⟨bC, 0, none⟩) 1 1)) (NewV.some (w.heap.size + 1 + 1 + 1) _ _ _ _ kC) (by omega)
          replace T := T.below ((Below.refl B y6).setCell (p := ⟨w.heap.size + 1 + 1, 6, none⟩) (by simp; omega) (.slice (some ⟨bC, 0, none⟩) 1 1))
          replace D := D.setCell (p := ⟨w.heap.size + 1 + 1, 6, none⟩) (by simp; omega) (.slice (some ⟨bC, 0, none⟩) 1 1)
          have hz2 : w.heap.size + 1 + 1 + 1 ≤ (y6.setCell ⟨w.heap.size + 1 + 1, 6, none⟩ (.slice (some ⟨bC, 0, none⟩) 1 1)).heap.size := by simp; omega
          refine hK.out _ _ ⟨⟨trivial, FB PB⟩, FA PA⟩ ?_
          clear K hK
          try simp only [Act.put, PuA, PuB, PuC]
          generalize y6.setCell ⟨w.heap.size + 1 + 1, 6, none⟩ (.slice (some ⟨bC, 0, none⟩) 1 1) = y7 at *
          replace hz := hz2
          clear hz2
          refine h_done (by kernel_rfl) ?_
          go_wp2_with fail
          go_meet
          exact ⟨sv, uv, bC, s1, s2, u1, u2, kC, X0, X1, RC, D⟩
      ·have Bl := (Below.refl y0.heap.size y0).alloc (Nat.le_refl _) (.cells #[.int .u16 0, .int .u16 0, .int .u16 0, .int .u16 777] 24)
       replace X0 := X0.below Bl X0.lt
       replace X1 := X1.below Bl X1.lt
       replace T := T.below (Bl.mono (by omega))
       replace D := D.trans (Dev.of_below (Bl.mono (by omega)))
       have PB := Blk.new y0 24 [.int .u16 0, .int .u16 0, .int .u16 0, .int .u16 777]
       have hz2 : w.heap.size + 1 + 1 + 1 ≤ (y0.alloc (.cells #[.int .u16 0, .int .u16 0, .int .u16 0, .int .u16 777] 24)).heap.size := by simp; omega
       have lB : y0.heap.size < (y0.alloc (.cells #[.int .u16 0, .int .u16 0, .int .u16 0, .int .u16 777] 24)).heap.size := by simp
       go_simp
       refine hK.out _ _ trivial ?_
       clear K hK Bl
       try simp only [Act.put, PuA, PuB, PuC]
       generalize y0.alloc (.cells #[.int .u16 0, .int .u16 0, .int .u16 0, .int .u16 777] 24) = y1 at *
       have kB := hz
       replace hz := hz2
       generalize y0.heap.size = bB at *
       clear hz2
       refine h_move2 0 2 (by kernel_rfl) (h_op 0 rfl (by kernel_rfl) (fun K hK => ?_)) (h_op 2 rfl (by kernel_rfl) (fun K hK => ?_))
       ·have Bl := (Below.refl y1.heap.size y1).alloc (Nat.le_refl _) (.cells #[.int .i64 0, .int .i64 10, .int .i64 11, .int .i64 12, .int .i64 13, .int .i64 14, .int .i64 2, .int .i64 300] 3)
        replace X0 := X0.below Bl X0.lt
        replace X1 := X1.below Bl X1.lt
        replace PB := PB.below Bl PB.lt
        replace T := T.below (Bl.mono (by omega))
        replace D := D.trans (Dev.of_below (Bl.mono (by omega)))
        have PA := Blk.new y1 3 [.int .i64 0, .int .i64 10, .int .i64 11, .int .i64 12, .int .i64 13, .int .i64 14, .int .i64 2, .int .i64 300]
        have hz2 : w.heap.size + 1 + 1 + 1 ≤ (y1.alloc (.cells #[.int .i64 0, .int .i64 10, .int .i64 11, .int .i64 12, .int .i64 13, .int .i64 14, .int .i64 2, .int .i64 300] 3)).heap.size := by simp; omega
        have lA : y1.heap.size < (y1.alloc (.cells #[.int .i64 0, .int .i64 10, .int .i64 11, .int .i64 12, .int .i64 13, .int .i64 14, .int .i64 2, .int .i64 300] 3)).heap.size := by simp
        go_simp
        refine hK.out _ _ trivial ?_
        clear K hK Bl
        try simp only [Act.put, PuA, PuB, PuC]
        generalize y1.alloc (.cells #[.int .i64 0, .int .i64 10, .int .i64 11, .int .i64 12, .int .i64 13, .int .i64 14, .int .i64 2, .int .i64 300] 3) = y2 at *
        have kA := hz
        replace hz := hz2
        generalize y1.heap.size = bA at *
        clear hz2
        refine h_move 2 (by kernel_rfl) (h_op 2 rfl (by kernel_rfl) (fun K hK => ?_))
        go_wp2_with fail
        refine (next_any B g l 8 _ T (by omega) (by decide)).mono ?_
        rintro e y3 ⟨mx, rfl, mx1, mx2, T', S', D'⟩
        have hz2 : w.heap.size + 1 + 1 + 1 ≤ y3.heap.size := by omega
        replace X0 := X0.dev D' X0.lt (by omega)
        replace X1 := X1.dev D' X1.lt (by omega)
        replace PA := PA.dev D' PA.lt (by omega)
        replace PB := PB.dev D' PB.lt (by omega)
        replace T := T'
        replace D := D.trans (D'.mono (by omega))
        clear S' D' T'
        replace hz := hz2
        clear hz2
        go_simp
        refine hK.out _ _ trivial ?_
        clear K hK
        try simp only [Act.put, PuA, PuB, PuC]
        obtain ⟨sv, hsv, s1, s2⟩ := sub_at mx mx1 mx2
        have FA : ∀ {W : World}, Blk W bA 3 [.int .i64 0, .int .i64 10, .int .i64 11, .int .i64 12, .int .i64 13, .int .i64 14, .int .i64 2, .int .i64 300] → W.cell? ⟨bA, mx.toNat, none⟩ = some (.int .i64 sv) := fun h => (h.cell _).trans hsv
        clear hsv
        refine h_P trivial 3 rfl ?_
        refine h_R (fun w' => (True) ∧ w'.cell? ⟨bA, mx.toNat, none⟩ = some (.int .i64 sv)) (fun _ h => h.1) ⟨trivial, FA PA⟩ 4 rfl (fun w' hx => by have hc := hx.2; go_simp; with_reducible rfl) ?_
        refine h_P ⟨trivial, FA PA⟩ 11 rfl ?_
        refine h_move 7 (by kernel_rfl) (h_op 7 rfl (by kernel_rfl) (fun K hK => ?_))
        go_wp2_with fail
        refine (next_any B g l 4 _ T (by omega) (by decide)).mono ?_
        rintro e y4 ⟨nx, rfl, nx1, nx2, T', S', D'⟩
        have hz2 : w.heap.size + 1 + 1 + 1 ≤ y4.heap.size := by omega
        replace X0 := X0.dev D' X0.lt (by omega)
        replace X1 := X1.dev D' X1.lt (by omega)
        replace PA := PA.dev D' PA.lt (by omega)
        replace PB := PB.dev D' PB.lt (by omega)
        replace T := T'
        replace D := D.trans (D'.mono (by omega))
        clear S' D' T'
        replace hz := hz2
        clear hz2
        go_simp
        refine hK.out _ _ ⟨trivial, FA PA⟩ ?_
        clear K hK
        try simp only [Act.put, PuA, PuB, PuC]
        obtain ⟨uv, huv, u1, u2⟩ := val_at nx nx1 nx2
        have FB : ∀ {W : World}, Blk W bB 24 [.int .u16 0, .int .u16 0, .int .u16 0, .int .u16 777] → W.cell? ⟨bB, nx.toNat, none⟩ = some (.int .u16 uv) := fun h => (h.cell _).trans huv
        clear huv
        refine h_P ⟨trivial, FA PA⟩ 8 rfl ?_
        refine h_R (fun w' => ((True) ∧ w'.cell? ⟨bA, mx.toNat, none⟩ = some (.int .i64 sv)) ∧ w'.cell? ⟨bB, nx.toNat, none⟩ = some (.int .u16 uv)) (fun _ h => h.1) ⟨⟨trivial, FA PA⟩, FB PB⟩ 9 rfl (fun w' hx => by have hc := hx.2; go_simp; with_reducible rfl) ?_
        refine h_move2 10 12 (by kernel_rfl) (h_op 10 rfl (by kernel_rfl) (fun K hK => ?_)) (h_op 12 rfl (by kernel_rfl) (fun K hK => ?_))
        ·have Bl := (Below.refl y4.heap.size y4).alloc (Nat.le_refl _) (.cells #[.int .u16 uv] 24)
         replace X0 := X0.below Bl X0.lt
         replace X1 := X1.below Bl X1.lt
         replace PA := PA.below Bl PA.lt
         replace PB := PB.below Bl PB.lt
         replace T := T.below (Bl.mono (by omega))
         replace D := D.trans (Dev.of_below (Bl.mono (by omega)))
         have RC := row_one_w y4 uv ⟨u1, by omega⟩ _ rfl
         have hz2 : w.heap.size + 1 + 1 + 1 ≤ (y4.alloc (.cells #[.int .u16 uv] 24)).heap.size := by simp; omega
         have lC : y4.heap.size < (y4.alloc (.cells #[.int .u16 uv] 24)).heap.size := by simp
         go_simp
         refine hK.out _ _ ⟨⟨trivial, FA PA⟩, FB PB⟩ ?_
         clear K hK Bl
         try simp only [Act.put, PuA, PuB, PuC]
         generalize y4.alloc (.cells #[.int .u16 uv] 24) = y5 at *
         have kC := hz
         replace hz := hz2
         generalize y4.heap.size = bC at *
         clear hz2
         refine h_move 12 (by kernel_rfl) (h_op 12 rfl (by kernel_rfl) (fun K hK => ?_))
         have e4 : y5.cell? ⟨w.heap.size + 1 + 1, 4, none⟩ = _ := X1.cell 4
         simp at e4
         have f4 := X1.frozen
         go_simp
         clear e4 f4
         replace X0 := X0.set_ne (g := w.heap.size + 1 + 1) (by omega) 4 (.int .i64 sv)
         replace X1 := X1.set 4 (.int .i64 sv)
         simp at X1
         replace PA := PA.set_ne (g := w.heap.size + 1 + 1) (by omega) 4 (.int .i64 sv)
         replace PB := PB.set_ne (g := w.heap.size + 1 + 1) (by omega) 4 (.int .i64 sv)
         replace RC := RC.setCell_new (g := w.heap.size + 1 + 1) (o := 4) (u := (.int .i64 sv)) (NewV.some (w.heap.size + 1 + 1 + 1) _ _ _ _ kC) (by omega)
         replace T := T.below ((Below.refl B y5).setCell (p := ⟨w.heap.size + 1 + 1, 4, none⟩) (by simp; omega) (.int .i64 sv))
         replace D := D.setCell (p := ⟨w.heap.size + 1 + 1, 4, none⟩) (by simp; omega) (.int .i64 sv)
         have hz2 : w.heap.size + 1 + 1 + 1 ≤ (y5.setCell ⟨w.heap.size + 1 + 1, 4, none⟩ (.int .i64 sv)).heap.size := by simp; omega
         refine hK.out _ _ ⟨⟨trivial, FA PA⟩, FB PB⟩ ?_
         clear K hK
         try simp only [Act.put, PuA, PuB, PuC]
         generalize y5.setCell ⟨w.heap.size + 1 + 1, 4, none⟩ (.int .i64 sv) = y6 at *
         replace hz := hz2
         clear hz2
         refine h_P ⟨⟨trivial, FA PA⟩, FB PB⟩ 13 rfl ?_
         refine h_move 14 (by kernel_rfl) (h_op 14 rfl (by kernel_rfl) (fun K hK => ?_))
         have e4 : y6.cell? ⟨w.heap.size + 1 + 1, 6, none⟩ = _ := X1.cell 6
         simp at e4
         have f4 := X1.frozen
         go_simp
         clear e4 f4
         replace X0 := X0.set_ne (g := w.heap.size + 1 + 1) (by omega) 6 (.slice (some ⟨bC, 0, none⟩) 1 1)
         replace X1 := X1.set 6 (.slice (some ⟨bC, 0, none⟩) 1 1)
         simp at X1
         replace PA := PA.set_ne (g := w.heap.size + 1 + 1) (by omega) 6 (.slice (some ⟨bC, 0, none⟩) 1 1)
         replace PB := PB.set_ne (g := w.heap.size + 1 + 1) (by omega) 6 (.slice (some ⟨bC, 0, none⟩) 1 1)
         replace RC := RC.setCell_new (g := w.heap.size + 1 + 1) (o := 6) (u := (.slice (some ⟨bC, 0, none⟩) 1 1)) (NewV.some (w.heap.size + 1 + 1 + 1) _ _ _ _ kC) (by omega)
         replace T := T.below ((Below.refl B y6).setCell (p := ⟨w.heap.size + 1 + 1, 6, none⟩) (by simp; omega) (.slice (some ⟨bC, 0, none⟩) 1 1))
         replace D := D.setCell (p := ⟨w.heap.size + 1 + 1, 6, none⟩) (by simp; omega) (.slice (some ⟨bC, 0, none⟩) 1 1)
         have hz2 : w.heap.size + 1 + 1 + 1 ≤ (y6.setCell ⟨w.heap.size + 1 + 1, 6, none⟩ (.slice (some ⟨bC, 0, none⟩) 1 1)).heap.size := by simp; omega
         refine hK.out _ _ ⟨⟨trivial, FA PA⟩, FB PB⟩ ?_
         clear K hK
         try simp only [Act.put, PuA, PuB, PuC]
         generalize y6.setCell ⟨w.heap.size + 1 + 1, 6, none⟩ (.slice (some ⟨bC, 0, none⟩) 1 1) = y7 at *
         replace hz := hz2
         clear hz2
         refine h_done (by kernel_rfl) ?_
         go_wp2_with fail
         go_meet
         exact ⟨sv, uv, bC, s1, s2, u1, u2, kC, X0, X1, RC, D⟩
        ·have e4 : y4.cell? ⟨w.heap.size + 1 + 1, 4, none⟩ = _ := X1.cell 4
         simp at e4
         have f4 := X1.frozen
         go_simp
         clear e4 f4
         replace X0 := X0.set_ne (g := w.heap.size + 1 + 1) (by omega) 4 (.int .i64 sv)
         replace X1 := X1.set 4 (.int .i64 sv)
         simp at X1
         replace PA := PA.set_ne (g := w.heap.size + 1 + 1) (by omega) 4 (.int .i64 sv)
         replace PB := PB.set_ne (g := w.heap.size + 1 + 1) (by omega) 4 (.int .i64 sv)
         replace T := T.below ((Below.refl B y4).setCell (p := ⟨w.heap.size + 1 + 1, 4, none⟩) (by simp; omega) (.int .i64 sv))
         replace D := D.setCell (p := ⟨w.heap.size + 1 + 1, 4, none⟩) (by simp; omega) (.int .i64 sv)
         have hz2 : w.heap.size + 1 + 1 + 1 ≤ (y4.setCell ⟨w.heap.size + 1 + 1, 4, none⟩ (.int .i64 sv)).heap.size := by simp; omega
         refine hK.out _ _ ⟨⟨trivial, FA PA⟩, FB PB⟩ ?_
         clear K hK
         try simp only [Act.put, PuA, PuB, PuC]
         generalize y4.setCell ⟨w.heap.size + 1 + 1, 4, none⟩ (.int .i64 sv) = y5 at *
         replace hz := hz2
         clear hz2
         refine h_move 10 (by kernel_rfl) (h_op 10 rfl (by kernel_rfl) (fun K hK => ?_))
         have Bl := (Below.refl y5.heap.size y5).alloc (Nat.le_refl _) (.cells #[.int .u16 uv] 24)
         replace X0 := X0.below Bl X0.lt
         replace X1 := X1.below Bl X1.lt
         replace PA := PA.below Bl PA.lt
         replace PB := PB.below Bl PB.lt
         replace T := T.below (Bl.mono (by omega))
         replace D := D.trans (Dev.of_below (Bl.mono (by omega)))
         have RC := row_one_w y5 uv ⟨u1, by omega⟩ _ rfl
         have hz2 : w.heap.size + 1 + 1 + 1 ≤ (y5.alloc (.cells #[.int .u16 uv] 24)).heap.size := by simp; omega
         have lC : y5.heap.size < (y5.alloc (.cells #[.int .u16 uv] 24)).heap.size := by simp
         go_simp
         refine hK.out _ _ ⟨⟨trivial, FA PA⟩, FB PB⟩ ?_
         clear K hK Bl
         try simp only [Act.put, PuA, PuB, PuC]
         generalize y5.alloc (.cells #[.int .u16 uv] 24) = y6 at *
         have kC := hz
         replace hz := hz2
         generalize y5.heap.size = bC at *
         clear hz2
         refine h_P ⟨⟨trivial, FA PA⟩, FB PB⟩ 13 rfl ?_
         refine h_move 14 (by kernel_rfl) (h_op 14 rfl (by kernel_rfl) (fun K hK => ?_))
         have e4 : y6.cell? ⟨w.heap.size + 1 + 1, 6, none⟩ = _ := X1.cell 6
         simp at e4
         have f4 := X1.frozen
         go_simp
         clear e4 f4
         replace X0 := X0.set_ne (g := w.heap.size + 1 + 1) (by omega) 6 (.slice (some ⟨bC, 0, none⟩) 1 1)
         replace X1 := X1.set 6 (.slice (some ⟨bC, 0, none⟩) 1 1)
         simp at X1
         replace PA := PA.set_ne (g := w.heap.size + 1 + 1) (by omega) 6 (.slice (some ⟨bC, 0, none⟩) 1 1)
         replace PB := PB.set_ne (g := w.heap.size + 1 + 1) (by omega) 6 (.slice (some ⟨bC, 0, none⟩) 1 1)
         replace RC := RC.setCell_new (g := w.heap.size + 1 + 1) (o := 6) (u := (.slice (some ⟨bC, 0, none⟩) 1 1)) (NewV.some (w.heap.size + 1 + 1 + 1) _ _ _ _ kC) (by omega)
         replace T := T.below ((Below.refl B y6).setCell (p := ⟨w.heap.size + 1 + 1, 6, none⟩) (by simp; omega) (.slice (some ⟨bC, 0, none⟩) 1 1))
         replace D := D.setCell (p := ⟨w.heap.size + 1 + 1, 6, none⟩) (by simp; omega) (.slice (some ⟨bC, 0, none⟩) 1 1)
         have hz2 : w.heap.size + 1 + 1 + 1 ≤ (y6.setCell ⟨w.heap.size + 1 + 1, 6, none⟩ (.slice (some ⟨bC, 0, none⟩) 1 1)).heap.size := by simp; omega
         refine hK.out _ _ ⟨⟨trivial, FA PA⟩, FB PB⟩ ?_
         clear K hK
         try simp only [Act.put, PuA, PuB, PuC]
         generalize y6.setCell ⟨w.heap.size + 1 + 1, 6, none⟩ (.slice (some ⟨bC, 0, none⟩) 1 1) = y7 at *
         replace hz := hz2
         clear hz2
         refine h_done (by kernel_rfl) ?_
         go_wp2_with fail
         go_meet
         exact ⟨sv, uv, bC, s1, s2, u1, u2, kC, X0, X1, RC, D⟩
       ·go_wp2_with fail
        refine (next_any B g l 8 _ T (by omega) (by decide)).mono ?_
        rintro e y2 ⟨mx, rfl, mx1, mx2, T', S', D'⟩
        have hz2 : w.heap.size + 1 + 1 + 1 ≤ y2.heap.size := by omega
        replace X0 := X0.dev D' X0.lt (by omega)
        replace X1 := X1.dev D' X1.lt (by omega)
        replace PB := PB.dev D' PB.lt (by omega)
        replace T := T'
        replace D := D.trans (D'.mono (by omega))
        clear S' D' T'
        replace hz := hz2
        clear hz2
        go_simp
        refine hK.out _ _ trivial ?_
        clear K hK
        try simp only [Act.put, PuA, PuB, PuC]
        refine h_move2 0 7 (by kernel_rfl) (h_op 0 rfl (by kernel_rfl) (fun K hK => ?_)) (h_op 7 rfl (by kernel_rfl) (fun K hK => ?_))
        ·have Bl := (Below.refl y2.heap.size y2).alloc (Nat.le_refl _) (.cells #[.int .i64 0, .int .i64 10, .int .i64 11, .int .i64 12, .int .i64 13, .int .i64 14, .int .i64 2, .int .i64 300] 3)
         replace X0 := X0.below Bl X0.lt
         replace X1 := X1.below Bl X1.lt
         replace PB := PB.below Bl PB.lt
         replace T := T.below (Bl.mono (by omega))
         replace D := D.trans (Dev.of_below (Bl.mono (by omega)))
         have PA := Blk.new y2 3 [.int .i64 0, .int .i64 10, .int .i64 11, .int .i64 12, .int .i64 13, .int .i64 14, .int .i64 2, .int .i64 300]
         have hz2 : w.heap.size + 1 + 1 + 1 ≤ (y2.alloc (.cells #[.int .i64 0, .int .i64 10, .int .i64 11, .int .i64 12, .int .i64 13, .int .i64 14, .int .i64 2, .int .i64 300] 3)).heap.size := by simp; omega
         have lA : y2.heap.size < (y2.alloc (.cells #[.int .i64 0, .int .i64 10, .int .i64 11, .int .i64 12, .int .i64 13, .int .i64 14, .int .i64 2, .int .i64 300] 3)).heap.size := by simp
         go_simp
         refine hK.out _ _ trivial ?_
         clear K hK Bl
         try simp only [Act.put, PuA, PuB, PuC]
         generalize y2.alloc (.cells #[.int .i64 0, .int .i64 10, .int .i64 11, .int .i64 12, .int .i64 13, .int .i64 14, .int .i64 2, .int .i64 300] 3) = y3 at *
         have kA := hz
         replace hz := hz2
         generalize y2.heap.size = bA at *
         clear hz2
         obtain ⟨sv, hsv, s1, s2⟩ := sub_at mx mx1 mx2
         have FA : ∀ {W : World}, Blk W bA 3 [.int .i64 0, .int .i64 10, .int .i64 11, .int .i64 12, .int .i64 13, .int .i64 14, .int .i64 2, .int .i64 300] → W.cell? ⟨bA, mx.toNat, none⟩ = some (.int .i64 sv) := fun h => (h.cell _).trans hsv
         clear hsv
         refine h_P trivial 3 rfl ?_
         refine h_R (fun w' => (True) ∧ w'.cell? ⟨bA, mx.toNat, none⟩ = some (.int .i64 sv)) (fun _ h => h.1) ⟨trivial, FA PA⟩ 4 rfl (fun w' hx => by have hc := hx.2; go_simp; with_reducible rfl) ?_
         refine h_P ⟨trivial, FA PA⟩ 11 rfl ?_
         refine h_move 7 (by kernel_rfl) (h_op 7 rfl (by kernel_rfl) (fun K hK => ?_))
         go_wp2_with fail
         refine (next_any B g l 4 _ T (by omega) (by decide)).mono ?_
         rintro e y4 ⟨nx, rfl, nx1, nx2, T', S', D'⟩
         have hz2 : w.heap.size + 1 + 1 + 1 ≤ y4.heap.size := by omega
         replace X0 := X0.dev D' X0.lt (by omega)
         replace X1 := X1.dev D' X1.lt (by omega)
         replace PA := PA.dev D' PA.lt (by omega)
         replace PB := PB.dev D' PB.lt (by omega)
         replace T := T'
         replace D := D.trans (D'.mono (by omega))
         clear S' D' T'
         replace hz := hz2
         clear hz2
         go_simp
         refine hK.out _ _ ⟨trivial, FA PA⟩ ?_
         clear K hK
         try simp only [Act.put, PuA, PuB, PuC]
         obtain ⟨uv, huv, u1, u2⟩ := val_at nx nx1 nx2
         have FB : ∀ {W : World}, Blk W bB 24 [.int .u16 0, .int .u16 0, .int .u16 0, .int .u16 777] → W.cell? ⟨bB, nx.toNat, none⟩ = some (.int .u16 uv) := fun h => (h.cell _).trans huv
         clear huv
         refine h_P ⟨trivial, FA PA⟩ 8 rfl ?_
         refine h_R (fun w' => ((True) ∧ w'.cell? ⟨bA, mx.toNat, none⟩ = some (.int .i64 sv)) ∧ w'.cell? ⟨bB, nx.toNat, none⟩ = some (.int .u16 uv)) (fun _ h => h.1) ⟨⟨trivial, FA PA⟩, FB PB⟩ 9 rfl (fun w' hx => by have hc := hx.2; go_simp; with_reducible rfl) ?_
         refine h_move2 10 12 (by kernel_rfl) (h_op 10 rfl (by kernel_rfl) (fun K hK => ?_)) (h_op 12 rfl (by kernel_rfl) (fun K hK => ?_))
         ·have Bl := (Below.refl y4.heap.size y4).alloc (Nat.le_refl _) (.cells #[.int .u16 uv] 24)
          replace X0 := X0.below Bl X0.lt
          replace X1 := X1.below Bl X1.lt
          replace PA := PA.below Bl PA.lt
          replace PB := PB.below Bl PB.lt
          replace T := T.below (Bl.mono (by omega))
          replace D := D.trans (Dev.of_below (Bl.mono (by omega)))
          have RC := row_one_w y4 uv ⟨u1, by omega⟩ _ rfl
          have hz2 : w.heap.size + 1 + 1 + 1 ≤ (y4.alloc (.cells #[.int .u16 uv] 24)).heap.size := by simp; omega
          have lC : y4.heap.size < (y4.alloc (.cells #[.int .u16 uv] 24)).heap.size := by simp
          go_simp
          refine hK.out _ _ ⟨⟨trivial, FA PA⟩, FB PB⟩ ?_
          clear K hK Bl
          try simp only [Act.put, PuA, PuB, PuC]
          generalize y4.alloc (.cells #[.int .u16 uv] 24) = y5 at *
          have kC := hz
          replace hz := hz2
          generalize y4.heap.size = bC at *
          clear hz2
          refine h_move 12 (by kernel_rfl) (h_op 12 rfl (by kernel_rfl) (fun K hK => ?_))
          have e4 : y5.cell? ⟨w.heap.size + 1 + 1, 4, none⟩ = _ := X1.cell 4
          simp at e4
          have f4 := X1.frozen
          go_simp
          clear e4 f4
          replace X0 := X0.set_ne (g := w.heap.size + 1 + 1) (by omega) 4 (.int .i64 sv)
          replace X1 := X1.set 4 (.int .i64 sv)
          simp at X1
          replace PA := PA.set_ne (g := w.heap.size + 1 + 1) (by omega) 4 (.int .i64 sv)
          replace PB := PB.set_ne (g := w.heap.size + 1 + 1) (by omega) 4 (.int .i64 sv)
          replace RC := RC.setCell_new (g := w.heap.size + 1 + 1) (o := 4) (u := (.int .i64 sv)) (NewV.some (w.heap.size + 1 + 1 + 1) _ _ _ _ kC) (by omega)
          replace T := T.below ((Below.refl B y5).setCell (p := ⟨w.heap.size + 1 + 1, 4, none⟩) (by simp; omega) (.int .i64 sv))
          replace D := D.setCell (p := ⟨w.heap.size + 1 + 1, 4, none⟩) (by simp; omega) (.int .i64 sv)
          have hz2 : w.heap.size + 1 + 1 + 1 ≤ (y5.setCell ⟨w.heap.size + 1 + 1, 4, none⟩ (.int .i64 sv)).heap.size := by simp; omega
          refine hK.out _ _ ⟨⟨trivial, FA PA⟩, FB PB⟩ ?_
          clear K hK
          try simp only [Act.put, PuA, PuB, PuC]
          generalize y5.setCell ⟨w.heap.size + 1 + 1, 4, none⟩ (.int .i64 sv) = y6 at *
          replace hz := hz2
          clear hz2
          refine h_P ⟨⟨trivial, FA PA⟩, FB PB⟩ 13 rfl ?_
          refine h_move 14 (by kernel_rfl) (h_op 14 rfl (by kernel_rfl) (fun K hK => ?_))
          have e4 : y6.cell? ⟨w.heap.size + 1 + 1, 6, none⟩ = _ := X1.cell 6
          simp at e4
          have f4 := X1.frozen
          go_simp
          clear e4 f4
          replace X0 := X0.set_ne (g := w.heap.size + 1 + 1) (by omega) 6 (.slice (some ⟨bC, 0, none⟩) 1 1)
          replace X1 := X1.set 6 (.slice (some ⟨bC, 0, none⟩) 1 1)
          simp at X1
          replace PA := PA.set_ne (g := w.heap.size + 1 + 1) (by omega) 6 (.slice (some ⟨bC, 0, none⟩) 1 1)
          replace PB := PB.set_ne (g := w.heap.size + 1 + 1) (by omega) 6 (.slice (some ⟨bC, 0, none⟩) 1 1)
          replace RC := RC.setCell_new (g := w.heap.size + 1 + 1) (o := 6) (u := (.slice (some ⟨bC, 0, none⟩) 1 1)) (NewV.some (w.heap.size + 1 + 1 + 1) _ _ _ _ kC) (by omega)
          replace T := T.below ((Below.refl B y6).setCell (p := ⟨w.heap.size + 1 + 1, 6, none⟩) (by simp; omega) (.slice (some ⟨bC, 0, none⟩) 1 1))
          replace D := D.setCell (p := ⟨w.heap.size + 1 + 1, 6, none⟩) (by simp; omega) (.slice (some ⟨bC, 0, none⟩) 1 1)
          have hz2 : w.heap.size + 1 + 1 + 1 ≤ (y6.setCell ⟨w.heap.size + 1 + 1, 6, none⟩ (.slice (some ⟨bC, 0, none⟩) 1 1)).heap.size := by simp; omega
          refine hK.out _ _ ⟨⟨trivial, FA PA⟩, FB PB⟩ ?_
          clear K hK
          try simp only [Act.put, PuA, PuB, PuC]
          generalize y6.setCell ⟨w.heap.size + 1 + 1, 6, none⟩ (.slice (some ⟨bC, 0, none⟩) 1 1) = y7 at *
          replace hz := hz2
          clear hz2
          refine h_done (by kernel_rfl) ?_
          go_wp2_with fail
          go_meet
          exact ⟨sv, uv, bC, s1, s2, u1, u2, kC, X0, X1, RC, D⟩
         ·have e4 : y4.cell? ⟨w.heap.size + 1 + 1, 4, none⟩ = _ := X1.cell 4
          simp at e4
          have f4 := X1.frozen
          go_simp
          clear e4 f4
          replace X0 := X0.set_ne (g := w.heap.size + 1 + 1) (by omega) 4 (.int .i64 sv)
          replace X1 := X1.set 4 (.int .i64 sv)
          simp at X1
          replace PA := PA.set_ne (g := w.heap.size + 1 + 1) (by omega) 4 (.int .i64 sv)
          replace PB := PB.set_ne (g := w.heap.size + 1 + 1) (by omega) 4 (.int .i64 sv)
          replace T := T.below ((Below.refl B y4).setCell (p := ⟨w.heap.size + 1 + 1, 4, none⟩) (by simp; omega) (.int .i64 sv))
          replace D := D.setCell (p := ⟨w.heap.size + 1 + 1, 4, none⟩) (by simp; omega) (.int .i64 sv)
          have hz2 : w.heap.size + 1 + 1 + 1 ≤ (y4.setCell ⟨w.heap.size + 1 + 1, 4, none⟩ (.int .i64 sv)).heap.size := by simp; omega
          refine hK.out _ _ ⟨⟨trivial, FA PA⟩, FB PB⟩ ?_
          clear K hK
          try simp only [Act.put, PuA, PuB, PuC]
          generalize y4.setCell ⟨w.heap.size + 1 + 1, 4, none⟩ (.int .i64 sv) = y5 at *
          replace hz := hz2
          clear hz2
          refine h_move 10 (by kernel_rfl) (h_op 10 rfl (by kernel_rfl) (fun K hK => ?_))
          have Bl := (Below.refl y5.heap.size y5).alloc (Nat.le_refl _) (.cells #[.int .u16 uv] 24)
          replace X0 := X0.below Bl X0.lt
          replace X1 := X1.below Bl X1.lt
          replace PA := PA.below Bl PA.lt
          replace PB := PB.below Bl PB.lt
          replace T := T.below (Bl.mono (by omega))
          replace D := D.trans (Dev.of_below (Bl.mono (by omega)))
          have RC := row_one_w y5 uv ⟨u1, by omega⟩ _ rfl
          have hz2 : w.heap.size + 1 + 1 + 1 ≤ (y5.alloc (.cells #[.int .u16 uv] 24)).heap.size := by simp; omega
          have lC : y5.heap.size < (y5.alloc (.cells #[.int .u16 uv] 24)).heap.size := by simp
          go_simp
          refine hK.out _ _ ⟨⟨trivial, FA PA⟩, FB PB⟩ ?_
          clear K hK Bl
          try simp only [Act.put, PuA, PuB, PuC]
          generalize y5.alloc (.cells #[.int .u16 uv] 24) = y6 at *
          have kC := hz
          replace hz := hz2
          generalize y5.heap.size = bC at *
          clear hz2
          refine h_P ⟨⟨trivial, FA PA⟩, FB PB⟩ 13 rfl ?_
          refine h_move 14 (by kernel_rfl) (h_op 14 rfl (by kernel_rfl) (fun K hK => ?_))
          have e4 : y6.cell? ⟨w.heap.size + 1 + 1, 6, none⟩ = _ := X1.cell 6
          simp at e4
          have f4 := X1.frozen
          go_simp
          clear e4 f4
          replace X0 := X0.set_ne (g := w.heap.size + 1 + 1) (by omega) 6 (.slice (some ⟨bC, 0, none⟩) 1 1)
          replace X1 := X1.set 6 (.slice (some ⟨bC, 0, none⟩) 1 1)
          simp at X1
          replace PA := PA.set_ne (g := w.heap.size + 1 + 1) (by omega) 6 (.slice (some ⟨bC, 0, none⟩) 1 1)
          replace PB := PB.set_ne (g := w.heap.size + 1 + 1) (by omega) 6 (.slice (some ⟨bC, 0, none⟩) 1 1)
          replace RC := RC.setCell_new (g := w.heap.size + 1 + 1) (o := 6) (u := (.slice (some ⟨bC, 0, none⟩) 1 1)) (NewV.some (w.heap.size + 1 + 1 + 1) _ _ _ _ kC) (by omega)
          replace T := T.below ((Below.refl B y6).setCell (p := ⟨w.heap.size + 1 + 1, 6, none⟩) (by simp; omega) (.slice (some ⟨bC, 0, none⟩) 1 1))
          replace D := D.setCell (p := ⟨w.heap.size + 1 + 1, 6, none⟩) (by simp; omega) (.slice (some ⟨bC, 0, none⟩) 1 1)
          have hz2 : w.heap.size + 1 + 1 + 1 ≤ (y6.setCell ⟨w.heap.size + 1 + 1, 6, none⟩ (.slice (some ⟨bC, 0, none⟩) 1 1)).heap.size := by simp; omega
          refine hK.out _ _ ⟨⟨trivial, FA PA⟩, FB PB⟩ ?_
          clear K hK
          try simp only [Act.put, PuA, PuB, PuC]
          generalize y6.setCell ⟨w.heap.size + 1 + 1, 6, none⟩ (.slice (some ⟨bC, 0, none⟩) 1 1) = y7 at *
          replace hz := hz2
          clear hz2
          refine h_done (by kernel_rfl) ?_
          go_wp2_with fail
          go_meet
          exact ⟨sv, uv, bC, s1, s2, u1, u2, kC, X0, X1, RC, D⟩
        ·go_wp2_with fail
         refine (next_any B g l 4 _ T (by omega) (by decide)).mono ?_
         rintro e y3 ⟨nx, rfl, nx1, nx2, T', S', D'⟩
         have hz2 : w.heap.size + 1 + 1 + 1 ≤ y3.heap.size := by omega
         replace X0 := X0.dev D' X0.lt (by omega)
         replace X1 := X1.dev D' X1.lt (by omega)
         replace PB := PB.dev D' PB.lt (by omega)
         replace T := T'
         replace D := D.trans (D'.mono (by omega))
         clear S' D' T'
         replace hz := hz2
         clear hz2
         go_simp
         refine hK.out _ _ trivial ?_
         clear K hK
         try simp only [Act.put, PuA, PuB, PuC]
         obtain ⟨uv, huv, u1, u2⟩ := val_at nx nx1 nx2
         have FB : ∀ {W : World}, Blk W bB 24 [.int .u16 0, .int .u16 0, .int .u16 0, .int .u16 777] → W.cell? ⟨bB, nx.toNat, none⟩ = some (.int .u16 uv) := fun h => (h.cell _).trans huv
         clear huv
         refine h_P trivial 8 rfl ?_
         refine h_R (fun w' => (True) ∧ w'.cell? ⟨bB, nx.toNat, none⟩ = some (.int .u16 uv)) (fun _ h => h.1) ⟨trivial, FB PB⟩ 9 rfl (fun w' hx => by have hc := hx.2; go_simp; with_reducible rfl) ?_
         refine h_move2 0 10 (by kernel_rfl) (h_op 0 rfl (by kernel_rfl) (fun K hK => ?_)) (h_op 10 rfl (by kernel_rfl) (fun K hK => ?_))
         ·have Bl := (Below.refl y3.heap.size y3).alloc (Nat.le_refl _) (.cells #[.int .i64 0, .int .i64 10, .int .i64 11, .int .i64 12, .int .i64 13, .int .i64 14, .int .i64 2, .int .i64 300] 3)
          replace X0 := X0.below Bl X0.lt
          replace X1 := X1.below Bl X1.lt
          replace PB := PB.below Bl PB.lt
          replace T := T.below (Bl.mono (by omega))
          replace D := D.trans (Dev.of_below (Bl.mono (by omega)))
          have PA := Blk.new y3 3 [.int .i64 0, .int .i64 10, .int .i64 11, .int .i64 12, .int .i64 13, .int .i64 14, .int .i64 2, .int .i64 300]
          have hz2 : w.heap.size + 1 + 1 + 1 ≤ (y3.alloc (.cells #[.int .i64 0, .int .i64 10, .int .i64 11, .int .i64 12, .int .i64 13, .int .i64 14, .int .i64 2, .int .i64 300] 3)).heap.size := by simp; omega
          have lA : y3.heap.size < (y3.alloc (.cells #[.int .i64 0, .int .i64 10, .int .i64 11, .int .i64 12, .int .i64 13, .int .i64 14, .int .i64 2, .int .i64 300] 3)).heap.size := by simp
          go_simp
          refine hK.out _ _ ⟨trivial, FB PB⟩ ?_
          clear K hK Bl
          try simp only [Act.put, PuA, PuB, PuC]
          generalize y3.alloc (.cells #[.int .i64 0, .int .i64 10, .int .i64 11, .int .i64 12, .int .i64 13, .int .i64 14, .int .i64 2, .int .i64 300] 3) = y4 at *
          have kA := hz
          replace hz := hz2
          generalize y3.heap.size = bA at *
          clear hz2
          obtain ⟨sv, hsv, s1, s2⟩ := sub_at mx mx1 mx2
          have FA : ∀ {W : World}, Blk W bA 3 [.int .i64 0, .int .i64 10, .int .i64 11, .int .i64 12, .int .i64 13, .int .i64 14, .int .i64 2, .int .i64 300] → W.cell? ⟨bA, mx.toNat, none⟩ = some (.int .i64 sv) := fun h => (h.cell _).trans hsv
          clear hsv
          refine h_P ⟨trivial, FB PB⟩ 3 rfl ?_
          refine h_R (fun w' => ((True) ∧ w'.cell? ⟨bB, nx.toNat, none⟩ = some (.int .u16 uv)) ∧ w'.cell? ⟨bA, mx.toNat, none⟩ = some (.int .i64 sv)) (fun _ h => h.1) ⟨⟨trivial, FB PB⟩, FA PA⟩ 4 rfl (fun w' hx => by have hc := hx.2; go_simp; with_reducible rfl) ?_
          refine h_P ⟨⟨trivial, FB PB⟩, FA PA⟩ 11 rfl ?_
          refine h_move2 10 12 (by kernel_rfl) (h_op 10 rfl (by kernel_rfl) (fun K hK => ?_)) (h_op 12 rfl (by kernel_rfl) (fun K hK => ?_))
          ·have Bl := (Below.refl y4.heap.size y4).alloc (Nat.le_refl _) (.cells #[.int .u16 uv] 24)
           replace X0 := X0.below Bl X0.lt
           replace X1 := X1.below Bl X1.lt
           replace PA := PA.below Bl PA.lt
           replace PB := PB.below Bl PB.lt
           replace T := T.below (Bl.mono (by omega))
           replace D := D.trans (Dev.of_below (Bl.mono (by omega)))
           have RC := row_one_w y4 uv ⟨u1, by omega⟩ _ rfl
           have hz2 : w.heap.size + 1 + 1 + 1 ≤ (y4.alloc (.cells #[.int .u16 uv] 24)).heap.size := by simp; omega
           have lC : y4.heap.size < (y4.alloc (.cells #[.int .u16 uv] 24)).heap.size := by simp
           go_simp
           refine hK.out _ _ ⟨⟨trivial, FB PB⟩, FA PA⟩ ?_
           clear K hK Bl
           try simp only [Act.put, PuA, PuB, PuC]
           generalize y4.alloc (.cells #[.int .u16 uv] 24) = y5 at *
           have kC := hz
           replace hz := hz2
           generalize y4.heap.size = bC at *
           clear hz2
           refine h_move 12 (by kernel_rfl) (h_op 12 rfl (by kernel_rfl) (fun K hK => ?_))
           have e4 : y5.cell? ⟨w.heap.size + 1 + 1, 4, none⟩ = _ := X1.cell 4
           simp at e4
           have f4 := X1.frozen
           go_simp
           clear e4 f4
           replace X0 := X0.set_ne (g := w.heap.size + 1 + 1) (by omega) 4 (.int .i64 sv)
           replace X1 := X1.set 4 (.int .i64 sv)
           simp at X1
           replace PA := PA.set_ne (g := w.heap.size + 1 + 1) (by omega) 4 (.int .i64 sv)
           replace PB := PB.set_ne (g := w.heap.size + 1 + 1) (by omega) 4 (.int .i64 sv)
           replace RC := RC.setCell_new (g := w.heap.size + 1 + 1) (o := 4) (u := (.int .i64 sv)) (NewV.some (w.heap.size + 1 + 1 + 1) _ _ _ _ kC) (by omega)
           replace T := T.below ((Below.refl B y5).setCell (p := ⟨w.heap.size + 1 + 1, 4, none⟩) (by simp; omega) (.int .i64 sv))
           replace D := D.setCell (p := ⟨w.heap.size + 1 + 1, 4, none⟩) (by simp; omega) (.int .i64 sv)
           have hz2 : w.heap.size + 1 + 1 + 1 ≤ (y5.setCell ⟨w.heap.size + 1 + 1, 4, none⟩ (.int .i64 sv)).heap.size := by simp; omega
           refine hK.out _ _ ⟨⟨trivial, FB PB⟩, FA PA⟩ ?_
           clear K hK
           try simp only [Act.put, PuA, PuB, PuC]
           generalize y5.setCell ⟨w.heap.size + 1 + 1, 4, none⟩ (.int .i64 sv) = y6 at *
           replace hz := hz2
           clear hz2
           refine h_P ⟨⟨trivial, FB PB⟩, FA PA⟩ 13 rfl ?_
           refine h_move 14 (by kernel_rfl) (h_op 14 rfl (by kernel_rfl) (fun K hK => ?_))
           have e4 : y6.cell? ⟨w.heap.size + 1 + 1, 6, none⟩ = _ := X1.cell 6
           simp at e4
           have f4 := X1.frozen
           go_simp
           clear e4 f4
           replace X0 := X0.set_ne (g := w.heap.size + 1 + 1) (by omega) 6 (.slice (some ⟨bC, 0, none⟩) 1 1)
           replace X1 := X1.set 6 (.slice (some ⟨bC, 0, none⟩) 1 1)
           simp at X1
           replace PA := PA.set_ne (g := w.heap.size + 1 + 1) (by omega) 6 (.slice (some ⟨bC, 0, none⟩) 1 1)
           replace PB := PB.set_ne (g := w.heap.size + 1 + 1) (by omega) 6 (.slice (some ⟨bC, 0, none⟩) 1 1)
           replace RC := RC.setCell_new (g := w.heap.size + 1 + 1) (o := 6) (u := (.slice (some ⟨bC, 0, none⟩) 1 1)) (NewV.some (w.heap.size + 1 + 1 + 1) _ _ _ _ kC) (by omega)
           replace T := T.below ((Below.refl B y6).setCell (p := ⟨w.heap.size + 1 + 1, 6, none⟩) (by simp; omega) (.slice (some ⟨bC, 0, none⟩) 1 1))
           replace D := D.setCell (p := ⟨w.heap.size + 1 + 1, 6, none⟩) (by simp; omega) (.slice (some ⟨bC, 0, none⟩) 1 1)
           have hz2 : w.heap.size + 1 + 1 + 1 ≤ (y6.setCell ⟨w.heap.size + 1 + 1, 6, none⟩ (.slice (some ⟨bC, 0, none⟩) 1 1)).heap.size := by simp; omega
           refine hK.out _ _ ⟨⟨trivial, FB PB⟩, FA PA⟩ ?_
           clear K hK
           try simp only [Act.put, PuA, PuB, PuC]
           generalize y6.setCell ⟨w.heap.size + 1 + 1, 6, none⟩ (.slice (some ⟨bC, 0, none⟩) 1 1) = y7 at *
           replace hz := hz2
           clear hz2
           refine h_done (by kernel_rfl) ?_
           go_wp2_with fail
           go_meet
           exact ⟨sv, uv, bC, s1, s2, u1, u2, kC, X0, X1, RC, D⟩
          ·have e4 : y4.cell? ⟨w.heap.size + 1 + 1, 4, none⟩ = _ := X1.cell 4
           simp at e4
           have f4 := X1.frozen
           go_simp
           clear e4 f4
           replace X0 := X0.set_ne (g := w.heap.size + 1 + 1) (by omega) 4 (.int .i64 sv)
           replace X1 := X1.set 4 (.int .i64 sv)
           simp at X1
           replace PA := PA.set_ne (g := w.heap.size + 1 + 1) (by omega) 4 (.int .i64 sv)
           replace PB := PB.set_ne (g := w.heap.size + 1 + 1) (by omega) 4 (.int .i64 sv)
           replace T := T.below ((Below.refl B y4).setCell (p := ⟨w.heap.size + 1 + 1, 4, none⟩) (by simp; omega) (.int .i64 sv))
           replace D := D.setCell (p := ⟨w.heap.size + 1 + 1, 4, none⟩) (by simp; omega) (.int .i64 sv)
           have hz2 : w.heap.size + 1 + 1 + 1 ≤ (y4.setCell ⟨w.heap.size + 1 + 1, 4, none⟩ (.int .i64 sv)).heap.size := by simp; omega
           refine hK.out _ _ ⟨⟨trivial, FB PB⟩, FA PA⟩ ?_
           clear K hK
           try simp only [Act.put, PuA, PuB, PuC]
           generalize y4.setCell ⟨w.heap.size + 1 + 1, 4, none⟩ (.int .i64 sv) = y5 at *
           replace hz := hz2
           clear hz2
           refine h_move 10 (by kernel_rfl) (h_op 10 rfl (by kernel_rfl) (fun K hK => ?_))
           have Bl := (Below.refl y5.heap.size y5).alloc (Nat.le_refl _) (.cells #[.int .u16 uv] 24)
           replace X0 := X0.below Bl X0.lt
           replace X1 := X1.below Bl X1.lt
           replace PA := PA.below Bl PA.lt
           replace PB := PB.below Bl PB.lt
           replace T := T.below (Bl.mono (by omega))
           replace D := D.trans (Dev.of_below (Bl.mono (by omega)))
           have RC := row_one_w y5 uv ⟨u1, by omega⟩ _ rfl
           have hz2 : w.heap.size + 1 + 1 + 1 ≤ (y5.alloc (.cells #[.int .u16 uv] 24)).heap.size := by simp; omega
           have lC : y5.heap.size < (y5.alloc (.cells #[.int .u16 uv] 24)).heap.size := by simp
           go_simp
           refine hK.out _ _ ⟨⟨trivial, FB PB⟩, FA PA⟩ ?_
           clear K hK Bl
           try simp only [Act.put, PuA, PuB, PuC]
           generalize y5.alloc (.cells #[.int .u16 uv] 24) = y6 at *
           have kC := hz
           replace hz := hz2
           generalize y5.heap.size = bC at *
           clear hz2
           refine h_P ⟨⟨trivial, FB PB⟩, FA PA⟩ 13 rfl ?_
           refine h_move 14 (by kernel_rfl) (h_op 14 rfl (by kernel_rfl) (fun K hK => ?_))
           have e4 : y6.cell? ⟨w.heap.size + 1 + 1, 6, none⟩ = _ := X1.cell 6
           simp at e4
           have f4 := X1.frozen
           go_simp
           clear e4 f4
           replace X0 := X0.set_ne (g := w.heap.size + 1 + 1) (by omega) 6 (.slice (some ⟨bC, 0, none⟩) 1 1)
           replace X1 := X1.set 6 (.slice (some ⟨bC, 0, none⟩) 1 1)
           simp at X1
           replace PA := PA.set_ne (g := w.heap.size + 1 + 1) (by omega) 6 (.slice (some ⟨bC, 0, none⟩) 1 1)
           replace PB := PB.set_ne (g := w.heap.size + 1 + 1) (by omega) 6 (.slice (some ⟨bC, 0, none⟩) 1 1)
           replace RC := RC.setCell_new (g := w.heap.size + 1 + 1) (o := 6) (u := (.slice (some ⟨bC, 0, none⟩) 1 1)) (NewV.some (w.heap.size + 1 + 1 + 1) _ _ _ _ kC) (by omega)
           replace T := T.below ((Below.refl B y6).setCell (p := ⟨w.heap.size + 1 + 1, 6, none⟩) (by simp; omega) (.slice (some ⟨bC, 0, none⟩) 1 1))
           replace D := D.setCell (p := ⟨w.heap.size + 1 + 1, 6, none⟩) (by simp; omega) (.slice (some ⟨bC, 0, none⟩) 1 1)
           have hz2 : w.heap.size + 1 + 1 + 1 ≤ (y6.setCell ⟨w.heap.size + 1 + 1, 6, none⟩ (.slice (some ⟨bC, 0, none⟩) 1 1)).heap.size := by simp; omega
           refine hK.out _ _ ⟨⟨trivial, FB PB⟩, FA PA⟩ ?_
           clear K hK
           try simp only [Act.put, PuA, PuB, PuC]
           generalize y6.setCell ⟨w.heap.size + 1 + 1, 6, none⟩ (.slice (some ⟨bC, 0, none⟩) 1 1) = y7 at *
           replace hz := hz2
           clear hz2
           refine h_done (by kernel_rfl) ?_
           go_wp2_with fail
           go_meet
           exact ⟨sv, uv, bC, s1, s2, u1, u2, kC, X0, X1, RC, D⟩
         ·have Bl := (Below.refl y3.heap.size y3).alloc (Nat.le_refl _) (.cells #[.int .u16 uv] 24)
          replace X0 := X0.below Bl X0.lt
          replace X1 := X1.below Bl X1.lt
          replace PB := PB.below Bl PB.lt
          replace T := T.below (Bl.mono (by omega))
          replace D := D.trans (Dev.of_below (Bl.mono (by omega)))
          have RC := row_one_w y3 uv ⟨u1, by omega⟩ _ rfl
          have hz2 : w.heap.size + 1 + 1 + 1 ≤ (y3.alloc (.cells #[.int .u16 uv] 24)).heap.size := by simp; omega
          have lC : y3.heap.size < (y3.alloc (.cells #[.int .u16 uv] 24)).heap.size := by simp
          go_simp
          refine hK.out _ _ ⟨trivial, FB PB⟩ ?_
          clear K hK Bl
          try simp only [Act.put, PuA, PuB, PuC]
          generalize y3.alloc (.cells #[.int .u16 uv] 24) = y4 at *
          have kC := hz
          replace hz := hz2
          generalize y3.heap.size = bC at *
          clear hz2
          refine h_move 0 (by kernel_rfl) (h_op 0 rfl (by kernel_rfl) (fun K hK => ?_))
          have Bl := (Below.refl y4.heap.size y4).alloc (Nat.le_refl _) (.cells #[.int .i64 0, .int .i64 10, .int .i64 11, .int .i64 12, .int .i64 13, .int .i64 14, .int .i64 2, .int .i64 300] 3)
          replace X0 := X0.below Bl X0.lt
          replace X1 := X1.below Bl X1.lt
          replace PB := PB.below Bl PB.lt
          replace T := T.below (Bl.mono (by omega))
          replace D := D.trans (Dev.of_below (Bl.mono (by omega)))
          replace RC := RC.below Bl
          have PA := Blk.new y4 3 [.int .i64 0, .int .i64 10, .int .i64 11, .int .i64 12, .int .i64 13, .int .i64 14, .int .i64 2, .int .i64 300]
          have hz2 : w.heap.size + 1 + 1 + 1 ≤ (y4.alloc (.cells #[.int .i64 0, .int .i64 10, .int .i64 11, .int .i64 12, .int .i64 13, .int .i64 14, .int .i64 2, .int .i64 300] 3)).heap.size := by simp; omega
          have lA : y4.heap.size < (y4.alloc (.cells #[.int .i64 0, .int .i64 10, .int .i64 11, .int .i64 12, .int .i64 13, .int .i64 14, .int .i64 2, .int .i64 300] 3)).heap.size := by simp
          go_simp
          refine hK.out _ _ ⟨trivial, FB PB⟩ ?_
          clear K hK Bl
          try simp only [Act.put, PuA, PuB, PuC]
          generalize y4.alloc (.cells #[.int .i64 0, .int .i64 10, .int .i64 11, .int .i64 12, .int .i64 13, .int .i64 14, .int .i64 2, .int .i64 300] 3) = y5 at *
          have kA := hz
          replace hz := hz2
          generalize y4.heap.size = bA at *
          clear hz2
          obtain ⟨sv, hsv, s1, s2⟩ := sub_at mx mx1 mx2
          have FA : ∀ {W : World}, Blk W bA 3 [.int .i64 0, .int .i64 10, .int .i64 11, .int .i64 12, .int .i64 13, .int .i64 14, .int .i64 2, .int .i64 300] → W.cell? ⟨bA, mx.toNat, none⟩ = some (.int .i64 sv) := fun h => (h.cell _).trans hsv
          clear hsv
          refine h_P ⟨trivial, FB PB⟩ 3 rfl ?_
          refine h_R (fun w' => ((True) ∧ w'.cell? ⟨bB, nx.toNat, none⟩ = some (.int .u16 uv)) ∧ w'.cell? ⟨bA, mx.toNat, none⟩ = some (.int .i64 sv)) (fun _ h => h.1) ⟨⟨trivial, FB PB⟩, FA PA⟩ 4 rfl (fun w' hx => by have hc := hx.2; go_simp; with_reducible rfl) ?_
          refine h_P ⟨⟨trivial, FB PB⟩, FA PA⟩ 11 rfl ?_
          refine h_move 12 (by kernel_rfl) (h_op 12 rfl (by kernel_rfl) (fun K hK => ?_))
          have e4 : y5.cell? ⟨w.heap.size + 1 + 1, 4, none⟩ = _ := X1.cell 4
          simp at e4
          have f4 := X1.frozen
          go_simp
          clear e4 f4
          replace X0 := X0.set_ne (g := w.heap.size + 1 + 1) (by omega) 4 (.int .i64 sv)
          replace X1 := X1.set 4 (.int .i64 sv)
          simp at X1
          replace PA := PA.set_ne (g := w.heap.size + 1 + 1) (by omega) 4 (.int .i64 sv)
          replace PB := PB.set_ne (g := w.heap.size + 1 + 1) (by omega) 4 (.int .i64 sv)
          replace RC := RC.setCell_new (g := w.heap.size + 1 + 1) (o := 4) (u := (.int .i64 sv)) (NewV.some (w.heap.size + 1 + 1 + 1) _ _ _ _ kC) (by omega)
          replace T := T.below ((Below.refl B y5).setCell (p := ⟨w.heap.size + 1 + 1, 4, none⟩) (by simp; omega) (.int .i64 sv))
          replace D := D.setCell (p := ⟨w.heap.size + 1 + 1, 4, none⟩) (by simp; omega) (.int .i64 sv)
          have hz2 : w.heap.size + 1 + 1 + 1 ≤ (y5.setCell ⟨w.heap.size + 1 + 1, 4, none⟩ (.int .i64 sv)).heap.size := by simp; omega
          refine hK.out _ _ ⟨⟨trivial, FB PB⟩, FA PA⟩ ?_
          clear K hK
          try simp only [Act.put, PuA, PuB, PuC]
          generalize y5.setCell ⟨w.heap.size + 1 + 1, 4, none⟩ (.int .i64 sv) = y6 at *
          replace hz := hz2
          clear hz2
          refine h_P ⟨⟨trivial, FB PB⟩, FA PA⟩ 13 rfl ?_
          refine h_move 14 (by kernel_rfl) (h_op 14 rfl (by kernel_rfl) (fun K hK => ?_))
          have e4 : y6.cell? ⟨w.heap.size + 1 + 1, 6, none⟩ = _ := X1.cell 6
          simp at e4
          have f4 := X1.frozen
          go_simp
          clear e4 f4
          replace X0 := X0.set_ne (g := w.heap.size + 1 + 1) (by omega) 6 (.slice (some ⟨bC, 0, none⟩) 1 1)
          replace X1 := X1.set 6 (.slice (some ⟨bC, 0, none⟩) 1 1)
          simp at X1
          replace PA := PA.set_ne (g := w.heap.size + 1 + 1) (by omega) 6 (.slice (some ⟨bC, 0, none⟩) 1 1)
          replace PB := PB.set_ne (g := w.heap.size + 1 + 1) (by omega) 6 (.slice (some ⟨bC, 0, none⟩) 1 1)
          replace RC := RC.setCell_new (g := w.heap.size + 1 + 1) (o := 6) (u := (.slice (some ⟨bC, 0, none⟩) 1 1)) (NewV.some (w.heap.size + 1 + 1 + 1) _ _ _ _ kC) (by omega)
          replace T := T.below ((Below.refl B y6).setCell (p := ⟨w.heap.size + 1 + 1, 6, none⟩) (by simp; omega) (.slice (some ⟨bC, 0, none⟩) 1 1))
          replace D := D.setCell (p := ⟨w.heap.size + 1 + 1, 6, none⟩) (by simp; omega) (.slice (some ⟨bC, 0, none⟩) 1 1)
          have hz2 : w.heap.size + 1 + 1 + 1 ≤ (y6.setCell ⟨w.heap.size + 1 + 1, 6, none⟩ (.slice (some ⟨bC, 0, none⟩) 1 1)).heap.size := by simp; omega
          refine hK.out _ _ ⟨⟨trivial, FB PB⟩, FA PA⟩ ?_
          clear K hK
          try simp only [Act.put, PuA, PuB, PuC]
          generalize y6.setCell ⟨w.heap.size + 1 + 1, 6, none⟩ (.slice (some ⟨bC, 0, none⟩) 1 1) = y7 at *
          replace hz := hz2
          clear hz2
          refine h_done (by kernel_rfl) ?_
          go_wp2_with fail
          go_meet
          exact ⟨sv, uv, bC, s1, s2, u1, u2, kC, X0, X1, RC, D⟩
  · have Bl := (Below.refl B w1).alloc (by omega) (.cells #[.int .i64 15, .int .i64 0, .int .i64 0, .int .i64 0, .int .i64 0, .slice none 0 0, .slice none 0 0, .int .u16 0, .int .u16 0] 26)
    have X1 := Blk.new_at w1 26 [.int .i64 15, .int .i64 0, .int .i64 0, .int .i64 0, .int .i64 0, .slice none 0 0, .slice none 0 0, .int .u16 0, .int .u16 0] (w.heap.size + 1 + 1) S1.symm
    refine (next_any B g l 70 _ (T1.below Bl) (by simp; omega) (by decide)).mono ?_
    rintro e w2 ⟨ax, rfl, a1, a2, T2, S2, D2⟩
    simp at S2
    replace X0 := (X0.alloc _).dev D2 (by simp; omega) (by omega)
    replace X1 := X1.dev D2 (by simp; omega) (by omega)
    replace D := (D.alloc (by omega) _).trans (D2.mono (by simp; omega))
    clear D2 Bl T1
    have d0 := X0.cell 0
    have d1 := X0.cell 1
    have d2 := X0.cell 2
    have d3 := X0.cell 3
    have d4 := X0.cell 4
    have d5 := X0.cell 5
    have d6 := X0.cell 6
    have d7 := X0.cell 7
    have d8 := X0.cell 8
    simp at d0 d1 d2 d3 d4 d5 d6 d7 d8
    have fd := X0.frozen
    have gd := X0.lt
    have c0 := X1.cell 0
    have c1 := X1.cell 1
    have c2 := X1.cell 2
    have c3 := X1.cell 3
    have c4 := X1.cell 4
    have c5 := X1.cell 5
    have c6 := X1.cell 6
    have c7 := X1.cell 7
    have c8 := X1.cell 8
    simp at c0 c1 c2 c3 c4 c5 c6 c7 c8
    have fc := X1.frozen
    have gc := X1.lt
    go_wp2_with fail
    clear c0 d0 c1 d1 c2 d2 c3 d3 c4 d4 c5 d5 c6 d6 c7 d7 c8 d8 fc fd gc gd
    refine (next_any B g l 26 _ T2 (by omega) (by decide)).mono ?_
    rintro e w3 ⟨cx, rfl, cx1, cx2, T3, S3, D3⟩
    rw [S2] at S3
    replace X0 := X0.dev D3 (by omega) (by omega)
    replace X1 := X1.dev D3 (by omega) (by omega)
    replace D := D.trans (D3.mono (by omega))
    clear D3 T2
    have d0 := X0.cell 0
    have d1 := X0.cell 1
    have d2 := X0.cell 2
    have d3 := X0.cell 3
    have d4 := X0.cell 4
    have d5 := X0.cell 5
    have d6 := X0.cell 6
    have d7 := X0.cell 7
    have d8 := X0.cell 8
    simp at d0 d1 d2 d3 d4 d5 d6 d7 d8
    have fd := X0.frozen
    have gd := X0.lt
    have c0 := X1.cell 0
    have c1 := X1.cell 1
    have c2 := X1.cell 2
    have c3 := X1.cell 3
    have c4 := X1.cell 4
    have c5 := X1.cell 5
    have c6 := X1.cell 6
    have c7 := X1.cell 7
    have c8 := X1.cell 8
    simp at c0 c1 c2 c3 c4 c5 c6 c7 c8
    have fc := X1.frozen
    have gc := X1.lt
    obtain ⟨n, rfl⟩ : ∃ n : Nat, cx = (n : Int) := ⟨cx.toNat, by omega⟩
    go_wp2
    replace X0 := (X0.set_ne (g := w.heap.size + 1 + 1) (by omega) 1 (.int .i64 ax)).set_ne (g := w.heap.size + 1 + 1) (by omega) 2 (.int .i64 n)
    replace X1 := (X1.set 1 (.int .i64 ax)).set 2 (.int .i64 n)
    replace D := (D.setCell (p := ⟨w.heap.size + 1 + 1, 1, none⟩) (by simp; omega) (.int .i64 ax)).setCell (p := ⟨w.heap.size + 1 + 1, 2, none⟩) (by simp; omega) (.int .i64 n)
    have Bl := ((Below.refl B w3).setCell (p := ⟨w.heap.size + 1 + 1, 1, none⟩) (by simp; omega) (.int .i64 ax)).setCell (p := ⟨w.heap.size + 1 + 1, 2, none⟩) (by simp; omega) (.int .i64 n)
    replace T3 := T3.below Bl
    simp at X1
    clear c0 d0 c1 d1 c2 d2 c3 d3 c4 d4 c5 d5 c6 d6 c7 d7 c8 d8 fc fd gc gd
    go_loopw [5] (fun i wr => ∃ (k : Nat) (bs : List Bool) (vb : Value), k ≤ n ∧ i = .int .i64 k ∧ bs.length = k ∧ Blk wr w.heap.size 26 [.int .i64 0, .int .i64 0, .int .i64 0, .int .i64 0, .int .i64 0, .slice none 0 0, .slice none 0 0, .int .u16 0, .int .u16 0] ∧ Blk wr (w.heap.size + 1 + 1) 26 [.int .i64 15, .int .i64 ax, .int .i64 n, .int .i64 0, .int .i64 0, vb, .slice none 0 0, .int .u16 0, .int .u16 0] ∧ wr.ownsRow (w.heap.size + 1 + 1 + 1) 4 1 vb k (bs.map Value.bool) ∧ Tap B wr g l ∧ Dev B g w wr ∧ w.heap.size + 1 + 1 + 1 ≤ wr.heap.size) (fun i _ => n - (intOf i).toNat)
    case atStart => exact ⟨0, [], .slice none 0 0, Nat.zero_le _, rfl, rfl, X0, X1, World.ownsRow_nil _ _ _ _, T3, D, by simp; omega⟩
    case round =>
      clear X0 X1 D T3 Bl
      obtain ⟨k, bs, vb, hk, rfl, hbl, X0, X1, ho, T, D, hz⟩ := hrel
      have R0 := Row.of_owns ho
      obtain ⟨va, vcap, rfl, -⟩ := id R0
      simp only [List.length_map, hbl] at X1 ho R0
      have d0 := X0.cell 0
      have d1 := X0.cell 1
      have d2 := X0.cell 2
      have d3 := X0.cell 3
      have d4 := X0.cell 4
      have d5 := X0.cell 5
      have d6 := X0.cell 6
      have d7 := X0.cell 7
      have d8 := X0.cell 8
      simp at d0 d1 d2 d3 d4 d5 d6 d7 d8
      have fd := X0.frozen
      have gd := X0.lt
      have c0 := X1.cell 0
      have c1 := X1.cell 1
      have c2 := X1.cell 2
      have c3 := X1.cell 3
      have c4 := X1.cell 4
      have c5 := X1.cell 5
      have c6 := X1.cell 6
      have c7 := X1.cell 7
      have c8 := X1.cell 8
      simp at c0 c1 c2 c3 c4 c5 c6 c7 c8
      have fc := X1.frozen
      have gc := X1.lt
      by_cases hlt : k < n
      · have hlt' : (k : Int) < (n : Int) := by omega
        go_wp2
        clear d0 d1 d2 d3 d4 d5 d6 d7 d8 fd gd c0 c1 c2 c3 c4 c5 c6 c7 c8 fc gc
        refine h_begin 9 rfl (by kernel_rfl) ?_
        replace X0 := X0.drew
        replace X1 := X1.drew
        replace T := T.drew
        replace D := D.drew
        replace ho := owns_below ho ((Below.refl wr.heap.size wr).drew)
        replace hz : w.heap.size + 1 + 1 + 1 ≤ wr.drew.heap.size := hz
        generalize wr.drew = w6 at *
        have c5 : w6.cell? ⟨w.heap.size + 1 + 1, 5, none⟩ = _ := X1.cell 5
        simp at c5
        refine h_P trivial 0 rfl ?_
        refine h_P trivial 2 rfl ?_
        refine h_move2 1 3 (by kernel_rfl) (h_op 1 rfl (by kernel_rfl) (fun K hK => ?_)) (h_op 3 rfl (by kernel_rfl) (fun K hK => ?_))
        focus
          go_simp
          refine hK.out _ _ trivial ?_
          clear K hK
          try simp only [Act.put, PuA, PuB, PuC]
          refine h_move 3 (by kernel_rfl) (h_op 3 rfl (by kernel_rfl) (fun K hK => ?_))
          go_wp2_with fail
          refine (next_any B g l 2 _ T (by omega) (by decide)).mono ?_
          rintro e w7 ⟨mx, rfl, mx1, mx2, T7, S7, D7⟩
          have hz7 : w.heap.size + 1 + 1 + 1 ≤ w7.heap.size := by omega
          clear S7
          go_simp
          refine hK.out _ _ trivial ?_
          clear K hK
          try simp only [Act.put, PuA, PuB, PuC]
          refine h_P trivial 4 rfl ?_
          refine h_move 5 (by kernel_rfl) (h_op 5 rfl (by kernel_rfl) (fun K hK => ?_))
          go_simp
          refine hK.out _ _ trivial ?_
          clear K hK
          try simp only [Act.put, PuA, PuB, PuC]
        rotate_left
        focus
          go_wp2_with fail
          refine (next_any B g l 2 _ T (by omega) (by decide)).mono ?_
          rintro e w7 ⟨mx, rfl, mx1, mx2, T7, S7, D7⟩
          have hz7 : w.heap.size + 1 + 1 + 1 ≤ w7.heap.size := by omega
          clear S7
          go_simp
          refine hK.out _ _ trivial ?_
          clear K hK
          try simp only [Act.put, PuA, PuB, PuC]
          refine h_P trivial 4 rfl ?_
          have c7 : w7.cell? ⟨w.heap.size + 1 + 1, 5, none⟩ = _ := (X1.dev D7 (by omega) (by omega)).cell 5
          simp at c7
          have lt7 : w.heap.size + 1 + 1 < w7.heap.size := by omega
          refine h_move2 1 5 (by kernel_rfl) (h_op 1 rfl (by kernel_rfl) (fun K hK => ?_)) (h_op 5 rfl (by kernel_rfl) (fun K hK => ?_))
          focus
            go_simp
            refine hK.out _ _ trivial ?_
            clear K hK
            try simp only [Act.put, PuA, PuB, PuC]
            refine h_move 5 (by kernel_rfl) (h_op 5 rfl (by kernel_rfl) (fun K hK => ?_))
            go_simp
            refine hK.out _ _ trivial ?_
            clear K hK
            try simp only [Act.put, PuA, PuB, PuC]
            clear c7
          rotate_left
          focus
            go_simp
            refine hK.out _ _ trivial ?_
            clear K hK
            try simp only [Act.put, PuA, PuB, PuC]
            refine h_move 1 (by kernel_rfl) (h_op 1 rfl (by kernel_rfl) (fun K hK => ?_))
            go_simp
            refine hK.out _ _ trivial ?_
            clear K hK
            try simp only [Act.put, PuA, PuB, PuC]
            clear c7
        all_goals
          replace X0 := X0.dev D7 (by omega) (by omega)
          replace X1 := X1.dev D7 (by omega) (by omega)
          replace ho := owns_dev ho D7 (by omega)
          replace D := D.trans (D7.mono (by omega))
          clear D7 T c5
          have Rn := row_new w7 [.bool (mx == 1)] 4 1 rfl (by decide)
          refine h_move 6 (by kernel_rfl) (h_op 6 rfl (by kernel_rfl) (fun K hK => ?_))
          refine wp_app (.tmp 75) (.tmp 79) 22 rfl (w.heap.size + 1 + 1 + 1) 4 (.bool false) 1 Try.underlying22 info_bool rfl rfl (ho.alloc _) rfl Rn (by intro u hu; simp at hu; subst hu; rfl) (by simp [maxLen]; omega) (by simp; omega) (by simp; omega) ?_
          intro v8 w8 ho8 hg8
          refine hK.out _ _ trivial ?_
          clear K hK
          try simp only [Act.put, PuA, PuB, PuC]
          replace X0 := (X0.alloc (.cells #[.bool (mx == 1)] 4)).grown hg8 (fun r hr => by have := (ho.lt r hr).1; omega)
          replace X1 := (X1.alloc (.cells #[.bool (mx == 1)] 4)).grown hg8 (fun r hr => by have := (ho.lt r hr).1; omega)
          have Bl := ((Below.refl B w7).alloc (by omega) (.cells #[.bool (mx == 1)] 4)).grown hg8 (by simp; omega) (fun r hr => by have := (ho.lt r hr).1; omega)
          replace T7 := T7.below Bl
          replace D := D.trans (Dev.of_below Bl)
          have hz8 : w.heap.size + 1 + 1 + 1 ≤ w8.heap.size := by have := hg8.size; simp at this; omega
          clear Bl hg8 Rn ho R0
          refine h_P trivial 7 rfl ?_
          have R8 := Row.of_owns ho8
          obtain ⟨va8, vcap8, rfl, -⟩ := id R8
          have c5 : w8.cell? ⟨w.heap.size + 1 + 1, 5, none⟩ = _ := X1.cell 5
          simp at c5
          have f5 := X1.frozen
          refine h_move 8 (by kernel_rfl) (h_op 8 rfl (by kernel_rfl) (fun K hK => ?_))
          go_simp
          refine hK.out _ _ trivial ?_
          clear K hK c5 f5
          try simp only [Act.put, PuA, PuB, PuC]
          refine h_done (by kernel_rfl) ?_
          go_wp2
          go_roundw
          case rel =>
            refine ⟨k + 1, bs ++ [mx == 1], _, by omega, by go_num, by simp [hbl], X0.set_ne (by omega) 5 _, by simpa using X1.set 5 _, ?_, T7.below ((Below.refl B w8).setCell (p := ⟨w.heap.size + 1 + 1, 5, none⟩) (by simp; omega) _), D.setCell (p := ⟨w.heap.size + 1 + 1, 5, none⟩) (by simp; omega) _, by simpa using hz8⟩
            have e : bs.map Value.bool ++ [Value.bool (mx == 1)] = (bs ++ [mx == 1]).map Value.bool := by simp
            rw [e] at ho8
            have ho9 := owns_setCell (u := .slice va8 (k + 1) vcap8) ho8 (w.heap.size + 1 + 1) 5 (by omega)
            simp [hbl] at ho9 ⊢
            exact ho9
          case measure => simp [intOf]; omega
      · have hkn : k = n := by omega
        subst hkn
        have hlt' : ¬ (k : Int) < (k : Int) := by omega
        go_wp2
        refine bodyPost_ret (v := _) (by simp [results, Try.results6, go_sem, d0, d1, d2, d3, d4, d5, d6, d7, d8]; with_reducible rfl) rfl ?_
        refine ⟨_, rfl, ⟨15, ax, k, 0, 0, bs, [], 0, 0⟩, ⟨_, _, rfl, ?r, Row.nil _⟩, rightE_0 rfl (by simp [formP]) (by simp [numB]; omega) (by simp [listB, hbl]; omega), by simp [hbl]; omega, ⟨by simp, by first | (simp; done) | (simp only; omega)⟩, ⟨_, _, _, _, _, _, _, _, _, rfl, (NewV.of_owns ho).le (by omega), NewV.none _ _ _⟩, ?_⟩
        case r =>
          repeat' (refine Row.setCell_new ?_ (NewV.of_owns ho) (by omega))
          exact R0
        · repeat' (refine Dev.setCell ?_ (by simp; omega) _)
          exact D
  · have Bl := (Below.refl B w1).alloc (by omega) (.cells #[.int .i64 16, .int .i64 0, .int .i64 0, .int .i64 0, .int .i64 0, .slice none 0 0, .slice none 0 0, .int .u16 0, .int .u16 0] 26)
    have X1 := Blk.new_at w1 26 [.int .i64 16, .int .i64 0, .int .i64 0, .int .i64 0, .int .i64 0, .slice none 0 0, .slice none 0 0, .int .u16 0, .int .u16 0] (w.heap.size + 1 + 1) S1.symm
    refine (next_any B g l 70 _ (T1.below Bl) (by simp; omega) (by decide)).mono ?_
    rintro e w2 ⟨ax, rfl, a1, a2, T2, S2, D2⟩
    simp at S2
    replace X0 := (X0.alloc _).dev D2 (by simp; omega) (by omega)
    replace X1 := X1.dev D2 (by simp; omega) (by omega)
    replace D := (D.alloc (by omega) _).trans (D2.mono (by simp; omega))
    clear D2 Bl T1
    have d0 := X0.cell 0
    have d1 := X0.cell 1
    have d2 := X0.cell 2
    have d3 := X0.cell 3
    have d4 := X0.cell 4
    have d5 := X0.cell 5
    have d6 := X0.cell 6
    have d7 := X0.cell 7
    have d8 := X0.cell 8
    simp at d0 d1 d2 d3 d4 d5 d6 d7 d8
    have fd := X0.frozen
    have gd := X0.lt
    have c0 := X1.cell 0
    have c1 := X1.cell 1
    have c2 := X1.cell 2
    have c3 := X1.cell 3
    have c4 := X1.cell 4
    have c5 := X1.cell 5
    have c6 := X1.cell 6
    have c7 := X1.cell 7
    have c8 := X1.cell 8
    simp at c0 c1 c2 c3 c4 c5 c6 c7 c8
    have fc := X1.frozen
    have gc := X1.lt
    go_wp2_with fail
    clear c0 d0 c1 d1 c2 d2 c3 d3 c4 d4 c5 d5 c6 d6 c7 d7 c8 d8 fc fd gc gd
    refine (next_any B g l 26 _ T2 (by omega) (by decide)).mono ?_
    rintro e w3 ⟨cx, rfl, cx1, cx2, T3, S3, D3⟩
    rw [S2] at S3
    replace X0 := X0.dev D3 (by omega) (by omega)
    replace X1 := X1.dev D3 (by omega) (by omega)
    replace D := D.trans (D3.mono (by omega))
    clear D3 T2
    have d0 := X0.cell 0
    have d1 := X0.cell 1
    have d2 := X0.cell 2
    have d3 := X0.cell 3
    have d4 := X0.cell 4
    have d5 := X0.cell 5
    have d6 := X0.cell 6
    have d7 := X0.cell 7
    have d8 := X0.cell 8
    simp at d0 d1 d2 d3 d4 d5 d6 d7 d8
    have fd := X0.frozen
    have gd := X0.lt
    have c0 := X1.cell 0
    have c1 := X1.cell 1
    have c2 := X1.cell 2
    have c3 := X1.cell 3
    have c4 := X1.cell 4
    have c5 := X1.cell 5
    have c6 := X1.cell 6
    have c7 := X1.cell 7
    have c8 := X1.cell 8
    simp at c0 c1 c2 c3 c4 c5 c6 c7 c8
    have fc := X1.frozen
    have gc := X1.lt
    obtain ⟨n, rfl⟩ : ∃ n : Nat, cx = (n : Int) := ⟨cx.toNat, by omega⟩
    go_wp2
    replace X0 := (X0.set_ne (g := w.heap.size + 1 + 1) (by omega) 1 (.int .i64 ax)).set_ne (g := w.heap.size + 1 + 1) (by omega) 2 (.int .i64 n)
    replace X1 := (X1.set 1 (.int .i64 ax)).set 2 (.int .i64 n)
    replace D := (D.setCell (p := ⟨w.heap.size + 1 + 1, 1, none⟩) (by simp; omega) (.int .i64 ax)).setCell (p := ⟨w.heap.size + 1 + 1, 2, none⟩) (by simp; omega) (.int .i64 n)
    have Bl := ((Below.refl B w3).setCell (p := ⟨w.heap.size + 1 + 1, 1, none⟩) (by simp; omega) (.int .i64 ax)).setCell (p := ⟨w.heap.size + 1 + 1, 2, none⟩) (by simp; omega) (.int .i64 n)
    replace T3 := T3.below Bl
    simp at X1
    clear c0 d0 c1 d1 c2 d2 c3 d3 c4 d4 c5 d5 c6 d6 c7 d7 c8 d8 fc fd gc gd
    go_loopw [6] (fun i wr => ∃ (k : Nat) (bs : List UInt16) (vb : Value), k ≤ n ∧ i = .int .i64 k ∧ bs.length = k ∧ Blk wr w.heap.size 26 [.int .i64 0, .int .i64 0, .int .i64 0, .int .i64 0, .int .i64 0, .slice none 0 0, .slice none 0 0, .int .u16 0, .int .u16 0] ∧ Blk wr (w.heap.size + 1 + 1) 26 [.int .i64 16, .int .i64 ax, .int .i64 n, .int .i64 0, .int .i64 0, .slice none 0 0, vb, .int .u16 0, .int .u16 0] ∧ wr.ownsRow (w.heap.size + 1 + 1 + 1) 24 1 vb k (bs.map wV) ∧ Tap B wr g l ∧ Dev B g w wr ∧ w.heap.size + 1 + 1 + 1 ≤ wr.heap.size) (fun i _ => n - (intOf i).toNat)
    case atStart => exact ⟨0, [], .slice none 0 0, Nat.zero_le _, rfl, rfl, X0, X1, World.ownsRow_nil _ _ _ _, T3, D, by simp; omega⟩
    case round =>
      clear X0 X1 D T3 Bl
      obtain ⟨k, bs, vb, hk, rfl, hbl, X0, X1, ho, T, D, hz⟩ := hrel
      have R0 := Row.of_owns ho
      obtain ⟨va, vcap, rfl, -⟩ := id R0
      simp only [List.length_map, hbl] at X1 ho R0
      have d0 := X0.cell 0
      have d1 := X0.cell 1
      have d2 := X0.cell 2
      have d3 := X0.cell 3
      have d4 := X0.cell 4
      have d5 := X0.cell 5
      have d6 := X0.cell 6
      have d7 := X0.cell 7
      have d8 := X0.cell 8
      simp at d0 d1 d2 d3 d4 d5 d6 d7 d8
      have fd := X0.frozen
      have gd := X0.lt
      have c0 := X1.cell 0
      have c1 := X1.cell 1
      have c2 := X1.cell 2
      have c3 := X1.cell 3
      have c4 := X1.cell 4
      have c5 := X1.cell 5
      have c6 := X1.cell 6
      have c7 := X1.cell 7
      have c8 := X1.cell 8
      simp at c0 c1 c2 c3 c4 c5 c6 c7 c8
      have fc := X1.frozen
      have gc := X1.lt
      by_cases hlt : k < n
      · have hlt' : (k : Int) < (n : Int) := by omega
        go_wp2
        clear d0 d1 d2 d3 d4 d5 d6 d7 d8 fd gd c0 c1 c2 c3 c4 c5 c6 c7 c8 fc gc
        refine h_begin 9 rfl (by kernel_rfl) ?_
        replace X0 := X0.drew
        replace X1 := X1.drew
        replace T := T.drew
        replace D := D.drew
        replace ho := owns_below ho ((Below.refl wr.heap.size wr).drew)
        replace hz : w.heap.size + 1 + 1 + 1 ≤ wr.drew.heap.size := hz
        generalize wr.drew = w6 at *
        have c5 : w6.cell? ⟨w.heap.size + 1 + 1, 6, none⟩ = _ := X1.cell 6
        simp at c5
        refine h_P trivial 0 rfl ?_
        refine h_P trivial 2 rfl ?_
        refine h_move2 1 3 (by kernel_rfl) (h_op 1 rfl (by kernel_rfl) (fun K hK => ?_)) (h_op 3 rfl (by kernel_rfl) (fun K hK => ?_))
        focus
          go_simp
          refine hK.out _ _ trivial ?_
          clear K hK
          try simp only [Act.put, PuA, PuB, PuC]
          refine h_move 3 (by kernel_rfl) (h_op 3 rfl (by kernel_rfl) (fun K hK => ?_))
          go_wp2_with fail
          refine (next_any B g l 65536 _ T (by omega) (by decide)).mono ?_
          rintro e w7 ⟨mx, rfl, mx1, mx2, T7, S7, D7⟩
          have hz7 : w.heap.size + 1 + 1 + 1 ≤ w7.heap.size := by omega
          clear S7
          go_simp
          refine hK.out _ _ trivial ?_
          clear K hK
          try simp only [Act.put, PuA, PuB, PuC]
          have wx : IntKind.u16.wrap mx = mx := by rw [IntKind.wrap_u16]; omega
          refine h_P trivial 4 rfl ?_
          refine h_move 5 (by kernel_rfl) (h_op 5 rfl (by kernel_rfl) (fun K hK => ?_))
          go_simp
          refine hK.out _ _ trivial ?_
          clear K hK
          try simp only [Act.put, PuA, PuB, PuC]
        rotate_left
        focus
          go_wp2_with fail
          refine (next_any B g l 65536 _ T (by omega) (by decide)).mono ?_
          rintro e w7 ⟨mx, rfl, mx1, mx2, T7, S7, D7⟩
          have hz7 : w.heap.size + 1 + 1 + 1 ≤ w7.heap.size := by omega
          clear S7
          go_simp
          refine hK.out _ _ trivial ?_
          clear K hK
          try simp only [Act.put, PuA, PuB, PuC]
          have wx : IntKind.u16.wrap mx = mx := by rw [IntKind.wrap_u16]; omega
          refine h_P trivial 4 rfl ?_
          have c7 : w7.cell? ⟨w.heap.size + 1 + 1, 6, none⟩ = _ := (X1.dev D7 (by omega) (by omega)).cell 6
          simp at c7
          have lt7 : w.heap.size + 1 + 1 < w7.heap.size := by omega
          refine h_move2 1 5 (by kernel_rfl) (h_op 1 rfl (by kernel_rfl) (fun K hK => ?_)) (h_op 5 rfl (by kernel_rfl) (fun K hK => ?_))
          focus
            go_simp
            refine hK.out _ _ trivial ?_
            clear K hK
            try simp only [Act.put, PuA, PuB, PuC]
            refine h_move 5 (by kernel_rfl) (h_op 5 rfl (by kernel_rfl) (fun K hK => ?_))
            go_simp
            refine hK.out _ _ trivial ?_
            clear K hK
            try simp only [Act.put, PuA, PuB, PuC]
            clear c7
          rotate_left
          focus
            go_simp
            refine hK.out _ _ trivial ?_
            clear K hK
            try simp only [Act.put, PuA, PuB, PuC]
            refine h_move 1 (by kernel_rfl) (h_op 1 rfl (by kernel_rfl) (fun K hK => ?_))
            go_simp
            refine hK.out _ _ trivial ?_
            clear K hK
            try simp only [Act.put, PuA, PuB, PuC]
            clear c7
        all_goals
          replace X0 := X0.dev D7 (by omega) (by omega)
          replace X1 := X1.dev D7 (by omega) (by omega)
          replace ho := owns_dev ho D7 (by omega)
          replace D := D.trans (D7.mono (by omega))
          clear D7 T c5
          have Rn := row_new w7 [.int .u16 mx] 24 1 rfl (by decide)
          refine h_move 6 (by kernel_rfl) (h_op 6 rfl (by kernel_rfl) (fun K hK => ?_))
          refine wp_app (.tmp 96) (.tmp 100) 23 rfl (w.heap.size + 1 + 1 + 1) 24 (.int .u16 0) 2 Try.underlying23 info_u16 rfl rfl (ho.alloc _) rfl Rn (by intro u hu; simp at hu; subst hu; rfl) (by simp [maxLen]; omega) (by simp; omega) (by simp; omega) ?_
          intro v8 w8 ho8 hg8
          refine hK.out _ _ trivial ?_
          clear K hK
          try simp only [Act.put, PuA, PuB, PuC]
          replace X0 := (X0.alloc (.cells #[.int .u16 mx] 24)).grown hg8 (fun r hr => by have := (ho.lt r hr).1; omega)
          replace X1 := (X1.alloc (.cells #[.int .u16 mx] 24)).grown hg8 (fun r hr => by have := (ho.lt r hr).1; omega)
          have Bl := ((Below.refl B w7).alloc (by omega) (.cells #[.int .u16 mx] 24)).grown hg8 (by simp; omega) (fun r hr => by have := (ho.lt r hr).1; omega)
          replace T7 := T7.below Bl
          replace D := D.trans (Dev.of_below Bl)
          have hz8 : w.heap.size + 1 + 1 + 1 ≤ w8.heap.size := by have := hg8.size; simp at this; omega
          clear Bl hg8 Rn ho R0
          refine h_P trivial 7 rfl ?_
          have R8 := Row.of_owns ho8
          obtain ⟨va8, vcap8, rfl, -⟩ := id R8
          have c5 : w8.cell? ⟨w.heap.size + 1 + 1, 6, none⟩ = _ := X1.cell 6
          simp at c5
          have f5 := X1.frozen
          refine h_move 8 (by kernel_rfl) (h_op 8 rfl (by kernel_rfl) (fun K hK => ?_))
          go_simp
          refine hK.out _ _ trivial ?_
          clear K hK c5 f5
          try simp only [Act.put, PuA, PuB, PuC]
          refine h_done (by kernel_rfl) ?_
          go_wp2
          go_roundw
          case rel =>
            refine ⟨k + 1, bs ++ [wOf mx], _, by omega, by go_num, by simp [hbl], X0.set_ne (by omega) 6 _, by simpa using X1.set 6 _, ?_, T7.below ((Below.refl B w8).setCell (p := ⟨w.heap.size + 1 + 1, 6, none⟩) (by simp; omega) _), D.setCell (p := ⟨w.heap.size + 1 + 1, 6, none⟩) (by simp; omega) _, by simpa using hz8⟩
            have e : bs.map wV ++ [Value.int .u16 mx] = (bs ++ [wOf mx]).map wV := by simp [wV, wOf_wrap]; omega
            rw [e] at ho8
            have ho9 := owns_setCell (u := .slice va8 (k + 1) vcap8) ho8 (w.heap.size + 1 + 1) 6 (by omega)
            simp [hbl] at ho9 ⊢
            exact ho9
          case measure => simp [intOf]; omega
      · have hkn : k = n := by omega
        subst hkn
        have hlt' : ¬ (k : Int) < (k : Int) := by omega
        go_wp2
        refine bodyPost_ret (v := _) (by simp [results, Try.results6, go_sem, d0, d1, d2, d3, d4, d5, d6, d7, d8]; with_reducible rfl) rfl ?_
        refine ⟨_, rfl, ⟨16, ax, k, 0, 0, [], bs, 0, 0⟩, ⟨_, _, rfl, Row.nil _, ?r⟩, rightE_0 rfl (by simp [formP]) (by simp [numB]; omega) (by simp [listB, hbl]; omega), by simp, ⟨by simp [hbl]; omega, by first | (simp; done) | (simp only; omega)⟩, ⟨_, _, _, _, _, _, _, _, _, rfl, NewV.none _ _ _, (NewV.of_owns ho).le (by omega)⟩, ?_⟩
        case r =>
          repeat' (refine Row.setCell_new ?_ (NewV.of_owns ho) (by omega))
          exact R0
        · repeat' (refine Dev.setCell ?_ (by simp; omega) _)
          exact D
  · have Bl := (Below.refl B w1).alloc (by omega) (.cells #[.int .i64 17, .int .i64 0, .int .i64 0, .int .i64 0, .int .i64 0, .slice none 0 0, .slice none 0 0, .int .u16 0, .int .u16 0] 26)
    have X1 := Blk.new_at w1 26 [.int .i64 17, .int .i64 0, .int .i64 0, .int .i64 0, .int .i64 0, .slice none 0 0, .slice none 0 0, .int .u16 0, .int .u16 0] (w.heap.size + 1 + 1) S1.symm
    refine (next_any B g l 70 _ (T1.below Bl) (by simp; omega) (by decide)).mono ?_
    rintro e w2 ⟨ax, rfl, a1, a2, T2, S2, D2⟩
    simp at S2
    replace X0 := (X0.alloc _).dev D2 (by simp; omega) (by omega)
    replace X1 := X1.dev D2 (by simp; omega) (by omega)
    replace D := (D.alloc (by omega) _).trans (D2.mono (by simp; omega))
    clear D2 Bl T1
    have d0 := X0.cell 0
    have d1 := X0.cell 1
    have d2 := X0.cell 2
    have d3 := X0.cell 3
    have d4 := X0.cell 4
    have d5 := X0.cell 5
    have d6 := X0.cell 6
    have d7 := X0.cell 7
    have d8 := X0.cell 8
    simp at d0 d1 d2 d3 d4 d5 d6 d7 d8
    have fd := X0.frozen
    have gd := X0.lt
    have c0 := X1.cell 0
    have c1 := X1.cell 1
    have c2 := X1.cell 2
    have c3 := X1.cell 3
    have c4 := X1.cell 4
    have c5 := X1.cell 5
    have c6 := X1.cell 6
    have c7 := X1.cell 7
    have c8 := X1.cell 8
    simp at c0 c1 c2 c3 c4 c5 c6 c7 c8
    have fc := X1.frozen
    have gc := X1.lt
    go_wp2
    refine bodyPost_ret (v := _) (by simp [results, Try.results6, go_sem, d0, d1, d2, d3, d4, d5, d6, d7, d8]; with_reducible rfl) rfl ?_
    refine ⟨_, rfl, ⟨17, 0, 0, 0, 0, [], [], 0, 0⟩, ⟨_, _, rfl, Row.nil _, Row.nil _⟩, rightE_0 rfl (by simp [formP]) (by simp [numB]) (by simp [listB]), by simp, ⟨by simp, by first | (simp; done) | (simp only; omega)⟩, ⟨_, _, _, _, _, _, _, _, _, rfl, NewV.none _ _ _, NewV.none _ _ _⟩, ?_⟩
    repeat' (refine Dev.setCell ?_ (by simp; omega) _)
    exact D
  · have Bl := (Below.refl B w1).alloc (by omega) (.cells #[.int .i64 22, .int .i64 0, .int .i64 0, .int .i64 0, .int .i64 0, .slice none 0 0, .slice none 0 0, .int .u16 0, .int .u16 0] 26)
    have X1 := Blk.new_at w1 26 [.int .i64 22, .int .i64 0, .int .i64 0, .int .i64 0, .int .i64 0, .slice none 0 0, .slice none 0 0, .int .u16 0, .int .u16 0] (w.heap.size + 1 + 1) S1.symm
    refine (next_any B g l 70 _ (T1.below Bl) (by simp; omega) (by decide)).mono ?_
    rintro e w2 ⟨ax, rfl, a1, a2, T2, S2, D2⟩
    simp at S2
    replace X0 := (X0.alloc _).dev D2 (by simp; omega) (by omega)
    replace X1 := X1.dev D2 (by simp; omega) (by omega)
    replace D := (D.alloc (by omega) _).trans (D2.mono (by simp; omega))
    clear D2 Bl T1
    have d0 := X0.cell 0
    have d1 := X0.cell 1
    have d2 := X0.cell 2
    have d3 := X0.cell 3
    have d4 := X0.cell 4
    have d5 := X0.cell 5
    have d6 := X0.cell 6
    have d7 := X0.cell 7
    have d8 := X0.cell 8
    simp at d0 d1 d2 d3 d4 d5 d6 d7 d8
    have fd := X0.frozen
    have gd := X0.lt
    have c0 := X1.cell 0
    have c1 := X1.cell 1
    have c2 := X1.cell 2
    have c3 := X1.cell 3
    have c4 := X1.cell 4
    have c5 := X1.cell 5
    have c6 := X1.cell 6
    have c7 := X1.cell 7
    have c8 := X1.cell 8
    simp at c0 c1 c2 c3 c4 c5 c6 c7 c8
    have fc := X1.frozen
    have gc := X1.lt
    go_wp2_with fail
    clear c0 d0 c1 d1 c2 d2 c3 d3 c4 d4 c5 d5 c6 d6 c7 d7 c8 d8 fc fd gc gd
    refine (next_any B g l 65536 _ T2 (by omega) (by decide)).mono ?_
    rintro e w3 ⟨cx, rfl, cx1, cx2, T3, S3, D3⟩
    rw [S2] at S3
    replace X0 := X0.dev D3 (by omega) (by omega)
    replace X1 := X1.dev D3 (by omega) (by omega)
    replace D := D.trans (D3.mono (by omega))
    clear D3 T2
    have d0 := X0.cell 0
    have d1 := X0.cell 1
    have d2 := X0.cell 2
    have d3 := X0.cell 3
    have d4 := X0.cell 4
    have d5 := X0.cell 5
    have d6 := X0.cell 6
    have d7 := X0.cell 7
    have d8 := X0.cell 8
    simp at d0 d1 d2 d3 d4 d5 d6 d7 d8
    have fd := X0.frozen
    have gd := X0.lt
    have c0 := X1.cell 0
    have c1 := X1.cell 1
    have c2 := X1.cell 2
    have c3 := X1.cell 3
    have c4 := X1.cell 4
    have c5 := X1.cell 5
    have c6 := X1.cell 6
    have c7 := X1.cell 7
    have c8 := X1.cell 8
    simp at c0 c1 c2 c3 c4 c5 c6 c7 c8
    have fc := X1.frozen
    have gc := X1.lt
    go_wp2_with fail
    clear c0 d0 c1 d1 c2 d2 c3 d3 c4 d4 c5 d5 c6 d6 c7 d7 c8 d8 fc fd gc gd
    refine (next_any B g l 65536 _ T3 (by omega) (by decide)).mono ?_
    rintro e w4 ⟨ox, rfl, ox1, ox2, T4, S4, D4⟩
    rw [S3] at S4
    replace X0 := X0.dev D4 (by omega) (by omega)
    replace X1 := X1.dev D4 (by omega) (by omega)
    replace D := D.trans (D4.mono (by omega))
    clear D4 T3
    have d0 := X0.cell 0
    have d1 := X0.cell 1
    have d2 := X0.cell 2
    have d3 := X0.cell 3
    have d4 := X0.cell 4
    have d5 := X0.cell 5
    have d6 := X0.cell 6
    have d7 := X0.cell 7
    have d8 := X0.cell 8
    simp at d0 d1 d2 d3 d4 d5 d6 d7 d8
    have fd := X0.frozen
    have gd := X0.lt
    have c0 := X1.cell 0
    have c1 := X1.cell 1
    have c2 := X1.cell 2
    have c3 := X1.cell 3
    have c4 := X1.cell 4
    have c5 := X1.cell 5
    have c6 := X1.cell 6
    have c7 := X1.cell 7
    have c8 := X1.cell 8
    simp at c0 c1 c2 c3 c4 c5 c6 c7 c8
    have fc := X1.frozen
    have gc := X1.lt
    go_wp2
    refine bodyPost_ret (v := _) (by simp [results, Try.results6, go_sem, d0, d1, d2, d3, d4, d5, d6, d7, d8]; with_reducible rfl) rfl ?_
    refine ⟨_, rfl, ⟨22, ax, 0, 0, 0, [], [], wOf cx, wOf ox⟩, ⟨.slice none 0 0, .slice none 0 0, ?_, Row.nil _, Row.nil _⟩, rightE_0 rfl (by simp [formP]) (by simp [numB]; omega) (by simp [listB]), by simp, ⟨by simp, by first | (simp; done) | (simp only; omega)⟩, ⟨_, _, _, _, _, _, _, _, _, rfl, NewV.none _ _ _, NewV.none _ _ _⟩, ?_⟩
    · simp [wOf_wrap]; omega
    · repeat' (refine Dev.setCell ?_ (by simp; omega) _)
      exact D
  · have Bl := (Below.refl B w1).alloc (by omega) (.cells #[.int .i64 23, .int .i64 0, .int .i64 0, .int .i64 0, .int .i64 0, .slice none 0 0, .slice none 0 0, .int .u16 0, .int .u16 0] 26)
    have X1 := Blk.new_at w1 26 [.int .i64 23, .int .i64 0, .int .i64 0, .int .i64 0, .int .i64 0, .slice none 0 0, .slice none 0 0, .int .u16 0, .int .u16 0] (w.heap.size + 1 + 1) S1.symm
    refine (next_any B g l 70 _ (T1.below Bl) (by simp; omega) (by decide)).mono ?_
    rintro e w2 ⟨ax, rfl, a1, a2, T2, S2, D2⟩
    simp at S2
    replace X0 := (X0.alloc _).dev D2 (by simp; omega) (by omega)
    replace X1 := X1.dev D2 (by simp; omega) (by omega)
    replace D := (D.alloc (by omega) _).trans (D2.mono (by simp; omega))
    clear D2 Bl T1
    have d0 := X0.cell 0
    have d1 := X0.cell 1
    have d2 := X0.cell 2
    have d3 := X0.cell 3
    have d4 := X0.cell 4
    have d5 := X0.cell 5
    have d6 := X0.cell 6
    have d7 := X0.cell 7
    have d8 := X0.cell 8
    simp at d0 d1 d2 d3 d4 d5 d6 d7 d8
    have fd := X0.frozen
    have gd := X0.lt
    have c0 := X1.cell 0
    have c1 := X1.cell 1
    have c2 := X1.cell 2
    have c3 := X1.cell 3
    have c4 := X1.cell 4
    have c5 := X1.cell 5
    have c6 := X1.cell 6
    have c7 := X1.cell 7
    have c8 := X1.cell 8
    simp at c0 c1 c2 c3 c4 c5 c6 c7 c8
    have fc := X1.frozen
    have gc := X1.lt
    go_wp2_with fail
    clear c0 d0 c1 d1 c2 d2 c3 d3 c4 d4 c5 d5 c6 d6 c7 d7 c8 d8 fc fd gc gd
    refine (next_any B g l 20 _ T2 (by omega) (by decide)).mono ?_
    rintro e w3 ⟨cx, rfl, cx1, cx2, T3, S3, D3⟩
    rw [S2] at S3
    replace X0 := X0.dev D3 (by omega) (by omega)
    replace X1 := X1.dev D3 (by omega) (by omega)
    replace D := D.trans (D3.mono (by omega))
    clear D3 T2
    have d0 := X0.cell 0
    have d1 := X0.cell 1
    have d2 := X0.cell 2
    have d3 := X0.cell 3
    have d4 := X0.cell 4
    have d5 := X0.cell 5
    have d6 := X0.cell 6
    have d7 := X0.cell 7
    have d8 := X0.cell 8
    simp at d0 d1 d2 d3 d4 d5 d6 d7 d8
    have fd := X0.frozen
    have gd := X0.lt
    have c0 := X1.cell 0
    have c1 := X1.cell 1
    have c2 := X1.cell 2
    have c3 := X1.cell 3
    have c4 := X1.cell 4
    have c5 := X1.cell 5
    have c6 := X1.cell 6
    have c7 := X1.cell 7
    have c8 := X1.cell 8
    simp at c0 c1 c2 c3 c4 c5 c6 c7 c8
    have fc := X1.frozen
    have gc := X1.lt
    go_wp2_with fail
    clear c0 d0 c1 d1 c2 d2 c3 d3 c4 d4 c5 d5 c6 d6 c7 d7 c8 d8 fc fd gc gd
    refine (next_any B g l 40 _ T3 (by omega) (by decide)).mono ?_
    rintro e w4 ⟨px, rfl, px1, px2, T4, S4, D4⟩
    rw [S3] at S4
    replace X0 := X0.dev D4 (by omega) (by omega)
    replace X1 := X1.dev D4 (by omega) (by omega)
    replace D := D.trans (D4.mono (by omega))
    clear D4 T3
    have d0 := X0.cell 0
    have d1 := X0.cell 1
    have d2 := X0.cell 2
    have d3 := X0.cell 3
    have d4 := X0.cell 4
    have d5 := X0.cell 5
    have d6 := X0.cell 6
    have d7 := X0.cell 7
    have d8 := X0.cell 8
    simp at d0 d1 d2 d3 d4 d5 d6 d7 d8
    have fd := X0.frozen
    have gd := X0.lt
    have c0 := X1.cell 0
    have c1 := X1.cell 1
    have c2 := X1.cell 2
    have c3 := X1.cell 3
    have c4 := X1.cell 4
    have c5 := X1.cell 5
    have c6 := X1.cell 6
    have c7 := X1.cell 7
    have c8 := X1.cell 8
    simp at c0 c1 c2 c3 c4 c5 c6 c7 c8
    have fc := X1.frozen
    have gc := X1.lt
    go_wp2_with fail
    clear c0 d0 c1 d1 c2 d2 c3 d3 c4 d4 c5 d5 c6 d6 c7 d7 c8 d8 fc fd gc gd
    replace X0 := ((X0.set_ne (g := w.heap.size + 1 + 1) (by omega) 1 (.int .i64 ax)).set_ne (g := w.heap.size + 1 + 1) (by omega) 2 (.int .i64 cx)).set_ne (g := w.heap.size + 1 + 1) (by omega) 3 (.int .i64 px)
    replace X1 := ((X1.set 1 (.int .i64 ax)).set 2 (.int .i64 cx)).set 3 (.int .i64 px)
    replace D := ((D.setCell (p := ⟨w.heap.size + 1 + 1, 1, none⟩) (by simp; omega) (.int .i64 ax)).setCell (p := ⟨w.heap.size + 1 + 1, 2, none⟩) (by simp; omega) (.int .i64 cx)).setCell (p := ⟨w.heap.size + 1 + 1, 3, none⟩) (by simp; omega) (.int .i64 px)
    have Bl := (((Below.refl B w4).setCell (p := ⟨w.heap.size + 1 + 1, 1, none⟩) (by simp; omega) (.int .i64 ax)).setCell (p := ⟨w.heap.size + 1 + 1, 2, none⟩) (by simp; omega) (.int .i64 cx)).setCell (p := ⟨w.heap.size + 1 + 1, 3, none⟩) (by simp; omega) (.int .i64 px)
    refine (next_any B g l 20 _ (T4.below Bl) (by simp; omega) (by decide)).mono ?_
    rintro e w5 ⟨nx, rfl, nx1, nx2, T5, S5, D5⟩
    simp at S5
    replace X0 := X0.dev D5 (by simp; omega) (by omega)
    replace X1 := X1.dev D5 (by simp; omega) (by omega)
    replace D := D.trans (D5.mono (by simp; omega))
    simp at X1
    clear D5 Bl T4
    obtain ⟨n, rfl⟩ : ∃ n : Nat, nx = (n : Int) := ⟨nx.toNat, by omega⟩
    go_wp2
    go_loopw [7] (fun i wr => ∃ (k : Nat) (bs : List UInt16) (vb : Value), k ≤ n ∧ i = .int .i64 ((n - k : Nat) : Int) ∧ bs.length = k ∧ Blk wr w.heap.size 26 [.int .i64 0, .int .i64 0, .int .i64 0, .int .i64 0, .int .i64 0, .slice none 0 0, .slice none 0 0, .int .u16 0, .int .u16 0] ∧ Blk wr (w.heap.size + 1 + 1) 26 [.int .i64 23, .int .i64 ax, .int .i64 cx, .int .i64 px, .int .i64 0, .slice none 0 0, vb, .int .u16 0, .int .u16 0] ∧ wr.ownsRow (w.heap.size + 1 + 1 + 1) 24 1 vb k (bs.map wV) ∧ Tap B wr g l ∧ Dev B g w wr ∧ w.heap.size + 1 + 1 + 1 ≤ wr.heap.size) (fun i _ => (intOf i).toNat)
    case atStart => exact ⟨0, [], .slice none 0 0, Nat.zero_le _, by simp, rfl, X0, X1, World.ownsRow_nil _ _ _ _, T5, D, by omega⟩
    case round =>
      clear X0 X1 D T5
      obtain ⟨k, bs, vb, hk, rfl, hbl, X0, X1, ho, T, D, hz⟩ := hrel
      have R0 := Row.of_owns ho
      obtain ⟨va, vcap, rfl, -⟩ := id R0
      simp only [List.length_map, hbl] at X1 ho R0
      have d0 := X0.cell 0
      have d1 := X0.cell 1
      have d2 := X0.cell 2
      have d3 := X0.cell 3
      have d4 := X0.cell 4
      have d5 := X0.cell 5
      have d6 := X0.cell 6
      have d7 := X0.cell 7
      have d8 := X0.cell 8
      simp at d0 d1 d2 d3 d4 d5 d6 d7 d8
      have fd := X0.frozen
      have gd := X0.lt
      have c0 := X1.cell 0
      have c1 := X1.cell 1
      have c2 := X1.cell 2
      have c3 := X1.cell 3
      have c4 := X1.cell 4
      have c5 := X1.cell 5
      have c6 := X1.cell 6
      have c7 := X1.cell 7
      have c8 := X1.cell 8
      simp at c0 c1 c2 c3 c4 c5 c6 c7 c8
      have fc := X1.frozen
      have gc := X1.lt
      by_cases hlt : k < n
      · have hlt' : (0 : Int) < ((n - k : Nat) : Int) := by omega
        go_wp2
        clear d0 d1 d2 d3 d4 d5 d6 d7 d8 fd gd c0 c1 c2 c3 c4 c5 c6 c7 c8 fc gc
        refine h_begin 9 rfl (by kernel_rfl) ?_
        replace X0 := X0.drew
        replace X1 := X1.drew
        replace T := T.drew
        replace D := D.drew
        replace ho := owns_below ho ((Below.refl wr.heap.size wr).drew)
        replace hz : w.heap.size + 1 + 1 + 1 ≤ wr.drew.heap.size := hz
        generalize wr.drew = w6 at *
        have c5 : w6.cell? ⟨w.heap.size + 1 + 1, 6, none⟩ = _ := X1.cell 6
        simp at c5
        refine h_P trivial 0 rfl ?_
        refine h_P trivial 2 rfl ?_
        refine h_move2 1 3 (by kernel_rfl) (h_op 1 rfl (by kernel_rfl) (fun K hK => ?_)) (h_op 3 rfl (by kernel_rfl) (fun K hK => ?_))
        focus
          go_simp
          refine hK.out _ _ trivial ?_
          clear K hK
          try simp only [Act.put, PuA, PuB, PuC]
          refine h_move 3 (by kernel_rfl) (h_op 3 rfl (by kernel_rfl) (fun K hK => ?_))
          go_wp2_with fail
          refine (next_any B g l 65536 _ T (by omega) (by decide)).mono ?_
          rintro e w7 ⟨mx, rfl, mx1, mx2, T7, S7, D7⟩
          have hz7 : w.heap.size + 1 + 1 + 1 ≤ w7.heap.size := by omega
          clear S7
          go_simp
          refine hK.out _ _ trivial ?_
          clear K hK
          try simp only [Act.put, PuA, PuB, PuC]
          have wx : IntKind.u16.wrap mx = mx := by rw [IntKind.wrap_u16]; omega
          refine h_P trivial 4 rfl ?_
          refine h_move 5 (by kernel_rfl) (h_op 5 rfl (by kernel_rfl) (fun K hK => ?_))
          go_simp
          refine hK.out _ _ trivial ?_
          clear K hK
          try simp only [Act.put, PuA, PuB, PuC]
        rotate_left
        focus
          go_wp2_with fail
          refine (next_any B g l 65536 _ T (by omega) (by decide)).mono ?_
          rintro e w7 ⟨mx, rfl, mx1, mx2, T7, S7, D7⟩
          have hz7 : w.heap.size + 1 + 1 + 1 ≤ w7.heap.size := by omega
          clear S7
          go_simp
          refine hK.out _ _ trivial ?_
          clear K hK
          try simp only [Act.put, PuA, PuB, PuC]
          have wx : IntKind.u16.wrap mx = mx := by rw [IntKind.wrap_u16]; omega
          refine h_P trivial 4 rfl ?_
          have c7 : w7.cell? ⟨w.heap.size + 1 + 1, 6, none⟩ = _ := (X1.dev D7 (by omega) (by omega)).cell 6
          simp at c7
          have lt7 : w.heap.size + 1 + 1 < w7.heap.size := by omega
          refine h_move2 1 5 (by kernel_rfl) (h_op 1 rfl (by kernel_rfl) (fun K hK => ?_)) (h_op 5 rfl (by kernel_rfl) (fun K hK => ?_))
          focus
            go_simp
            refine hK.out _ _ trivial ?_
            clear K hK
            try simp only [Act.put, PuA, PuB, PuC]
            refine h_move 5 (by kernel_rfl) (h_op 5 rfl (by kernel_rfl) (fun K hK => ?_))
            go_simp
            refine hK.out _ _ trivial ?_
            clear K hK
            try simp only [Act.put, PuA, PuB, PuC]
            clear c7
          rotate_left
          focus
            go_simp
            refine hK.out _ _ trivial ?_
            clear K hK
            try simp only [Act.put, PuA, PuB, PuC]
            refine h_move 1 (by kernel_rfl) (h_op 1 rfl (by kernel_rfl) (fun K hK => ?_))
            go_simp
            refine hK.out _ _ trivial ?_
            clear K hK
            try simp only [Act.put, PuA, PuB, PuC]
            clear c7
        all_goals
          replace X0 := X0.dev D7 (by omega) (by omega)
          replace X1 := X1.dev D7 (by omega) (by omega)
          replace ho := owns_dev ho D7 (by omega)
          replace D := D.trans (D7.mono (by omega))
          clear D7 T c5
          have Rn := row_new w7 [.int .u16 mx] 24 1 rfl (by decide)
          refine h_move 6 (by kernel_rfl) (h_op 6 rfl (by kernel_rfl) (fun K hK => ?_))
          refine wp_app (.tmp 132) (.tmp 136) 23 rfl (w.heap.size + 1 + 1 + 1) 24 (.int .u16 0) 2 Try.underlying23 info_u16 rfl rfl (ho.alloc _) rfl Rn (by intro u hu; simp at hu; subst hu; rfl) (by simp [maxLen]; omega) (by simp; omega) (by simp; omega) ?_
          intro v8 w8 ho8 hg8
          refine hK.out _ _ trivial ?_
          clear K hK
          try simp only [Act.put, PuA, PuB, PuC]
          replace X0 := (X0.alloc (.cells #[.int .u16 mx] 24)).grown hg8 (fun r hr => by have := (ho.lt r hr).1; omega)
          replace X1 := (X1.alloc (.cells #[.int .u16 mx] 24)).grown hg8 (fun r hr => by have := (ho.lt r hr).1; omega)
          have Bl := ((Below.refl B w7).alloc (by omega) (.cells #[.int .u16 mx] 24)).grown hg8 (by simp; omega) (fun r hr => by have := (ho.lt r hr).1; omega)
          replace T7 := T7.below Bl
          replace D := D.trans (Dev.of_below Bl)
          have hz8 : w.heap.size + 1 + 1 + 1 ≤ w8.heap.size := by have := hg8.size; simp at this; omega
          clear Bl hg8 Rn ho R0
          refine h_P trivial 7 rfl ?_
          have R8 := Row.of_owns ho8
          obtain ⟨va8, vcap8, rfl, -⟩ := id R8
          have c5 : w8.cell? ⟨w.heap.size + 1 + 1, 6, none⟩ = _ := X1.cell 6
          simp at c5
          have f5 := X1.frozen
          refine h_move 8 (by kernel_rfl) (h_op 8 rfl (by kernel_rfl) (fun K hK => ?_))
          go_simp
          refine hK.out _ _ trivial ?_
          clear K hK c5 f5
          try simp only [Act.put, PuA, PuB, PuC]
          refine h_done (by kernel_rfl) ?_
          go_wp2
          go_roundw
          case rel =>
            refine ⟨k + 1, bs ++ [wOf mx], _, by omega, by congr 1; omega, by simp [hbl], X0.set_ne (by omega) 6 _, by simpa using X1.set 6 _, ?_, T7.below ((Below.refl B w8).setCell (p := ⟨w.heap.size + 1 + 1, 6, none⟩) (by simp; omega) _), D.setCell (p := ⟨w.heap.size + 1 + 1, 6, none⟩) (by simp; omega) _, by simpa using hz8⟩
            have e : bs.map wV ++ [Value.int .u16 mx] = (bs ++ [wOf mx]).map wV := by simp [wV, wOf_wrap]; omega
            rw [e] at ho8
            have ho9 := owns_setCell (u := .slice va8 (k + 1) vcap8) ho8 (w.heap.size + 1 + 1) 6 (by omega)
            simp [hbl] at ho9 ⊢
            exact ho9
          case measure => simp [intOf]; omega
      · have hkn : k = n := by omega
        subst hkn
        have hlt' : ¬ (0 : Int) < ((k - k : Nat) : Int) := by omega
        go_wp2
        refine bodyPost_ret (v := _) (by simp [results, Try.results6, go_sem, d0, d1, d2, d3, d4, d5, d6, d7, d8]; with_reducible rfl) rfl ?_
        refine ⟨_, rfl, ⟨23, ax, cx, px, 0, [], bs, 0, 0⟩, ⟨_, _, rfl, Row.nil _, ?r⟩, rightE_0 rfl (by simp [formP]) (by simp [numB]; omega) (by simp [listB, hbl]; omega), by simp, ⟨by simp [hbl]; omega, by first | (simp; done) | (simp only; omega)⟩, ⟨_, _, _, _, _, _, _, _, _, rfl, NewV.none _ _ _, (NewV.of_owns ho).le (by omega)⟩, ?_⟩
        case r =>
          repeat' (refine Row.setCell_new ?_ (NewV.of_owns ho) (by omega))
          exact R0
        · repeat' (refine Dev.setCell ?_ (by simp; omega) _)
          exact D
end Go.Proofs.Ytbajlhpmmmhkoaa
