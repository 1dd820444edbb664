/- (*Tape).Request: a right request, whatever the tape. -/
import Derived.Deep.CutBlock
import Derived.Test.YtdihcdphgiaepaaGreatZZ14
import Derived.Test.YtdihcdphgiaepaaGreatZZ11
namespace Go.Proofs.YtdihcdphgiaepaaGreat
open Go.RowKit
theorem owns_dev {w w' : World} {base g : Nat} {e : TypeId} {v : Value} {n : Nat} {xs : List Value} (h : w.ownsRow base e 1 v n xs) (hd : Dev w.heap.size g w w') (hg : g < base) : w'.ownsRow base e 1 v n xs := by
 refine h.kept (w' := w') (row := some g) ⟨hd.os, hd.tape, hd.output, hd.size, fun k hk hne => hd.block k hk (fun e => hne (by rw [e]))⟩ ?_;rcases h.2 with ⟨rfl, -⟩ | ⟨g', cap, cur, rfl, hb, -⟩
 ·
  simp [Value.ownBlock]
 ·
  simp [Value.ownBlock]; omega
theorem Blk.grown {w w' : World} {k : Nat} {e : TypeId} {xs : List Value} {row : Option Nat} (h : Blk w k e xs) (hg : w.grownBy w' row) (hr : ∀ r, row = Option.some r → k < r) : Blk w' k e xs :=
 (hg.block k h.lt (fun e => by have := hr k e.symm; omega)).trans h
theorem owns_setCell {w : World} {base : Nat} {e : TypeId} {v u : Value} {n : Nat} {xs : List Value} (h : w.ownsRow base e 1 v n xs) (g o : Nat) (hg : g < base) : (w.setCell ⟨g, o, none⟩ u).ownsRow base e 1 v n xs := by
 refine h.kept (w' := w.setCell ⟨g, o, none⟩ u) (row := some g) ⟨rfl, rfl, rfl, by simp, fun k hk hne => ?_⟩ ?_
 ·
  simp only [World.setCell, Array.getElem?_modify];rw [if_neg (fun e => hne (by rw [e]))]
 ·
  rcases h.2 with ⟨rfl, -⟩ | ⟨g', cap, cur, rfl, hb, -⟩
  ·
   simp [Value.ownBlock]
  ·
   simp [Value.ownBlock]; omega
theorem sub_at (m : Int) (h1 : 0 ≤ m) (h2 : m < 8) : ∃ sv : Int, ([.int .i64 0, .int .i64 10, .int .i64 11, .int .i64 12, .int .i64 13, .int .i64 14, .int .i64 2, .int .i64 300] : List Value)[m.toNat]? = some (.int .i64 sv) ∧ 0 ≤ sv ∧ sv ≤ 300 := by
 rcases (show m = 0 ∨ m = 1 ∨ m = 2 ∨ m = 3 ∨ m = 4 ∨ m = 5 ∨ m = 6 ∨ m = 7 by omega) with rfl | rfl | rfl | rfl | rfl | rfl | rfl | rfl
 all_goals exact ⟨_, rfl, by decide, by decide⟩
theorem val_at (m : Int) (h1 : 0 ≤ m) (h2 : m < 4) : ∃ uv : Int, ([.int .u16 0, .int .u16 0, .int .u16 0, .int .u16 777] : List Value)[m.toNat]? = some (.int .u16 uv) ∧ 0 ≤ uv ∧ uv ≤ 777 := by
 rcases (show m = 0 ∨ m = 1 ∨ m = 2 ∨ m = 3 by omega) with rfl | rfl | rfl | rfl
 all_goals exact ⟨_, rfl, by decide, by decide⟩
theorem row_w_of_blk {w : World} {b : Nat} {uv : Int} (h : Blk w b 31 [.int .u16 uv]) (hu : 0 ≤ uv ∧ uv < 65536) : Row w (.slice (some ⟨b, 0, none⟩) 1 1) ([wOf uv].map wV) := by
 refine ⟨some ⟨b, 0, none⟩, 1, rfl, Nat.le_refl _, by unfold maxLen; omega, fun h => absurd h (by simp), .inr ⟨b, 0, rfl, fun i hi => ?_⟩⟩;have hi : i = 0 := by simp at hi; omega
 subst hi;have := h.cell 0;simp [wV, wOf_wrap] at this ⊢;rw [this]
 simp; omega
variable [Keep]
theorem tapk_set {B : Nat} {w : World} {g : Nat} {l : List Int} {p : Addr} (h : TapK B w g l) (hp : B ≤ p.block) (v : Value) : TapK B (w.setCell p v) g l := h.below ((Below.refl B w).setCell hp v)
theorem tapk_alloc {B : Nat} {w : World} {g : Nat} {l : List Int} (h : TapK B w g l) (hB : B ≤ w.heap.size) (o : Obj) : TapK B (w.alloc o) g l := h.below ((Below.refl B w).alloc hB o)
theorem TapK.drew {B : Nat} {w : World} {g : Nat} {l : List Int} (h : TapK B w g l) : TapK B w.drew g l := h.below (Below.refl _ _).drew
def IvRk (B g W : Nat) (l : List Int) (w : World) : Prop := TapK B w g l ∧ W + 1 + 1 + 1 ≤ w.heap.size ∧ ∃ c : Int, 0 ≤ c ∧ c ≤ 300 ∧ Blk w (W + 1 + 1) 33 [.int .i64 8, .int .i64 0, .int .i64 0, .int .i64 0, .int .i64 c, .slice none 0 0, .slice none 0 0, .int .u16 0, .int .u16 0]
def TrRk (B g W : Nat) (l : List Int) (w w' : World) : Prop := w.heap.size ≤ w'.heap.size ∧ (∀ k, W ≤ k → k ≠ W + 1 + 1 → k < w.heap.size → w'.heap[k]? = w.heap[k]?) ∧ (IvRk B g W l w → IvRk B g W l w' ∧ Dev W g w w')
theorem TrRk.refl {B g W : Nat} {l : List Int} (w : World) : TrRk B g W l w w := ⟨Nat.le_refl _, fun _ _ _ _ => rfl, fun h => ⟨h, Dev.refl _ _ _⟩⟩
theorem TrRk.trans {B g W : Nat} {l : List Int} (a b c : World) (h : TrRk B g W l a b) (k : TrRk B g W l b c) : TrRk B g W l a c :=
 ⟨Nat.le_trans h.1 k.1, fun i h1 h2 h3 => (k.2.1 i h1 h2 (Nat.lt_of_lt_of_le h3 h.1)).trans (h.2.1 i h1 h2 h3), fun x => ⟨(k.2.2 (h.2.2 x).1).1, (h.2.2 x).2.trans (k.2.2 (h.2.2 x).1).2⟩⟩
theorem TrRk.alloc {B g W : Nat} {l : List Int} (hB : B ≤ W) (y : World) (o : Obj) : TrRk B g W l y (y.alloc o) := by
 have Bl := (Below.refl y.heap.size y).alloc (Nat.le_refl _) o;refine ⟨Bl.size, fun k _ _ hk => Bl.block k hk, fun ⟨T, z, c, c1, c2, X⟩ => ⟨⟨T.below (Bl.mono (by omega)), by have := Bl.size; omega, c, c1, c2, X.below Bl X.lt⟩, Dev.of_below (Bl.mono (by omega))⟩⟩
theorem TrRk.next {B g W : Nat} {l : List Int} {y y' : World} (hg : g < B) (hB : B ≤ W) (T' : TapK B y' g l) (S' : y'.heap.size = y.heap.size) (D' : Dev y.heap.size g y y') : TrRk B g W l y y' :=
 ⟨by omega, fun k h1 _ hk => D'.block k hk (by omega), fun ⟨_, z, c, c1, c2, X⟩ => ⟨⟨T', by omega, c, c1, c2, X.dev D' X.lt (by omega)⟩, D'.mono (by omega)⟩⟩
theorem TrRk.store {B g W : Nat} {l : List Int} {y : World} {c' : Int} (_hg : g < B) (hB : B ≤ W) (h1 : 0 ≤ c') (h2 : c' ≤ 300) (h : IvRk B g W l y) : TrRk B g W l y (y.setCell ⟨W + 1 + 1, 4, none⟩ (.int .i64 c')) := by
 obtain ⟨T, z, c, c1, c2, X⟩ := h;refine ⟨by simp, fun k _ hk _ => ?_, fun _ => ⟨⟨T.below ((Below.refl B y).setCell (p := ⟨W + 1 + 1, 4, none⟩) (by simp <;> omega) _), by simpa using z, c', h1, h2, by simpa using X.set 4 (.int .i64 c')⟩, (Dev.refl W g y).setCell (p := ⟨W + 1 + 1, 4, none⟩) (by simp <;> omega) _⟩⟩;simp only [World.setCell, Array.getElem?_modify];rw [if_neg (fun e => hk e.symm)]
def PsRk (W i : Nat) (v : Value) (w : World) : Prop :=
 match i with
 | 0 => ∃ b, v = .slice (some ⟨b, 0, none⟩) 8 8 ∧ W + 1 + 1 + 1 ≤ b ∧ Blk w b 3 [.int .i64 0, .int .i64 10, .int .i64 11, .int .i64 12, .int .i64 13, .int .i64 14, .int .i64 2, .int .i64 300]
 | 5 => ∃ b, v = .slice (some ⟨b, 0, none⟩) 4 4 ∧ W + 1 + 1 + 1 ≤ b ∧ Blk w b 31 [.int .u16 0, .int .u16 0, .int .u16 0, .int .u16 777]
 | 3 => ∃ b, ∃ mx : Int, v = .pointer (some ⟨b, mx.toNat, none⟩) ∧ W + 1 + 1 + 1 ≤ b ∧ Blk w b 3 [.int .i64 0, .int .i64 10, .int .i64 11, .int .i64 12, .int .i64 13, .int .i64 14, .int .i64 2, .int .i64 300] ∧ 0 ≤ mx ∧ mx < 8
 | 8 => ∃ b, ∃ mx : Int, v = .pointer (some ⟨b, mx.toNat, none⟩) ∧ W + 1 + 1 + 1 ≤ b ∧ Blk w b 31 [.int .u16 0, .int .u16 0, .int .u16 0, .int .u16 777] ∧ 0 ≤ mx ∧ mx < 4
 | 10 => ∃ b, ∃ uv : Int, v = .slice (some ⟨b, 0, none⟩) 1 1 ∧ W + 1 + 1 + 1 ≤ b ∧ 0 ≤ uv ∧ uv ≤ 777 ∧ Blk w b 31 [.int .u16 uv]
 | 2 => ∃ m : Int, v = .int .i64 m ∧ 0 ≤ m ∧ m < 8
 | 7 => ∃ m : Int, v = .int .i64 m ∧ 0 ≤ m ∧ m < 4
 | 4 => ∃ m : Int, v = .int .i64 m ∧ 0 ≤ m ∧ m ≤ 300
 | 9 => ∃ m : Int, v = .int .u16 m ∧ 0 ≤ m ∧ m ≤ 777
 | 11 => v = .pointer (some ⟨W + 1 + 1, 4, none⟩)
 | _ => True
theorem Blk.tr {B g W b : Nat} {l : List Int} {w w' : World} {e : TypeId} {xs : List Value} (h : Blk w b e xs) (hx : TrRk B g W l w w') (hb : W + 1 + 1 + 1 ≤ b) : Blk w' b e xs := (hx.2.1 b (by omega) (by omega) h.lt).trans h
theorem PsRk.tr {B g W : Nat} {l : List Int} (i : Nat) (v : Value) (w w' : World) (h : PsRk W i v w) (hx : TrRk B g W l w w') : PsRk W i v w' := by
 unfold PsRk at h ⊢
 split at h
 ·
  obtain ⟨b, e, hb, P⟩ := h; exact ⟨b, e, hb, P.tr hx hb⟩
 ·
  obtain ⟨b, e, hb, P⟩ := h; exact ⟨b, e, hb, P.tr hx hb⟩
 ·
  obtain ⟨b, m, e, hb, P, h⟩ := h; exact ⟨b, m, e, hb, P.tr hx hb, h⟩
 ·
  obtain ⟨b, m, e, hb, P, h⟩ := h; exact ⟨b, m, e, hb, P.tr hx hb, h⟩
 ·
  obtain ⟨b, m, e, hb, h1, h2, P⟩ := h; exact ⟨b, m, e, hb, h1, h2, P.tr hx hb⟩
 ·
  exact h
 ·
  exact h
 ·
  exact h
 ·
  exact h
 ·
  exact h
 ·
  trivial
set_option maxRecDepth 100000 in
set_option maxHeartbeats 20000000 in
theorem request_k (B g : Nat) (l : List Int) (w : World) (hT : TapK B w g l) (hB : B ≤ w.heap.size) :
  Calls Tryz.prog 11 #[.pointer (some ⟨g, 0, none⟩)] w fun e w' => ∃ v', e = .returned v' ∧ ∃ q, IsRq w' v' q ∧ rightE q = 0 ∧ q.bits.length ≤ 30 ∧ (q.vals.length ≤ 30 ∧ q.cnt ≤ 30) ∧ NewQ w.heap.size v' ∧ Dev w.heap.size g w w' ∧ TapK B w' g l := by
 have hgB := hT.lt;go_enter Tryz.func11, Tryz.ntmps11;go_wp2_with (go_at_call 27; refine (functions_any _).mono ?_; rintro e w1 ⟨rfl, rfl⟩)
 have X0 := (Blk.new w 33 [.int .i64 0, .int .i64 0, .int .i64 0, .int .i64 0, .int .i64 0, .slice none 0 0, .slice none 0 0, .int .u16 0, .int .u16 0]).alloc (.cells #[.int .i64 1, .int .i64 2, .int .i64 3, .int .i64 4, .int .i64 5, .int .i64 6, .int .i64 8, .int .i64 15, .int .i64 16, .int .i64 17, .int .i64 22, .int .i64 23] 3);have XF := Blk.new_at (w.alloc (.cells #[.int .i64 0, .int .i64 0, .int .i64 0, .int .i64 0, .int .i64 0, .slice none 0 0, .slice none 0 0, .int .u16 0, .int .u16 0] 33)) 3 [.int .i64 1, .int .i64 2, .int .i64 3, .int .i64 4, .int .i64 5, .int .i64 6, .int .i64 8, .int .i64 15, .int .i64 16, .int .i64 17, .int .i64 22, .int .i64 23] (w.heap.size + 1) (by simp);have Bl := ((Below.refl w.heap.size w).alloc (Nat.le_refl _) (.cells #[.int .i64 0, .int .i64 0, .int .i64 0, .int .i64 0, .int .i64 0, .slice none 0 0, .slice none 0 0, .int .u16 0, .int .u16 0] 33)).alloc (by simp <;> omega) (.cells #[.int .i64 1, .int .i64 2, .int .i64 3, .int .i64 4, .int .i64 5, .int .i64 6, .int .i64 8, .int .i64 15, .int .i64 16, .int .i64 17, .int .i64 22, .int .i64 23] 3);refine (next_k B g l 12 _ (hT.below (Bl.mono hB)) (by simp <;> omega) (by decide)).mono ?_;rintro e w1 ⟨m, rfl, m1, m2, T1, S1, D1⟩;simp at S1;replace X0 := X0.dev D1 (by simp <;> omega) (by omega);replace XF := XF.dev D1 (by simp) (by omega);have D : Dev w.heap.size g w w1 := (Dev.of_below Bl).trans (D1.mono (by simp <;> omega));clear D1 Bl hT;have k0 := XF.cell 0;have k1 := XF.cell 1;have k2 := XF.cell 2;have k3 := XF.cell 3;have k4 := XF.cell 4;have k5 := XF.cell 5;have k6 := XF.cell 6;have k7 := XF.cell 7;have k8 := XF.cell 8;have k9 := XF.cell 9;have k10 := XF.cell 10;have k11 := XF.cell 11;simp at k0 k1 k2 k3 k4 k5 k6 k7 k8 k9 k10 k11;clear XF;rcases (show m = 0 ∨ m = 1 ∨ m = 2 ∨ m = 3 ∨ m = 4 ∨ m = 5 ∨ m = 6 ∨ m = 7 ∨ m = 8 ∨ m = 9 ∨ m = 10 ∨ m = 11 by omega) with rfl | rfl | rfl | rfl | rfl | rfl | rfl | rfl | rfl | rfl | rfl | rfl
 all_goals
  clear m1 m2;go_wp2_with fail
  clear k0 k1 k2 k3 k4 k5 k6 k7 k8 k9 k10 k11
 ·
  have Bl := (Below.refl w.heap.size w1).alloc (by omega) (.cells #[.int .i64 1, .int .i64 0, .int .i64 0, .int .i64 0, .int .i64 0, .slice none 0 0, .slice none 0 0, .int .u16 0, .int .u16 0] 33);have X1 := Blk.new_at w1 33 [.int .i64 1, .int .i64 0, .int .i64 0, .int .i64 0, .int .i64 0, .slice none 0 0, .slice none 0 0, .int .u16 0, .int .u16 0] (w.heap.size + 1 + 1) S1.symm;refine (next_k B g l 70 _ (T1.below (Bl.mono hB)) (by simp <;> omega) (by decide)).mono ?_;rintro e w2 ⟨ax, rfl, a1, a2, T2, S2, D2⟩;simp at S2;replace X0 := (X0.alloc _).dev D2 (by simp <;> omega) (by omega);replace X1 := X1.dev D2 (by simp <;> omega) (by omega);replace D := (D.alloc (by omega) _).trans (D2.mono (by simp <;> omega));clear D2 Bl T1;have d0 := X0.cell 0;have d1 := X0.cell 1;have d2 := X0.cell 2;have d3 := X0.cell 3;have d4 := X0.cell 4;have d5 := X0.cell 5;have d6 := X0.cell 6;have d7 := X0.cell 7;have d8 := X0.cell 8;simp at d0 d1 d2 d3 d4 d5 d6 d7 d8;have fd := X0.frozen;have gd := X0.lt;have c0 := X1.cell 0;have c1 := X1.cell 1;have c2 := X1.cell 2;have c3 := X1.cell 3;have c4 := X1.cell 4;have c5 := X1.cell 5;have c6 := X1.cell 6;have c7 := X1.cell 7;have c8 := X1.cell 8;simp at c0 c1 c2 c3 c4 c5 c6 c7 c8;have fc := X1.frozen;have gc := X1.lt;go_wp2_with fail
  clear c0 d0 c1 d1 c2 d2 c3 d3 c4 d4 c5 d5 c6 d6 c7 d7 c8 d8 fc fd gc gd;refine (next_k B g l 26 _ T2 (by omega) (by decide)).mono ?_;rintro e w3 ⟨cx, rfl, cx1, cx2, T3, S3, D3⟩;rw [S2] at S3;replace X0 := X0.dev D3 (by omega) (by omega);replace X1 := X1.dev D3 (by omega) (by omega);replace D := D.trans (D3.mono (by omega));clear D3 T2;have d0 := X0.cell 0;have d1 := X0.cell 1;have d2 := X0.cell 2;have d3 := X0.cell 3;have d4 := X0.cell 4;have d5 := X0.cell 5;have d6 := X0.cell 6;have d7 := X0.cell 7;have d8 := X0.cell 8;simp at d0 d1 d2 d3 d4 d5 d6 d7 d8;have fd := X0.frozen;have gd := X0.lt;have c0 := X1.cell 0;have c1 := X1.cell 1;have c2 := X1.cell 2;have c3 := X1.cell 3;have c4 := X1.cell 4;have c5 := X1.cell 5;have c6 := X1.cell 6;have c7 := X1.cell 7;have c8 := X1.cell 8;simp at c0 c1 c2 c3 c4 c5 c6 c7 c8;have fc := X1.frozen;have gc := X1.lt;go_wp2;refine bodyPost_ret (v := _) (by simp [results, Tryz.results11, go_sem, d0, d1, d2, d3, d4, d5, d6, d7, d8]; with_reducible rfl) rfl ?_;refine ⟨_, rfl, ⟨1, ax, cx, 0, 0, [], [], 0, 0⟩, ⟨_, _, rfl, Row.nil _, Row.nil _⟩, rightE_0 rfl (by simp [formP]) (by simp [numB]; omega) (by simp [listB]), by simp, ⟨by simp, by first | (simp; done) | (simp only; omega)⟩, ⟨_, _, _, _, _, _, _, _, _, rfl, NewV.none _ _ _, NewV.none _ _ _⟩, ?_⟩;refine ⟨?_, ?_⟩
  ·
   repeat' (refine Dev.setCell ?_ (by simp <;> omega) _)
   exact D
  ·
   repeat' (refine tapk_set ?_ (by simp <;> omega) _)
   assumption
 ·
  have Bl := (Below.refl w.heap.size w1).alloc (by omega) (.cells #[.int .i64 2, .int .i64 0, .int .i64 0, .int .i64 0, .int .i64 0, .slice none 0 0, .slice none 0 0, .int .u16 0, .int .u16 0] 33);have X1 := Blk.new_at w1 33 [.int .i64 2, .int .i64 0, .int .i64 0, .int .i64 0, .int .i64 0, .slice none 0 0, .slice none 0 0, .int .u16 0, .int .u16 0] (w.heap.size + 1 + 1) S1.symm;refine (next_k B g l 70 _ (T1.below (Bl.mono hB)) (by simp <;> omega) (by decide)).mono ?_;rintro e w2 ⟨ax, rfl, a1, a2, T2, S2, D2⟩;simp at S2;replace X0 := (X0.alloc _).dev D2 (by simp <;> omega) (by omega);replace X1 := X1.dev D2 (by simp <;> omega) (by omega);replace D := (D.alloc (by omega) _).trans (D2.mono (by simp <;> omega));clear D2 Bl T1;have d0 := X0.cell 0;have d1 := X0.cell 1;have d2 := X0.cell 2;have d3 := X0.cell 3;have d4 := X0.cell 4;have d5 := X0.cell 5;have d6 := X0.cell 6;have d7 := X0.cell 7;have d8 := X0.cell 8;simp at d0 d1 d2 d3 d4 d5 d6 d7 d8;have fd := X0.frozen;have gd := X0.lt;have c0 := X1.cell 0;have c1 := X1.cell 1;have c2 := X1.cell 2;have c3 := X1.cell 3;have c4 := X1.cell 4;have c5 := X1.cell 5;have c6 := X1.cell 6;have c7 := X1.cell 7;have c8 := X1.cell 8;simp at c0 c1 c2 c3 c4 c5 c6 c7 c8;have fc := X1.frozen;have gc := X1.lt;go_wp2_with fail
  clear c0 d0 c1 d1 c2 d2 c3 d3 c4 d4 c5 d5 c6 d6 c7 d7 c8 d8 fc fd gc gd;refine (next_k B g l 26 _ T2 (by omega) (by decide)).mono ?_;rintro e w3 ⟨cx, rfl, cx1, cx2, T3, S3, D3⟩;rw [S2] at S3;replace X0 := X0.dev D3 (by omega) (by omega);replace X1 := X1.dev D3 (by omega) (by omega);replace D := D.trans (D3.mono (by omega));clear D3 T2;have d0 := X0.cell 0;have d1 := X0.cell 1;have d2 := X0.cell 2;have d3 := X0.cell 3;have d4 := X0.cell 4;have d5 := X0.cell 5;have d6 := X0.cell 6;have d7 := X0.cell 7;have d8 := X0.cell 8;simp at d0 d1 d2 d3 d4 d5 d6 d7 d8;have fd := X0.frozen;have gd := X0.lt;have c0 := X1.cell 0;have c1 := X1.cell 1;have c2 := X1.cell 2;have c3 := X1.cell 3;have c4 := X1.cell 4;have c5 := X1.cell 5;have c6 := X1.cell 6;have c7 := X1.cell 7;have c8 := X1.cell 8;simp at c0 c1 c2 c3 c4 c5 c6 c7 c8;have fc := X1.frozen;have gc := X1.lt;go_wp2;refine bodyPost_ret (v := _) (by simp [results, Tryz.results11, go_sem, d0, d1, d2, d3, d4, d5, d6, d7, d8]; with_reducible rfl) rfl ?_;refine ⟨_, rfl, ⟨2, ax, cx, 0, 0, [], [], 0, 0⟩, ⟨_, _, rfl, Row.nil _, Row.nil _⟩, rightE_0 rfl (by simp [formP]) (by simp [numB]; omega) (by simp [listB]), by simp, ⟨by simp, by first | (simp; done) | (simp only; omega)⟩, ⟨_, _, _, _, _, _, _, _, _, rfl, NewV.none _ _ _, NewV.none _ _ _⟩, ?_⟩;refine ⟨?_, ?_⟩
  ·
   repeat' (refine Dev.setCell ?_ (by simp <;> omega) _)
   exact D
  ·
   repeat' (refine tapk_set ?_ (by simp <;> omega) _)
   assumption
 ·
  have Bl := (Below.refl w.heap.size w1).alloc (by omega) (.cells #[.int .i64 3, .int .i64 0, .int .i64 0, .int .i64 0, .int .i64 0, .slice none 0 0, .slice none 0 0, .int .u16 0, .int .u16 0] 33);have X1 := Blk.new_at w1 33 [.int .i64 3, .int .i64 0, .int .i64 0, .int .i64 0, .int .i64 0, .slice none 0 0, .slice none 0 0, .int .u16 0, .int .u16 0] (w.heap.size + 1 + 1) S1.symm;refine (next_k B g l 70 _ (T1.below (Bl.mono hB)) (by simp <;> omega) (by decide)).mono ?_;rintro e w2 ⟨ax, rfl, a1, a2, T2, S2, D2⟩;simp at S2;replace X0 := (X0.alloc _).dev D2 (by simp <;> omega) (by omega);replace X1 := X1.dev D2 (by simp <;> omega) (by omega);replace D := (D.alloc (by omega) _).trans (D2.mono (by simp <;> omega));clear D2 Bl T1;have d0 := X0.cell 0;have d1 := X0.cell 1;have d2 := X0.cell 2;have d3 := X0.cell 3;have d4 := X0.cell 4;have d5 := X0.cell 5;have d6 := X0.cell 6;have d7 := X0.cell 7;have d8 := X0.cell 8;simp at d0 d1 d2 d3 d4 d5 d6 d7 d8;have fd := X0.frozen;have gd := X0.lt;have c0 := X1.cell 0;have c1 := X1.cell 1;have c2 := X1.cell 2;have c3 := X1.cell 3;have c4 := X1.cell 4;have c5 := X1.cell 5;have c6 := X1.cell 6;have c7 := X1.cell 7;have c8 := X1.cell 8;simp at c0 c1 c2 c3 c4 c5 c6 c7 c8;have fc := X1.frozen;have gc := X1.lt;go_wp2_with fail
  clear c0 d0 c1 d1 c2 d2 c3 d3 c4 d4 c5 d5 c6 d6 c7 d7 c8 d8 fc fd gc gd;refine (next_k B g l 26 _ T2 (by omega) (by decide)).mono ?_;rintro e w3 ⟨cx, rfl, cx1, cx2, T3, S3, D3⟩;rw [S2] at S3;replace X0 := X0.dev D3 (by omega) (by omega);replace X1 := X1.dev D3 (by omega) (by omega);replace D := D.trans (D3.mono (by omega));clear D3 T2;have d0 := X0.cell 0;have d1 := X0.cell 1;have d2 := X0.cell 2;have d3 := X0.cell 3;have d4 := X0.cell 4;have d5 := X0.cell 5;have d6 := X0.cell 6;have d7 := X0.cell 7;have d8 := X0.cell 8;simp at d0 d1 d2 d3 d4 d5 d6 d7 d8;have fd := X0.frozen;have gd := X0.lt;have c0 := X1.cell 0;have c1 := X1.cell 1;have c2 := X1.cell 2;have c3 := X1.cell 3;have c4 := X1.cell 4;have c5 := X1.cell 5;have c6 := X1.cell 6;have c7 := X1.cell 7;have c8 := X1.cell 8;simp at c0 c1 c2 c3 c4 c5 c6 c7 c8;have fc := X1.frozen;have gc := X1.lt;go_wp2;refine bodyPost_ret (v := _) (by simp [results, Tryz.results11, go_sem, d0, d1, d2, d3, d4, d5, d6, d7, d8]; with_reducible rfl) rfl ?_;refine ⟨_, rfl, ⟨3, ax, cx, 0, 0, [], [], 0, 0⟩, ⟨_, _, rfl, Row.nil _, Row.nil _⟩, rightE_0 rfl (by simp [formP]) (by simp [numB]; omega) (by simp [listB]), by simp, ⟨by simp, by first | (simp; done) | (simp only; omega)⟩, ⟨_, _, _, _, _, _, _, _, _, rfl, NewV.none _ _ _, NewV.none _ _ _⟩, ?_⟩;refine ⟨?_, ?_⟩
  ·
   repeat' (refine Dev.setCell ?_ (by simp <;> omega) _)
   exact D
  ·
   repeat' (refine tapk_set ?_ (by simp <;> omega) _)
   assumption
 ·
  have Bl := (Below.refl w.heap.size w1).alloc (by omega) (.cells #[.int .i64 4, .int .i64 0, .int .i64 0, .int .i64 0, .int .i64 0, .slice none 0 0, .slice none 0 0, .int .u16 0, .int .u16 0] 33);have X1 := Blk.new_at w1 33 [.int .i64 4, .int .i64 0, .int .i64 0, .int .i64 0, .int .i64 0, .slice none 0 0, .slice none 0 0, .int .u16 0, .int .u16 0] (w.heap.size + 1 + 1) S1.symm;refine (next_k B g l 70 _ (T1.below (Bl.mono hB)) (by simp <;> omega) (by decide)).mono ?_;rintro e w2 ⟨ax, rfl, a1, a2, T2, S2, D2⟩;simp at S2;replace X0 := (X0.alloc _).dev D2 (by simp <;> omega) (by omega);replace X1 := X1.dev D2 (by simp <;> omega) (by omega);replace D := (D.alloc (by omega) _).trans (D2.mono (by simp <;> omega));clear D2 Bl T1;have d0 := X0.cell 0;have d1 := X0.cell 1;have d2 := X0.cell 2;have d3 := X0.cell 3;have d4 := X0.cell 4;have d5 := X0.cell 5;have d6 := X0.cell 6;have d7 := X0.cell 7;have d8 := X0.cell 8;simp at d0 d1 d2 d3 d4 d5 d6 d7 d8;have fd := X0.frozen;have gd := X0.lt;have c0 := X1.cell 0;have c1 := X1.cell 1;have c2 := X1.cell 2;have c3 := X1.cell 3;have c4 := X1.cell 4;have c5 := X1.cell 5;have c6 := X1.cell 6;have c7 := X1.cell 7;have c8 := X1.cell 8;simp at c0 c1 c2 c3 c4 c5 c6 c7 c8;have fc := X1.frozen;have gc := X1.lt;go_wp2_with fail
  clear c0 d0 c1 d1 c2 d2 c3 d3 c4 d4 c5 d5 c6 d6 c7 d7 c8 d8 fc fd gc gd;refine (next_k B g l 26 _ T2 (by omega) (by decide)).mono ?_;rintro e w3 ⟨cx, rfl, cx1, cx2, T3, S3, D3⟩;rw [S2] at S3;replace X0 := X0.dev D3 (by omega) (by omega);replace X1 := X1.dev D3 (by omega) (by omega);replace D := D.trans (D3.mono (by omega));clear D3 T2;have d0 := X0.cell 0;have d1 := X0.cell 1;have d2 := X0.cell 2;have d3 := X0.cell 3;have d4 := X0.cell 4;have d5 := X0.cell 5;have d6 := X0.cell 6;have d7 := X0.cell 7;have d8 := X0.cell 8;simp at d0 d1 d2 d3 d4 d5 d6 d7 d8;have fd := X0.frozen;have gd := X0.lt;have c0 := X1.cell 0;have c1 := X1.cell 1;have c2 := X1.cell 2;have c3 := X1.cell 3;have c4 := X1.cell 4;have c5 := X1.cell 5;have c6 := X1.cell 6;have c7 := X1.cell 7;have c8 := X1.cell 8;simp at c0 c1 c2 c3 c4 c5 c6 c7 c8;have fc := X1.frozen;have gc := X1.lt;go_wp2;refine bodyPost_ret (v := _) (by simp [results, Tryz.results11, go_sem, d0, d1, d2, d3, d4, d5, d6, d7, d8]; with_reducible rfl) rfl ?_;refine ⟨_, rfl, ⟨4, ax, cx, 0, 0, [], [], 0, 0⟩, ⟨_, _, rfl, Row.nil _, Row.nil _⟩, rightE_0 rfl (by simp [formP]) (by simp [numB]; omega) (by simp [listB]), by simp, ⟨by simp, by first | (simp; done) | (simp only; omega)⟩, ⟨_, _, _, _, _, _, _, _, _, rfl, NewV.none _ _ _, NewV.none _ _ _⟩, ?_⟩;refine ⟨?_, ?_⟩
  ·
   repeat' (refine Dev.setCell ?_ (by simp <;> omega) _)
   exact D
  ·
   repeat' (refine tapk_set ?_ (by simp <;> omega) _)
   assumption
 ·
  have Bl := (Below.refl w.heap.size w1).alloc (by omega) (.cells #[.int .i64 5, .int .i64 0, .int .i64 0, .int .i64 0, .int .i64 0, .slice none 0 0, .slice none 0 0, .int .u16 0, .int .u16 0] 33);have X1 := Blk.new_at w1 33 [.int .i64 5, .int .i64 0, .int .i64 0, .int .i64 0, .int .i64 0, .slice none 0 0, .slice none 0 0, .int .u16 0, .int .u16 0] (w.heap.size + 1 + 1) S1.symm;refine (next_k B g l 70 _ (T1.below (Bl.mono hB)) (by simp <;> omega) (by decide)).mono ?_;rintro e w2 ⟨ax, rfl, a1, a2, T2, S2, D2⟩;simp at S2;replace X0 := (X0.alloc _).dev D2 (by simp <;> omega) (by omega);replace X1 := X1.dev D2 (by simp <;> omega) (by omega);replace D := (D.alloc (by omega) _).trans (D2.mono (by simp <;> omega));clear D2 Bl T1;have d0 := X0.cell 0;have d1 := X0.cell 1;have d2 := X0.cell 2;have d3 := X0.cell 3;have d4 := X0.cell 4;have d5 := X0.cell 5;have d6 := X0.cell 6;have d7 := X0.cell 7;have d8 := X0.cell 8;simp at d0 d1 d2 d3 d4 d5 d6 d7 d8;have fd := X0.frozen;have gd := X0.lt;have c0 := X1.cell 0;have c1 := X1.cell 1;have c2 := X1.cell 2;have c3 := X1.cell 3;have c4 := X1.cell 4;have c5 := X1.cell 5;have c6 := X1.cell 6;have c7 := X1.cell 7;have c8 := X1.cell 8;simp at c0 c1 c2 c3 c4 c5 c6 c7 c8;have fc := X1.frozen;have gc := X1.lt;go_wp2_with fail
  clear c0 d0 c1 d1 c2 d2 c3 d3 c4 d4 c5 d5 c6 d6 c7 d7 c8 d8 fc fd gc gd;refine (next_k B g l 2 _ T2 (by omega) (by decide)).mono ?_;rintro e w3 ⟨cx, rfl, cx1, cx2, T3, S3, D3⟩;rw [S2] at S3;replace X0 := X0.dev D3 (by omega) (by omega);replace X1 := X1.dev D3 (by omega) (by omega);replace D := D.trans (D3.mono (by omega));clear D3 T2;have d0 := X0.cell 0;have d1 := X0.cell 1;have d2 := X0.cell 2;have d3 := X0.cell 3;have d4 := X0.cell 4;have d5 := X0.cell 5;have d6 := X0.cell 6;have d7 := X0.cell 7;have d8 := X0.cell 8;simp at d0 d1 d2 d3 d4 d5 d6 d7 d8;have fd := X0.frozen;have gd := X0.lt;have c0 := X1.cell 0;have c1 := X1.cell 1;have c2 := X1.cell 2;have c3 := X1.cell 3;have c4 := X1.cell 4;have c5 := X1.cell 5;have c6 := X1.cell 6;have c7 := X1.cell 7;have c8 := X1.cell 8;simp at c0 c1 c2 c3 c4 c5 c6 c7 c8;have fc := X1.frozen;have gc := X1.lt;go_wp2;refine bodyPost_ret (v := _) (by simp [results, Tryz.results11, go_sem, d0, d1, d2, d3, d4, d5, d6, d7, d8, S3, S1]; with_reducible rfl) rfl ?_;refine ⟨_, rfl, ⟨5, ax, 0, 0, 0, [cx == 1], [], 0, 0⟩, ⟨_, _, rfl, row_one_b _ _ _ (by simp [S3, S1]), Row.nil _⟩, rightE_0 rfl (by simp [formP]) (by simp [numB]; omega) (by simp [listB]), by simp, ⟨by simp, by first | (simp; done) | (simp only; omega)⟩, ⟨_, _, _, _, _, _, _, _, _, rfl, NewV.some _ _ _ _ _ (by omega), NewV.none _ _ _⟩, ?_⟩;refine ⟨?_, ?_⟩
  ·
   refine Dev.alloc ?_ (by simp <;> omega) _
   repeat' (refine Dev.setCell ?_ (by simp <;> omega) _)
   exact D
  ·
   refine tapk_alloc ?_ (by simp <;> omega) _
   repeat' (refine tapk_set ?_ (by simp <;> omega) _)
   assumption
 ·
  have Bl := (Below.refl w.heap.size w1).alloc (by omega) (.cells #[.int .i64 6, .int .i64 0, .int .i64 0, .int .i64 0, .int .i64 0, .slice none 0 0, .slice none 0 0, .int .u16 0, .int .u16 0] 33);have X1 := Blk.new_at w1 33 [.int .i64 6, .int .i64 0, .int .i64 0, .int .i64 0, .int .i64 0, .slice none 0 0, .slice none 0 0, .int .u16 0, .int .u16 0] (w.heap.size + 1 + 1) S1.symm;refine (next_k B g l 70 _ (T1.below (Bl.mono hB)) (by simp <;> omega) (by decide)).mono ?_;rintro e w2 ⟨ax, rfl, a1, a2, T2, S2, D2⟩;simp at S2;replace X0 := (X0.alloc _).dev D2 (by simp <;> omega) (by omega);replace X1 := X1.dev D2 (by simp <;> omega) (by omega);replace D := (D.alloc (by omega) _).trans (D2.mono (by simp <;> omega));clear D2 Bl T1;have d0 := X0.cell 0;have d1 := X0.cell 1;have d2 := X0.cell 2;have d3 := X0.cell 3;have d4 := X0.cell 4;have d5 := X0.cell 5;have d6 := X0.cell 6;have d7 := X0.cell 7;have d8 := X0.cell 8;simp at d0 d1 d2 d3 d4 d5 d6 d7 d8;have fd := X0.frozen;have gd := X0.lt;have c0 := X1.cell 0;have c1 := X1.cell 1;have c2 := X1.cell 2;have c3 := X1.cell 3;have c4 := X1.cell 4;have c5 := X1.cell 5;have c6 := X1.cell 6;have c7 := X1.cell 7;have c8 := X1.cell 8;simp at c0 c1 c2 c3 c4 c5 c6 c7 c8;have fc := X1.frozen;have gc := X1.lt;go_wp2_with fail
  clear c0 d0 c1 d1 c2 d2 c3 d3 c4 d4 c5 d5 c6 d6 c7 d7 c8 d8 fc fd gc gd;refine (next_k B g l 65536 _ T2 (by omega) (by decide)).mono ?_;rintro e w3 ⟨cx, rfl, cx1, cx2, T3, S3, D3⟩;rw [S2] at S3;replace X0 := X0.dev D3 (by omega) (by omega);replace X1 := X1.dev D3 (by omega) (by omega);replace D := D.trans (D3.mono (by omega));clear D3 T2;have d0 := X0.cell 0;have d1 := X0.cell 1;have d2 := X0.cell 2;have d3 := X0.cell 3;have d4 := X0.cell 4;have d5 := X0.cell 5;have d6 := X0.cell 6;have d7 := X0.cell 7;have d8 := X0.cell 8;simp at d0 d1 d2 d3 d4 d5 d6 d7 d8;have fd := X0.frozen;have gd := X0.lt;have c0 := X1.cell 0;have c1 := X1.cell 1;have c2 := X1.cell 2;have c3 := X1.cell 3;have c4 := X1.cell 4;have c5 := X1.cell 5;have c6 := X1.cell 6;have c7 := X1.cell 7;have c8 := X1.cell 8;simp at c0 c1 c2 c3 c4 c5 c6 c7 c8;have fc := X1.frozen;have gc := X1.lt;go_wp2;refine bodyPost_ret (v := _) (by simp [results, Tryz.results11, go_sem, d0, d1, d2, d3, d4, d5, d6, d7, d8, S3, S1]; with_reducible rfl) rfl ?_;refine ⟨_, rfl, ⟨6, ax, 0, 0, 0, [], [wOf cx], 0, 0⟩, ⟨_, _, rfl, Row.nil _, row_one_w _ _ ⟨cx1, by omega⟩ _ (by simp [S3, S1])⟩, rightE_0 rfl (by simp [formP]) (by simp [numB]; omega) (by simp [listB]), by simp, ⟨by simp, by first | (simp; done) | (simp only; omega)⟩, ⟨_, _, _, _, _, _, _, _, _, rfl, NewV.none _ _ _, NewV.some _ _ _ _ _ (by omega)⟩, ?_⟩;refine ⟨?_, ?_⟩
  ·
   refine Dev.alloc ?_ (by simp <;> omega) _
   repeat' (refine Dev.setCell ?_ (by simp <;> omega) _)
   exact D
  ·
   refine tapk_alloc ?_ (by simp <;> omega) _
   repeat' (refine tapk_set ?_ (by simp <;> omega) _)
   assumption
 ·
  have Bl := (Below.refl w.heap.size w1).alloc (by omega) (.cells #[.int .i64 8, .int .i64 0, .int .i64 0, .int .i64 0, .int .i64 0, .slice none 0 0, .slice none 0 0, .int .u16 0, .int .u16 0] 33);have X1 := Blk.new_at w1 33 [.int .i64 8, .int .i64 0, .int .i64 0, .int .i64 0, .int .i64 0, .slice none 0 0, .slice none 0 0, .int .u16 0, .int .u16 0] (w.heap.size + 1 + 1) S1.symm;refine (next_k B g l 70 _ (T1.below (Bl.mono hB)) (by simp <;> omega) (by decide)).mono ?_;rintro e w2 ⟨ax, rfl, a1, a2, T2, S2, D2⟩;simp at S2;replace X0 := (X0.alloc _).dev D2 (by simp <;> omega) (by omega);replace X1 := X1.dev D2 (by simp <;> omega) (by omega);replace D := (D.alloc (by omega) _).trans (D2.mono (by simp <;> omega));clear D2 Bl T1;have d0 := X0.cell 0;have d1 := X0.cell 1;have d2 := X0.cell 2;have d3 := X0.cell 3;have d4 := X0.cell 4;have d5 := X0.cell 5;have d6 := X0.cell 6;have d7 := X0.cell 7;have d8 := X0.cell 8;simp at d0 d1 d2 d3 d4 d5 d6 d7 d8;have fd := X0.frozen;have gd := X0.lt;have c0 := X1.cell 0;have c1 := X1.cell 1;have c2 := X1.cell 2;have c3 := X1.cell 3;have c4 := X1.cell 4;have c5 := X1.cell 5;have c6 := X1.cell 6;have c7 := X1.cell 7;have c8 := X1.cell 8;simp at c0 c1 c2 c3 c4 c5 c6 c7 c8;have fc := X1.frozen;have gc := X1.lt;go_upto_block 0 with fail
  go_cut [] from 18 to 138 (fun wx => ∃ (sv uv : Int) (bC : Nat), 0 ≤ sv ∧ sv ≤ 300 ∧ 0 ≤ uv ∧ uv ≤ 777 ∧ w.heap.size + 1 + 1 + 1 ≤ bC ∧ Blk wx w.heap.size 33 [.int .i64 0, .int .i64 0, .int .i64 0, .int .i64 0, .int .i64 0, .slice none 0 0, .slice none 0 0, .int .u16 0, .int .u16 0] ∧ Blk wx (w.heap.size + 1 + 1) 33 [.int .i64 8, .int .i64 0, .int .i64 0, .int .i64 0, .int .i64 sv, .slice none 0 0, .slice (some ⟨bC, 0, none⟩) 1 1, .int .u16 0, .int .u16 0] ∧ Row wx (.slice (some ⟨bC, 0, none⟩) 1 1) ([wOf uv].map wV) ∧ Dev w.heap.size g w wx ∧ TapK B wx g l)
  case rest =>
   clear c0 d0 c1 d1 c2 d2 c3 d3 c4 d4 c5 d5 c6 d6 c7 d7 c8 d8 fc fd gc gd;clear X0 X1 D T2 S2;obtain ⟨sv, uv, bC, s1, s2, u1, u2, kC, X0, X1, RC, D, T⟩ := hcut;have d0 := X0.cell 0;have d1 := X0.cell 1;have d2 := X0.cell 2;have d3 := X0.cell 3;have d4 := X0.cell 4;have d5 := X0.cell 5;have d6 := X0.cell 6;have d7 := X0.cell 7;have d8 := X0.cell 8;simp at d0 d1 d2 d3 d4 d5 d6 d7 d8;have fd := X0.frozen;have gd := X0.lt;have c0 := X1.cell 0;have c1 := X1.cell 1;have c2 := X1.cell 2;have c3 := X1.cell 3;have c4 := X1.cell 4;have c5 := X1.cell 5;have c6 := X1.cell 6;have c7 := X1.cell 7;have c8 := X1.cell 8;simp at c0 c1 c2 c3 c4 c5 c6 c7 c8;have fc := X1.frozen;have gc := X1.lt;go_wp2;refine bodyPost_ret (v := _) (by simp [results, Tryz.results11, go_sem, d0, d1, d2, d3, d4, d5, d6, d7, d8]; with_reducible rfl) rfl ?_;refine ⟨_, rfl, ⟨8, 0, 0, 0, sv, [], [wOf uv], 0, 0⟩, ⟨_, _, rfl, Row.nil _, ?r⟩, rightE_0 rfl (by simp [formP]) (by simp [numB]; omega) (by simp [listB]), by simp, ⟨by simp, by first | (simp; done) | (simp only; omega)⟩, ⟨_, _, _, _, _, _, _, _, _, rfl, NewV.none _ _ _, NewV.some _ _ _ _ _ (by omega)⟩, ?_⟩
   case r =>
    repeat' (refine Row.setCell_new ?_ (NewV.some (w.heap.size + 1 + 1 + 1) _ _ _ _ kC) (by omega))
    exact RC
   ·
    refine ⟨?_, ?_⟩
    ·
     repeat' (refine Dev.setCell ?_ (by simp <;> omega) _)
     exact D
    ·
     repeat' (refine tapk_set ?_ (by simp <;> omega) _)
     assumption
  case first =>
   go_wp2;clear c0 d0 c1 d1 c2 d2 c3 d3 c4 d4 c5 d5 c6 d6 c7 d7 c8 d8 fc fd gc gd;refine c_begin 15 rfl (by kernel_rfl) ?_;replace X0 := X0.drew;replace X1 := X1.drew;replace D := D.drew;replace T2 := T2.drew;have hz : w.heap.size + 1 + 1 + 1 ≤ w2.drew.heap.size := by show _ ≤ w2.heap.size; omega
   clear S2;generalize w2.drew = y0 at *;have IV : IvRk B g w.heap.size l y0 := ⟨T2, hz, 0, by omega, by omega, X1⟩;have X0H := hidden X0;have DH := hidden D;clear X0 X1 D T2 hz;refine c_P trivial 1 rfl ?_;refine c_P trivial 6 rfl ?_;refine c_phaseT (n := 2) [0, 2, 3, 4, 5, 7, 8, 9, 10, 11, 12] [(some 48, 0), (some 50, 2), (some 51, 3), (some 52, 4), (some 53, 5), (some 55, 7), (some 56, 8), (some 57, 9), (some 58, 10), (some 59, 11), (none, 12)] (TrRk B g w.heap.size l) TrRk.refl TrRk.trans (PsRk w.heap.size) (fun _ _ => True) (fun _ _ _ => trivial) (by kernel_rfl) (by kernel_rfl) ?mono ?hC ?hops ?hend
   case mono => exact PsRk.tr
   case hC => exact fun w' hx => trivial
   case hops =>
    intro i hi vs y hx hd;have IY := (hx.2.2 IV).1;clear hx;simp only [List.mem_cons, List.not_mem_nil, or_false] at hi;rcases hi with rfl | rfl | rfl | rfl | rfl | rfl | rfl | rfl | rfl | rfl | rfl
    ·
     clear hd;refine phase_opT 0 [] (by kernel_rfl) rfl (fun K hK => ?_);simp only [putsD] at hK ⊢;try simp only [Act.put, PuA, PuB, PuC]
     go_simp;exact hK.out _ _ (TrRk.alloc hB y _) ⟨_, rfl, IY.2.1, Blk.new y 3 [.int .i64 0, .int .i64 10, .int .i64 11, .int .i64 12, .int .i64 13, .int .i64 14, .int .i64 2, .int .i64 300]⟩ (fun _ _ _ _ _ => trivial)
    ·
     clear hd;refine phase_opT 2 [] (by kernel_rfl) rfl (fun K hK => ?_);simp only [putsD] at hK ⊢;try simp only [Act.put, PuA, PuB, PuC]
     go_wp2_with fail
     refine (next_k B g l 8 _ IY.1 (by have := IY.2.1; omega) (by decide)).mono ?_;rintro e y2 ⟨mx, rfl, h1, h2, T', S', D'⟩;go_simp;exact hK.out _ _ (TrRk.next hgB hB T' S' D') ⟨mx, rfl, h1, h2⟩ (fun _ _ _ _ _ => trivial)
    ·
     obtain ⟨b, e0, hb, P⟩ : PsRk w.heap.size 0 (vs 0) y := hd 0 (by simp) (by kernel_rfl);obtain ⟨mx, e2, h1, h2⟩ : PsRk w.heap.size 2 (vs 2) y := hd 2 (by simp) (by kernel_rfl);clear hd;refine phase_opT 3 [(some 48, 0), (some 50, 2)] (by kernel_rfl) rfl (fun K hK => ?_);simp only [putsD, e0, e2] at hK ⊢;try simp only [Act.put, PuA, PuB, PuC]
     have hm : mx.toNat < 8 := by omega
     go_simp;exact hK.out _ _ (TrRk.refl y) ⟨b, mx, by simp, hb, P, h1, h2⟩ (fun _ _ _ _ _ => trivial)
    ·
     obtain ⟨b, mx, e3, hb, P, h1, h2⟩ : PsRk w.heap.size 3 (vs 3) y := hd 3 (by simp) (by kernel_rfl);clear hd;refine phase_opT 4 [(some 51, 3)] (by kernel_rfl) rfl (fun K hK => ?_);simp only [putsD, e3] at hK ⊢;try simp only [Act.put, PuA, PuB, PuC]
     obtain ⟨sv, hs, s1, s2⟩ := sub_at mx h1 h2;have hc := (P.cell mx.toNat).trans hs;go_simp;exact hK.out _ _ (TrRk.refl y) ⟨sv, rfl, s1, s2⟩ (fun _ _ _ _ _ => trivial)
    ·
     clear hd;refine phase_opT 5 [] (by kernel_rfl) rfl (fun K hK => ?_);simp only [putsD] at hK ⊢;try simp only [Act.put, PuA, PuB, PuC]
     go_simp;exact hK.out _ _ (TrRk.alloc hB y _) ⟨_, rfl, IY.2.1, Blk.new y 31 [.int .u16 0, .int .u16 0, .int .u16 0, .int .u16 777]⟩ (fun _ _ _ _ _ => trivial)
    ·
     clear hd;refine phase_opT 7 [(some 50, 2)] (by kernel_rfl) rfl (fun K hK => ?_);simp only [putsD] at hK ⊢;try simp only [Act.put, PuA, PuB, PuC]
     go_wp2_with fail
     refine (next_k B g l 4 _ IY.1 (by have := IY.2.1; omega) (by decide)).mono ?_;rintro e y2 ⟨mx, rfl, h1, h2, T', S', D'⟩;go_simp;exact hK.out _ _ (TrRk.next hgB hB T' S' D') ⟨mx, rfl, h1, h2⟩ (fun _ _ _ _ _ => trivial)
    ·
     obtain ⟨b, e0, hb, P⟩ : PsRk w.heap.size 5 (vs 5) y := hd 5 (by simp) (by kernel_rfl);obtain ⟨mx, e2, h1, h2⟩ : PsRk w.heap.size 7 (vs 7) y := hd 7 (by simp) (by kernel_rfl);clear hd;refine phase_opT 8 [(some 53, 5), (some 55, 7)] (by kernel_rfl) rfl (fun K hK => ?_);simp only [putsD, e0, e2] at hK ⊢;try simp only [Act.put, PuA, PuB, PuC]
     have hm : mx.toNat < 4 := by omega
     go_simp;exact hK.out _ _ (TrRk.refl y) ⟨b, mx, by simp, hb, P, h1, h2⟩ (fun _ _ _ _ _ => trivial)
    ·
     obtain ⟨b, mx, e3, hb, P, h1, h2⟩ : PsRk w.heap.size 8 (vs 8) y := hd 8 (by simp) (by kernel_rfl);clear hd;refine phase_opT 9 [(some 56, 8)] (by kernel_rfl) rfl (fun K hK => ?_);simp only [putsD, e3] at hK ⊢;try simp only [Act.put, PuA, PuB, PuC]
     obtain ⟨sv, hs, s1, s2⟩ := val_at mx h1 h2;have hc := (P.cell mx.toNat).trans hs;go_simp;exact hK.out _ _ (TrRk.refl y) ⟨sv, rfl, s1, s2⟩ (fun _ _ _ _ _ => trivial)
    ·
     obtain ⟨uv, e9, u1, u2⟩ : PsRk w.heap.size 9 (vs 9) y := hd 9 (by simp) (by kernel_rfl);clear hd;refine phase_opT 10 [(some 57, 9)] (by kernel_rfl) rfl (fun K hK => ?_);simp only [putsD, e9] at hK ⊢;try simp only [Act.put, PuA, PuB, PuC]
     go_simp;exact hK.out _ _ (TrRk.alloc hB y _) ⟨_, uv, rfl, IY.2.1, u1, u2, Blk.new y 31 [.int .u16 uv]⟩ (fun _ _ _ _ _ => trivial)
    ·
     clear hd;refine phase_opT 11 [(some 48, 0), (some 50, 2), (some 51, 3), (some 52, 4)] (by kernel_rfl) rfl (fun K hK => ?_);simp only [putsD] at hK ⊢;try simp only [Act.put, PuA, PuB, PuC]
     go_simp;exact hK.out _ _ (TrRk.refl y) rfl (fun _ _ _ _ _ => trivial)
    ·
     obtain ⟨sv, e4, s1, s2⟩ : PsRk w.heap.size 4 (vs 4) y := hd 4 (by simp) (by kernel_rfl);have e11 : vs 11 = .pointer (some ⟨w.heap.size + 1 + 1, 4, none⟩) := hd 11 (by simp) (by kernel_rfl);clear hd;refine phase_opT 12 [(some 48, 0), (some 50, 2), (some 51, 3), (some 52, 4), (some 55, 7), (some 59, 11)] (by kernel_rfl) rfl (fun K hK => ?_);simp only [putsD, e4, e11] at hK ⊢;try simp only [Act.put, PuA, PuB, PuC]
     obtain ⟨T, z, c, c1, c2, X⟩ := id IY;have e4 := X.cell 4;simp at e4;have f4 := X.frozen;go_simp;have h := hK.out undef _ (TrRk.store hgB hB s1 s2 IY) trivial (fun _ _ _ _ _ => trivial);simp only [Act.put] at h;exact h
   case hend =>
    intro vs y hx hP hR;obtain ⟨⟨T, hz, sv, s1, s2, X1⟩, D'⟩ := hx.2.2 IV;have X0 : Blk y w.heap.size 33 [.int .i64 0, .int .i64 0, .int .i64 0, .int .i64 0, .int .i64 0, .slice none 0 0, .slice none 0 0, .int .u16 0, .int .u16 0] := (hx.2.1 _ (Nat.le_refl _) (by omega) X0H.out.lt).trans X0H.out;have D := DH.out.trans D';clear X0H DH D' hx hR IV;obtain ⟨bC, uv, e10, kC, u1, u2, PC⟩ : PsRk w.heap.size 10 (vs 10) y := hP 10 (by simp);have RC : Row y (.slice (some ⟨bC, 0, none⟩) 1 1) ([wOf uv].map wV) := ?rc
    case rc => exact row_w_of_blk PC ⟨u1, by omega⟩
    clear PC hP;simp only [putsD, e10];generalize vs 0 = v0 at *;generalize vs 2 = v2 at *;generalize vs 3 = v3 at *;generalize vs 4 = v4 at *;generalize vs 5 = v5 at *;generalize vs 7 = v7 at *;generalize vs 8 = v8 at *;generalize vs 9 = v9 at *;generalize vs 11 = v11 at *;generalize vs 12 = v12 at *;clear e10 vs;try simp only [Act.put, PuA, PuB, PuC]
    refine c_P trivial 13 rfl ?_;refine c_move 14 (by kernel_rfl) (c_op 14 [] (by kernel_rfl) rfl (by kernel_rfl) (fun K hK => ?_));have e4 := X1.cell 6;simp at e4;have f4 := X1.frozen;go_simp;refine hK.out _ _ trivial ?_;clear K hK e4 f4;replace X1 := X1.set 6 (.slice (some ⟨bC, 0, none⟩) 1 1);simp at X1;replace X0 := X0.set_ne (g := w.heap.size + 1 + 1) (by omega) 6 (.slice (some ⟨bC, 0, none⟩) 1 1);replace RC := RC.setCell_new (g := w.heap.size + 1 + 1) (o := 6) (u := (.slice (some ⟨bC, 0, none⟩) 1 1)) (NewV.some (w.heap.size + 1 + 1 + 1) _ _ _ _ kC) (by omega);replace T := T.below ((Below.refl B y).setCell (p := ⟨w.heap.size + 1 + 1, 6, none⟩) (by simp <;> omega) (.slice (some ⟨bC, 0, none⟩) 1 1));replace D := D.setCell (p := ⟨w.heap.size + 1 + 1, 6, none⟩) (by simp <;> omega) (.slice (some ⟨bC, 0, none⟩) 1 1);refine c_done (by kernel_rfl) ?_;go_wp2_with fail
    go_meet
    exact ⟨sv, uv, bC, s1, s2, u1, u2, kC, X0, X1, RC, D, T⟩
 ·
  have Bl := (Below.refl w.heap.size w1).alloc (by omega) (.cells #[.int .i64 15, .int .i64 0, .int .i64 0, .int .i64 0, .int .i64 0, .slice none 0 0, .slice none 0 0, .int .u16 0, .int .u16 0] 33);have X1 := Blk.new_at w1 33 [.int .i64 15, .int .i64 0, .int .i64 0, .int .i64 0, .int .i64 0, .slice none 0 0, .slice none 0 0, .int .u16 0, .int .u16 0] (w.heap.size + 1 + 1) S1.symm;refine (next_k B g l 70 _ (T1.below (Bl.mono hB)) (by simp <;> omega) (by decide)).mono ?_;rintro e w2 ⟨ax, rfl, a1, a2, T2, S2, D2⟩;simp at S2;replace X0 := (X0.alloc _).dev D2 (by simp <;> omega) (by omega);replace X1 := X1.dev D2 (by simp <;> omega) (by omega);replace D := (D.alloc (by omega) _).trans (D2.mono (by simp <;> omega));clear D2 Bl T1;have d0 := X0.cell 0;have d1 := X0.cell 1;have d2 := X0.cell 2;have d3 := X0.cell 3;have d4 := X0.cell 4;have d5 := X0.cell 5;have d6 := X0.cell 6;have d7 := X0.cell 7;have d8 := X0.cell 8;simp at d0 d1 d2 d3 d4 d5 d6 d7 d8;have fd := X0.frozen;have gd := X0.lt;have c0 := X1.cell 0;have c1 := X1.cell 1;have c2 := X1.cell 2;have c3 := X1.cell 3;have c4 := X1.cell 4;have c5 := X1.cell 5;have c6 := X1.cell 6;have c7 := X1.cell 7;have c8 := X1.cell 8;simp at c0 c1 c2 c3 c4 c5 c6 c7 c8;have fc := X1.frozen;have gc := X1.lt;go_wp2_with fail
  clear c0 d0 c1 d1 c2 d2 c3 d3 c4 d4 c5 d5 c6 d6 c7 d7 c8 d8 fc fd gc gd;refine (next_k B g l 26 _ T2 (by omega) (by decide)).mono ?_;rintro e w3 ⟨cx, rfl, cx1, cx2, T3, S3, D3⟩;rw [S2] at S3;replace X0 := X0.dev D3 (by omega) (by omega);replace X1 := X1.dev D3 (by omega) (by omega);replace D := D.trans (D3.mono (by omega));clear D3 T2;have d0 := X0.cell 0;have d1 := X0.cell 1;have d2 := X0.cell 2;have d3 := X0.cell 3;have d4 := X0.cell 4;have d5 := X0.cell 5;have d6 := X0.cell 6;have d7 := X0.cell 7;have d8 := X0.cell 8;simp at d0 d1 d2 d3 d4 d5 d6 d7 d8;have fd := X0.frozen;have gd := X0.lt;have c0 := X1.cell 0;have c1 := X1.cell 1;have c2 := X1.cell 2;have c3 := X1.cell 3;have c4 := X1.cell 4;have c5 := X1.cell 5;have c6 := X1.cell 6;have c7 := X1.cell 7;have c8 := X1.cell 8;simp at c0 c1 c2 c3 c4 c5 c6 c7 c8;have fc := X1.frozen;have gc := X1.lt;obtain ⟨n, rfl⟩ : ∃ n : Nat, cx = (n : Int) := ⟨cx.toNat, by omega⟩;go_wp2;replace X0 := (X0.set_ne (g := w.heap.size + 1 + 1) (by omega) 1 (.int .i64 ax)).set_ne (g := w.heap.size + 1 + 1) (by omega) 2 (.int .i64 n);replace X1 := (X1.set 1 (.int .i64 ax)).set 2 (.int .i64 n);replace D := (D.setCell (p := ⟨w.heap.size + 1 + 1, 1, none⟩) (by simp <;> omega) (.int .i64 ax)).setCell (p := ⟨w.heap.size + 1 + 1, 2, none⟩) (by simp <;> omega) (.int .i64 n);have Bl := ((Below.refl w.heap.size w3).setCell (p := ⟨w.heap.size + 1 + 1, 1, none⟩) (by simp <;> omega) (.int .i64 ax)).setCell (p := ⟨w.heap.size + 1 + 1, 2, none⟩) (by simp <;> omega) (.int .i64 n);replace T3 := T3.below (Bl.mono hB);simp at X1;clear c0 d0 c1 d1 c2 d2 c3 d3 c4 d4 c5 d5 c6 d6 c7 d7 c8 d8 fc fd gc gd;go_loopw [5] (fun i wr => ∃ (k : Nat) (bs : List Bool) (vb : Value), k ≤ n ∧ i = .int .i64 k ∧ bs.length = k ∧ Blk wr w.heap.size 33 [.int .i64 0, .int .i64 0, .int .i64 0, .int .i64 0, .int .i64 0, .slice none 0 0, .slice none 0 0, .int .u16 0, .int .u16 0] ∧ Blk wr (w.heap.size + 1 + 1) 33 [.int .i64 15, .int .i64 ax, .int .i64 n, .int .i64 0, .int .i64 0, vb, .slice none 0 0, .int .u16 0, .int .u16 0] ∧ wr.ownsRow (w.heap.size + 1 + 1 + 1) 4 1 vb k (bs.map Value.bool) ∧ TapK B wr g l ∧ Dev w.heap.size g w wr ∧ w.heap.size + 1 + 1 + 1 ≤ wr.heap.size) (fun i _ => n - (intOf i).toNat)
  case atStart => exact ⟨0, [], .slice none 0 0, Nat.zero_le _, rfl, rfl, X0, X1, World.ownsRow_nil _ _ _ _, T3, D, by simp; omega⟩
  case round =>
   clear X0 X1 D T3 Bl;obtain ⟨k, bs, vb, hk, rfl, hbl, X0, X1, ho, T, D, hz⟩ := hrel;have R0 := Row.of_owns ho;obtain ⟨va, vcap, rfl, -⟩ := id R0;simp only [List.length_map, hbl] at X1 ho R0;have d0 := X0.cell 0;have d1 := X0.cell 1;have d2 := X0.cell 2;have d3 := X0.cell 3;have d4 := X0.cell 4;have d5 := X0.cell 5;have d6 := X0.cell 6;have d7 := X0.cell 7;have d8 := X0.cell 8;simp at d0 d1 d2 d3 d4 d5 d6 d7 d8;have fd := X0.frozen;have gd := X0.lt;have c0 := X1.cell 0;have c1 := X1.cell 1;have c2 := X1.cell 2;have c3 := X1.cell 3;have c4 := X1.cell 4;have c5 := X1.cell 5;have c6 := X1.cell 6;have c7 := X1.cell 7;have c8 := X1.cell 8;simp at c0 c1 c2 c3 c4 c5 c6 c7 c8;have fc := X1.frozen;have gc := X1.lt;by_cases hlt : k < n
   ·
    have hlt' : (k : Int) < (n : Int) := by omega
    go_wp2;clear d0 d1 d2 d3 d4 d5 d6 d7 d8 fd gd c0 c1 c2 c3 c4 c5 c6 c7 c8 fc gc;refine h_begin 9 rfl (by kernel_rfl) ?_;replace X0 := X0.drew;replace X1 := X1.drew;replace T := T.drew;replace D := D.drew;replace ho := owns_below ho ((Below.refl wr.heap.size wr).drew);replace hz : w.heap.size + 1 + 1 + 1 ≤ wr.drew.heap.size := hz;generalize wr.drew = w6 at *;have c5 : w6.cell? ⟨w.heap.size + 1 + 1, 5, none⟩ = _ := X1.cell 5;simp at c5;refine h_P trivial 0 rfl ?_;refine h_P trivial 2 rfl ?_;refine h_move2 1 3 (by kernel_rfl) (h_op 1 rfl (by kernel_rfl) (fun K hK => ?_)) (h_op 3 rfl (by kernel_rfl) (fun K hK => ?_));focus
     go_simp;refine hK.out _ _ trivial ?_;clear K hK;try simp only [Act.put, PuA, PuB, PuC]
     refine h_move 3 (by kernel_rfl) (h_op 3 rfl (by kernel_rfl) (fun K hK => ?_));go_wp2_with fail
     refine (next_k B g l 2 _ T (by omega) (by decide)).mono ?_;rintro e w7 ⟨mx, rfl, mx1, mx2, T7, S7, D7⟩;have hz7 : w.heap.size + 1 + 1 + 1 ≤ w7.heap.size := by omega
     clear S7;go_simp;refine hK.out _ _ trivial ?_;clear K hK;try simp only [Act.put, PuA, PuB, PuC]
     refine h_P trivial 4 rfl ?_;refine h_move 5 (by kernel_rfl) (h_op 5 rfl (by kernel_rfl) (fun K hK => ?_));go_simp;refine hK.out _ _ trivial ?_;clear K hK;try simp only [Act.put, PuA, PuB, PuC]
    rotate_left
    focus
     go_wp2_with fail
     refine (next_k B g l 2 _ T (by omega) (by decide)).mono ?_;rintro e w7 ⟨mx, rfl, mx1, mx2, T7, S7, D7⟩;have hz7 : w.heap.size + 1 + 1 + 1 ≤ w7.heap.size := by omega
     clear S7;go_simp;refine hK.out _ _ trivial ?_;clear K hK;try simp only [Act.put, PuA, PuB, PuC]
     refine h_P trivial 4 rfl ?_;have c7 : w7.cell? ⟨w.heap.size + 1 + 1, 5, none⟩ = _ := (X1.dev D7 (by omega) (by omega)).cell 5;simp at c7;have lt7 : w.heap.size + 1 + 1 < w7.heap.size := by omega
     refine h_move2 1 5 (by kernel_rfl) (h_op 1 rfl (by kernel_rfl) (fun K hK => ?_)) (h_op 5 rfl (by kernel_rfl) (fun K hK => ?_));focus
      go_simp;refine hK.out _ _ trivial ?_;clear K hK;try simp only [Act.put, PuA, PuB, PuC]
      refine h_move 5 (by kernel_rfl) (h_op 5 rfl (by kernel_rfl) (fun K hK => ?_));go_simp;refine hK.out _ _ trivial ?_;clear K hK;try simp only [Act.put, PuA, PuB, PuC]
      clear c7
     rotate_left
     focus
      go_simp;refine hK.out _ _ trivial ?_;clear K hK;try simp only [Act.put, PuA, PuB, PuC]
      refine h_move 1 (by kernel_rfl) (h_op 1 rfl (by kernel_rfl) (fun K hK => ?_));go_simp;refine hK.out _ _ trivial ?_;clear K hK;try simp only [Act.put, PuA, PuB, PuC]
      clear c7
    all_goals
     replace X0 := X0.dev D7 (by omega) (by omega);replace X1 := X1.dev D7 (by omega) (by omega);replace ho := owns_dev ho D7 (by omega);replace D := D.trans (D7.mono (by omega));clear D7 T c5;have Rn := row_new w7 [.bool (mx == 1)] 4 1 rfl (by decide);refine h_move 6 (by kernel_rfl) (h_op 6 rfl (by kernel_rfl) (fun K hK => ?_));refine wp_app (.tmp 75) (.tmp 79) 29 rfl (w.heap.size + 1 + 1 + 1) 4 (.bool false) 1 Tryz.underlying29 info_bool rfl rfl (ho.alloc _) rfl Rn (by intro u hu; simp at hu; subst hu; rfl) (by simp [maxLen]; omega) (by simp <;> omega) (by simp <;> omega) ?_;intro v8 w8 ho8 hg8;refine hK.out _ _ trivial ?_;clear K hK;try simp only [Act.put, PuA, PuB, PuC]
     replace X0 := (X0.alloc (.cells #[.bool (mx == 1)] 4)).grown hg8 (fun r hr => by have := (ho.lt r hr).1; omega);replace X1 := (X1.alloc (.cells #[.bool (mx == 1)] 4)).grown hg8 (fun r hr => by have := (ho.lt r hr).1; omega);have Bl := ((Below.refl w.heap.size w7).alloc (by omega) (.cells #[.bool (mx == 1)] 4)).grown hg8 (by simp <;> omega) (fun r hr => by have := (ho.lt r hr).1; omega);replace T7 := T7.below (Bl.mono hB);replace D := D.trans (Dev.of_below Bl);have hz8 : w.heap.size + 1 + 1 + 1 ≤ w8.heap.size := by have := hg8.size; simp at this; omega
     clear Bl hg8 Rn ho R0;refine h_P trivial 7 rfl ?_;have R8 := Row.of_owns ho8;obtain ⟨va8, vcap8, rfl, -⟩ := id R8;have c5 : w8.cell? ⟨w.heap.size + 1 + 1, 5, none⟩ = _ := X1.cell 5;simp at c5;have f5 := X1.frozen;refine h_move 8 (by kernel_rfl) (h_op 8 rfl (by kernel_rfl) (fun K hK => ?_));go_simp;refine hK.out _ _ trivial ?_;clear K hK c5 f5;try simp only [Act.put, PuA, PuB, PuC]
     refine h_done (by kernel_rfl) ?_;go_wp2;go_roundw
     case rel =>
      refine ⟨k + 1, bs ++ [mx == 1], _, by omega, by go_num, by simp [hbl], X0.set_ne (by omega) 5 _, by simpa using X1.set 5 _, ?_, T7.below ((Below.refl B w8).setCell (p := ⟨w.heap.size + 1 + 1, 5, none⟩) (by simp <;> omega) _), D.setCell (p := ⟨w.heap.size + 1 + 1, 5, none⟩) (by simp <;> omega) _, by simpa using hz8⟩;have e : bs.map Value.bool ++ [Value.bool (mx == 1)] = (bs ++ [mx == 1]).map Value.bool := by simp
      rw [e] at ho8;have ho9 := owns_setCell (u := .slice va8 (k + 1) vcap8) ho8 (w.heap.size + 1 + 1) 5 (by omega);simp [hbl] at ho9 ⊢;exact ho9
     case measure => simp [intOf]; omega
   ·
    have hkn : k = n := by omega
    subst hkn;have hlt' : ¬ (k : Int) < (k : Int) := by omega
    go_wp2;refine bodyPost_ret (v := _) (by simp [results, Tryz.results11, go_sem, d0, d1, d2, d3, d4, d5, d6, d7, d8]; with_reducible rfl) rfl ?_;refine ⟨_, rfl, ⟨15, ax, k, 0, 0, bs, [], 0, 0⟩, ⟨_, _, rfl, ?r, Row.nil _⟩, rightE_0 rfl (by simp [formP]) (by simp [numB]; omega) (by simp [listB, hbl]; omega), by simp [hbl]; omega, ⟨by simp, by first | (simp; done) | (simp only; omega)⟩, ⟨_, _, _, _, _, _, _, _, _, rfl, (NewV.of_owns ho).le (by omega), NewV.none _ _ _⟩, ?_⟩
    case r =>
     repeat' (refine Row.setCell_new ?_ (NewV.of_owns ho) (by omega))
     exact R0
    ·
     refine ⟨?_, ?_⟩
     ·
      repeat' (refine Dev.setCell ?_ (by simp <;> omega) _)
      exact D
     ·
      repeat' (refine tapk_set ?_ (by simp <;> omega) _)
      assumption
 ·
  have Bl := (Below.refl w.heap.size w1).alloc (by omega) (.cells #[.int .i64 16, .int .i64 0, .int .i64 0, .int .i64 0, .int .i64 0, .slice none 0 0, .slice none 0 0, .int .u16 0, .int .u16 0] 33);have X1 := Blk.new_at w1 33 [.int .i64 16, .int .i64 0, .int .i64 0, .int .i64 0, .int .i64 0, .slice none 0 0, .slice none 0 0, .int .u16 0, .int .u16 0] (w.heap.size + 1 + 1) S1.symm;refine (next_k B g l 70 _ (T1.below (Bl.mono hB)) (by simp <;> omega) (by decide)).mono ?_;rintro e w2 ⟨ax, rfl, a1, a2, T2, S2, D2⟩;simp at S2;replace X0 := (X0.alloc _).dev D2 (by simp <;> omega) (by omega);replace X1 := X1.dev D2 (by simp <;> omega) (by omega);replace D := (D.alloc (by omega) _).trans (D2.mono (by simp <;> omega));clear D2 Bl T1;have d0 := X0.cell 0;have d1 := X0.cell 1;have d2 := X0.cell 2;have d3 := X0.cell 3;have d4 := X0.cell 4;have d5 := X0.cell 5;have d6 := X0.cell 6;have d7 := X0.cell 7;have d8 := X0.cell 8;simp at d0 d1 d2 d3 d4 d5 d6 d7 d8;have fd := X0.frozen;have gd := X0.lt;have c0 := X1.cell 0;have c1 := X1.cell 1;have c2 := X1.cell 2;have c3 := X1.cell 3;have c4 := X1.cell 4;have c5 := X1.cell 5;have c6 := X1.cell 6;have c7 := X1.cell 7;have c8 := X1.cell 8;simp at c0 c1 c2 c3 c4 c5 c6 c7 c8;have fc := X1.frozen;have gc := X1.lt;go_wp2_with fail
  clear c0 d0 c1 d1 c2 d2 c3 d3 c4 d4 c5 d5 c6 d6 c7 d7 c8 d8 fc fd gc gd;refine (next_k B g l 26 _ T2 (by omega) (by decide)).mono ?_;rintro e w3 ⟨cx, rfl, cx1, cx2, T3, S3, D3⟩;rw [S2] at S3;replace X0 := X0.dev D3 (by omega) (by omega);replace X1 := X1.dev D3 (by omega) (by omega);replace D := D.trans (D3.mono (by omega));clear D3 T2;have d0 := X0.cell 0;have d1 := X0.cell 1;have d2 := X0.cell 2;have d3 := X0.cell 3;have d4 := X0.cell 4;have d5 := X0.cell 5;have d6 := X0.cell 6;have d7 := X0.cell 7;have d8 := X0.cell 8;simp at d0 d1 d2 d3 d4 d5 d6 d7 d8;have fd := X0.frozen;have gd := X0.lt;have c0 := X1.cell 0;have c1 := X1.cell 1;have c2 := X1.cell 2;have c3 := X1.cell 3;have c4 := X1.cell 4;have c5 := X1.cell 5;have c6 := X1.cell 6;have c7 := X1.cell 7;have c8 := X1.cell 8;simp at c0 c1 c2 c3 c4 c5 c6 c7 c8;have fc := X1.frozen;have gc := X1.lt;obtain ⟨n, rfl⟩ : ∃ n : Nat, cx = (n : Int) := ⟨cx.toNat, by omega⟩;go_wp2;replace X0 := (X0.set_ne (g := w.heap.size + 1 + 1) (by omega) 1 (.int .i64 ax)).set_ne (g := w.heap.size + 1 + 1) (by omega) 2 (.int .i64 n);replace X1 := (X1.set 1 (.int .i64 ax)).set 2 (.int .i64 n);replace D := (D.setCell (p := ⟨w.heap.size + 1 + 1, 1, none⟩) (by simp <;> omega) (.int .i64 ax)).setCell (p := ⟨w.heap.size + 1 + 1, 2, none⟩) (by simp <;> omega) (.int .i64 n);have Bl := ((Below.refl w.heap.size w3).setCell (p := ⟨w.heap.size + 1 + 1, 1, none⟩) (by simp <;> omega) (.int .i64 ax)).setCell (p := ⟨w.heap.size + 1 + 1, 2, none⟩) (by simp <;> omega) (.int .i64 n);replace T3 := T3.below (Bl.mono hB);simp at X1;clear c0 d0 c1 d1 c2 d2 c3 d3 c4 d4 c5 d5 c6 d6 c7 d7 c8 d8 fc fd gc gd;go_loopw [6] (fun i wr => ∃ (k : Nat) (bs : List UInt16) (vb : Value), k ≤ n ∧ i = .int .i64 k ∧ bs.length = k ∧ Blk wr w.heap.size 33 [.int .i64 0, .int .i64 0, .int .i64 0, .int .i64 0, .int .i64 0, .slice none 0 0, .slice none 0 0, .int .u16 0, .int .u16 0] ∧ Blk wr (w.heap.size + 1 + 1) 33 [.int .i64 16, .int .i64 ax, .int .i64 n, .int .i64 0, .int .i64 0, .slice none 0 0, vb, .int .u16 0, .int .u16 0] ∧ wr.ownsRow (w.heap.size + 1 + 1 + 1) 31 1 vb k (bs.map wV) ∧ TapK B wr g l ∧ Dev w.heap.size g w wr ∧ w.heap.size + 1 + 1 + 1 ≤ wr.heap.size) (fun i _ => n - (intOf i).toNat)
  case atStart => exact ⟨0, [], .slice none 0 0, Nat.zero_le _, rfl, rfl, X0, X1, World.ownsRow_nil _ _ _ _, T3, D, by simp; omega⟩
  case round =>
   clear X0 X1 D T3 Bl;obtain ⟨k, bs, vb, hk, rfl, hbl, X0, X1, ho, T, D, hz⟩ := hrel;have R0 := Row.of_owns ho;obtain ⟨va, vcap, rfl, -⟩ := id R0;simp only [List.length_map, hbl] at X1 ho R0;have d0 := X0.cell 0;have d1 := X0.cell 1;have d2 := X0.cell 2;have d3 := X0.cell 3;have d4 := X0.cell 4;have d5 := X0.cell 5;have d6 := X0.cell 6;have d7 := X0.cell 7;have d8 := X0.cell 8;simp at d0 d1 d2 d3 d4 d5 d6 d7 d8;have fd := X0.frozen;have gd := X0.lt;have c0 := X1.cell 0;have c1 := X1.cell 1;have c2 := X1.cell 2;have c3 := X1.cell 3;have c4 := X1.cell 4;have c5 := X1.cell 5;have c6 := X1.cell 6;have c7 := X1.cell 7;have c8 := X1.cell 8;simp at c0 c1 c2 c3 c4 c5 c6 c7 c8;have fc := X1.frozen;have gc := X1.lt;by_cases hlt : k < n
   ·
    have hlt' : (k : Int) < (n : Int) := by omega
    go_wp2;clear d0 d1 d2 d3 d4 d5 d6 d7 d8 fd gd c0 c1 c2 c3 c4 c5 c6 c7 c8 fc gc;refine h_begin 9 rfl (by kernel_rfl) ?_;replace X0 := X0.drew;replace X1 := X1.drew;replace T := T.drew;replace D := D.drew;replace ho := owns_below ho ((Below.refl wr.heap.size wr).drew);replace hz : w.heap.size + 1 + 1 + 1 ≤ wr.drew.heap.size := hz;generalize wr.drew = w6 at *;have c5 : w6.cell? ⟨w.heap.size + 1 + 1, 6, none⟩ = _ := X1.cell 6;simp at c5;refine h_P trivial 0 rfl ?_;refine h_P trivial 2 rfl ?_;refine h_move2 1 3 (by kernel_rfl) (h_op 1 rfl (by kernel_rfl) (fun K hK => ?_)) (h_op 3 rfl (by kernel_rfl) (fun K hK => ?_));focus
     go_simp;refine hK.out _ _ trivial ?_;clear K hK;try simp only [Act.put, PuA, PuB, PuC]
     refine h_move 3 (by kernel_rfl) (h_op 3 rfl (by kernel_rfl) (fun K hK => ?_));go_wp2_with fail
     refine (next_k B g l 65536 _ T (by omega) (by decide)).mono ?_;rintro e w7 ⟨mx, rfl, mx1, mx2, T7, S7, D7⟩;have hz7 : w.heap.size + 1 + 1 + 1 ≤ w7.heap.size := by omega
     clear S7;go_simp;refine hK.out _ _ trivial ?_;clear K hK;try simp only [Act.put, PuA, PuB, PuC]
     have wx : IntKind.u16.wrap mx = mx := by rw [IntKind.wrap_u16]; omega
     refine h_P trivial 4 rfl ?_;refine h_move 5 (by kernel_rfl) (h_op 5 rfl (by kernel_rfl) (fun K hK => ?_));go_simp;refine hK.out _ _ trivial ?_;clear K hK;try simp only [Act.put, PuA, PuB, PuC]
    rotate_left
    focus
     go_wp2_with fail
     refine (next_k B g l 65536 _ T (by omega) (by decide)).mono ?_;rintro e w7 ⟨mx, rfl, mx1, mx2, T7, S7, D7⟩;have hz7 : w.heap.size + 1 + 1 + 1 ≤ w7.heap.size := by omega
     clear S7;go_simp;refine hK.out _ _ trivial ?_;clear K hK;try simp only [Act.put, PuA, PuB, PuC]
     have wx : IntKind.u16.wrap mx = mx := by rw [IntKind.wrap_u16]; omega
     refine h_P trivial 4 rfl ?_;have c7 : w7.cell? ⟨w.heap.size + 1 + 1, 6, none⟩ = _ := (X1.dev D7 (by omega) (by omega)).cell 6;simp at c7;have lt7 : w.heap.size + 1 + 1 < w7.heap.size := by omega
     refine h_move2 1 5 (by kernel_rfl) (h_op 1 rfl (by kernel_rfl) (fun K hK => ?_)) (h_op 5 rfl (by kernel_rfl) (fun K hK => ?_));focus
      go_simp;refine hK.out _ _ trivial ?_;clear K hK;try simp only [Act.put, PuA, PuB, PuC]
      refine h_move 5 (by kernel_rfl) (h_op 5 rfl (by kernel_rfl) (fun K hK => ?_));go_simp;refine hK.out _ _ trivial ?_;clear K hK;try simp only [Act.put, PuA, PuB, PuC]
      clear c7
     rotate_left
     focus
      go_simp;refine hK.out _ _ trivial ?_;clear K hK;try simp only [Act.put, PuA, PuB, PuC]
      refine h_move 1 (by kernel_rfl) (h_op 1 rfl (by kernel_rfl) (fun K hK => ?_));go_simp;refine hK.out _ _ trivial ?_;clear K hK;try simp only [Act.put, PuA, PuB, PuC]
      clear c7
    all_goals
     replace X0 := X0.dev D7 (by omega) (by omega);replace X1 := X1.dev D7 (by omega) (by omega);replace ho := owns_dev ho D7 (by omega);replace D := D.trans (D7.mono (by omega));clear D7 T c5;have Rn := row_new w7 [.int .u16 mx] 31 1 rfl (by decide);refine h_move 6 (by kernel_rfl) (h_op 6 rfl (by kernel_rfl) (fun K hK => ?_));refine wp_app (.tmp 96) (.tmp 100) 30 rfl (w.heap.size + 1 + 1 + 1) 31 (.int .u16 0) 2 Tryz.underlying30 info_u16 rfl rfl (ho.alloc _) rfl Rn (by intro u hu; simp at hu; subst hu; rfl) (by simp [maxLen]; omega) (by simp <;> omega) (by simp <;> omega) ?_;intro v8 w8 ho8 hg8;refine hK.out _ _ trivial ?_;clear K hK;try simp only [Act.put, PuA, PuB, PuC]
     replace X0 := (X0.alloc (.cells #[.int .u16 mx] 31)).grown hg8 (fun r hr => by have := (ho.lt r hr).1; omega);replace X1 := (X1.alloc (.cells #[.int .u16 mx] 31)).grown hg8 (fun r hr => by have := (ho.lt r hr).1; omega);have Bl := ((Below.refl w.heap.size w7).alloc (by omega) (.cells #[.int .u16 mx] 31)).grown hg8 (by simp <;> omega) (fun r hr => by have := (ho.lt r hr).1; omega);replace T7 := T7.below (Bl.mono hB);replace D := D.trans (Dev.of_below Bl);have hz8 : w.heap.size + 1 + 1 + 1 ≤ w8.heap.size := by have := hg8.size; simp at this; omega
     clear Bl hg8 Rn ho R0;refine h_P trivial 7 rfl ?_;have R8 := Row.of_owns ho8;obtain ⟨va8, vcap8, rfl, -⟩ := id R8;have c5 : w8.cell? ⟨w.heap.size + 1 + 1, 6, none⟩ = _ := X1.cell 6;simp at c5;have f5 := X1.frozen;refine h_move 8 (by kernel_rfl) (h_op 8 rfl (by kernel_rfl) (fun K hK => ?_));go_simp;refine hK.out _ _ trivial ?_;clear K hK c5 f5;try simp only [Act.put, PuA, PuB, PuC]
     refine h_done (by kernel_rfl) ?_;go_wp2;go_roundw
     case rel =>
      refine ⟨k + 1, bs ++ [wOf mx], _, by omega, by go_num, by simp [hbl], X0.set_ne (by omega) 6 _, by simpa using X1.set 6 _, ?_, T7.below ((Below.refl B w8).setCell (p := ⟨w.heap.size + 1 + 1, 6, none⟩) (by simp <;> omega) _), D.setCell (p := ⟨w.heap.size + 1 + 1, 6, none⟩) (by simp <;> omega) _, by simpa using hz8⟩;have e : bs.map wV ++ [Value.int .u16 mx] = (bs ++ [wOf mx]).map wV := by simp [wV, wOf_wrap]; omega
      rw [e] at ho8;have ho9 := owns_setCell (u := .slice va8 (k + 1) vcap8) ho8 (w.heap.size + 1 + 1) 6 (by omega);simp [hbl] at ho9 ⊢;exact ho9
     case measure => simp [intOf]; omega
   ·
    have hkn : k = n := by omega
    subst hkn;have hlt' : ¬ (k : Int) < (k : Int) := by omega
    go_wp2;refine bodyPost_ret (v := _) (by simp [results, Tryz.results11, go_sem, d0, d1, d2, d3, d4, d5, d6, d7, d8]; with_reducible rfl) rfl ?_;refine ⟨_, rfl, ⟨16, ax, k, 0, 0, [], bs, 0, 0⟩, ⟨_, _, rfl, Row.nil _, ?r⟩, rightE_0 rfl (by simp [formP]) (by simp [numB]; omega) (by simp [listB, hbl]; omega), by simp, ⟨by simp [hbl]; omega, by first | (simp; done) | (simp only; omega)⟩, ⟨_, _, _, _, _, _, _, _, _, rfl, NewV.none _ _ _, (NewV.of_owns ho).le (by omega)⟩, ?_⟩
    case r =>
     repeat' (refine Row.setCell_new ?_ (NewV.of_owns ho) (by omega))
     exact R0
    ·
     refine ⟨?_, ?_⟩
     ·
      repeat' (refine Dev.setCell ?_ (by simp <;> omega) _)
      exact D
     ·
      repeat' (refine tapk_set ?_ (by simp <;> omega) _)
      assumption
 ·
  have Bl := (Below.refl w.heap.size w1).alloc (by omega) (.cells #[.int .i64 17, .int .i64 0, .int .i64 0, .int .i64 0, .int .i64 0, .slice none 0 0, .slice none 0 0, .int .u16 0, .int .u16 0] 33);have X1 := Blk.new_at w1 33 [.int .i64 17, .int .i64 0, .int .i64 0, .int .i64 0, .int .i64 0, .slice none 0 0, .slice none 0 0, .int .u16 0, .int .u16 0] (w.heap.size + 1 + 1) S1.symm;refine (next_k B g l 70 _ (T1.below (Bl.mono hB)) (by simp <;> omega) (by decide)).mono ?_;rintro e w2 ⟨ax, rfl, a1, a2, T2, S2, D2⟩;simp at S2;replace X0 := (X0.alloc _).dev D2 (by simp <;> omega) (by omega);replace X1 := X1.dev D2 (by simp <;> omega) (by omega);replace D := (D.alloc (by omega) _).trans (D2.mono (by simp <;> omega));clear D2 Bl T1;have d0 := X0.cell 0;have d1 := X0.cell 1;have d2 := X0.cell 2;have d3 := X0.cell 3;have d4 := X0.cell 4;have d5 := X0.cell 5;have d6 := X0.cell 6;have d7 := X0.cell 7;have d8 := X0.cell 8;simp at d0 d1 d2 d3 d4 d5 d6 d7 d8;have fd := X0.frozen;have gd := X0.lt;have c0 := X1.cell 0;have c1 := X1.cell 1;have c2 := X1.cell 2;have c3 := X1.cell 3;have c4 := X1.cell 4;have c5 := X1.cell 5;have c6 := X1.cell 6;have c7 := X1.cell 7;have c8 := X1.cell 8;simp at c0 c1 c2 c3 c4 c5 c6 c7 c8;have fc := X1.frozen;have gc := X1.lt;go_wp2;refine bodyPost_ret (v := _) (by simp [results, Tryz.results11, go_sem, d0, d1, d2, d3, d4, d5, d6, d7, d8]; with_reducible rfl) rfl ?_;refine ⟨_, rfl, ⟨17, 0, 0, 0, 0, [], [], 0, 0⟩, ⟨_, _, rfl, Row.nil _, Row.nil _⟩, rightE_0 rfl (by simp [formP]) (by simp [numB]) (by simp [listB]), by simp, ⟨by simp, by first | (simp; done) | (simp only; omega)⟩, ⟨_, _, _, _, _, _, _, _, _, rfl, NewV.none _ _ _, NewV.none _ _ _⟩, ?_⟩;refine ⟨?_, ?_⟩
  ·
   repeat' (refine Dev.setCell ?_ (by simp <;> omega) _)
   exact D
  ·
   repeat' (refine tapk_set ?_ (by simp <;> omega) _)
   assumption
 ·
  have Bl := (Below.refl w.heap.size w1).alloc (by omega) (.cells #[.int .i64 22, .int .i64 0, .int .i64 0, .int .i64 0, .int .i64 0, .slice none 0 0, .slice none 0 0, .int .u16 0, .int .u16 0] 33);have X1 := Blk.new_at w1 33 [.int .i64 22, .int .i64 0, .int .i64 0, .int .i64 0, .int .i64 0, .slice none 0 0, .slice none 0 0, .int .u16 0, .int .u16 0] (w.heap.size + 1 + 1) S1.symm;refine (next_k B g l 70 _ (T1.below (Bl.mono hB)) (by simp <;> omega) (by decide)).mono ?_;rintro e w2 ⟨ax, rfl, a1, a2, T2, S2, D2⟩;simp at S2;replace X0 := (X0.alloc _).dev D2 (by simp <;> omega) (by omega);replace X1 := X1.dev D2 (by simp <;> omega) (by omega);replace D := (D.alloc (by omega) _).trans (D2.mono (by simp <;> omega));clear D2 Bl T1;have d0 := X0.cell 0;have d1 := X0.cell 1;have d2 := X0.cell 2;have d3 := X0.cell 3;have d4 := X0.cell 4;have d5 := X0.cell 5;have d6 := X0.cell 6;have d7 := X0.cell 7;have d8 := X0.cell 8;simp at d0 d1 d2 d3 d4 d5 d6 d7 d8;have fd := X0.frozen;have gd := X0.lt;have c0 := X1.cell 0;have c1 := X1.cell 1;have c2 := X1.cell 2;have c3 := X1.cell 3;have c4 := X1.cell 4;have c5 := X1.cell 5;have c6 := X1.cell 6;have c7 := X1.cell 7;have c8 := X1.cell 8;simp at c0 c1 c2 c3 c4 c5 c6 c7 c8;have fc := X1.frozen;have gc := X1.lt;go_wp2_with fail
  clear c0 d0 c1 d1 c2 d2 c3 d3 c4 d4 c5 d5 c6 d6 c7 d7 c8 d8 fc fd gc gd;refine (next_k B g l 65536 _ T2 (by omega) (by decide)).mono ?_;rintro e w3 ⟨cx, rfl, cx1, cx2, T3, S3, D3⟩;rw [S2] at S3;replace X0 := X0.dev D3 (by omega) (by omega);replace X1 := X1.dev D3 (by omega) (by omega);replace D := D.trans (D3.mono (by omega));clear D3 T2;have d0 := X0.cell 0;have d1 := X0.cell 1;have d2 := X0.cell 2;have d3 := X0.cell 3;have d4 := X0.cell 4;have d5 := X0.cell 5;have d6 := X0.cell 6;have d7 := X0.cell 7;have d8 := X0.cell 8;simp at d0 d1 d2 d3 d4 d5 d6 d7 d8;have fd := X0.frozen;have gd := X0.lt;have c0 := X1.cell 0;have c1 := X1.cell 1;have c2 := X1.cell 2;have c3 := X1.cell 3;have c4 := X1.cell 4;have c5 := X1.cell 5;have c6 := X1.cell 6;have c7 := X1.cell 7;have c8 := X1.cell 8;simp at c0 c1 c2 c3 c4 c5 c6 c7 c8;have fc := X1.frozen;have gc := X1.lt;go_wp2_with fail
  clear c0 d0 c1 d1 c2 d2 c3 d3 c4 d4 c5 d5 c6 d6 c7 d7 c8 d8 fc fd gc gd;refine (next_k B g l 65536 _ T3 (by omega) (by decide)).mono ?_;rintro e w4 ⟨ox, rfl, ox1, ox2, T4, S4, D4⟩;rw [S3] at S4;replace X0 := X0.dev D4 (by omega) (by omega);replace X1 := X1.dev D4 (by omega) (by omega);replace D := D.trans (D4.mono (by omega));clear D4 T3;have d0 := X0.cell 0;have d1 := X0.cell 1;have d2 := X0.cell 2;have d3 := X0.cell 3;have d4 := X0.cell 4;have d5 := X0.cell 5;have d6 := X0.cell 6;have d7 := X0.cell 7;have d8 := X0.cell 8;simp at d0 d1 d2 d3 d4 d5 d6 d7 d8;have fd := X0.frozen;have gd := X0.lt;have c0 := X1.cell 0;have c1 := X1.cell 1;have c2 := X1.cell 2;have c3 := X1.cell 3;have c4 := X1.cell 4;have c5 := X1.cell 5;have c6 := X1.cell 6;have c7 := X1.cell 7;have c8 := X1.cell 8;simp at c0 c1 c2 c3 c4 c5 c6 c7 c8;have fc := X1.frozen;have gc := X1.lt;go_wp2;refine bodyPost_ret (v := _) (by simp [results, Tryz.results11, go_sem, d0, d1, d2, d3, d4, d5, d6, d7, d8]; with_reducible rfl) rfl ?_;refine ⟨_, rfl, ⟨22, ax, 0, 0, 0, [], [], wOf cx, wOf ox⟩, ⟨.slice none 0 0, .slice none 0 0, ?_, Row.nil _, Row.nil _⟩, rightE_0 rfl (by simp [formP]) (by simp [numB]; omega) (by simp [listB]), by simp, ⟨by simp, by first | (simp; done) | (simp only; omega)⟩, ⟨_, _, _, _, _, _, _, _, _, rfl, NewV.none _ _ _, NewV.none _ _ _⟩, ?_⟩
  ·
   simp [wOf_wrap]; omega
  ·
   refine ⟨?_, ?_⟩
   ·
    repeat' (refine Dev.setCell ?_ (by simp <;> omega) _)
    exact D
   ·
    repeat' (refine tapk_set ?_ (by simp <;> omega) _)
    assumption
 ·
  have Bl := (Below.refl w.heap.size w1).alloc (by omega) (.cells #[.int .i64 23, .int .i64 0, .int .i64 0, .int .i64 0, .int .i64 0, .slice none 0 0, .slice none 0 0, .int .u16 0, .int .u16 0] 33);have X1 := Blk.new_at w1 33 [.int .i64 23, .int .i64 0, .int .i64 0, .int .i64 0, .int .i64 0, .slice none 0 0, .slice none 0 0, .int .u16 0, .int .u16 0] (w.heap.size + 1 + 1) S1.symm;refine (next_k B g l 70 _ (T1.below (Bl.mono hB)) (by simp <;> omega) (by decide)).mono ?_;rintro e w2 ⟨ax, rfl, a1, a2, T2, S2, D2⟩;simp at S2;replace X0 := (X0.alloc _).dev D2 (by simp <;> omega) (by omega);replace X1 := X1.dev D2 (by simp <;> omega) (by omega);replace D := (D.alloc (by omega) _).trans (D2.mono (by simp <;> omega));clear D2 Bl T1;have d0 := X0.cell 0;have d1 := X0.cell 1;have d2 := X0.cell 2;have d3 := X0.cell 3;have d4 := X0.cell 4;have d5 := X0.cell 5;have d6 := X0.cell 6;have d7 := X0.cell 7;have d8 := X0.cell 8;simp at d0 d1 d2 d3 d4 d5 d6 d7 d8;have fd := X0.frozen;have gd := X0.lt;have c0 := X1.cell 0;have c1 := X1.cell 1;have c2 := X1.cell 2;have c3 := X1.cell 3;have c4 := X1.cell 4;have c5 := X1.cell 5;have c6 := X1.cell 6;have c7 := X1.cell 7;have c8 := X1.cell 8;simp at c0 c1 c2 c3 c4 c5 c6 c7 c8;have fc := X1.frozen;have gc := X1.lt;go_wp2_with fail
  clear c0 d0 c1 d1 c2 d2 c3 d3 c4 d4 c5 d5 c6 d6 c7 d7 c8 d8 fc fd gc gd;refine (next_k B g l 20 _ T2 (by omega) (by decide)).mono ?_;rintro e w3 ⟨cx, rfl, cx1, cx2, T3, S3, D3⟩;rw [S2] at S3;replace X0 := X0.dev D3 (by omega) (by omega);replace X1 := X1.dev D3 (by omega) (by omega);replace D := D.trans (D3.mono (by omega));clear D3 T2;have d0 := X0.cell 0;have d1 := X0.cell 1;have d2 := X0.cell 2;have d3 := X0.cell 3;have d4 := X0.cell 4;have d5 := X0.cell 5;have d6 := X0.cell 6;have d7 := X0.cell 7;have d8 := X0.cell 8;simp at d0 d1 d2 d3 d4 d5 d6 d7 d8;have fd := X0.frozen;have gd := X0.lt;have c0 := X1.cell 0;have c1 := X1.cell 1;have c2 := X1.cell 2;have c3 := X1.cell 3;have c4 := X1.cell 4;have c5 := X1.cell 5;have c6 := X1.cell 6;have c7 := X1.cell 7;have c8 := X1.cell 8;simp at c0 c1 c2 c3 c4 c5 c6 c7 c8;have fc := X1.frozen;have gc := X1.lt;go_wp2_with fail
  clear c0 d0 c1 d1 c2 d2 c3 d3 c4 d4 c5 d5 c6 d6 c7 d7 c8 d8 fc fd gc gd;refine (next_k B g l 40 _ T3 (by omega) (by decide)).mono ?_;rintro e w4 ⟨px, rfl, px1, px2, T4, S4, D4⟩;rw [S3] at S4;replace X0 := X0.dev D4 (by omega) (by omega);replace X1 := X1.dev D4 (by omega) (by omega);replace D := D.trans (D4.mono (by omega));clear D4 T3;have d0 := X0.cell 0;have d1 := X0.cell 1;have d2 := X0.cell 2;have d3 := X0.cell 3;have d4 := X0.cell 4;have d5 := X0.cell 5;have d6 := X0.cell 6;have d7 := X0.cell 7;have d8 := X0.cell 8;simp at d0 d1 d2 d3 d4 d5 d6 d7 d8;have fd := X0.frozen;have gd := X0.lt;have c0 := X1.cell 0;have c1 := X1.cell 1;have c2 := X1.cell 2;have c3 := X1.cell 3;have c4 := X1.cell 4;have c5 := X1.cell 5;have c6 := X1.cell 6;have c7 := X1.cell 7;have c8 := X1.cell 8;simp at c0 c1 c2 c3 c4 c5 c6 c7 c8;have fc := X1.frozen;have gc := X1.lt;go_wp2_with fail
  clear c0 d0 c1 d1 c2 d2 c3 d3 c4 d4 c5 d5 c6 d6 c7 d7 c8 d8 fc fd gc gd;replace X0 := ((X0.set_ne (g := w.heap.size + 1 + 1) (by omega) 1 (.int .i64 ax)).set_ne (g := w.heap.size + 1 + 1) (by omega) 2 (.int .i64 cx)).set_ne (g := w.heap.size + 1 + 1) (by omega) 3 (.int .i64 px);replace X1 := ((X1.set 1 (.int .i64 ax)).set 2 (.int .i64 cx)).set 3 (.int .i64 px);replace D := ((D.setCell (p := ⟨w.heap.size + 1 + 1, 1, none⟩) (by simp <;> omega) (.int .i64 ax)).setCell (p := ⟨w.heap.size + 1 + 1, 2, none⟩) (by simp <;> omega) (.int .i64 cx)).setCell (p := ⟨w.heap.size + 1 + 1, 3, none⟩) (by simp <;> omega) (.int .i64 px);have Bl := (((Below.refl w.heap.size w4).setCell (p := ⟨w.heap.size + 1 + 1, 1, none⟩) (by simp <;> omega) (.int .i64 ax)).setCell (p := ⟨w.heap.size + 1 + 1, 2, none⟩) (by simp <;> omega) (.int .i64 cx)).setCell (p := ⟨w.heap.size + 1 + 1, 3, none⟩) (by simp <;> omega) (.int .i64 px);refine (next_k B g l 20 _ (T4.below (Bl.mono hB)) (by simp <;> omega) (by decide)).mono ?_;rintro e w5 ⟨nx, rfl, nx1, nx2, T5, S5, D5⟩;simp at S5;replace X0 := X0.dev D5 (by simp <;> omega) (by omega);replace X1 := X1.dev D5 (by simp <;> omega) (by omega);replace D := D.trans (D5.mono (by simp <;> omega));simp at X1;clear D5 Bl T4;obtain ⟨n, rfl⟩ : ∃ n : Nat, nx = (n : Int) := ⟨nx.toNat, by omega⟩;go_wp2;go_loopw [7] (fun i wr => ∃ (k : Nat) (bs : List UInt16) (vb : Value), k ≤ n ∧ i = .int .i64 ((n - k : Nat) : Int) ∧ bs.length = k ∧ Blk wr w.heap.size 33 [.int .i64 0, .int .i64 0, .int .i64 0, .int .i64 0, .int .i64 0, .slice none 0 0, .slice none 0 0, .int .u16 0, .int .u16 0] ∧ Blk wr (w.heap.size + 1 + 1) 33 [.int .i64 23, .int .i64 ax, .int .i64 cx, .int .i64 px, .int .i64 0, .slice none 0 0, vb, .int .u16 0, .int .u16 0] ∧ wr.ownsRow (w.heap.size + 1 + 1 + 1) 31 1 vb k (bs.map wV) ∧ TapK B wr g l ∧ Dev w.heap.size g w wr ∧ w.heap.size + 1 + 1 + 1 ≤ wr.heap.size) (fun i _ => (intOf i).toNat)
  case atStart => exact ⟨0, [], .slice none 0 0, Nat.zero_le _, by simp, rfl, X0, X1, World.ownsRow_nil _ _ _ _, T5, D, by omega⟩
  case round =>
   clear X0 X1 D T5;obtain ⟨k, bs, vb, hk, rfl, hbl, X0, X1, ho, T, D, hz⟩ := hrel;have R0 := Row.of_owns ho;obtain ⟨va, vcap, rfl, -⟩ := id R0;simp only [List.length_map, hbl] at X1 ho R0;have d0 := X0.cell 0;have d1 := X0.cell 1;have d2 := X0.cell 2;have d3 := X0.cell 3;have d4 := X0.cell 4;have d5 := X0.cell 5;have d6 := X0.cell 6;have d7 := X0.cell 7;have d8 := X0.cell 8;simp at d0 d1 d2 d3 d4 d5 d6 d7 d8;have fd := X0.frozen;have gd := X0.lt;have c0 := X1.cell 0;have c1 := X1.cell 1;have c2 := X1.cell 2;have c3 := X1.cell 3;have c4 := X1.cell 4;have c5 := X1.cell 5;have c6 := X1.cell 6;have c7 := X1.cell 7;have c8 := X1.cell 8;simp at c0 c1 c2 c3 c4 c5 c6 c7 c8;have fc := X1.frozen;have gc := X1.lt;by_cases hlt : k < n
   ·
    have hlt' : (0 : Int) < ((n - k : Nat) : Int) := by omega
    go_wp2;clear d0 d1 d2 d3 d4 d5 d6 d7 d8 fd gd c0 c1 c2 c3 c4 c5 c6 c7 c8 fc gc;refine h_begin 9 rfl (by kernel_rfl) ?_;replace X0 := X0.drew;replace X1 := X1.drew;replace T := T.drew;replace D := D.drew;replace ho := owns_below ho ((Below.refl wr.heap.size wr).drew);replace hz : w.heap.size + 1 + 1 + 1 ≤ wr.drew.heap.size := hz;generalize wr.drew = w6 at *;have c5 : w6.cell? ⟨w.heap.size + 1 + 1, 6, none⟩ = _ := X1.cell 6;simp at c5;refine h_P trivial 0 rfl ?_;refine h_P trivial 2 rfl ?_;refine h_move2 1 3 (by kernel_rfl) (h_op 1 rfl (by kernel_rfl) (fun K hK => ?_)) (h_op 3 rfl (by kernel_rfl) (fun K hK => ?_));focus
     go_simp;refine hK.out _ _ trivial ?_;clear K hK;try simp only [Act.put, PuA, PuB, PuC]
     refine h_move 3 (by kernel_rfl) (h_op 3 rfl (by kernel_rfl) (fun K hK => ?_));go_wp2_with fail
     refine (next_k B g l 65536 _ T (by omega) (by decide)).mono ?_;rintro e w7 ⟨mx, rfl, mx1, mx2, T7, S7, D7⟩;have hz7 : w.heap.size + 1 + 1 + 1 ≤ w7.heap.size := by omega
     clear S7;go_simp;refine hK.out _ _ trivial ?_;clear K hK;try simp only [Act.put, PuA, PuB, PuC]
     have wx : IntKind.u16.wrap mx = mx := by rw [IntKind.wrap_u16]; omega
     refine h_P trivial 4 rfl ?_;refine h_move 5 (by kernel_rfl) (h_op 5 rfl (by kernel_rfl) (fun K hK => ?_));go_simp;refine hK.out _ _ trivial ?_;clear K hK;try simp only [Act.put, PuA, PuB, PuC]
    rotate_left
    focus
     go_wp2_with fail
     refine (next_k B g l 65536 _ T (by omega) (by decide)).mono ?_;rintro e w7 ⟨mx, rfl, mx1, mx2, T7, S7, D7⟩;have hz7 : w.heap.size + 1 + 1 + 1 ≤ w7.heap.size := by omega
     clear S7;go_simp;refine hK.out _ _ trivial ?_;clear K hK;try simp only [Act.put, PuA, PuB, PuC]
     have wx : IntKind.u16.wrap mx = mx := by rw [IntKind.wrap_u16]; omega
     refine h_P trivial 4 rfl ?_;have c7 : w7.cell? ⟨w.heap.size + 1 + 1, 6, none⟩ = _ := (X1.dev D7 (by omega) (by omega)).cell 6;simp at c7;have lt7 : w.heap.size + 1 + 1 < w7.heap.size := by omega
     refine h_move2 1 5 (by kernel_rfl) (h_op 1 rfl (by kernel_rfl) (fun K hK => ?_)) (h_op 5 rfl (by kernel_rfl) (fun K hK => ?_));focus
      go_simp;refine hK.out _ _ trivial ?_;clear K hK;try simp only [Act.put, PuA, PuB, PuC]
      refine h_move 5 (by kernel_rfl) (h_op 5 rfl (by kernel_rfl) (fun K hK => ?_));go_simp;refine hK.out _ _ trivial ?_;clear K hK;try simp only [Act.put, PuA, PuB, PuC]
      clear c7
     rotate_left
     focus
      go_simp;refine hK.out _ _ trivial ?_;clear K hK;try simp only [Act.put, PuA, PuB, PuC]
      refine h_move 1 (by kernel_rfl) (h_op 1 rfl (by kernel_rfl) (fun K hK => ?_));go_simp;refine hK.out _ _ trivial ?_;clear K hK;try simp only [Act.put, PuA, PuB, PuC]
      clear c7
    all_goals
     replace X0 := X0.dev D7 (by omega) (by omega);replace X1 := X1.dev D7 (by omega) (by omega);replace ho := owns_dev ho D7 (by omega);replace D := D.trans (D7.mono (by omega));clear D7 T c5;have Rn := row_new w7 [.int .u16 mx] 31 1 rfl (by decide);refine h_move 6 (by kernel_rfl) (h_op 6 rfl (by kernel_rfl) (fun K hK => ?_));refine wp_app (.tmp 132) (.tmp 136) 30 rfl (w.heap.size + 1 + 1 + 1) 31 (.int .u16 0) 2 Tryz.underlying30 info_u16 rfl rfl (ho.alloc _) rfl Rn (by intro u hu; simp at hu; subst hu; rfl) (by simp [maxLen]; omega) (by simp <;> omega) (by simp <;> omega) ?_;intro v8 w8 ho8 hg8;refine hK.out _ _ trivial ?_;clear K hK;try simp only [Act.put, PuA, PuB, PuC]
     replace X0 := (X0.alloc (.cells #[.int .u16 mx] 31)).grown hg8 (fun r hr => by have := (ho.lt r hr).1; omega);replace X1 := (X1.alloc (.cells #[.int .u16 mx] 31)).grown hg8 (fun r hr => by have := (ho.lt r hr).1; omega);have Bl := ((Below.refl w.heap.size w7).alloc (by omega) (.cells #[.int .u16 mx] 31)).grown hg8 (by simp <;> omega) (fun r hr => by have := (ho.lt r hr).1; omega);replace T7 := T7.below (Bl.mono hB);replace D := D.trans (Dev.of_below Bl);have hz8 : w.heap.size + 1 + 1 + 1 ≤ w8.heap.size := by have := hg8.size; simp at this; omega
     clear Bl hg8 Rn ho R0;refine h_P trivial 7 rfl ?_;have R8 := Row.of_owns ho8;obtain ⟨va8, vcap8, rfl, -⟩ := id R8;have c5 : w8.cell? ⟨w.heap.size + 1 + 1, 6, none⟩ = _ := X1.cell 6;simp at c5;have f5 := X1.frozen;refine h_move 8 (by kernel_rfl) (h_op 8 rfl (by kernel_rfl) (fun K hK => ?_));go_simp;refine hK.out _ _ trivial ?_;clear K hK c5 f5;try simp only [Act.put, PuA, PuB, PuC]
     refine h_done (by kernel_rfl) ?_;go_wp2;go_roundw
     case rel =>
      refine ⟨k + 1, bs ++ [wOf mx], _, by omega, by congr 1; omega, by simp [hbl], X0.set_ne (by omega) 6 _, by simpa using X1.set 6 _, ?_, T7.below ((Below.refl B w8).setCell (p := ⟨w.heap.size + 1 + 1, 6, none⟩) (by simp <;> omega) _), D.setCell (p := ⟨w.heap.size + 1 + 1, 6, none⟩) (by simp <;> omega) _, by simpa using hz8⟩;have e : bs.map wV ++ [Value.int .u16 mx] = (bs ++ [wOf mx]).map wV := by simp [wV, wOf_wrap]; omega
      rw [e] at ho8;have ho9 := owns_setCell (u := .slice va8 (k + 1) vcap8) ho8 (w.heap.size + 1 + 1) 6 (by omega);simp [hbl] at ho9 ⊢;exact ho9
     case measure => simp [intOf]; omega
   ·
    have hkn : k = n := by omega
    subst hkn;have hlt' : ¬ (0 : Int) < ((k - k : Nat) : Int) := by omega
    go_wp2;refine bodyPost_ret (v := _) (by simp [results, Tryz.results11, go_sem, d0, d1, d2, d3, d4, d5, d6, d7, d8]; with_reducible rfl) rfl ?_;refine ⟨_, rfl, ⟨23, ax, cx, px, 0, [], bs, 0, 0⟩, ⟨_, _, rfl, Row.nil _, ?r⟩, rightE_0 rfl (by simp [formP]) (by simp [numB]; omega) (by simp [listB, hbl]; omega), by simp, ⟨by simp [hbl]; omega, by first | (simp; done) | (simp only; omega)⟩, ⟨_, _, _, _, _, _, _, _, _, rfl, NewV.none _ _ _, (NewV.of_owns ho).le (by omega)⟩, ?_⟩
    case r =>
     repeat' (refine Row.setCell_new ?_ (NewV.of_owns ho) (by omega))
     exact R0
    ·
     refine ⟨?_, ?_⟩
     ·
      repeat' (refine Dev.setCell ?_ (by simp <;> omega) _)
      exact D
     ·
      repeat' (refine tapk_set ?_ (by simp <;> omega) _)
      assumption
end Go.Proofs.YtdihcdphgiaepaaGreat
