/- The tape of numbers that tables are made of: Next. -/
import Derived.Test.YtffjhimdamdenaaK5
import Derived.Test.YtffjhimdamdenaaWA
import Derived.Test.YtffjhimdamdenaaW1
namespace Go.Proofs.Ytffjhimdamdenaa
open Go.RowKit

abbrev iV (n : Int) : Value := .int .i64 n
/-- below B only block g has changed -/
structure Dev (B g : Nat) (w w' : World) : Prop where
  os : w'.os = w.os
  tape : w'.tape = w.tape
  output : w'.output = w.output
  size : w.heap.size ≤ w'.heap.size
  block : ∀ k, k < B → k ≠ g → w'.heap[k]? = w.heap[k]?
theorem Dev.refl (B g : Nat) (w : World) : Dev B g w w := ⟨rfl, rfl, rfl, Nat.le_refl _, fun _ _ _ => rfl⟩
theorem Dev.trans {B g : Nat} {a b c : World} (h : Dev B g a b) (k : Dev B g b c) : Dev B g a c :=
  ⟨k.os.trans h.os, k.tape.trans h.tape, k.output.trans h.output, Nat.le_trans h.size k.size, fun i h1 h2 => (k.block i h1 h2).trans (h.block i h1 h2)⟩
theorem Dev.of_below {B g : Nat} {w w' : World} (h : Below B w w') : Dev B g w w' := ⟨h.os, h.tape, h.output, h.size, fun k hk _ => h.block k hk⟩
theorem Dev.setCell {B g : Nat} {a w : World} (h : Dev B g a w) {p : Addr} (hp : B ≤ p.block) (v : Value) : Dev B g a (w.setCell p v) := by
  refine h.trans (Dev.of_below ((Below.refl B w).setCell hp v))
theorem Dev.alloc {B g : Nat} {a w : World} (h : Dev B g a w) (hB : B ≤ w.heap.size) (o : Obj) : Dev B g a (w.alloc o) :=
  h.trans (Dev.of_below ((Below.refl B w).alloc hB o))
theorem Dev.drew {B g : Nat} {a w : World} (h : Dev B g a w) : Dev B g a w.drew := ⟨h.os, h.tape, h.output, h.size, h.block⟩
theorem Dev.drewN {B g : Nat} {a w : World} (h : Dev B g a w) (n : Nat) : Dev B g a (w.drewN n) := ⟨h.os, h.tape, h.output, h.size, h.block⟩
theorem Dev.mono {B B' g : Nat} {a w : World} (h : Dev B g a w) (hb : B' ≤ B) : Dev B' g a w := ⟨h.os, h.tape, h.output, h.size, fun k hk hg => h.block k (by omega) hg⟩
theorem Dev.below {B B' g : Nat} {a w : World} (h : Dev B g a w) (hb : B' ≤ B) (hg : B' ≤ g) : Below B' a w := ⟨h.os, h.tape, h.output, h.size, fun k hk => h.block k (by omega) (by omega)⟩
theorem Blk.dev {w w' : World} {B g k : Nat} {e : TypeId} {xs : List Value} (h : Blk w k e xs) (hd : Dev B g w w') (hk : k < B) (hg : k ≠ g) : Blk w' k e xs := (hd.block k hk hg).trans h

/-- a slice that lies below B, and not in block g -/
def Old (B g : Nat) (v : Value) : Prop := ∀ a n c, v = .slice (some a) n c → a.block < B ∧ a.block ≠ g
theorem Row.dev {w w' : World} {B g : Nat} {v : Value} {xs : List Value} (h : Row w v xs) (ho : xs = [] ∨ Old B g v) (hd : Dev B g w w') : Row w' v xs := by
  obtain ⟨a, cap, rfl, h1, h2, h3, h4⟩ := h
  refine ⟨_, _, rfl, h1, h2, h3, ?_⟩
  rcases ho with rfl | ho
  · exact .inl rfl
  rcases h4 with rfl | ⟨b, off, rfl, hc⟩
  · exact .inl rfl
  · obtain ⟨o1, o2⟩ := ho _ _ _ rfl
    refine .inr ⟨_, _, rfl, fun i hi => ?_⟩
    rw [← hc i hi]
    exact World.cell?_of_block (a := ⟨b, off + i, none⟩) (hd.block b o1 o2)

/-- block g is a tape of the numbers l -/
structure Tap (B : Nat) (w : World) (g : Nat) (l : List Int) : Prop where
  ex : ∃ (vL : Value) (k : Nat), k ≤ l.length ∧ Blk w g 29 [vL, .int .i64 k] ∧ Row w vL (l.map iV) ∧ (l.map iV = [] ∨ Old B g vL)
  inn : ∀ i, i < l.length → -9223372036854775808 ≤ l.getD i 0 ∧ l.getD i 0 ≤ 9223372036854775807
  lt : g < B
theorem Tap.below {B : Nat} {w w' : World} {g : Nat} {l : List Int} (h : Tap B w g l) (hb : Below B w w') : Tap B w' g l := by
  obtain ⟨⟨vL, k, hk, hX, hR, ho⟩, hi, hl⟩ := h
  exact ⟨⟨vL, k, hk, hX.below hb hl, hR.dev ho (Dev.of_below hb), ho⟩, hi, hl⟩

set_option maxHeartbeats 1000000 in
theorem next_any (B g : Nat) (l : List Int) (n : Int) (w : World) (hT : Tap B w g l) (hB : B ≤ w.heap.size) (hn : 1 ≤ n ∧ n ≤ 1000000) :
    Calls Try.prog 19 #[.pointer (some ⟨g, 0, none⟩), .int .i64 n] w fun e w' => ∃ m, e = .returned (.int .i64 m) ∧ 0 ≤ m ∧ m < n ∧ Tap B w' g l ∧ w'.heap.size = w.heap.size ∧ Dev w.heap.size g w w' := by
  obtain ⟨⟨vL, k, hk, X, hR, ho⟩, hi, hl⟩ := hT
  obtain ⟨n1, n2⟩ := hn
  have c0 : w.cell? ⟨g, 0, none⟩ = some vL := X.cell 0
  have c1 : w.cell? ⟨g, 1, none⟩ = some (.int .i64 k) := X.cell 1
  have f0 := X.frozen
  have hT0 := hidden (show Tap B w g l from ⟨⟨vL, k, hk, X, hR, ho⟩, hi, hl⟩)
  obtain ⟨a, cap, rfl, -⟩ := id hR
  obtain ⟨hll, hc, hm, hcell⟩ := hR.at
  simp only [List.length_map] at hll hc hR hcell c0 ⊢ ho X
  unfold maxLen at hm
  by_cases hlt : k < l.length
  · obtain ⟨b, off, rfl, hcl⟩ := hcell k 0 hlt
    have cx := hcl k hlt
    have ho' := ho.resolve_left (fun h => by have := congrArg List.length h; simp at this; rw [this] at hlt; simp at hlt)
    obtain ⟨o1, o2⟩ := ho' _ _ _ rfl
    simp only at o1 o2
    clear ho'
    obtain ⟨i1, i2⟩ := hi k hlt
    have HTN : Hid (∀ w', Blk w' g 29 [.slice (some ⟨b, off, none⟩) l.length cap, .int .i64 ((k : Int) + 1)] → Dev B g w w' → Tap B w' g l) := fun w' hX hd =>
      ⟨⟨_, k + 1, by omega, by simpa using hX, hR.dev ho hd, ho⟩, hi, hl⟩
    have HX := hidden (X.set 1 (.int .i64 ((k : Int) + 1)))
    clear hcl hcell hi
    generalize l.getD k 0 = x at *
    have t1 : ¬ ((l.length : Int) ≤ (k : Int)) := by omega
    have t2 : ¬ (n < 1) := by omega
    have t3 : (k : Int) < (l.length : Int) := by omega
    have hn0 : (n == 0) = false := by rw [beq_eq_false_iff_ne]; omega
    go_enter Try.func19, Try.ntmps19
    go_wp2
    go_quiet (fail)
    go_wp2
    refine wp_region_pi [(0, true), (1, true), (2, true), (3, true), (4, true), (5, true), (6, true), (7, true), (8, true), (9, true), (10, true), (12, true), (11, false), (13, true), (14, true)] (by kernel_rfl) (by kernel_rfl) (by kernel_rfl) (fun _ _ _ d _ h => by cases d <;> exact h) ?_
    have Y := ((X.drewN nq).set 1 (.int .i64 ((k : Int) + 1))).drew
    have D : Dev w.heap.size g w ((w.drewN nq).setCell ⟨g, 1, none⟩ (.int .i64 ((k : Int) + 1))).drew :=
      ⟨rfl, rfl, rfl, by simp [World.drew, World.drewN, World.setCell], fun j _ hj => by simp [World.drew, World.drewN, World.setCell, Array.getElem?_modify, Ne.symm hj]⟩
    have Sz : ((w.drewN nq).setCell ⟨g, 1, none⟩ (.int .i64 ((k : Int) + 1))).drew.heap.size = w.heap.size := by simp [World.drew, World.drewN, World.setCell]
    have cb : ((w.drewN nq).setCell ⟨g, 1, none⟩ (.int .i64 ((k : Int) + 1))).drew.cell? ⟨b, off + k, none⟩ = some (iV x) := by
      rw [← cx]; exact World.cell?_of_block (a := ⟨b, off + k, none⟩) (D.block b (lt_of_cell cx) o2)
    clear X f0 c0 c1 cx HX
    generalize ((w.drewN nq).setCell ⟨g, 1, none⟩ (.int .i64 ((k : Int) + 1))).drew = w2 at *
    have x2 := Ext.refl w2
    have RD : Hid (∀ w', Ext w2 w' → w'.cell? ⟨g, 0, none⟩ = some (.slice (some ⟨b, off, none⟩) l.length cap) ∧ w'.cell? ⟨g, 1, none⟩ = some (.int .i64 ((k : Int) + 1)) ∧ w'.cell? ⟨b, off + k, none⟩ = some (iV x)) := fun w' hx =>
      ⟨(Y.below hx Y.lt).cell 0, (Y.below hx Y.lt).cell 1, by rw [← cb]; exact World.cell?_of_block (a := ⟨b, off + k, none⟩) (hx.block b (lt_of_cell cb))⟩
    have a1 : (k : Int) + 1 - 1 = (k : Int) := by omega
    have wk : IntKind.i64.wrap (k : Int) = (k : Int) := by rw [IntKind.wrap_i64]; omega
    have wk1 : IntKind.i64.wrap ((k : Int) + 1) = (k : Int) + 1 := by rw [IntKind.wrap_i64]; omega
    iterate 12 (first | (refine pi_pure x2 rfl (by kernel_rfl) (fun w' => by go_simp; with_reducible rfl) ?_; try simp only [Act.put, List.setIfInBounds_toArray, List.set_cons_zero, List.set_cons_succ]) | (refine pi_read x2 rfl (by kernel_rfl) (fun w' hx => by obtain ⟨y0, y1, y2⟩ := RD.out w' hx; go_simp; with_reducible rfl) ?_; try simp only [Act.put, List.setIfInBounds_toArray, List.set_cons_zero, List.set_cons_succ]))
    refine pi_move rfl (by kernel_rfl) (fun K hK => ?_)
    go_wp2_with fail
    refine (within_any x 0 1073741824 _ ⟨i1, i2⟩ (by decide) (by decide) (by decide)).mono ?_
    rintro e w3 ⟨⟨m, rfl, m1, m2⟩, rfl⟩
    go_simp
    refine hK.out _ _ x2 ?_
    clear K hK
    try simp only [Act.put, List.setIfInBounds_toArray, List.set_cons_zero, List.set_cons_succ]
    have r1 := Int.tmod_nonneg n m1
    have r2 := Int.tmod_lt_of_pos m (show 0 < n by omega)
    have hnz : ¬ n = 0 := by omega
    have wm : IntKind.i64.wrap (m.tmod n) = m.tmod n := by rw [IntKind.wrap_i64]; omega
    iterate 2 (refine pi_pure x2 rfl (by kernel_rfl) (fun w' => by go_simp; with_reducible rfl) ?_; try simp only [Act.put, List.setIfInBounds_toArray, List.set_cons_zero, List.set_cons_succ])
    refine pi_nil ?_
    have RR := hidden (show 0 ≤ m.tmod n ∧ m.tmod n < n from ⟨r1, r2⟩)
    clear r1 r2 RD cb
    go_wp2
    go_ret
    exact ⟨_, rfl, RR.out.1, RR.out.2, HTN.out _ Y (D.mono (by have := Y.lt; omega)), Sz, D⟩
  · have t1 : (l.length : Int) ≤ (k : Int) := by omega
    go_enter Try.func19, Try.ntmps19
    go_wp2
    go_quiet (fail)
    go_wp2
    go_ret
    refine ⟨0, rfl, by omega, by omega, hT0.out.below ?_, rfl, ?_⟩
    · exact below_drewn0 _ _ _
    · exact (Dev.refl _ _ _).drewN _

end Go.Proofs.Ytffjhimdamdenaa
