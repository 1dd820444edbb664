/- Contracts of burgageref3.row, num, words. -/
import Derived.Test.YtbajlhpmmmhkoaaJ16
import Derived.Test.YtbajlhpmmmhkoaaJ31
import Derived.Test.YtbajlhpmmmhkoaaJ17
namespace Go.Proofs.Ytbajlhpmmmhkoaa
open Go.RowKit
structure Dev (B g : Nat) (w w' : World) : Prop where
 os : w'.os = w.os
 tape : w'.tape = w.tape
 output : w'.output = w.output
 size : w.heap.size ≤ w'.heap.size
 block : ∀ k, k < B → k ≠ g → w'.heap[k]? = w.heap[k]?
theorem Dev.refl (B g : Nat) (w : World) : Dev B g w w := ⟨rfl, rfl, rfl, Nat.le_refl _, fun _ _ _ => rfl⟩
theorem Dev.trans {B g : Nat} {a b c : World} (h : Dev B g a b) (k : Dev B g b c) : Dev B g a c :=
 ⟨k.os.trans h.os, k.tape.trans h.tape, k.output.trans h.output, Nat.le_trans h.size k.size, fun i h1 h2 => (k.block i h1 h2).trans (h.block i h1 h2)⟩
theorem Dev.of_below {B g : Nat} {w w' : World} (h : Below B w w') : Dev B g w w' := ⟨h.os, h.tape, h.output, h.size, fun k hk _ => h.block k hk⟩
theorem Dev.setCell {B g : Nat} {a w : World} (h : Dev B g a w) {p : Addr} (hp : B ≤ p.block) (v : Value) : Dev B g a (w.setCell p v) := by
 refine h.trans (Dev.of_below ((Below.refl B w).setCell hp v))
theorem Dev.alloc {B g : Nat} {a w : World} (h : Dev B g a w) (hB : B ≤ w.heap.size) (o : Obj) : Dev B g a (w.alloc o) :=
 h.trans (Dev.of_below ((Below.refl B w).alloc hB o))
theorem Dev.drew {B g : Nat} {a w : World} (h : Dev B g a w) : Dev B g a w.drew := ⟨h.os, h.tape, h.output, h.size, h.block⟩
theorem Dev.drewN {B g : Nat} {a w : World} (h : Dev B g a w) (n : Nat) : Dev B g a (w.drewN n) := ⟨h.os, h.tape, h.output, h.size, h.block⟩
theorem Dev.mono {B B' g : Nat} {a w : World} (h : Dev B g a w) (hb : B' ≤ B) : Dev B' g a w := ⟨h.os, h.tape, h.output, h.size, fun k hk hg => h.block k (by omega) hg⟩
theorem Dev.below {B B' g : Nat} {a w : World} (h : Dev B g a w) (hb : B' ≤ B) (hg : B' ≤ g) : Below B' a w := ⟨h.os, h.tape, h.output, h.size, fun k hk => h.block k (by omega) (by omega)⟩
theorem Blk.dev {w w' : World} {B g k : Nat} {e : TypeId} {xs : List Value} (h : Blk w k e xs) (hd : Dev B g w w') (hk : k < B) (hg : k ≠ g) : Blk w' k e xs := (hd.block k hk hg).trans h
def Old (B g : Nat) (v : Value) : Prop := ∀ a n c, v = .slice (some a) n c → a.block < B ∧ a.block ≠ g
theorem Row.dev {w w' : World} {B g : Nat} {v : Value} {xs : List Value} (h : Row w v xs) (ho : xs = [] ∨ Old B g v) (hd : Dev B g w w') : Row w' v xs := by
 obtain ⟨a, cap, rfl, h1, h2, h3, h4⟩ := h
 refine ⟨_, _, rfl, h1, h2, h3, ?_⟩
 rcases ho with rfl | ho
 ·
  exact .inl rfl
 rcases h4 with rfl | ⟨b, off, rfl, hc⟩
 ·
  exact .inl rfl
 ·
  obtain ⟨o1, o2⟩ := ho _ _ _ rfl
  refine .inr ⟨_, _, rfl, fun i hi => ?_⟩
  rw [← hc i hi]
  exact World.cell?_of_block (a := ⟨b, off + i, none⟩) (hd.block b o1 o2)
structure Tap (B : Nat) (w : World) (g : Nat) (l : List Int) : Prop where
 ex : ∃ (vL : Value) (k : Nat), k ≤ l.length ∧ Blk w g 31 [vL, .int .i64 k] ∧ Row w vL (l.map iV) ∧ (l.map iV = [] ∨ Old B g vL)
 inn : ∀ i, i < l.length → -9223372036854775808 ≤ l.getD i 0 ∧ l.getD i 0 ≤ 9223372036854775807
 lt : g < B
theorem Tap.below {B : Nat} {w w' : World} {g : Nat} {l : List Int} (h : Tap B w g l) (hb : Below B w w') : Tap B w' g l := by
 obtain ⟨⟨vL, k, hk, hX, hR, ho⟩, hi, hl⟩ := h
 exact ⟨⟨vL, k, hk, hX.below hb hl, hR.dev ho (Dev.of_below hb), ho⟩, hi, hl⟩
theorem functions_any (w : World) : Calls Try.prog 17 #[] w fun e w' => e = .returned (.slice (some ⟨w.heap.size, 0, none⟩) 12 12) ∧ w.alloc (.cells #[.int .i64 1, .int .i64 2, .int .i64 3, .int .i64 4, .int .i64 5, .int .i64 6, .int .i64 8, .int .i64 15, .int .i64 16, .int .i64 17, .int .i64 22, .int .i64 23] 3) = w' := by
 go_enter Try.func17, Try.ntmps17
 go_wp2
 go_ret
 exact ⟨rfl, rfl⟩
set_option maxHeartbeats 1000000 in
theorem next_any (B g : Nat) (l : List Int) (n : Int) (w : World) (hT : Tap B w g l) (hB : B ≤ w.heap.size) (hn : 1 ≤ n ∧ n ≤ 1000000) :
  Calls Try.prog 18 #[.pointer (some ⟨g, 0, none⟩), .int .i64 n] w fun e w' => ∃ m, e = .returned (.int .i64 m) ∧ 0 ≤ m ∧ m < n ∧ Tap B w' g l ∧ w'.heap.size = w.heap.size ∧ Dev w.heap.size g w w' := by
 obtain ⟨⟨vL, k, hk, X, hR, ho⟩, hi, hl⟩ := hT
 obtain ⟨n1, n2⟩ := hn
 have c0 : w.cell? ⟨g, 0, none⟩ = some vL := X.cell 0
 have c1 : w.cell? ⟨g, 1, none⟩ = some (.int .i64 k) := X.cell 1
 have f0 := X.frozen
 have hT0 := hidden (show Tap B w g l from ⟨⟨vL, k, hk, X, hR, ho⟩, hi, hl⟩)
 obtain ⟨a, cap, rfl, -⟩ := id hR
 obtain ⟨hll, hc, hm, hcell⟩ := hR.at
 simp only [List.length_map] at hll hc hR hcell c0 ⊢ ho X
 unfold maxLen at hm
 by_cases hlt : k < l.length
 ·
  obtain ⟨b, off, rfl, hcl⟩ := hcell k 0 hlt
  have cx := hcl k hlt
  have ho' := ho.resolve_left (fun h => by have := congrArg List.length h; simp at this; rw [this] at hlt; simp at hlt)
  obtain ⟨o1, o2⟩ := ho' _ _ _ rfl
  simp only at o1 o2
  clear ho'
  obtain ⟨i1, i2⟩ := hi k hlt
  have HTN : Hid (∀ w', Blk w' g 31 [.slice (some ⟨b, off, none⟩) l.length cap, .int .i64 ((k : Int) + 1)] → Dev B g w w' → Tap B w' g l) := fun w' hX hd =>
   ⟨⟨_, k + 1, by omega, by simpa using hX, hR.dev ho hd, ho⟩, hi, hl⟩
  have HX := hidden (X.set 1 (.int .i64 ((k : Int) + 1)))
  clear hcl hcell hi
  generalize l.getD k 0 = x at *
  have t1 : ¬ ((l.length : Int) ≤ (k : Int)) := by omega
  have t2 : ¬ (n < 1) := by omega
  have t3 : (k : Int) < (l.length : Int) := by omega
  have hn0 : (n == 0) = false := by rw [beq_eq_false_iff_ne]; omega
  go_enter Try.func18, Try.ntmps18
  go_wp2
  go_quiet (fail)
  go_wp2
  refine wp_region_pi [(0, true), (1, true), (2, true), (3, true), (4, true), (5, true), (6, true), (7, true), (8, true), (9, true), (10, true), (12, true), (11, false), (13, true), (14, true)] (by kernel_rfl) (by kernel_rfl) (by kernel_rfl) (fun _ _ _ d _ h => by cases d <;> exact h) ?_
  have Y := ((X.drewN nq).set 1 (.int .i64 ((k : Int) + 1))).drew
  have D : Dev w.heap.size g w ((w.drewN nq).setCell ⟨g, 1, none⟩ (.int .i64 ((k : Int) + 1))).drew :=
   ⟨rfl, rfl, rfl, by simp [World.drew, World.drewN, World.setCell], fun j _ hj => by simp [World.drew, World.drewN, World.setCell, Array.getElem?_modify, Ne.symm hj]⟩
  have Sz : ((w.drewN nq).setCell ⟨g, 1, none⟩ (.int .i64 ((k : Int) + 1))).drew.heap.size = w.heap.size := by simp [World.drew, World.drewN, World.setCell]
  have cb : ((w.drewN nq).setCell ⟨g, 1, none⟩ (.int .i64 ((k : Int) + 1))).drew.cell? ⟨b, off + k, none⟩ = some (iV x) := by
   rw [← cx]; exact World.cell?_of_block (a := ⟨b, off + k, none⟩) (D.block b (lt_of_cell cx) o2)
  clear X f0 c0 c1 cx HX
  generalize ((w.drewN nq).setCell ⟨g, 1, none⟩ (.int .i64 ((k : Int) + 1))).drew = w2 at *
  have x2 := Ext.refl w2
  have RD : Hid (∀ w', Ext w2 w' → w'.cell? ⟨g, 0, none⟩ = some (.slice (some ⟨b, off, none⟩) l.length cap) ∧ w'.cell? ⟨g, 1, none⟩ = some (.int .i64 ((k : Int) + 1)) ∧ w'.cell? ⟨b, off + k, none⟩ = some (iV x)) := fun w' hx =>
   ⟨(Y.below hx Y.lt).cell 0, (Y.below hx Y.lt).cell 1, by rw [← cb]; exact World.cell?_of_block (a := ⟨b, off + k, none⟩) (hx.block b (lt_of_cell cb))⟩
  have a1 : (k : Int) + 1 - 1 = (k : Int) := by omega
  have wk : IntKind.i64.wrap (k : Int) = (k : Int) := by rw [IntKind.wrap_i64]; omega
  have wk1 : IntKind.i64.wrap ((k : Int) + 1) = (k : Int) + 1 := by rw [IntKind.wrap_i64]; omega
  iterate 12 (first | (refine pi_P x2 rfl ?_) | (refine pi_R x2 rfl (fun w' hx => by obtain ⟨y0, y1, y2⟩ := RD.out w' hx; go_simp; with_reducible rfl) ?_))
  refine pi_move rfl (by kernel_rfl) (fun K hK => ?_)
  go_wp2_with fail
  refine (within_any x 0 1073741824 _ ⟨i1, i2⟩ (by decide) (by decide) (by decide)).mono ?_
  rintro e w3 ⟨⟨m, rfl, m1, m2⟩, rfl⟩
  go_simp
  refine hK.out _ _ x2 ?_
  clear K hK
  try simp only [Act.put, PuA, PuB, PuC]
  have r1 := Int.tmod_nonneg n m1
  have r2 := Int.tmod_lt_of_pos m (show 0 < n by omega)
  have hnz : ¬ n = 0 := by omega
  have wm : IntKind.i64.wrap (m.tmod n) = m.tmod n := by rw [IntKind.wrap_i64]; omega
  iterate 2 (refine pi_P x2 rfl ?_)
  refine pi_nil ?_
  have RR := hidden (show 0 ≤ m.tmod n ∧ m.tmod n < n from ⟨r1, r2⟩)
  clear r1 r2 RD cb
  go_wp2
  go_ret
  exact ⟨_, rfl, RR.out.1, RR.out.2, HTN.out _ Y (D.mono (by have := Y.lt; omega)), Sz, D⟩
 ·
  have t1 : (l.length : Int) ≤ (k : Int) := by omega
  go_enter Try.func18, Try.ntmps18
  go_wp2
  go_quiet (fail)
  go_wp2
  go_ret
  refine ⟨0, rfl, by omega, by omega, hT0.out.below ?_, rfl, ?_⟩
  ·
   exact below_drewn0 _ _ _
  ·
   exact (Dev.refl _ _ _).drewN _
end Go.Proofs.Ytbajlhpmmmhkoaa
namespace Go.Proofs.Ytbajlhpmmmhkoaa
open Go.RowKit
abbrev ptrV (g : Nat) : Value := .pointer (some ⟨g, 0, none⟩)
def occ1 (g : Nat) : Value → Prop
 | .pointer (some a) => a.block = g
 | .slice (some a) n _ => 0 < n ∧ a.block = g
 | _ => False
def occ (g : Nat) (v : Value) : Prop := ∃ c ∈ v.cells.toList, occ1 g c
def RelO (base : Nat) (u v : Value) : Prop := ∀ g, base ≤ g → occ g u → occ g v → False
theorem RelO.symm {base : Nat} (u v : Value) (h : RelO base u v) : RelO base v u := fun g hg h1 h2 => h g hg h2 h1
def FreshV (base lo : Nat) (v : Value) : Prop := ∀ g, base ≤ g → occ g v → lo ≤ g
def LtV (v : Value) (w : World) : Prop := ∀ g, occ g v → g < w.heap.size
theorem RelO.of {base : Nat} {u v : Value} {w : World} (hv : FreshV base w.heap.size v) (hu : LtV u w) : RelO base v u := fun g hg h1 h2 => by
 have := hv g hg h1
 have := hu g h2
 omega
theorem occ_ptr {g k : Nat} (h : occ g (ptrV k)) : g = k := by
 obtain ⟨c, hc, h1⟩ := h
 simp only [Value.cells, List.mem_singleton] at hc
 subst hc
 exact h1.symm
theorem LtV.ptr {w : World} {g : Nat} (h : g < w.heap.size) : LtV (ptrV g) w := fun k hk => by rw [occ_ptr hk]; exact h
theorem FreshV.ptr {base lo g : Nat} (h : lo ≤ g) : FreshV base lo (ptrV g) := fun k _ hk => by rw [occ_ptr hk]; exact h
theorem Row.occ_lt {w : World} {v : Value} {xs : List Value} (h : Row w v xs) {g : Nat} (ho : occ1 g v) : g < w.heap.size := by
 obtain ⟨a, cap, rfl, h1, h2, h3, h4⟩ := h
 cases a with
 | none => exact ho.elim
 | some a =>
  obtain ⟨hn, rfl⟩ := ho
  rcases h4 with rfl | ⟨b, off, e, hc⟩
  ·
   simp at hn
  ·
   cases e
   have := hc 0 hn
   rw [List.getElem?_eq_getElem hn] at this
   exact lt_of_cell this
theorem Row.dev1 {w w' : World} {v : Value} {xs : List Value} {g : Nat} (h : Row w v xs) (hn : ¬ occ1 g v) (hd : Dev w.heap.size g w w') : Row w' v xs := by
 obtain ⟨a, cap, rfl, h1, h2, h3, h4⟩ := id h
 refine h.dev ?_ hd
 by_cases h0 : xs = []
 ·
  exact .inl h0
 ·
  right
  intro a' n' c' e
  simp only [Value.slice.injEq] at e
  obtain ⟨rfl, rfl, rfl⟩ := e
  have hp : 0 < xs.length := List.length_pos_iff.2 h0
  have hne : ¬ a'.block = g := fun e => hn ⟨hp, e⟩
  exact ⟨h.occ_lt ⟨hp, rfl⟩, hne⟩
theorem Dev.set (B g o : Nat) (w : World) (v : Value) : Dev B g w (w.setCell ⟨g, o, none⟩ v) :=
 ⟨rfl, rfl, rfl, by simp [World.setCell], fun k _ hk => by simp [World.setCell, Array.getElem?_modify, Ne.symm hk]⟩
theorem Dev.sets {B g o : Nat} {a w : World} (h : Dev B g a w) (v : Value) : Dev B g a (w.setCell ⟨g, o, none⟩ v) := h.trans (Dev.set B g o w v)
def NewBox (base : Nat) (t : TypeId) (xs : List Value) (v : Value) (w : World) : Prop := ∃ g, v = ptrV g ∧ base ≤ g ∧ Blk w g t xs
theorem NewBox.ext {base : Nat} {t : TypeId} {xs : List Value} {v : Value} {w w' : World} (h : NewBox base t xs v w) (hx : Ext w w') : NewBox base t xs v w' := by
 obtain ⟨g, e, h1, h2⟩ := h
 exact ⟨g, e, h1, h2.below hx h2.lt⟩
theorem NewBox.ltv {base : Nat} {t : TypeId} {xs : List Value} {v : Value} {w : World} (h : NewBox base t xs v w) : LtV v w := by
 obtain ⟨g, rfl, h1, h2⟩ := h
 exact LtV.ptr h2.lt
end Go.Proofs.Ytbajlhpmmmhkoaa
namespace Go.Proofs.Ytbajlhpmmmhkoaa
open Go.RowKit
theorem Row.grown_apart {w w' : World} {v : Value} {xs : List Value} {row : Option Nat} (h : Row w v xs) (hg : w.grownBy w' row) (ha : ∀ g, row = some g → ¬ occ1 g v) : Row w' v xs := by
 obtain ⟨a, cap, rfl, h1, h2, h3, h4⟩ := id h
 refine ⟨a, cap, rfl, h1, h2, h3, ?_⟩
 rcases h4 with rfl | ⟨b, off, rfl, hc⟩
 ·
  exact .inl rfl
 ·
  by_cases h0 : xs = []
  ·
   exact .inl h0
  ·
   have hp : 0 < xs.length := List.length_pos_iff.2 h0
   have hlt : b < w.heap.size := h.occ_lt ⟨hp, rfl⟩
   refine .inr ⟨b, off, rfl, fun i hi => ?_⟩
   rw [← hc i hi]
   exact World.cell?_of_block (a := ⟨b, off + i, none⟩) (hg.block b hlt (fun e => ha b e.symm ⟨hp, rfl⟩))
theorem owns_occ {w : World} {base : Nat} {e : TypeId} {u v : Value} {n : Nat} {xs ys : List Value} {lo : Nat} (h : w.ownsRow base e 1 u n xs) (hn : NewV lo v) (hl : w.heap.size ≤ lo) {w2 : World} (hr : Row w2 v ys) : ∀ g, u.ownBlock = some g → ¬ occ1 g v := by
 intro g hg ho
 have h1 := (h.lt g hg).2
 obtain ⟨a, cap, rfl, -⟩ := hr
 cases a with
 | none => exact ho.elim
 | some a =>
  obtain ⟨_, rfl⟩ := ho
  have := hn a _ _ rfl
  omega
set_option maxHeartbeats 1000000 in
theorem row_ref (u v : Value) (xs ys : List UInt8) (w : World) (base : Nat) (hu : w.ownsRow base 5 1 u xs.length (xs.map bV)) (hb : base ≤ w.heap.size) (hv : Row w v (ys.map bV)) (hap : ∀ g, u.ownBlock = some g → ¬ occ1 g v) (h1 : xs.length ≤ 100000) (h2 : ys.length ≤ 100000) :
  Calls Try.prog 33 #[u, v] w fun e w' => ∃ v', e = .returned v' ∧ w'.ownsRow base 5 1 v' (xs ++ cntL ys).length ((xs ++ cntL ys).map bV) ∧ Below base w w' := by
 obtain ⟨a2, cap2, rfl, -⟩ := id hv
 simp only [List.length_map] at hv hap ⊢
 have e8 : ((UInt8.ofNat ys.length).toNat : Int) = (ys.length : Int) % 256 := by rw [UInt8.toNat_ofNat']; omega
 have E8 := hidden e8
 clear e8
 have R1 := row_new w [.int .u8 ((ys.length : Int) % 256)] 5 1 rfl (by decide)
 have B1 : Below base w (w.alloc (.cells #[.int .u8 ((ys.length : Int) % 256)] 5)) := (Below.refl _ _).alloc hb _
 have V1 := hv.below ((Below.refl w.heap.size w).alloc (Nat.le_refl _) (.cells #[.int .u8 ((ys.length : Int) % 256)] 5))
 have HAP := hidden hap
 clear hap
 go_enter Try.func33, Try.ntmps33
 go_wp2_with (at_builtin; refine wpList_app rfl (.tmp 5) (.tmp 9) 33 rfl base 5 (.int .u8 0) 1 Try.underlying33 info_u8 rfl rfl (hu.alloc _) rfl R1 ?h0 ?h1 ?h2 ?h3 ?_)
 case h0 => intro u hu; simp at hu; subst hu; rfl
 case h1 => simp [maxLen]; omega
 case h2 => simp; omega
 case h3 => simp; omega
 intro v1 w1 ho1 hg1
 have q1 : Below base w w1 := B1.grown hg1 (by simp; omega) (fun k hk => (hu.lt k hk).1)
 have hv1 : Row w1 (.slice a2 ys.length cap2) (ys.map bV) := V1.grown_apart hg1 HAP.out
 go_wp2_with (at_builtin; refine wpList_app rfl (.tmp 10) (.tmp 11) 33 rfl base 5 (.int .u8 0) 1 Try.underlying33 info_u8 rfl rfl ho1 rfl hv1 ?k0 ?k1 ?k2 ?k3 ?_)
 case k0 => exact one_bytes ys
 case k1 => simp [maxLen]; omega
 case k2 => simp; omega
 case k3 => exact Nat.le_trans hb (by have := hg1.size; simp at this; omega)
 intro v2 w2 ho2 hg2
 go_wp2
 go_ret
 refine ⟨_, rfl, ?_, q1.grown hg2 (Nat.le_trans hb (by have := hg1.size; simp at this; omega)) (fun k hk => (ho1.lt k hk).1)⟩
 have e2 : (xs ++ cntL ys).length = xs.length + 1 + ys.length := by simp [cntL]; omega
 rw [e2]
 simpa [cntL, bV, E8.out] using ho2
set_option maxHeartbeats 400000 in
theorem num_ref (v : Value) (bs : List UInt8) (n : Int) (w : World) (hn : -9223372036854775808 ≤ n ∧ n ≤ 9223372036854775807) (hv : Row w v (bs.map bV)) :
  Calls Try.prog 55 #[v, .int .i64 n] w fun e w' => e = .returned (.int .i64 (getN bs n)) ∧ ∃ nq, w' = w.drewN nq := by
 have C := hidden (rget_any v bs n w hn hv)
 generalize getN bs n = N at *
 generalize getOk bs n = b at *
 clear hv
 go_enter Try.func55, Try.ntmps55
 go_wp2_with fail
 refine C.out.mono ?_
 rintro e w1 ⟨rfl, nq, rfl⟩
 go_wp2
 go_ret
 exact ⟨rfl, nq, rfl⟩
set_option maxHeartbeats 400000 in
theorem words_ref (v : Value) (bs : List UInt8) (n : Int) (k : Nat) (w : World) (hn : n = (k : Int)) (hk : k ≤ 1000) (hv : Row w v (bs.map bV)) (hr : bs.length ≤ 140737488351232) :
  Calls Try.prog 57 #[v, .int .i64 n] w fun e w' => ∃ v', e = .returned v' ∧ Row w' v' ((wordsAt bs k).map wV) ∧ Below w.heap.size w w' ∧ NewV w.heap.size v' := by
 subst hn
 obtain ⟨a, cap, rfl, -⟩ := id hv
 obtain ⟨hl, hc, hm, hcell⟩ := hv.at
 simp only [List.length_map] at hl hc hv hcell ⊢
 unfold maxLen at hm
 by_cases h1 : bs.length ≤ k
 ·
  have e : wordsAt bs k = [] := by simp [wordsAt, h1]
  rw [e]
  have h1' : (bs.length : Int) ≤ (k : Int) := by omega
  go_enter Try.func57, Try.ntmps57
  go_wp2
  go_ret
  exact ⟨_, rfl, Row.nil _, Below.refl _ _, NewV.none _ _ _⟩
 ·
  obtain ⟨b, off, rfl, hcl⟩ := hcell k 0 (by omega)
  have e : wordsAt bs k = wordsR (bs.drop k) := by simp [wordsAt, h1]
  rw [e]
  have HD := hv.drop k (by omega) b off rfl
  rw [← List.map_drop] at HD
  have HD' := hidden HD
  have h1' : ¬ (bs.length : Int) ≤ (k : Int) := by omega
  have h3 : (k : Int) ≤ (bs.length : Int) := by omega
  have e1 : ((bs.length : Int) - (k : Int)).toNat = bs.length - k := by omega
  have e2 : ((cap : Int) - (k : Int)).toNat = cap - k := by omega
  clear hcl hcell e HD hv
  go_enter Try.func57, Try.ntmps57
  go_wp2_with fail
  all_goals
   refine (rwords_any _ (bs.drop k) _ HD'.out (by rw [List.length_drop]; omega)).mono ?_
   rintro e w1 ⟨v1, rfl, hr1, B1, n1⟩
   generalize ((bs.drop k).length % 2 == 0) = ok at *
   go_wp2
   go_ret
   exact ⟨_, rfl, hr1, B1, n1⟩
end Go.Proofs.Ytbajlhpmmmhkoaa
