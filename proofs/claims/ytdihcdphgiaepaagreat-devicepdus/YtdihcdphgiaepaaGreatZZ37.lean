/- Contracts of burgageref3.row, num, words. -/
import Derived.Test.YtdihcdphgiaepaaGreatZZ11
import Derived.Test.YtdihcdphgiaepaaGreatZZ14
import Derived.Test.YtdihcdphgiaepaaGreatZZ33
namespace Go.Proofs.YtdihcdphgiaepaaGreat
open Go.RowKit
abbrev ptrV (g : Nat) : Value := .pointer (some ⟨g, 0, none⟩)
def occ1 (g : Nat) : Value → Prop
 | .pointer (some a) => a.block = g
 | .slice (some a) n _ => 0 < n ∧ a.block = g
 | _ => False
def occ (g : Nat) (v : Value) : Prop := ∃ c ∈ v.cells.toList, occ1 g c
def RelO (base : Nat) (u v : Value) : Prop := ∀ g, base ≤ g → occ g u → occ g v → False
theorem RelO.symm {base : Nat} (u v : Value) (h : RelO base u v) : RelO base v u := fun g hg h1 h2 => h g hg h2 h1
def FreshV (base lo : Nat) (v : Value) : Prop := ∀ g, base ≤ g → occ g v → lo ≤ g
def LtV (v : Value) (w : World) : Prop := ∀ g, occ g v → g < w.heap.size
theorem RelO.of {base : Nat} {u v : Value} {w : World} (hv : FreshV base w.heap.size v) (hu : LtV u w) : RelO base v u := fun g hg h1 h2 => by
 have := hv g hg h1;have := hu g h2;omega
theorem Row.occ_lt {w : World} {v : Value} {xs : List Value} (h : Row w v xs) {g : Nat} (ho : occ1 g v) : g < w.heap.size := by
 obtain ⟨a, cap, rfl, h1, h2, h3, h4⟩ := h;cases a with
 | none => exact ho.elim
 | some a =>
  obtain ⟨hn, rfl⟩ := ho;rcases h4 with rfl | ⟨b, off, e, hc⟩
  ·
   simp at hn
  ·
   cases e
   have := hc 0 hn;rw [List.getElem?_eq_getElem hn] at this;exact lt_of_cell this
theorem Dev.set (B g o : Nat) (w : World) (v : Value) : Dev B g w (w.setCell ⟨g, o, none⟩ v) :=
 ⟨rfl, rfl, rfl, by simp [World.setCell], fun k _ hk => by simp [World.setCell, Array.getElem?_modify, Ne.symm hk]⟩
def NewBox (base : Nat) (t : TypeId) (xs : List Value) (v : Value) (w : World) : Prop := ∃ g, v = ptrV g ∧ base ≤ g ∧ Blk w g t xs
theorem NewBox.ext {base : Nat} {t : TypeId} {xs : List Value} {v : Value} {w w' : World} (h : NewBox base t xs v w) (hx : Ext w w') : NewBox base t xs v w' := by
 obtain ⟨g, e, h1, h2⟩ := h;exact ⟨g, e, h1, h2.below hx h2.lt⟩
theorem Row.grown_apart {w w' : World} {v : Value} {xs : List Value} {row : Option Nat} (h : Row w v xs) (hg : w.grownBy w' row) (ha : ∀ g, row = some g → ¬ occ1 g v) : Row w' v xs := by
 obtain ⟨a, cap, rfl, h1, h2, h3, h4⟩ := id h;refine ⟨a, cap, rfl, h1, h2, h3, ?_⟩;rcases h4 with rfl | ⟨b, off, rfl, hc⟩
 ·
  exact .inl rfl
 ·
  by_cases h0 : xs = []
  ·
   exact .inl h0
  ·
   have hp : 0 < xs.length := List.length_pos_iff.2 h0;have hlt : b < w.heap.size := h.occ_lt ⟨hp, rfl⟩;refine .inr ⟨b, off, rfl, fun i hi => ?_⟩;rw [← hc i hi];exact World.cell?_of_block (a := ⟨b, off + i, none⟩) (hg.block b hlt (fun e => ha b e.symm ⟨hp, rfl⟩))
theorem owns_occ {w : World} {base : Nat} {e : TypeId} {u v : Value} {n : Nat} {xs ys : List Value} {lo : Nat} (h : w.ownsRow base e 1 u n xs) (hn : NewV lo v) (hl : w.heap.size ≤ lo) {w2 : World} (hr : Row w2 v ys) : ∀ g, u.ownBlock = some g → ¬ occ1 g v := by
 intro g hg ho;have h1 := (h.lt g hg).2;obtain ⟨a, cap, rfl, -⟩ := hr;cases a with
 | none => exact ho.elim
 | some a =>
  obtain ⟨_, rfl⟩ := ho;have := hn a _ _ rfl;omega
set_option maxHeartbeats 1000000 in
theorem row_ref (u v : Value) (xs ys : List UInt8) (w : World) (base : Nat) (hu : w.ownsRow base 5 1 u xs.length (xs.map bV)) (hb : base ≤ w.heap.size) (hv : Row w v (ys.map bV)) (hap : ∀ g, u.ownBlock = some g → ¬ occ1 g v) (h1 : xs.length ≤ 100000) (h2 : ys.length ≤ 100000) :
  Calls Tryz.prog 70 #[u, v] w fun e w' => ∃ v', e = .returned v' ∧ w'.ownsRow base 5 1 v' (xs ++ cntL ys).length ((xs ++ cntL ys).map bV) ∧ Below base w w' := by
 obtain ⟨a2, cap2, rfl, -⟩ := id hv;simp only [List.length_map] at hv hap ⊢;have e8 : ((UInt8.ofNat ys.length).toNat : Int) = (ys.length : Int) % 256 := by rw [UInt8.toNat_ofNat']; omega
 have E8 := hidden e8;clear e8;have R1 := row_new w [.int .u8 ((ys.length : Int) % 256)] 5 1 rfl (by decide);have B1 : Below base w (w.alloc (.cells #[.int .u8 ((ys.length : Int) % 256)] 5)) := (Below.refl _ _).alloc hb _;have V1 := hv.below ((Below.refl w.heap.size w).alloc (Nat.le_refl _) (.cells #[.int .u8 ((ys.length : Int) % 256)] 5));have HAP := hidden hap;clear hap;go_enter Tryz.func70, Tryz.ntmps70;go_wp2_with (at_builtin; refine wpList_app rfl (.tmp 5) (.tmp 9) 27 rfl base 5 (.int .u8 0) 1 Tryz.underlying27 info_u8 rfl rfl (hu.alloc _) rfl R1 ?h0 ?h1 ?h2 ?h3 ?_)
 case h0 => intro u hu; simp at hu; subst hu; rfl
 case h1 => simp [maxLen]; omega
 case h2 => simp; omega
 case h3 => simp; omega
 intro v1 w1 ho1 hg1;have q1 : Below base w w1 := B1.grown hg1 (by simp; omega) (fun k hk => (hu.lt k hk).1);have hv1 : Row w1 (.slice a2 ys.length cap2) (ys.map bV) := V1.grown_apart hg1 HAP.out;go_wp2_with (at_builtin; refine wpList_app rfl (.tmp 10) (.tmp 11) 27 rfl base 5 (.int .u8 0) 1 Tryz.underlying27 info_u8 rfl rfl ho1 rfl hv1 ?k0 ?k1 ?k2 ?k3 ?_)
 case k0 => exact one_bytes ys
 case k1 => simp [maxLen]; omega
 case k2 => simp; omega
 case k3 => exact Nat.le_trans hb (by have := hg1.size; simp at this; omega)
 intro v2 w2 ho2 hg2;go_wp2;go_ret;refine ⟨_, rfl, ?_, q1.grown hg2 (Nat.le_trans hb (by have := hg1.size; simp at this; omega)) (fun k hk => (ho1.lt k hk).1)⟩;have e2 : (xs ++ cntL ys).length = xs.length + 1 + ys.length := by simp [cntL]; omega
 rw [e2]
 simpa [cntL, bV, E8.out] using ho2
set_option maxHeartbeats 400000 in
theorem num_ref (v : Value) (bs : List UInt8) (n : Int) (w : World) (hn : -9223372036854775808 ≤ n ∧ n ≤ 9223372036854775807) (hv : Row w v (bs.map bV)) :
  Calls Tryz.prog 33 #[v, .int .i64 n] w fun e w' => e = .returned (.int .i64 (getN bs n)) ∧ ∃ nq, w' = w.drewN nq := by
 have C := hidden (rget_any v bs n w hn hv);generalize getN bs n = N at *;generalize getOk bs n = b at *;clear hv;go_enter Tryz.func33, Tryz.ntmps33;go_wp2_with fail
 refine C.out.mono ?_;rintro e w1 ⟨rfl, nq, rfl⟩;go_wp2;go_ret;exact ⟨rfl, nq, rfl⟩
set_option maxHeartbeats 400000 in
theorem words_ref (v : Value) (bs : List UInt8) (n : Int) (k : Nat) (w : World) (hn : n = (k : Int)) (hk : k ≤ 1000) (hv : Row w v (bs.map bV)) (hr : bs.length ≤ 140737488351232) :
  Calls Tryz.prog 35 #[v, .int .i64 n] w fun e w' => ∃ v', e = .returned v' ∧ Row w' v' ((wordsAt bs k).map wV) ∧ Below w.heap.size w w' ∧ NewV w.heap.size v' := by
 subst hn;obtain ⟨a, cap, rfl, -⟩ := id hv;obtain ⟨hl, hc, hm, hcell⟩ := hv.at;simp only [List.length_map] at hl hc hv hcell ⊢;unfold maxLen at hm;by_cases h1 : bs.length ≤ k
 ·
  have e : wordsAt bs k = [] := by simp [wordsAt, h1]
  rw [e];have h1' : (bs.length : Int) ≤ (k : Int) := by omega
  go_enter Tryz.func35, Tryz.ntmps35;go_wp2;go_ret;exact ⟨_, rfl, Row.nil _, Below.refl _ _, NewV.none _ _ _⟩
 ·
  obtain ⟨b, off, rfl, hcl⟩ := hcell k 0 (by omega);have e : wordsAt bs k = wordsR (bs.drop k) := by simp [wordsAt, h1]
  rw [e];have HD := hv.drop k (by omega) b off rfl;rw [← List.map_drop] at HD;have HD' := hidden HD;have h1' : ¬ (bs.length : Int) ≤ (k : Int) := by omega
  have h3 : (k : Int) ≤ (bs.length : Int) := by omega
  have e1 : ((bs.length : Int) - (k : Int)).toNat = bs.length - k := by omega
  have e2 : ((cap : Int) - (k : Int)).toNat = cap - k := by omega
  clear hcl hcell e HD hv;go_enter Tryz.func35, Tryz.ntmps35;go_wp2_with fail
  all_goals
   refine (rwords_any _ (bs.drop k) _ HD'.out (by rw [List.length_drop]; omega)).mono ?_;rintro e w1 ⟨v1, rfl, hr1, B1, n1⟩;generalize ((bs.drop k).length % 2 == 0) = ok at *;go_wp2;go_ret;exact ⟨_, rfl, hr1, B1, n1⟩
end Go.Proofs.YtdihcdphgiaepaaGreat
