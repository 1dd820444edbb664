/- Contracts of slices.Equal, of burgagebook.Same of lists that are the same, and of store's Same. -/
import Derived.Test.YtdihcdphgiaepaaGreatZZ12
import Derived.Deep.Cut
namespace Go.Proofs.YtdihcdphgiaepaaGreat
open Go.RowKit
abbrev SD := Sto 107 []
theorem rowB_out (v : Value) (sp : Int) (w : World) (hs : isB sp = false) :
  Calls Tryz.prog 105 #[v, .int .i64 sp] w fun e w' => e = .returned (.slice none 0 0) ∧ w = w' := by
 have h0 : (sp == 0) = false := by
  rw [beq_eq_false_iff_ne]; intro e; simp [isB, e] at hs
 have h1 : (sp == 1) = false := by
  rw [beq_eq_false_iff_ne]; intro e; simp [isB, e] at hs
 clear hs;go_enter Tryz.func105, Tryz.ntmps105;go_wp2;go_ret;exact ⟨rfl, rfl⟩
theorem rowB_in (g : Nat) (a : Option Addr) (n c : Nat) (sp : Int) (w : World) (hs : isB sp = true) (hc : w.cell? ⟨g, 0 + sp.toNat, none⟩ = some (.slice a n c)) :
  Calls Tryz.prog 105 #[ptrG g, .int .i64 sp] w fun e w' => e = .returned (.slice a n c) ∧ w = w' := by
 have hsp : sp = 0 ∨ sp = 1 := by simpa [isB] using hs
 clear hs;rcases hsp with rfl | rfl
 ·
  replace hc : w.cell? ⟨g, 0, none⟩ = some (.slice a n c) := hc;go_enter Tryz.func105, Tryz.ntmps105;go_wp2;go_ret;exact ⟨rfl, rfl⟩
 ·
  replace hc : w.cell? ⟨g, 1, none⟩ = some (.slice a n c) := hc;go_enter Tryz.func105, Tryz.ntmps105;go_wp2;go_ret;exact ⟨rfl, rfl⟩
set_option maxHeartbeats 1000000 in
theorem setB_any (lo hi g n : Nat) (s : Cs) (v : Value) (l : List Bool) (sp a : Int) (w : World) (h : SD w lo hi g n s) (hv : Row w v (l.map Value.bool)) (ha : i64 a) :
  Calls Tryz.prog 127 #[ptrG g, .int .i64 sp, .int .i64 a, v] w fun e w' => e = .returned (.bool (okB n sp a l.length)) ∧ SD w' lo hi g n (setB n s sp a l) ∧ Kp (In lo hi) w w' := by
 obtain ⟨av, cv, rfl, hv1, hv2, -⟩ := id hv;simp only [List.length_map] at hv hv1 ⊢;have hpos := h.pos;cases hs : isB sp
 ·
  have e1 : okB n sp a l.length = false := by simp [okB, hs]
  have e2 : setB n s sp a l = s := by simp [setB, e1]
  rw [e1, e2];have C1 := hidden (rowB_out (ptrG g) sp w hs);have C2 := hidden (writeB_no none av 0 0 l.length cv a w (by omega) ha hv1 hv2 (by simp [thB]));have H := hidden h;clear hs e1 e2 hv h hpos ha hv1 hv2;go_enter Tryz.func127, Tryz.ntmps127;go_wp2_with fail
  refine C1.out.mono ?_;rintro e w1 ⟨rfl, rfl⟩;go_wp2_with fail
  refine C2.out.mono ?_;rintro e w1 ⟨rfl, rfl⟩;go_wp2;go_ret;exact ⟨rfl, H.out, Kp.refl _ _⟩
 ·
  obtain ⟨gr, c, xs, hb, hx, hin, hh, hl, hc, hput⟩ := h.atB hs;have hcell : w.cell? ⟨g, 0 + sp.toNat, none⟩ = some (slG gr n c) := by rw [hb.cell]; exact hx
  have C1 := hidden (rowB_in g _ n c sp w hs hcell);cases hf : fits n a l.length
  ·
   have e1 : okB n sp a l.length = false := by simp [okB, hf]
   have e2 : setB n s sp a l = s := by simp [setB, e1]
   rw [e1, e2];have C2 := hidden (writeB_no (some ⟨gr, 0, none⟩) av n c l.length cv a w (by omega) ha hv1 hv2 (by simp [thB, hf]));have H := hidden h;clear hs e1 e2 hv h hpos ha hv1 hv2 hb hx hin hh hl hc hput hcell hf;go_enter Tryz.func127, Tryz.ntmps127;go_wp2_with fail
   refine C1.out.mono ?_;rintro e w1 ⟨rfl, rfl⟩;go_wp2_with fail
   refine C2.out.mono ?_;rintro e w1 ⟨rfl, rfl⟩;go_wp2;go_ret;exact ⟨rfl, H.out, Kp.refl _ _⟩
  ·
   have e1 : okB n sp a l.length = true := by simp [okB, hf, hs]
   have e2 : setB n s sp a l = putRB s sp (splice (rowB s sp) a.toNat l) := by simp [setB, e1]
   rw [e1, e2];have C2 := hidden (writeB_yes gr n c _ (rowB s sp) l a w hh hv hl (by omega) ha (by omega) hf);have HP := hidden hput;have q := fits_iff.1 hf;have HL : Hid ((splice (rowB s sp) a.toNat l).length = n) := by
    show _ = _;rw [splice_len _ _ _ (by omega), hl]
   clear hs e1 e2 hv h hpos ha hv1 hv2 hb hx hin hh hl hc hput hcell hf q;go_enter Tryz.func127, Tryz.ntmps127;go_wp2_with fail
   refine C1.out.mono ?_;rintro e w1 ⟨rfl, rfl⟩;go_wp2_with fail
   refine C2.out.mono ?_;rintro e w1 ⟨rfl, D1, D2⟩;go_wp2;go_ret;exact ⟨rfl, HP.out _ _ HL.out D2 D1⟩
set_option maxHeartbeats 1000000 in
theorem getB_any (lo hi g n : Nat) (s : Cs) (sp a m : Int) (w : World) (h : SD w lo hi g n s) (ha : i64 a) :
  Calls Tryz.prog 61 #[ptrG g, .int .i64 sp, .int .i64 a, .int .i64 m] w fun e w' => ∃ v', e = .returned (.tuple #[v', .bool (okB n sp a m)]) ∧ Row w' v' ((getB n s sp a m).map Value.bool) ∧ NwV w.heap.size v' ∧ Below w.heap.size w w' := by
 have hpos := h.pos;cases hs : isB sp
 ·
  have e1 : okB n sp a m = false := by simp [okB, hs]
  have e2 : getB n s sp a m = [] := by simp [getB, e1]
  rw [e1, e2];have C1 := hidden (rowB_out (ptrG g) sp w hs);have C2 := hidden (readB_no none 0 0 a m w (by omega) ha (by simp [thB]));clear hs e1 e2 h hpos ha;go_enter Tryz.func61, Tryz.ntmps61;go_wp2_with fail
  refine C1.out.mono ?_;rintro e w1 ⟨rfl, rfl⟩;go_wp2_with fail
  refine C2.out.mono ?_;rintro e w1 ⟨rfl, rfl⟩;go_wp2;go_ret2
  exact ⟨_, rfl, Row.nil _, NwV.nil _ _ _, Below.refl _ _⟩
 ·
  obtain ⟨gr, c, xs, hb, hx, hin, hh, hl, hc, hput⟩ := h.atB hs;have hcell : w.cell? ⟨g, 0 + sp.toNat, none⟩ = some (slG gr n c) := by rw [hb.cell]; exact hx
  have C1 := hidden (rowB_in g _ n c sp w hs hcell);cases hf : fits n a m
  ·
   have e1 : okB n sp a m = false := by simp [okB, hf]
   have e2 : getB n s sp a m = [] := by simp [getB, e1]
   rw [e1, e2];have C2 := hidden (readB_no (some ⟨gr, 0, none⟩) n c a m w (by omega) ha (by simp [thB, hf]));clear hs e1 e2 h hpos ha hb hx hin hh hl hc hput hcell hf;go_enter Tryz.func61, Tryz.ntmps61;go_wp2_with fail
   refine C1.out.mono ?_;rintro e w1 ⟨rfl, rfl⟩;go_wp2_with fail
   refine C2.out.mono ?_;rintro e w1 ⟨rfl, rfl⟩;go_wp2;go_ret2
   exact ⟨_, rfl, Row.nil _, NwV.nil _ _ _, Below.refl _ _⟩
  ·
   have e1 : okB n sp a m = true := by simp [okB, hf, hs]
   have e2 : getB n s sp a m = sub (rowB s sp) a m := by simp [getB, e1]
   rw [e1, e2];have C2 := hidden (readB_yes gr n c (rowB s sp) a m w hh hl (by omega) ha (by omega) hf);clear hs e1 e2 h hpos ha hb hx hin hh hl hc hput hcell hf;go_enter Tryz.func61, Tryz.ntmps61;go_wp2_with fail
   refine C1.out.mono ?_;rintro e w1 ⟨rfl, rfl⟩;go_wp2_with fail
   refine C2.out.mono ?_;rintro e w1 ⟨v, rfl, R, N, B⟩;go_wp2;go_ret2
   exact ⟨_, rfl, R, N, B⟩
theorem rowV_out (v : Value) (sp : Int) (w : World) (hs : isV sp = false) :
  Calls Tryz.prog 64 #[v, .int .i64 sp] w fun e w' => e = .returned (.slice none 0 0) ∧ w = w' := by
 have h0 : (sp == 2) = false := by
  rw [beq_eq_false_iff_ne]; intro e; simp [isV, e] at hs
 have h1 : (sp == 3) = false := by
  rw [beq_eq_false_iff_ne]; intro e; simp [isV, e] at hs
 clear hs;go_enter Tryz.func64, Tryz.ntmps64;go_wp2;go_ret;exact ⟨rfl, rfl⟩
theorem rowV_in (g : Nat) (a : Option Addr) (n c : Nat) (sp : Int) (w : World) (hs : isV sp = true) (hc : w.cell? ⟨g, 0 + sp.toNat, none⟩ = some (.slice a n c)) :
  Calls Tryz.prog 64 #[ptrG g, .int .i64 sp] w fun e w' => e = .returned (.slice a n c) ∧ w = w' := by
 have hsp : sp = 2 ∨ sp = 3 := by simpa [isV] using hs
 clear hs;rcases hsp with rfl | rfl
 ·
  replace hc : w.cell? ⟨g, 2, none⟩ = some (.slice a n c) := hc;go_enter Tryz.func64, Tryz.ntmps64;go_wp2;go_ret;exact ⟨rfl, rfl⟩
 ·
  replace hc : w.cell? ⟨g, 3, none⟩ = some (.slice a n c) := hc;go_enter Tryz.func64, Tryz.ntmps64;go_wp2;go_ret;exact ⟨rfl, rfl⟩
set_option maxHeartbeats 1000000 in
theorem setV_any (lo hi g n : Nat) (s : Cs) (v : Value) (l : List UInt16) (sp a : Int) (w : World) (h : SD w lo hi g n s) (hv : Row w v (l.map wV)) (ha : i64 a) :
  Calls Tryz.prog 129 #[ptrG g, .int .i64 sp, .int .i64 a, v] w fun e w' => e = .returned (.bool (okV n sp a l.length)) ∧ SD w' lo hi g n (setV n s sp a l) ∧ Kp (In lo hi) w w' := by
 obtain ⟨av, cv, rfl, hv1, hv2, -⟩ := id hv;simp only [List.length_map] at hv hv1 ⊢;have hpos := h.pos;cases hs : isV sp
 ·
  have e1 : okV n sp a l.length = false := by simp [okV, hs]
  have e2 : setV n s sp a l = s := by simp [setV, e1]
  rw [e1, e2];have C1 := hidden (rowV_out (ptrG g) sp w hs);have C2 := hidden (writeV_no none av 0 0 l.length cv a w (by omega) ha hv1 hv2 (by simp [thB]));have H := hidden h;clear hs e1 e2 hv h hpos ha hv1 hv2;go_enter Tryz.func129, Tryz.ntmps129;go_wp2_with fail
  refine C1.out.mono ?_;rintro e w1 ⟨rfl, rfl⟩;go_wp2_with fail
  refine C2.out.mono ?_;rintro e w1 ⟨rfl, rfl⟩;go_wp2;go_ret;exact ⟨rfl, H.out, Kp.refl _ _⟩
 ·
  obtain ⟨gr, c, xs, hb, hx, hin, hh, hl, hc, hput⟩ := h.atV hs;have hcell : w.cell? ⟨g, 0 + sp.toNat, none⟩ = some (slG gr n c) := by rw [hb.cell]; exact hx
  have C1 := hidden (rowV_in g _ n c sp w hs hcell);cases hf : fits n a l.length
  ·
   have e1 : okV n sp a l.length = false := by simp [okV, hf]
   have e2 : setV n s sp a l = s := by simp [setV, e1]
   rw [e1, e2];have C2 := hidden (writeV_no (some ⟨gr, 0, none⟩) av n c l.length cv a w (by omega) ha hv1 hv2 (by simp [thB, hf]));have H := hidden h;clear hs e1 e2 hv h hpos ha hv1 hv2 hb hx hin hh hl hc hput hcell hf;go_enter Tryz.func129, Tryz.ntmps129;go_wp2_with fail
   refine C1.out.mono ?_;rintro e w1 ⟨rfl, rfl⟩;go_wp2_with fail
   refine C2.out.mono ?_;rintro e w1 ⟨rfl, rfl⟩;go_wp2;go_ret;exact ⟨rfl, H.out, Kp.refl _ _⟩
  ·
   have e1 : okV n sp a l.length = true := by simp [okV, hf, hs]
   have e2 : setV n s sp a l = putRV s sp (splice (rowV s sp) a.toNat l) := by simp [setV, e1]
   rw [e1, e2];have C2 := hidden (writeV_yes gr n c _ (rowV s sp) l a w hh hv hl (by omega) ha (by omega) hf);have HP := hidden hput;have q := fits_iff.1 hf;have HL : Hid ((splice (rowV s sp) a.toNat l).length = n) := by
    show _ = _;rw [splice_len _ _ _ (by omega), hl]
   clear hs e1 e2 hv h hpos ha hv1 hv2 hb hx hin hh hl hc hput hcell hf q;go_enter Tryz.func129, Tryz.ntmps129;go_wp2_with fail
   refine C1.out.mono ?_;rintro e w1 ⟨rfl, rfl⟩;go_wp2_with fail
   refine C2.out.mono ?_;rintro e w1 ⟨rfl, D1, D2⟩;go_wp2;go_ret;exact ⟨rfl, HP.out _ _ HL.out D2 D1⟩
set_option maxHeartbeats 1000000 in
theorem getV_any (lo hi g n : Nat) (s : Cs) (sp a m : Int) (w : World) (h : SD w lo hi g n s) (ha : i64 a) :
  Calls Tryz.prog 22 #[ptrG g, .int .i64 sp, .int .i64 a, .int .i64 m] w fun e w' => ∃ v', e = .returned (.tuple #[v', .bool (okV n sp a m)]) ∧ Row w' v' ((getV n s sp a m).map wV) ∧ NwV w.heap.size v' ∧ Below w.heap.size w w' := by
 have hpos := h.pos;cases hs : isV sp
 ·
  have e1 : okV n sp a m = false := by simp [okV, hs]
  have e2 : getV n s sp a m = [] := by simp [getV, e1]
  rw [e1, e2];have C1 := hidden (rowV_out (ptrG g) sp w hs);have C2 := hidden (readV_no none 0 0 a m w (by omega) ha (by simp [thB]));clear hs e1 e2 h hpos ha;go_enter Tryz.func22, Tryz.ntmps22;go_wp2_with fail
  refine C1.out.mono ?_;rintro e w1 ⟨rfl, rfl⟩;go_wp2_with fail
  refine C2.out.mono ?_;rintro e w1 ⟨rfl, rfl⟩;go_wp2;go_ret2
  exact ⟨_, rfl, Row.nil _, NwV.nil _ _ _, Below.refl _ _⟩
 ·
  obtain ⟨gr, c, xs, hb, hx, hin, hh, hl, hc, hput⟩ := h.atV hs;have hcell : w.cell? ⟨g, 0 + sp.toNat, none⟩ = some (slG gr n c) := by rw [hb.cell]; exact hx
  have C1 := hidden (rowV_in g _ n c sp w hs hcell);cases hf : fits n a m
  ·
   have e1 : okV n sp a m = false := by simp [okV, hf]
   have e2 : getV n s sp a m = [] := by simp [getV, e1]
   rw [e1, e2];have C2 := hidden (readV_no (some ⟨gr, 0, none⟩) n c a m w (by omega) ha (by simp [thB, hf]));clear hs e1 e2 h hpos ha hb hx hin hh hl hc hput hcell hf;go_enter Tryz.func22, Tryz.ntmps22;go_wp2_with fail
   refine C1.out.mono ?_;rintro e w1 ⟨rfl, rfl⟩;go_wp2_with fail
   refine C2.out.mono ?_;rintro e w1 ⟨rfl, rfl⟩;go_wp2;go_ret2
   exact ⟨_, rfl, Row.nil _, NwV.nil _ _ _, Below.refl _ _⟩
  ·
   have e1 : okV n sp a m = true := by simp [okV, hf, hs]
   have e2 : getV n s sp a m = sub (rowV s sp) a m := by simp [getV, e1]
   rw [e1, e2];have C2 := hidden (readV_yes gr n c (rowV s sp) a m w hh hl (by omega) ha (by omega) hf);clear hs e1 e2 h hpos ha hb hx hin hh hl hc hput hcell hf;go_enter Tryz.func22, Tryz.ntmps22;go_wp2_with fail
   refine C1.out.mono ?_;rintro e w1 ⟨rfl, rfl⟩;go_wp2_with fail
   refine C2.out.mono ?_;rintro e w1 ⟨v, rfl, R, N, B⟩;go_wp2;go_ret2
   exact ⟨_, rfl, R, N, B⟩
def NeV (u v : Value) : Prop := ∀ k, u.ownBlock = some k → v.ownBlock ≠ some k
theorem NeV.symm (u v : Value) (h : NeV u v) : NeV v u := fun k h1 h2 => h k h2 h1
def NwR (base : Nat) (e : TypeId) (n : Nat) (xs : List Value) (v : Value) (w : World) : Prop := ∃ g c, v = slG g n c ∧ base ≤ g ∧ Hd w g e c xs
theorem NwR.ext {base n : Nat} {e : TypeId} {xs : List Value} {v : Value} {w w' : World} (h : NwR base e n xs v w) (hx : Ext w w') : NwR base e n xs v w' := by
 obtain ⟨g, c, e, h1, h2⟩ := h;exact ⟨g, c, e, h1, h2.kp (F := fun _ => False) (Kp.of_below hx) (fun h => h)⟩
theorem NwR.ne {base n n' g' c' : Nat} {e : TypeId} {xs : List Value} {u : Value} {w : World} (h : NwR base e n xs u w) (hg : w.heap.size ≤ g') : NeV (slG g' n' c') u := by
 obtain ⟨g, c, rfl, h1, h2⟩ := h;intro k e1 e2;simp only [Value.ownBlock, Option.some.injEq] at e1 e2;have := h2.lt;omega
def PsN (base n : Nat) (s : Cs) (ia ib ic : Nat) (i : Nat) (v : Value) (w : World) : Prop :=
 (i = ia ∧ NwR base 4 n (s.b0.map Value.bool) v w) ∨ (i = ib ∧ NwR base 4 n (s.b1.map Value.bool) v w) ∨ (i = ic ∧ NwR base 31 n (s.v0.map wV) v w) ∨ (i ≠ ia ∧ i ≠ ib ∧ i ≠ ic ∧ NwR base 31 n (s.v1.map wV) v w)
theorem PsN.ext {base n ia ib ic : Nat} {s : Cs} (i : Nat) (v : Value) (w w' : World) (h : PsN base n s ia ib ic i v w) (hx : Ext w w') : PsN base n s ia ib ic i v w' := by
 rcases h with ⟨h1, h⟩ | ⟨h1, h⟩ | ⟨h1, h⟩ | ⟨h1, h2, h3, h⟩
 ·
  exact .inl ⟨h1, h.ext hx⟩
 ·
  exact .inr (.inl ⟨h1, h.ext hx⟩)
 ·
  exact .inr (.inr (.inl ⟨h1, h.ext hx⟩))
 ·
  exact .inr (.inr (.inr ⟨h1, h2, h3, h.ext hx⟩))
theorem PsN.ne {base n n' g' c' ia ib ic j : Nat} {s : Cs} {u : Value} {w : World} (h : PsN base n s ia ib ic j u w) (hg : w.heap.size ≤ g') : NeV (slG g' n' c') u := by
 rcases h with ⟨h1, h⟩ | ⟨h1, h⟩ | ⟨h1, h⟩ | ⟨h1, h2, h3, h⟩ <;> exact h.ne hg
theorem PsN.at0 {base n ia ib ic : Nat} {s : Cs} {v : Value} {w : World} (hd : ia ≠ ib ∧ ia ≠ ic) (h : PsN base n s ia ib ic ia v w) : NwR base 4 n (s.b0.map Value.bool) v w := by
 rcases h with ⟨h1, h⟩ | ⟨h1, h⟩ | ⟨h1, h⟩ | ⟨h1, h2, h3, h⟩
 ·
  exact h
 ·
  exact absurd h1 hd.1
 ·
  exact absurd h1 hd.2
 ·
  exact absurd rfl h1
theorem PsN.at1 {base n ia ib ic : Nat} {s : Cs} {v : Value} {w : World} (hd : ib ≠ ia ∧ ib ≠ ic) (h : PsN base n s ia ib ic ib v w) : NwR base 4 n (s.b1.map Value.bool) v w := by
 rcases h with ⟨h1, h⟩ | ⟨h1, h⟩ | ⟨h1, h⟩ | ⟨h1, h2, h3, h⟩
 ·
  exact absurd h1 hd.1
 ·
  exact h
 ·
  exact absurd h1 hd.2
 ·
  exact absurd rfl h2
theorem PsN.at2 {base n ia ib ic : Nat} {s : Cs} {v : Value} {w : World} (hd : ic ≠ ia ∧ ic ≠ ib) (h : PsN base n s ia ib ic ic v w) : NwR base 31 n (s.v0.map wV) v w := by
 rcases h with ⟨h1, h⟩ | ⟨h1, h⟩ | ⟨h1, h⟩ | ⟨h1, h2, h3, h⟩
 ·
  exact absurd h1 hd.1
 ·
  exact absurd h1 hd.2
 ·
  exact h
 ·
  exact absurd rfl h3
theorem PsN.at3 {base n ia ib ic id : Nat} {s : Cs} {v : Value} {w : World} (hd : id ≠ ia ∧ id ≠ ib ∧ id ≠ ic) (h : PsN base n s ia ib ic id v w) : NwR base 31 n (s.v1.map wV) v w := by
 rcases h with ⟨h1, h⟩ | ⟨h1, h⟩ | ⟨h1, h⟩ | ⟨h1, h2, h3, h⟩
 ·
  exact absurd h1 hd.1
 ·
  exact absurd h1 hd.2.1
 ·
  exact absurd h1 hd.2.2
 ·
  exact h
theorem NeV.g {g0 g1 n c0 c1 : Nat} {u v : Value} (h : NeV u v) (e0 : u = slG g0 n c0) (e1 : v = slG g1 n c1) : g0 ≠ g1 := by
 subst e0 e1;exact fun e => h g0 rfl (by rw [e]; rfl)
theorem Sto.new {w0 w : World} {t : TypeId} {pre : List Value} {n g0 g1 g2 g3 c0 c1 c2 c3 : Nat} {s : Cs} {xs : List Value} (hx : Ext w0 w) (hn : 1 ≤ n ∧ n ≤ 65536) (hl : s.b0.length = n ∧ s.b1.length = n ∧ s.v0.length = n ∧ s.v1.length = n) (ht : t ≠ 4 ∧ t ≠ 31)
  (l0 : w0.heap.size ≤ g0) (l1 : w0.heap.size ≤ g1) (l2 : w0.heap.size ≤ g2) (l3 : w0.heap.size ≤ g3) (n01 : g0 ≠ g1) (n23 : g2 ≠ g3)
  (h0 : Hd w g0 4 c0 (s.b0.map Value.bool)) (h1 : Hd w g1 4 c1 (s.b1.map Value.bool)) (h2 : Hd w g2 31 c2 (s.v0.map wV)) (h3 : Hd w g3 31 c3 (s.v1.map wV)) (he : xs = pre ++ [slG g0 n c0, slG g1 n c1, slG g2 n c2, slG g3 n c3]) :
  Sto t pre (w.alloc (.cells xs.toArray t)) w0.heap.size (w.alloc (.cells xs.toArray t)).heap.size w.heap.size n s := by
 subst he;have k : ∀ o, Kp (fun _ => False) w (w.alloc o) := fun o => Kp.of_below ((Below.refl _ _).alloc (Nat.le_refl _) _);have sz := hx.size;refine ⟨hl, hn, Nat.le_refl _, ht, ⟨sz, by simp⟩, g0, g1, g2, g3, c0, c1, c2, c3, Blk.new _ _ _, ⟨⟨l0, ?_⟩, ⟨l1, ?_⟩, ⟨l2, ?_⟩, ⟨l3, ?_⟩⟩, ⟨n01, n23⟩, h0.kp (k _) (fun h => h), h1.kp (k _) (fun h => h), h2.kp (k _) (fun h => h), h3.kp (k _) (fun h => h)⟩
 ·
  have := h0.lt; simp; omega
 ·
  have := h1.lt; simp; omega
 ·
  have := h2.lt; simp; omega
 ·
  have := h3.lt; simp; omega
theorem zmap_b (n : Nat) : (List.replicate n false).map Value.bool = List.replicate n (.bool false) := by simp
theorem zmap_v (n : Nat) : (List.replicate n (0 : UInt16)).map wV = List.replicate n (.int .u16 0) := by simp
set_option maxHeartbeats 1000000 in
theorem new_bad (c : Int) (w : World) (h : ¬ (1 ≤ c ∧ c ≤ 65536)) :
  Calls Tryz.prog 26 #[.int .i64 c] w fun e w' => e = .returned (.pointer none) ∧ w = w' := by
 by_cases h1 : c < 1
 ·
  clear h;go_enter Tryz.func26, Tryz.ntmps26;go_wp2;go_ret;exact ⟨rfl, rfl⟩
 ·
  have h2 : 65536 < c := by omega
  clear h;go_enter Tryz.func26, Tryz.ntmps26;go_wp2;go_ret;exact ⟨rfl, rfl⟩
set_option maxHeartbeats 2000000 in
theorem new_any (n : Nat) (w : World) (hn : 1 ≤ n ∧ n ≤ 65536) :
  Calls Tryz.prog 26 #[.int .i64 n] w fun e w' => ∃ g, e = .returned (ptrG g) ∧ SD w' w.heap.size w'.heap.size g n (Cs.zero n) ∧ Below w.heap.size w w' := by
 have hz1 := hidden (zmap_b n);have hz2 := hidden (zmap_v n);have N1 := hidden hn;obtain ⟨h1, h2⟩ := hn;have h1' : ¬ (n : Int) < 1 := by omega
 have h2' : ¬ (65536 : Int) < (n : Int) := by omega
 have MB := hidden (fun u => mk_zer 29 4 (.bool false) 1 Tryz.underlying29 info_bool rfl (n : Int) n rfl (by omega) (by omega) u);have MV := hidden (fun u => mk_zer 30 31 (.int .u16 0) 2 Tryz.underlying30 info_w16 rfl (n : Int) n rfl (by omega) (by omega) u);have HB := hidden (fun u => Hd.new u n (.bool false) 4 h2);have HV := hidden (fun u => Hd.new u n (.int .u16 0) 31 h2);go_enter Tryz.func26, Tryz.ntmps26;go_upto_region 3 with fail
 refine c_begin 11 rfl (by kernel_rfl) ?_;have xx := Ext.refl w.drew;have B0 := (Below.refl w.heap.size w).drew;have es : w.drew.heap.size = w.heap.size := rfl;have ES := hidden es;have BH := hidden B0;clear B0 es;have hC0 : allC ([] : List Cond) w.drew := trivial;generalize w.drew = w0 at *;refine c_P trivial 0 rfl ?_;refine c_P trivial 2 rfl ?_;refine c_P trivial 4 rfl ?_;refine c_P trivial 6 rfl ?_;refine c_phase (n := 3) [1, 3, 5, 7] [(some 10, 1), (some 12, 3), (some 14, 5), (some 16, 7)] (PsN w0.heap.size n (Cs.zero n) 1 3 5) NeV NeV.symm (by kernel_rfl) (by kernel_rfl) ?mono ?hC ?hops ?hend
 case mono => exact PsN.ext
 case hC => exact fun w' hx => trivial
 case hops =>
  intro i hi vs w3 hx hd;simp only [List.mem_cons, List.not_mem_nil, or_false] at hi;rcases hi with rfl | rfl | rfl | rfl
  ·
   refine phase_op 1 [] (by kernel_rfl) rfl (fun K hK => ?_);simp only [putsD];have hm := MB.out w3;go_simp;exact hK.out _ _ ((Below.refl _ _).alloc (Nat.le_refl _) _) (.inl ⟨rfl, _, _, rfl, hx.size, by rw [Cs.zero, hz1.out]; exact HB.out w3⟩) (fun j _ _ u hu => hu.ne (Nat.le_refl _))
  ·
   refine phase_op 3 [] (by kernel_rfl) rfl (fun K hK => ?_);simp only [putsD];have hm := MB.out w3;go_simp;exact hK.out _ _ ((Below.refl _ _).alloc (Nat.le_refl _) _) (.inr (.inl ⟨rfl, _, _, rfl, hx.size, by rw [Cs.zero, hz1.out]; exact HB.out w3⟩)) (fun j _ _ u hu => hu.ne (Nat.le_refl _))
  ·
   refine phase_op 5 [] (by kernel_rfl) rfl (fun K hK => ?_);simp only [putsD];have hm := MV.out w3;go_simp;exact hK.out _ _ ((Below.refl _ _).alloc (Nat.le_refl _) _) (.inr (.inr (.inl ⟨rfl, _, _, rfl, hx.size, by rw [Cs.zero, hz2.out]; exact HV.out w3⟩))) (fun j _ _ u hu => hu.ne (Nat.le_refl _))
  ·
   refine phase_op 7 [] (by kernel_rfl) rfl (fun K hK => ?_);simp only [putsD];have hm := MV.out w3;go_simp;exact hK.out _ _ ((Below.refl _ _).alloc (Nat.le_refl _) _) (.inr (.inr (.inr ⟨by decide, by decide, by decide, _, _, rfl, hx.size, by rw [Cs.zero, hz2.out]; exact HV.out w3⟩))) (fun j _ _ u hu => hu.ne (Nat.le_refl _))
 case hend =>
  intro vs w3 BZ hP hR;obtain ⟨g0, c0, e0, l0, z0⟩ := PsN.at0 (by decide) (hP 1 (by simp));obtain ⟨g1, c1, e1, l1, z1⟩ := PsN.at1 (by decide) (hP 3 (by simp));obtain ⟨g2, c2, e2, l2, z2⟩ := PsN.at2 (by decide) (hP 5 (by simp));obtain ⟨g3, c3, e3, l3, z3⟩ := PsN.at3 (by decide) (hP 7 (by simp));have n01 := NeV.g (hR 1 (by simp) 3 (by simp) (by decide)) e0 e1;have n23 := NeV.g (hR 5 (by simp) 7 (by simp) (by decide)) e2 e3;simp only [putsD, e0, e1, e2, e3];try simp only [Act.put, PuA, PuB, PuC]
  clear hP hR e0 e1 e2 e3;clear vs;refine c_P trivial 8 rfl ?_;refine c_move 9 (by kernel_rfl) (c_op 9 [] (by kernel_rfl) rfl (by kernel_rfl) (fun K hK => ?_));go_simp;refine hK.out _ _ trivial ?_;clear K hK;refine c_P trivial 10 rfl ?_;refine c_done (by kernel_rfl) ?_;have S := hidden (Sto.new (t := 107) (pre := []) BZ N1.out (by simp [Cs.zero]) (by decide) l0 l1 l2 l3 n01 n23 z0 z1 z2 z3 rfl);have B9 := hidden (below_then BH.out ((Ext.trans BZ ((Below.refl _ _).alloc (Nat.le_refl _) (.cells #[slG g0 n c0, slG g1 n c1, slG g2 n c2, slG g3 n c3] 107)))));rw [ES.out] at S;clear z0 z1 z2 z3 n01 n23 l0 l1 l2 l3 BZ xx;go_wp2;go_ret;exact ⟨_, rfl, S.out, B9.out⟩
set_option maxHeartbeats 1000000 in
theorem booksameV (u v : Value) (p : List UInt16) (w : World) (hu : Row w u (p.map wV)) (hv : Row w v (p.map wV)) :
  Calls Tryz.prog 25 #[u, v] w fun e w' => e = .returned (.bool true) ∧ ∃ nq, w' = w.drewN nq := by
 obtain ⟨a, cap, rfl, -⟩ := id hu;obtain ⟨a2, cap2, rfl, -⟩ := id hv;obtain ⟨hl, hc, hm, -⟩ := hu.at;obtain ⟨hl2, hc2, hm2, -⟩ := hv.at;simp only [List.length_map] at hl hc hl2 hc2 hu hv ⊢;unfold maxLen at hm hm2;go_enter Tryz.func25, Tryz.ntmps25;go_wp2;go_loopw [5] (fun i wr => ∃ k : Nat, k ≤ p.length ∧ i = .int .i64 k ∧ ∃ nq, wr = w.drewN nq) (fun i _ => p.length - (intOf i).toNat)
 case atStart => exact ⟨0, Nat.zero_le _, rfl, 0, rfl⟩
 case round =>
  obtain ⟨k, hk, rfl, nr, rfl⟩ := hrel;by_cases hlt : k < p.length
  ·
   obtain ⟨-, -, -, hcell⟩ := hu.at;obtain ⟨b, off, rfl, hcl⟩ := hcell k 0 hlt;obtain ⟨-, -, -, hcell2⟩ := hv.at;obtain ⟨b2, off2, rfl, hcl2⟩ := hcell2 k 0 hlt;have c0 := hcl k hlt;have c1 := hcl2 k hlt;clear hcl hcell hcl2 hcell2;have hlt' : (k : Int) < (p.length : Int) := by omega
   generalize p.getD k 0 = x at *;go_wp2;go_quiet (fail)
   go_wp2;go_roundw
   case rel => exact ⟨k + 1, by omega, by go_num, _, rfl⟩
   case measure => simp [intOf]; omega
  ·
   go_wp2;go_ret;exact ⟨rfl, nr, rfl⟩
end Go.Proofs.YtdihcdphgiaepaaGreat
