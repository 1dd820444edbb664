/- Plain mathematics of chapter 9 (a device), and what its walks share: requests whose lists lie elsewhere, replies whose lists are new. -/
import Derived.Test.YtdihcdphgiaepaaGreatZZ10
import Derived.Deep.Cut
import Derived.Test.YtdihcdphgiaepaaGreatZZ7
import Derived.Test.YtdihcdphgiaepaaGreatZZ8
set_option maxHeartbeats 2000000
namespace Go.Proofs.YtdihcdphgiaepaaGreat
open Go.RowKit
abbrev SD := Sto 107 []
theorem rowB_out (v : Value) (sp : Int) (w : World) (hs : isB sp = false) :
  Calls Tryz.prog 105 #[v, J sp] w fun e w' => e = .returned nS ∧ w = w' := by
 have h0 : (sp == 0) = false := by
  rw [beq_eq_false_iff_ne]; intro e; simp [isB, e] at hs
 have h1 : (sp == 1) = false := by
  rw [beq_eq_false_iff_ne]; intro e; simp [isB, e] at hs
 clear hs;go_enter Tryz.func105, Tryz.ntmps105;go_wp2;go_ret;exact ⟨rfl, rfl⟩
theorem rowB_in (g : Nat) (a : Option Addr) (n c : Nat) (sp : Int) (w : World) (hs : isB sp = true) (hc : w.cell? ⟨g, 0 + sp.toNat, none⟩ = some (.slice a n c)) :
  Calls Tryz.prog 105 #[ptrG g, J sp] w fun e w' => e = .returned (.slice a n c) ∧ w = w' := by
 have hsp : sp = 0 ∨ sp = 1 := by simpa [isB] using hs
 clear hs;rcases hsp with rfl | rfl
 ·
  replace hc : w.cell? ⟨g, 0, none⟩ = some (.slice a n c) := hc;go_enter Tryz.func105, Tryz.ntmps105;go_wp2;go_ret;exact ⟨rfl, rfl⟩
 ·
  replace hc : w.cell? ⟨g, 1, none⟩ = some (.slice a n c) := hc;go_enter Tryz.func105, Tryz.ntmps105;go_wp2;go_ret;exact ⟨rfl, rfl⟩
theorem setB_any (lo hi g n : Nat) (s : Cs) (v : Value) (l : List Bool) (sp a : Int) (w : World) (h : SD w lo hi g n s) (hv : Row w v (l.map Value.bool)) (ha : i64 a) :
  Calls Tryz.prog 127 #[ptrG g, J sp, J a, v] w fun e w' => e = .returned (.bool (okB n sp a l.length)) ∧ SD w' lo hi g n (setB n s sp a l) ∧ Kp (In lo hi) w w' := by
 obtain ⟨av, cv, rfl, hv1, hv2, -⟩ := id hv;simp only [List.length_map] at hv hv1 ⊢;have hpos := h.pos;cases hs : isB sp
 ·
  have e1 : okB n sp a l.length = false := by simp [okB, hs]
  have e2 : setB n s sp a l = s := by simp [setB, e1]
  rw [e1, e2];have C1 := Hh (rowB_out (ptrG g) sp w hs);have C2 := Hh (writeB_no none av 0 0 l.length cv a w (by omega) ha hv1 hv2 (by simp [thB]));have H := Hh h;clear hs e1 e2 hv h hpos ha hv1 hv2;go_enter Tryz.func127, Tryz.ntmps127;go_wp2_with fail
  refine C1.out.mono ?_;rintro e w1 ⟨rfl, rfl⟩;go_wp2_with fail
  refine C2.out.mono ?_;rintro e w1 ⟨rfl, rfl⟩;go_wp2;go_ret;exact ⟨rfl, H.out, Kp.refl _ _⟩
 ·
  obtain ⟨gr, c, xs, hb, hx, hin, hh, hl, hc, hput⟩ := h.atB hs;have hcell : w.cell? ⟨g, 0 + sp.toNat, none⟩ = some (slG gr n c) := by rw [hb.cell]; exact hx
  have C1 := Hh (rowB_in g _ n c sp w hs hcell);cases hf : fits n a l.length
  ·
   have e1 : okB n sp a l.length = false := by simp [okB, hf]
   have e2 : setB n s sp a l = s := by simp [setB, e1]
   rw [e1, e2];have C2 := Hh (writeB_no (some ⟨gr, 0, none⟩) av n c l.length cv a w (by omega) ha hv1 hv2 (by simp [thB, hf]));have H := Hh h;clear hs e1 e2 hv h hpos ha hv1 hv2 hb hx hin hh hl hc hput hcell hf;go_enter Tryz.func127, Tryz.ntmps127;go_wp2_with fail
   refine C1.out.mono ?_;rintro e w1 ⟨rfl, rfl⟩;go_wp2_with fail
   refine C2.out.mono ?_;rintro e w1 ⟨rfl, rfl⟩;go_wp2;go_ret;exact ⟨rfl, H.out, Kp.refl _ _⟩
  ·
   have e1 : okB n sp a l.length = true := by simp [okB, hf, hs]
   have e2 : setB n s sp a l = putRB s sp (splice (rowB s sp) a.toNat l) := by simp [setB, e1]
   rw [e1, e2];have C2 := Hh (writeB_yes gr n c _ (rowB s sp) l a w hh hv hl (by omega) ha (by omega) hf);have HP := Hh hput;have q := fits_iff.1 hf;have HL : Hid ((splice (rowB s sp) a.toNat l).length = n) := by
    show _ = _;rw [splice_len _ _ _ (by omega), hl]
   clear hs e1 e2 hv h hpos ha hv1 hv2 hb hx hin hh hl hc hput hcell hf q;go_enter Tryz.func127, Tryz.ntmps127;go_wp2_with fail
   refine C1.out.mono ?_;rintro e w1 ⟨rfl, rfl⟩;go_wp2_with fail
   refine C2.out.mono ?_;rintro e w1 ⟨rfl, D1, D2⟩;go_wp2;go_ret;exact ⟨rfl, HP.out _ _ HL.out D2 D1⟩
theorem getB_any (lo hi g n : Nat) (s : Cs) (sp a m : Int) (w : World) (h : SD w lo hi g n s) (ha : i64 a) :
  Calls Tryz.prog 61 #[ptrG g, J sp, J a, J m] w fun e w' => ∃ v', e = .returned (.tuple #[v', .bool (okB n sp a m)]) ∧ Row w' v' ((getB n s sp a m).map Value.bool) ∧ NwV w.heap.size v' ∧ Bo w w' := by
 have hpos := h.pos;cases hs : isB sp
 ·
  have e1 : okB n sp a m = false := by simp [okB, hs]
  have e2 : getB n s sp a m = [] := by simp [getB, e1]
  rw [e1, e2];have C1 := Hh (rowB_out (ptrG g) sp w hs);have C2 := Hh (readB_no none 0 0 a m w (by omega) ha (by simp [thB]));clear hs e1 e2 h hpos ha;go_enter Tryz.func61, Tryz.ntmps61;go_wp2_with fail
  refine C1.out.mono ?_;rintro e w1 ⟨rfl, rfl⟩;go_wp2_with fail
  refine C2.out.mono ?_;rintro e w1 ⟨rfl, rfl⟩;go_wp2;go_ret2
  exact ⟨_, rfl, Row.nil _, NwV.nil _ _ _, Below.refl _ _⟩
 ·
  obtain ⟨gr, c, xs, hb, hx, hin, hh, hl, hc, hput⟩ := h.atB hs;have hcell : w.cell? ⟨g, 0 + sp.toNat, none⟩ = some (slG gr n c) := by rw [hb.cell]; exact hx
  have C1 := Hh (rowB_in g _ n c sp w hs hcell);cases hf : fits n a m
  ·
   have e1 : okB n sp a m = false := by simp [okB, hf]
   have e2 : getB n s sp a m = [] := by simp [getB, e1]
   rw [e1, e2];have C2 := Hh (readB_no (some ⟨gr, 0, none⟩) n c a m w (by omega) ha (by simp [thB, hf]));clear hs e1 e2 h hpos ha hb hx hin hh hl hc hput hcell hf;go_enter Tryz.func61, Tryz.ntmps61;go_wp2_with fail
   refine C1.out.mono ?_;rintro e w1 ⟨rfl, rfl⟩;go_wp2_with fail
   refine C2.out.mono ?_;rintro e w1 ⟨rfl, rfl⟩;go_wp2;go_ret2
   exact ⟨_, rfl, Row.nil _, NwV.nil _ _ _, Below.refl _ _⟩
  ·
   have e1 : okB n sp a m = true := by simp [okB, hf, hs]
   have e2 : getB n s sp a m = sub (rowB s sp) a m := by simp [getB, e1]
   rw [e1, e2];have C2 := Hh (readB_yes gr n c (rowB s sp) a m w hh hl (by omega) ha (by omega) hf);clear hs e1 e2 h hpos ha hb hx hin hh hl hc hput hcell hf;go_enter Tryz.func61, Tryz.ntmps61;go_wp2_with fail
   refine C1.out.mono ?_;rintro e w1 ⟨rfl, rfl⟩;go_wp2_with fail
   refine C2.out.mono ?_;rintro e w1 ⟨v, rfl, R, N, B⟩;go_wp2;go_ret2
   exact ⟨_, rfl, R, N, B⟩
theorem rowV_out (v : Value) (sp : Int) (w : World) (hs : isV sp = false) :
  Calls Tryz.prog 64 #[v, J sp] w fun e w' => e = .returned nS ∧ w = w' := by
 have h0 : (sp == 2) = false := by
  rw [beq_eq_false_iff_ne]; intro e; simp [isV, e] at hs
 have h1 : (sp == 3) = false := by
  rw [beq_eq_false_iff_ne]; intro e; simp [isV, e] at hs
 clear hs;go_enter Tryz.func64, Tryz.ntmps64;go_wp2;go_ret;exact ⟨rfl, rfl⟩
theorem rowV_in (g : Nat) (a : Option Addr) (n c : Nat) (sp : Int) (w : World) (hs : isV sp = true) (hc : w.cell? ⟨g, 0 + sp.toNat, none⟩ = some (.slice a n c)) :
  Calls Tryz.prog 64 #[ptrG g, J sp] w fun e w' => e = .returned (.slice a n c) ∧ w = w' := by
 have hsp : sp = 2 ∨ sp = 3 := by simpa [isV] using hs
 clear hs;rcases hsp with rfl | rfl
 ·
  replace hc : w.cell? ⟨g, 2, none⟩ = some (.slice a n c) := hc;go_enter Tryz.func64, Tryz.ntmps64;go_wp2;go_ret;exact ⟨rfl, rfl⟩
 ·
  replace hc : w.cell? ⟨g, 3, none⟩ = some (.slice a n c) := hc;go_enter Tryz.func64, Tryz.ntmps64;go_wp2;go_ret;exact ⟨rfl, rfl⟩
theorem setV_any (lo hi g n : Nat) (s : Cs) (v : Value) (l : List UInt16) (sp a : Int) (w : World) (h : SD w lo hi g n s) (hv : Row w v (l.map wV)) (ha : i64 a) :
  Calls Tryz.prog 129 #[ptrG g, J sp, J a, v] w fun e w' => e = .returned (.bool (okV n sp a l.length)) ∧ SD w' lo hi g n (setV n s sp a l) ∧ Kp (In lo hi) w w' := by
 obtain ⟨av, cv, rfl, hv1, hv2, -⟩ := id hv;simp only [List.length_map] at hv hv1 ⊢;have hpos := h.pos;cases hs : isV sp
 ·
  have e1 : okV n sp a l.length = false := by simp [okV, hs]
  have e2 : setV n s sp a l = s := by simp [setV, e1]
  rw [e1, e2];have C1 := Hh (rowV_out (ptrG g) sp w hs);have C2 := Hh (writeV_no none av 0 0 l.length cv a w (by omega) ha hv1 hv2 (by simp [thB]));have H := Hh h;clear hs e1 e2 hv h hpos ha hv1 hv2;go_enter Tryz.func129, Tryz.ntmps129;go_wp2_with fail
  refine C1.out.mono ?_;rintro e w1 ⟨rfl, rfl⟩;go_wp2_with fail
  refine C2.out.mono ?_;rintro e w1 ⟨rfl, rfl⟩;go_wp2;go_ret;exact ⟨rfl, H.out, Kp.refl _ _⟩
 ·
  obtain ⟨gr, c, xs, hb, hx, hin, hh, hl, hc, hput⟩ := h.atV hs;have hcell : w.cell? ⟨g, 0 + sp.toNat, none⟩ = some (slG gr n c) := by rw [hb.cell]; exact hx
  have C1 := Hh (rowV_in g _ n c sp w hs hcell);cases hf : fits n a l.length
  ·
   have e1 : okV n sp a l.length = false := by simp [okV, hf]
   have e2 : setV n s sp a l = s := by simp [setV, e1]
   rw [e1, e2];have C2 := Hh (writeV_no (some ⟨gr, 0, none⟩) av n c l.length cv a w (by omega) ha hv1 hv2 (by simp [thB, hf]));have H := Hh h;clear hs e1 e2 hv h hpos ha hv1 hv2 hb hx hin hh hl hc hput hcell hf;go_enter Tryz.func129, Tryz.ntmps129;go_wp2_with fail
   refine C1.out.mono ?_;rintro e w1 ⟨rfl, rfl⟩;go_wp2_with fail
   refine C2.out.mono ?_;rintro e w1 ⟨rfl, rfl⟩;go_wp2;go_ret;exact ⟨rfl, H.out, Kp.refl _ _⟩
  ·
   have e1 : okV n sp a l.length = true := by simp [okV, hf, hs]
   have e2 : setV n s sp a l = putRV s sp (splice (rowV s sp) a.toNat l) := by simp [setV, e1]
   rw [e1, e2];have C2 := Hh (writeV_yes gr n c _ (rowV s sp) l a w hh hv hl (by omega) ha (by omega) hf);have HP := Hh hput;have q := fits_iff.1 hf;have HL : Hid ((splice (rowV s sp) a.toNat l).length = n) := by
    show _ = _;rw [splice_len _ _ _ (by omega), hl]
   clear hs e1 e2 hv h hpos ha hv1 hv2 hb hx hin hh hl hc hput hcell hf q;go_enter Tryz.func129, Tryz.ntmps129;go_wp2_with fail
   refine C1.out.mono ?_;rintro e w1 ⟨rfl, rfl⟩;go_wp2_with fail
   refine C2.out.mono ?_;rintro e w1 ⟨rfl, D1, D2⟩;go_wp2;go_ret;exact ⟨rfl, HP.out _ _ HL.out D2 D1⟩
theorem getV_any (lo hi g n : Nat) (s : Cs) (sp a m : Int) (w : World) (h : SD w lo hi g n s) (ha : i64 a) :
  Calls Tryz.prog 22 #[ptrG g, J sp, J a, J m] w fun e w' => ∃ v', e = .returned (.tuple #[v', .bool (okV n sp a m)]) ∧ Row w' v' ((getV n s sp a m).map wV) ∧ NwV w.heap.size v' ∧ Bo w w' := by
 have hpos := h.pos;cases hs : isV sp
 ·
  have e1 : okV n sp a m = false := by simp [okV, hs]
  have e2 : getV n s sp a m = [] := by simp [getV, e1]
  rw [e1, e2];have C1 := Hh (rowV_out (ptrG g) sp w hs);have C2 := Hh (readV_no none 0 0 a m w (by omega) ha (by simp [thB]));clear hs e1 e2 h hpos ha;go_enter Tryz.func22, Tryz.ntmps22;go_wp2_with fail
  refine C1.out.mono ?_;rintro e w1 ⟨rfl, rfl⟩;go_wp2_with fail
  refine C2.out.mono ?_;rintro e w1 ⟨rfl, rfl⟩;go_wp2;go_ret2
  exact ⟨_, rfl, Row.nil _, NwV.nil _ _ _, Below.refl _ _⟩
 ·
  obtain ⟨gr, c, xs, hb, hx, hin, hh, hl, hc, hput⟩ := h.atV hs;have hcell : w.cell? ⟨g, 0 + sp.toNat, none⟩ = some (slG gr n c) := by rw [hb.cell]; exact hx
  have C1 := Hh (rowV_in g _ n c sp w hs hcell);cases hf : fits n a m
  ·
   have e1 : okV n sp a m = false := by simp [okV, hf]
   have e2 : getV n s sp a m = [] := by simp [getV, e1]
   rw [e1, e2];have C2 := Hh (readV_no (some ⟨gr, 0, none⟩) n c a m w (by omega) ha (by simp [thB, hf]));clear hs e1 e2 h hpos ha hb hx hin hh hl hc hput hcell hf;go_enter Tryz.func22, Tryz.ntmps22;go_wp2_with fail
   refine C1.out.mono ?_;rintro e w1 ⟨rfl, rfl⟩;go_wp2_with fail
   refine C2.out.mono ?_;rintro e w1 ⟨rfl, rfl⟩;go_wp2;go_ret2
   exact ⟨_, rfl, Row.nil _, NwV.nil _ _ _, Below.refl _ _⟩
  ·
   have e1 : okV n sp a m = true := by simp [okV, hf, hs]
   have e2 : getV n s sp a m = sub (rowV s sp) a m := by simp [getV, e1]
   rw [e1, e2];have C2 := Hh (readV_yes gr n c (rowV s sp) a m w hh hl (by omega) ha (by omega) hf);clear hs e1 e2 h hpos ha hb hx hin hh hl hc hput hcell hf;go_enter Tryz.func22, Tryz.ntmps22;go_wp2_with fail
   refine C1.out.mono ?_;rintro e w1 ⟨rfl, rfl⟩;go_wp2_with fail
   refine C2.out.mono ?_;rintro e w1 ⟨v, rfl, R, N, B⟩;go_wp2;go_ret2
   exact ⟨_, rfl, R, N, B⟩
def NeV (u v : Value) : Prop := ∀ k, u.ownBlock = some k → v.ownBlock ≠ some k
theorem NeV.symm (u v : Value) (h : NeV u v) : NeV v u := fun k h1 h2 => h k h2 h1
def NwR (base : Nat) (e : TypeId) (n : Nat) (xs : List Value) (v : Value) (w : World) : Prop := ∃ g c, v = slG g n c ∧ base ≤ g ∧ Hd w g e c xs
theorem NwR.ext {base n : Nat} {e : TypeId} {xs : List Value} {v : Value} {w w' : World} (h : NwR base e n xs v w) (hx : Ext w w') : NwR base e n xs v w' := by
 obtain ⟨g, c, e, h1, h2⟩ := h;exact ⟨g, c, e, h1, h2.kp (F := fun _ => False) (Kp.of_below hx) (fun h => h)⟩
theorem NwR.ne {base n n' g' c' : Nat} {e : TypeId} {xs : List Value} {u : Value} {w : World} (h : NwR base e n xs u w) (hg : w.heap.size ≤ g') : NeV (slG g' n' c') u := by
 obtain ⟨g, c, rfl, h1, h2⟩ := h;intro k e1 e2;simp only [Value.ownBlock, Option.some.injEq] at e1 e2;have := h2.lt;omega
def PsN (base n : Nat) (s : Cs) (ia ib ic : Nat) (i : Nat) (v : Value) (w : World) : Prop :=
 (i = ia ∧ NwR base 4 n (s.b0.map Value.bool) v w) ∨ (i = ib ∧ NwR base 4 n (s.b1.map Value.bool) v w) ∨ (i = ic ∧ NwR base 31 n (s.v0.map wV) v w) ∨ (i ≠ ia ∧ i ≠ ib ∧ i ≠ ic ∧ NwR base 31 n (s.v1.map wV) v w)
theorem PsN.ext {base n ia ib ic : Nat} {s : Cs} (i : Nat) (v : Value) (w w' : World) (h : PsN base n s ia ib ic i v w) (hx : Ext w w') : PsN base n s ia ib ic i v w' := by
 rcases h with ⟨h1, h⟩ | ⟨h1, h⟩ | ⟨h1, h⟩ | ⟨h1, h2, h3, h⟩
 ·
  exact .inl ⟨h1, h.ext hx⟩
 ·
  exact .inr (.inl ⟨h1, h.ext hx⟩)
 ·
  exact .inr (.inr (.inl ⟨h1, h.ext hx⟩))
 ·
  exact .inr (.inr (.inr ⟨h1, h2, h3, h.ext hx⟩))
theorem PsN.ne {base n n' g' c' ia ib ic j : Nat} {s : Cs} {u : Value} {w : World} (h : PsN base n s ia ib ic j u w) (hg : w.heap.size ≤ g') : NeV (slG g' n' c') u := by
 rcases h with ⟨h1, h⟩ | ⟨h1, h⟩ | ⟨h1, h⟩ | ⟨h1, h2, h3, h⟩ <;> exact h.ne hg
theorem PsN.at0 {base n ia ib ic : Nat} {s : Cs} {v : Value} {w : World} (hd : ia ≠ ib ∧ ia ≠ ic) (h : PsN base n s ia ib ic ia v w) : NwR base 4 n (s.b0.map Value.bool) v w := by
 rcases h with ⟨h1, h⟩ | ⟨h1, h⟩ | ⟨h1, h⟩ | ⟨h1, h2, h3, h⟩
 ·
  exact h
 ·
  exact absurd h1 hd.1
 ·
  exact absurd h1 hd.2
 ·
  exact absurd rfl h1
theorem PsN.at1 {base n ia ib ic : Nat} {s : Cs} {v : Value} {w : World} (hd : ib ≠ ia ∧ ib ≠ ic) (h : PsN base n s ia ib ic ib v w) : NwR base 4 n (s.b1.map Value.bool) v w := by
 rcases h with ⟨h1, h⟩ | ⟨h1, h⟩ | ⟨h1, h⟩ | ⟨h1, h2, h3, h⟩
 ·
  exact absurd h1 hd.1
 ·
  exact h
 ·
  exact absurd h1 hd.2
 ·
  exact absurd rfl h2
theorem PsN.at2 {base n ia ib ic : Nat} {s : Cs} {v : Value} {w : World} (hd : ic ≠ ia ∧ ic ≠ ib) (h : PsN base n s ia ib ic ic v w) : NwR base 31 n (s.v0.map wV) v w := by
 rcases h with ⟨h1, h⟩ | ⟨h1, h⟩ | ⟨h1, h⟩ | ⟨h1, h2, h3, h⟩
 ·
  exact absurd h1 hd.1
 ·
  exact absurd h1 hd.2
 ·
  exact h
 ·
  exact absurd rfl h3
theorem PsN.at3 {base n ia ib ic id : Nat} {s : Cs} {v : Value} {w : World} (hd : id ≠ ia ∧ id ≠ ib ∧ id ≠ ic) (h : PsN base n s ia ib ic id v w) : NwR base 31 n (s.v1.map wV) v w := by
 rcases h with ⟨h1, h⟩ | ⟨h1, h⟩ | ⟨h1, h⟩ | ⟨h1, h2, h3, h⟩
 ·
  exact absurd h1 hd.1
 ·
  exact absurd h1 hd.2.1
 ·
  exact absurd h1 hd.2.2
 ·
  exact h
theorem NeV.g {g0 g1 n c0 c1 : Nat} {u v : Value} (h : NeV u v) (e0 : u = slG g0 n c0) (e1 : v = slG g1 n c1) : g0 ≠ g1 := by
 subst e0 e1;exact fun e => h g0 rfl (by rw [e]; rfl)
theorem Sto.new {w0 w : World} {t : TypeId} {pre : List Value} {n g0 g1 g2 g3 c0 c1 c2 c3 : Nat} {s : Cs} {xs : List Value} (hx : Ext w0 w) (hn : 1 ≤ n ∧ n ≤ 65536) (hl : s.b0.length = n ∧ s.b1.length = n ∧ s.v0.length = n ∧ s.v1.length = n) (ht : t ≠ 4 ∧ t ≠ 31)
  (l0 : w0.heap.size ≤ g0) (l1 : w0.heap.size ≤ g1) (l2 : w0.heap.size ≤ g2) (l3 : w0.heap.size ≤ g3) (n01 : g0 ≠ g1) (n23 : g2 ≠ g3)
  (h0 : Hd w g0 4 c0 (s.b0.map Value.bool)) (h1 : Hd w g1 4 c1 (s.b1.map Value.bool)) (h2 : Hd w g2 31 c2 (s.v0.map wV)) (h3 : Hd w g3 31 c3 (s.v1.map wV)) (he : xs = pre ++ [slG g0 n c0, slG g1 n c1, slG g2 n c2, slG g3 n c3]) :
  Sto t pre (w.alloc (.cells xs.toArray t)) w0.heap.size (w.alloc (.cells xs.toArray t)).heap.size w.heap.size n s := by
 subst he;have k : ∀ o, Kp (fun _ => False) w (w.alloc o) := fun o => Kp.of_below (aL _ _);have sz := hx.size;refine ⟨hl, hn, Nat.le_refl _, ht, ⟨sz, by simp⟩, g0, g1, g2, g3, c0, c1, c2, c3, Blk.new _ _ _, ⟨⟨l0, ?_⟩, ⟨l1, ?_⟩, ⟨l2, ?_⟩, ⟨l3, ?_⟩⟩, ⟨n01, n23⟩, h0.kp (k _) (fun h => h), h1.kp (k _) (fun h => h), h2.kp (k _) (fun h => h), h3.kp (k _) (fun h => h)⟩
 ·
  have := h0.lt; simp; omega
 ·
  have := h1.lt; simp; omega
 ·
  have := h2.lt; simp; omega
 ·
  have := h3.lt; simp; omega
theorem zmap_b (n : Nat) : (List.replicate n false).map Value.bool = List.replicate n (.bool false) := by simp
theorem zmap_v (n : Nat) : (List.replicate n (0 : UInt16)).map wV = List.replicate n (U 0) := by simp
theorem new_bad (c : Int) (w : World) (h : ¬ (1 ≤ c ∧ c ≤ 65536)) :
  Calls Tryz.prog 26 #[J c] w fun e w' => e = .returned (.pointer none) ∧ w = w' := by
 by_cases h1 : c < 1
 ·
  clear h;go_enter Tryz.func26, Tryz.ntmps26;go_wp2;go_ret;exact ⟨rfl, rfl⟩
 ·
  have h2 : 65536 < c := by omega
  clear h;go_enter Tryz.func26, Tryz.ntmps26;go_wp2;go_ret;exact ⟨rfl, rfl⟩
theorem new_any (n : Nat) (w : World) (hn : 1 ≤ n ∧ n ≤ 65536) :
  Calls Tryz.prog 26 #[J n] w fun e w' => ∃ g, e = .returned (ptrG g) ∧ SD w' w.heap.size w'.heap.size g n (Cs.zero n) ∧ Bo w w' := by
 have hz1 := Hh (zmap_b n);have hz2 := Hh (zmap_v n);have N1 := Hh hn;obtain ⟨h1, h2⟩ := hn;have h1' : ¬ (n : Int) < 1 := by omega
 have h2' : ¬ (65536 : Int) < (n : Int) := by omega
 have MB := Hh (fun u => mk_zer 29 4 (.bool false) 1 Tryz.underlying29 info_bool rfl (n : Int) n rfl (by omega) (by omega) u);have MV := Hh (fun u => mk_zer 30 31 (U 0) 2 Tryz.underlying30 info_w16 rfl (n : Int) n rfl (by omega) (by omega) u);have HB := Hh (fun u => Hd.new u n (.bool false) 4 h2);have HV := Hh (fun u => Hd.new u n (U 0) 31 h2);go_enter Tryz.func26, Tryz.ntmps26;go_upto_region 3 with fail
 refine c_begin 11 rfl (by kernel_rfl) ?_;have xx := Ext.refl w.drew;have B0 := (Below.refl w.heap.size w).drew;have es : w.drew.heap.size = w.heap.size := rfl;have ES := Hh es;have BH := Hh B0;clear B0 es;have hC0 : allC ([] : List Cond) w.drew := trivial;generalize w.drew = w0 at *;refine c_P trivial 0 rfl ?_;refine c_P trivial 2 rfl ?_;refine c_P trivial 4 rfl ?_;refine c_P trivial 6 rfl ?_;refine c_phase (n := 3) [1, 3, 5, 7] [(some 10, 1), (some 12, 3), (some 14, 5), (some 16, 7)] (PsN w0.heap.size n (Cs.zero n) 1 3 5) NeV NeV.symm (by kernel_rfl) (by kernel_rfl) ?mono ?hC ?hops ?hend
 case mono => exact PsN.ext
 case hC => exact fun w' hx => trivial
 case hops =>
  intro i hi vs w3 hx hd;simp only [List.mem_cons, List.not_mem_nil, or_false] at hi;rcases hi with rfl | rfl | rfl | rfl
  ·
   refine phase_op 1 [] (by kernel_rfl) rfl (fun K hK => ?_);simp only [putsD];have hm := MB.out w3;go_simp;exact hK.out _ _ (aL _ _) (.inl ⟨rfl, _, _, rfl, hx.size, by rw [Cs.zero, hz1.out]; exact HB.out w3⟩) (fun j _ _ u hu => hu.ne (Nat.le_refl _))
  ·
   refine phase_op 3 [] (by kernel_rfl) rfl (fun K hK => ?_);simp only [putsD];have hm := MB.out w3;go_simp;exact hK.out _ _ (aL _ _) (.inr (.inl ⟨rfl, _, _, rfl, hx.size, by rw [Cs.zero, hz1.out]; exact HB.out w3⟩)) (fun j _ _ u hu => hu.ne (Nat.le_refl _))
  ·
   refine phase_op 5 [] (by kernel_rfl) rfl (fun K hK => ?_);simp only [putsD];have hm := MV.out w3;go_simp;exact hK.out _ _ (aL _ _) (.inr (.inr (.inl ⟨rfl, _, _, rfl, hx.size, by rw [Cs.zero, hz2.out]; exact HV.out w3⟩))) (fun j _ _ u hu => hu.ne (Nat.le_refl _))
  ·
   refine phase_op 7 [] (by kernel_rfl) rfl (fun K hK => ?_);simp only [putsD];have hm := MV.out w3;go_simp;exact hK.out _ _ (aL _ _) (.inr (.inr (.inr ⟨by decide, by decide, by decide, _, _, rfl, hx.size, by rw [Cs.zero, hz2.out]; exact HV.out w3⟩))) (fun j _ _ u hu => hu.ne (Nat.le_refl _))
 case hend =>
  intro vs w3 BZ hP hR;obtain ⟨g0, c0, e0, l0, z0⟩ := PsN.at0 (by decide) (hP 1 (by simp));obtain ⟨g1, c1, e1, l1, z1⟩ := PsN.at1 (by decide) (hP 3 (by simp));obtain ⟨g2, c2, e2, l2, z2⟩ := PsN.at2 (by decide) (hP 5 (by simp));obtain ⟨g3, c3, e3, l3, z3⟩ := PsN.at3 (by decide) (hP 7 (by simp));have n01 := NeV.g (hR 1 (by simp) 3 (by simp) (by decide)) e0 e1;have n23 := NeV.g (hR 5 (by simp) 7 (by simp) (by decide)) e2 e3;simp only [putsD, e0, e1, e2, e3];try simp only [Pu]
  clear hP hR e0 e1 e2 e3;clear vs;refine c_P trivial 8 rfl ?_;refine c_M 9 (c_O 9 [] rfl (fun K hK => ?_));go_simp;refine hK.out _ _ trivial ?_;clear K hK;refine c_P trivial 10 rfl ?_;refine c_done (by kernel_rfl) ?_;have S := Hh (Sto.new (t := 107) (pre := []) BZ N1.out (by simp [Cs.zero]) (by decide) l0 l1 l2 l3 n01 n23 z0 z1 z2 z3 rfl);have B9 := Hh (bT BH.out ((Ext.trans BZ ((Below.refl _ _).alloc (Nat.le_refl _) (.cells #[slG g0 n c0, slG g1 n c1, slG g2 n c2, slG g3 n c3] 107)))));rw [ES.out] at S;clear z0 z1 z2 z3 n01 n23 l0 l1 l2 l3 BZ xx;go_wp2;go_ret;exact ⟨_, rfl, S.out, B9.out⟩
theorem booksameB (u v : Value) (p : List Bool) (w : World) (hu : Row w u (p.map Value.bool)) (hv : Row w v (p.map Value.bool)) :
  Calls Tryz.prog 62 #[u, v] w fun e w' => e = .returned (.bool true) ∧ ∃ nq, w' = w.drewN nq := by
 obtain ⟨a, cap, rfl, -⟩ := id hu;obtain ⟨a2, cap2, rfl, -⟩ := id hv;obtain ⟨hl, hc, hm, -⟩ := hu.at;obtain ⟨hl2, hc2, hm2, -⟩ := hv.at;simp only [List.length_map] at hl hc hl2 hc2 hu hv ⊢;unfold maxLen at hm hm2;go_enter Tryz.func62, Tryz.ntmps62;go_wp2;go_loopw [5] (fun i wr => ∃ k : Nat, k ≤ p.length ∧ i = J k ∧ ∃ nq, wr = w.drewN nq) (fun i _ => p.length - (intOf i).toNat)
 case atStart => exact ⟨0, Nat.zero_le _, rfl, 0, rfl⟩
 case round =>
  obtain ⟨k, hk, rfl, nr, rfl⟩ := hrel;by_cases hlt : k < p.length
  ·
   obtain ⟨-, -, -, hcell⟩ := hu.at;obtain ⟨b, off, rfl, hcl⟩ := hcell k false hlt;obtain ⟨-, -, -, hcell2⟩ := hv.at;obtain ⟨b2, off2, rfl, hcl2⟩ := hcell2 k false hlt;have c0 := hcl k hlt;have c1 := hcl2 k hlt;clear hcl hcell hcl2 hcell2;have hlt' : (k : Int) < (p.length : Int) := by omega
   generalize p.getD k false = x at *;go_wp2;go_quiet (fail)
   go_wp2;go_roundw
   case rel => exact ⟨k + 1, by omega, by go_num, _, rfl⟩
   case measure => simp [intOf]; omega
  ·
   go_wp2;go_ret;exact ⟨rfl, nr, rfl⟩
theorem booksameV (u v : Value) (p : List UInt16) (w : World) (hu : Row w u (p.map wV)) (hv : Row w v (p.map wV)) :
  Calls Tryz.prog 25 #[u, v] w fun e w' => e = .returned (.bool true) ∧ ∃ nq, w' = w.drewN nq := by
 obtain ⟨a, cap, rfl, -⟩ := id hu;obtain ⟨a2, cap2, rfl, -⟩ := id hv;obtain ⟨hl, hc, hm, -⟩ := hu.at;obtain ⟨hl2, hc2, hm2, -⟩ := hv.at;simp only [List.length_map] at hl hc hl2 hc2 hu hv ⊢;unfold maxLen at hm hm2;go_enter Tryz.func25, Tryz.ntmps25;go_wp2;go_loopw [5] (fun i wr => ∃ k : Nat, k ≤ p.length ∧ i = J k ∧ ∃ nq, wr = w.drewN nq) (fun i _ => p.length - (intOf i).toNat)
 case atStart => exact ⟨0, Nat.zero_le _, rfl, 0, rfl⟩
 case round =>
  obtain ⟨k, hk, rfl, nr, rfl⟩ := hrel;by_cases hlt : k < p.length
  ·
   obtain ⟨-, -, -, hcell⟩ := hu.at;obtain ⟨b, off, rfl, hcl⟩ := hcell k 0 hlt;obtain ⟨-, -, -, hcell2⟩ := hv.at;obtain ⟨b2, off2, rfl, hcl2⟩ := hcell2 k 0 hlt;have c0 := hcl k hlt;have c1 := hcl2 k hlt;clear hcl hcell hcl2 hcell2;have hlt' : (k : Int) < (p.length : Int) := by omega
   generalize p.getD k 0 = x at *;go_wp2;go_quiet (fail)
   go_wp2;go_roundw
   case rel => exact ⟨k + 1, by omega, by go_num, _, rfl⟩
   case measure => simp [intOf]; omega
  ·
   go_wp2;go_ret;exact ⟨rfl, nr, rfl⟩
structure Dv where
 s : Cs
 msgs : Int
 flts : Int
 unit : Int
def askR (q : Rq) : Int × Int × Int × Int :=
 if q.fn = 1 ∨ q.fn = 2 ∨ q.fn = 3 ∨ q.fn = 4 then (q.loc, q.cnt, 0, 0)
 else if q.fn = 5 ∨ q.fn = 6 then (0, 0, q.loc, 1)
 else if q.fn = 15 ∨ q.fn = 16 then (0, 0, q.loc, q.cnt)
 else if q.fn = 22 then (q.loc, 1, q.loc, 1)
 else if q.fn = 23 then (q.loc, q.cnt, q.wat, q.vals.length)
 else (0, 0, 0, 0)
def maskW (v a o : UInt16) : UInt16 := (v &&& a) ||| (o &&& ~~~a)
def refD (d : Dv) (f k : Int) : Rp × Dv := (refP (f % 128) k, { d with flts := d.flts + 1 })
def diagD (d : Dv) (q : Rq) : Rp × Dv :=
 if q.sub = 0 then (⟨q.fn, 0, 0, 0, q.sub, [], q.vals, 0, 0, []⟩, d)
 else if q.sub = 10 then (⟨q.fn, 0, 0, 0, q.sub, [], q.vals, 0, 0, []⟩, { d with msgs := 0, flts := 0 })
 else if q.sub = 11 ∨ q.sub = 13 ∨ q.sub = 14 then
  if q.vals.getD 0 0 ≠ 0 then refD d q.fn 3
  else (⟨q.fn, 0, 0, 0, q.sub, [], [wOf (if q.sub = 13 then d.flts else d.msgs)], 0, 0, []⟩, d)
 else refD d q.fn 3
def goD (n : Nat) (d : Dv) (q : Rq) : Rp × Dv :=
 if q.fn = 1 ∨ q.fn = 2 then (⟨q.fn, 0, 0, 0, 0, getB n d.s (q.fn - 1) q.loc q.cnt, [], 0, 0, []⟩, d)
 else if q.fn = 3 then (⟨q.fn, 0, 0, 0, 0, [], getV n d.s 3 q.loc q.cnt, 0, 0, []⟩, d)
 else if q.fn = 4 then (⟨q.fn, 0, 0, 0, 0, [], getV n d.s 2 q.loc q.cnt, 0, 0, []⟩, d)
 else if q.fn = 5 then (⟨q.fn, 0, q.loc, q.cnt, 0, q.bits, [], 0, 0, []⟩, { d with s := setB n d.s 0 q.loc q.bits })
 else if q.fn = 15 then (⟨q.fn, 0, q.loc, q.cnt, 0, [], [], 0, 0, []⟩, { d with s := setB n d.s 0 q.loc q.bits })
 else if q.fn = 6 then (⟨q.fn, 0, q.loc, q.cnt, 0, [], q.vals, 0, 0, []⟩, { d with s := setV n d.s 3 q.loc q.vals })
 else if q.fn = 16 then (⟨q.fn, 0, q.loc, q.cnt, 0, [], [], 0, 0, []⟩, { d with s := setV n d.s 3 q.loc q.vals })
 else if q.fn = 22 then (⟨q.fn, 0, q.loc, 0, 0, [], [], q.land, q.lor, []⟩, { d with s := setV n d.s 3 q.loc [maskW ((getV n d.s 3 q.loc 1).getD 0 0) q.land q.lor] })
 else if q.fn = 23 then (⟨q.fn, 0, 0, 0, 0, [], getV n (setV n d.s 3 q.wat q.vals) 3 q.loc q.cnt, 0, 0, []⟩, { d with s := setV n d.s 3 q.wat q.vals })
 else if q.fn = 8 then diagD d q
 else if q.fn = 17 then (⟨q.fn, 0, 0, 0, 0, [], [], 0, 0, [b8 d.unit, 255]⟩, d)
 else (⟨q.fn, 0, 0, 0, 0, [], [], 0, 0, []⟩, d)
def allThere (n : Nat) (q : Rq) : Bool := fits n (askR q).1 (askR q).2.1 && fits n (askR q).2.2.1 (askR q).2.2.2
def doD (n : Nat) (d0 : Dv) (q : Rq) : Rp × Dv :=
 let d : Dv := { d0 with msgs := d0.msgs + 1 }
 if knownB q.fn = false then refD d q.fn 1
 else if countsB q = false then refD d q.fn 3
 else if allThere n q = false then refD d q.fn 2
 else goD n d q
noncomputable def pduD (n : Nat) (d : Dv) (b : List UInt8) : List UInt8 × Dv :=
 if b = [] then ([], d)
 else if readE b ≠ 0 then
  let x := refD { d with msgs := d.msgs + 1 } (fnOf b) (if readE b = 15 then 1 else 3)
  (layR x.1, x.2)
 else (layR (doD n d (readQ b)).1, (doD n d (readQ b)).2)
abbrev tP : TypeId := 46
abbrev zsP : List Value := [J 0, J 0, J 0, J 0, J 0, nS, nS, U 0, U 0, nS]
theorem Blk.setne {w : World} {g g' i : Nat} {e : TypeId} {xs : List Value} {u : Value} (h : Blk w g e xs) (hne : g ≠ g') : Blk (w.setCell ⟨g', i, none⟩ u) g e xs :=
 h.kp (F := (· = g')) (Kp.set (F := (· = g')) (Kp.refl _ w) (p := ⟨g', i, none⟩) (fun _ => rfl) u) hne
theorem put10 {w : World} {b : Nat} {xs : List Value} (h : Blk w b tP xs) (hl : xs.length = 10) (v0 v1 v2 v3 v4 v5 v6 v7 v8 v9 : Value) : ∃ w3, (((((((((w.setCell ⟨b, 0, none⟩ v0).setCell ⟨b, 1, none⟩ v1).setCell ⟨b, 2, none⟩ v2).setCell ⟨b, 3, none⟩ v3).setCell ⟨b, 4, none⟩ v4).setCell ⟨b, 5, none⟩ v5).setCell ⟨b, 6, none⟩ v6).setCell ⟨b, 7, none⟩ v7).setCell ⟨b, 8, none⟩ v8).setCell ⟨b, 9, none⟩ v9 = w3 ∧ Blk w3 b tP [v0, v1, v2, v3, v4, v5, v6, v7, v8, v9] ∧
  (∀ g e ys, Blk w g e ys → g ≠ b → Blk w3 g e ys) ∧ (∀ F a, Kp F a w → (b < a.heap.size → F b) → Kp F a w3) := by
 refine ⟨_, rfl, ?_, fun g e ys hg hne => ?_, fun F a k hF => ?_⟩
 ·
  obtain ⟨x0, x1, x2, x3, x4, x5, x6, x7, x8, x9, rfl⟩ : ∃ x0 x1 x2 x3 x4 x5 x6 x7 x8 x9, xs = [x0, x1, x2, x3, x4, x5, x6, x7, x8, x9] := by
   match xs, hl with
   | [x0, x1, x2, x3, x4, x5, x6, x7, x8, x9], _ => exact ⟨x0, x1, x2, x3, x4, x5, x6, x7, x8, x9, rfl⟩
  exact (((((((((h.set 0 v0).set 1 v1).set 2 v2).set 3 v3).set 4 v4).set 5 v5).set 6 v6).set 7 v7).set 8 v8).set 9 v9
 ·
  exact (((((((((hg.setne hne).setne hne).setne hne).setne hne).setne hne).setne hne).setne hne).setne hne).setne hne).setne hne
 ·
  exact (((((((((k.set hF _).set hF _).set hF _).set hF _).set hF _).set hF _).set hF _).set hF _).set hF _).set hF _
theorem cells10 {w : World} {b : Nat} {x0 x1 x2 x3 x4 x5 x6 x7 x8 x9 : Value} (h : Blk w b tP [x0, x1, x2, x3, x4, x5, x6, x7, x8, x9]) : w.cell? ⟨b, 0, none⟩ = some x0 ∧ w.cell? ⟨b, 1, none⟩ = some x1 ∧ w.cell? ⟨b, 2, none⟩ = some x2 ∧ w.cell? ⟨b, 3, none⟩ = some x3 ∧ w.cell? ⟨b, 4, none⟩ = some x4 ∧ w.cell? ⟨b, 5, none⟩ = some x5 ∧ w.cell? ⟨b, 6, none⟩ = some x6 ∧ w.cell? ⟨b, 7, none⟩ = some x7 ∧ w.cell? ⟨b, 8, none⟩ = some x8 ∧ w.cell? ⟨b, 9, none⟩ = some x9 :=
 ⟨h.cell 0, h.cell 1, h.cell 2, h.cell 3, h.cell 4, h.cell 5, h.cell 6, h.cell 7, h.cell 8, h.cell 9⟩
theorem ofInt16 (x : UInt16) : BitVec.ofInt 16 (x.toNat : Int) = x.toBitVec := by
 apply BitVec.eq_of_toNat_eq
 have := x.toNat_lt;rw [BitVec.ofInt_natCast, BitVec.toNat_ofNat, Nat.mod_eq_of_lt (by omega)]
 rfl
theorem wrap16 (x : UInt16) : IntKind.u16.wrap ((x.toBitVec.toNat : Nat) : Int) = (x.toNat : Int) := by
 have := x.toNat_lt;rw [IntKind.wrap_u16];show ((x.toNat : Nat) : Int) % 65536 = _;omega
theorem and16 (x y : UInt16) : bits .and .u16 (x.toNat : Int) (y.toNat : Int) = ((x &&& y).toNat : Int) := by
 show IntKind.u16.wrap (((BitVec.ofInt 16 (x.toNat : Int) &&& BitVec.ofInt 16 (y.toNat : Int)).toNat : Nat) : Int) = _;rw [ofInt16, ofInt16];exact wrap16 (x &&& y)
theorem or16 (x y : UInt16) : bits .or .u16 (x.toNat : Int) (y.toNat : Int) = ((x ||| y).toNat : Int) := by
 show IntKind.u16.wrap (((BitVec.ofInt 16 (x.toNat : Int) ||| BitVec.ofInt 16 (y.toNat : Int)).toNat : Nat) : Int) = _;rw [ofInt16, ofInt16];exact wrap16 (x ||| y)
theorem andNot16 (x y : UInt16) : bits .andNot .u16 (x.toNat : Int) (y.toNat : Int) = ((x &&& ~~~y).toNat : Int) := by
 show IntKind.u16.wrap (((BitVec.ofInt 16 (x.toNat : Int) &&& ~~~ BitVec.ofInt 16 (y.toNat : Int)).toNat : Nat) : Int) = _;rw [ofInt16, ofInt16];exact wrap16 (x &&& ~~~y)
def RowF (F : Nat → Prop) (w : World) (v : Value) (xs : List Value) : Prop := Row w v xs ∧ (xs ≠ [] → Off F v)
theorem RowF.kp {F F' : Nat → Prop} {w w' : World} {v : Value} {xs : List Value} (h : RowF F w v xs) (k : Kp F' w w') (hf : ∀ i, i < w.heap.size → F' i → F i) : RowF F w' v xs := by
 refine ⟨?_, h.2⟩;by_cases h0 : xs = []
 ·
  subst h0;obtain ⟨a, cap, e, h1, h2, h3, -⟩ := h.1;exact ⟨a, cap, e, h1, h2, h3, .inl rfl⟩
 ·
  obtain ⟨a, cap, rfl, h1, h2, h3, h4⟩ := h.1;refine ⟨a, cap, rfl, h1, h2, h3, ?_⟩;rcases h4 with h4 | ⟨b, off, rfl, hc⟩
  ·
   exact .inl h4
  ·
   refine .inr ⟨b, off, rfl, fun i hi => ?_⟩;have e := hc i hi;have hlt : b < w.heap.size := by
    rw [List.getElem?_eq_getElem hi] at e;exact lt_of_cell e
   rw [← e];exact World.cell?_of_block (a := ⟨b, off + i, none⟩) (k.block b hlt (fun x => h.2 h0 b rfl (hf b hlt x)))
theorem RowF.ext {F : Nat → Prop} {w w' : World} {v : Value} {xs : List Value} (h : RowF F w v xs) (k : Bo w w') : RowF F w' v xs := ⟨h.1.below k, h.2⟩
theorem RowF.sub {F F' : Nat → Prop} {w : World} {v : Value} {xs : List Value} (h : RowF F w v xs) (hf : ∀ i, F' i → F i) : RowF F' w v xs := ⟨h.1, fun h0 k hk x => h.2 h0 k hk (hf k x)⟩
def Gd (g lo hi k : Nat) : Prop := k = g ∨ In lo hi k
def IsRqF (F : Nat → Prop) (w : World) (v : Value) (q : Rq) : Prop := ∃ vb vv, v = rqV q.fn q.loc q.cnt q.wat q.sub vb vv q.land q.lor ∧ RowF F w vb (q.bits.map Value.bool) ∧ RowF F w vv (q.vals.map wV)
theorem IsRqF.slices {F : Nat → Prop} {w : World} {v : Value} {q : Rq} (h : IsRqF F w v q) : ∃ ab capb av capv, v = rqV q.fn q.loc q.cnt q.wat q.sub (.slice ab q.bits.length capb) (.slice av q.vals.length capv) q.land q.lor ∧ q.bits.length ≤ 9223372036854775807 ∧ q.vals.length ≤ 9223372036854775807 ∧
  RowF F w (.slice ab q.bits.length capb) (q.bits.map Value.bool) ∧ RowF F w (.slice av q.vals.length capv) (q.vals.map wV) := by
 obtain ⟨vb, vv, rfl, hb, hv⟩ := h;obtain ⟨ab, capb, rfl, h1, h2, -⟩ := id hb.1;obtain ⟨av, capv, rfl, h3, h4, -⟩ := id hv.1;simp only [List.length_map] at h1 h3 hb hv ⊢;unfold maxLen at h2 h4;exact ⟨ab, capb, av, capv, rfl, by omega, by omega, hb, hv⟩
def NRp (B : Nat) (w : World) (v : Value) (r : Rp) : Prop := ∃ vb vv vd, v = rpV r.fn r.code r.loc r.cnt r.sub vb vv r.land r.lor vd ∧ (Row w vb (r.bits.map Value.bool) ∧ Row w vv (r.vals.map wV) ∧ Row w vd (r.data.map bV)) ∧ NwV B vb ∧ NwV B vv ∧ NwV B vd
theorem NRp.ref (B : Nat) (w : World) (f k : Int) : NRp B w (rpV f k 0 0 0 nS nS 0 0 nS) (refP f k) := ⟨_, _, _, rfl, ⟨Row.nil w, Row.nil w, Row.nil w⟩, NwV.nil _ _ _, NwV.nil _ _ _, NwV.nil _ _ _⟩
theorem Kp.sub {F F' : Nat → Prop} {a b : World} (h : Kp F a b) (hf : ∀ i, F i → F' i) : Kp F' a b := h.mono hf
theorem gd_g {g lo hi : Nat} : ∀ i, i = g → Gd g lo hi i := fun _ h => .inl h
abbrev tQ : TypeId := 33
theorem cells9 {w : World} {b : Nat} {x0 x1 x2 x3 x4 x5 x6 x7 x8 : Value} (h : Blk w b tQ [x0, x1, x2, x3, x4, x5, x6, x7, x8]) : w.cell? ⟨b, 0, none⟩ = some x0 ∧ w.cell? ⟨b, 1, none⟩ = some x1 ∧ w.cell? ⟨b, 2, none⟩ = some x2 ∧ w.cell? ⟨b, 3, none⟩ = some x3 ∧ w.cell? ⟨b, 4, none⟩ = some x4 ∧ w.cell? ⟨b, 5, none⟩ = some x5 ∧ w.cell? ⟨b, 6, none⟩ = some x6 ∧ w.cell? ⟨b, 7, none⟩ = some x7 ∧ w.cell? ⟨b, 8, none⟩ = some x8 :=
 ⟨h.cell 0, h.cell 1, h.cell 2, h.cell 3, h.cell 4, h.cell 5, h.cell 6, h.cell 7, h.cell 8⟩
theorem getV_one {n : Nat} {s : Cs} {a : Int} (ha : 0 ≤ a) (hl : s.b0.length = n ∧ s.b1.length = n ∧ s.v0.length = n ∧ s.v1.length = n) (hf : fits n a 1 = true) : (getV n s 3 a 1).length = 1 := by
 have e : okV n 3 a 1 = true := by rw [okV, hf]; decide
 obtain ⟨-, -, h3⟩ := fits_iff.1 hf;rw [getV, if_pos e];simp only [rowV, sub];rw [if_neg (by decide), List.length_take, List.length_drop, hl.2.2.2];have : (1 : Int).toNat = 1 := rfl;omega
theorem diag_s (d : Dv) (q : Rq) : (diagD d q).2.s = d.s := by
 unfold diagD refD; (repeat' split) <;> rfl
theorem diag_unit (d : Dv) (q : Rq) : (diagD d q).2.unit = d.unit := by
 unfold diagD refD; (repeat' split) <;> rfl
theorem counts_parts {q : Rq} (h : countsB q = true) : knownB q.fn = true ∧ ((0 ≤ q.loc ∧ q.loc ≤ 65535) ∧ (0 ≤ q.cnt ∧ q.cnt ≤ 65535) ∧ (0 ≤ q.wat ∧ q.wat ≤ 65535)) ∧ q.bits.length ≤ 2040 ∧ q.vals.length ≤ 127 ∧ (q.fn = 8 → q.vals.length = 1) := by
 have hr : rightE q = 0 := by simp [countsB] at h; exact h.1
 obtain ⟨hk, hf, hn, hl⟩ := right_parts hr;refine ⟨hk, ?_, ?_, ?_, ?_⟩
 ·
  simp [numB] at hn; omega
 ·
  obtain ⟨-, -, -, -, h5, -, -⟩ := hf;rcases h5 with (h5 | h5) | h5
  ·
   simp [listB, h5] at hl; omega
  ·
   simp [listB, h5] at hl; omega
  ·
   simp [h5]
 ·
  obtain ⟨-, -, -, -, -, h6, -⟩ := hf;rcases h6 with (h6 | h6 | h6 | h6) | h6
  ·
   simp [listB, h6] at hl; omega
  ·
   simp [listB, h6] at hl; omega
  ·
   simp [listB, h6] at hl; omega
  ·
   simp [listB, h6] at hl; omega
  ·
   simp [h6]
 ·
  intro h8;simp [listB, h8] at hl;exact hl
theorem ask_i64 {q : Rq} (h : countsB q = true) : i64 (askR q).1 ∧ i64 (askR q).2.2.1 := by
 obtain ⟨-, ⟨h1, h2, h3⟩, -⟩ := counts_parts h;unfold askR i64
 repeat' split
 all_goals simp only <;> omega
theorem NRp.is {B : Nat} {w : World} {v : Value} {r : Rp} (h : NRp B w v r) : IsRp w v r := by
 obtain ⟨vb, vv, vd, e, ⟨h1, h2, h3⟩, -⟩ := h;exact ⟨vb, vv, vd, e, h1, h2, h3⟩
theorem newv_off {B g lo hi : Nat} {a : Option Addr} {n c : Nat} (h : NewV B (.slice a n c)) (hg : g < B) (hh : hi ≤ B) : Off (Gd g lo hi) (.slice a n c) := fun k hk x => by
 cases a with
 | none => cases hk
 | some ad =>
  simp only [Value.ownBlock, Option.some.injEq] at hk;have := h ad n c rfl;rcases x with x | x
  ·
   omega
  ·
   have := x.2; omega
end Go.Proofs.YtdihcdphgiaepaaGreat
