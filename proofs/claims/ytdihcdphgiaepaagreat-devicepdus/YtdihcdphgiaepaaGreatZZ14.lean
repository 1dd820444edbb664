/- The tape once more, its numbers' row kept out of what a device may write. -/
import Derived.Test.YtdihcdphgiaepaaGreatZZ8
import Derived.Test.YtdihcdphgiaepaaGreatZZ9
import Derived.Test.YtdihcdphgiaepaaGreatZZ13
import Derived.Test.YtdihcdphgiaepaaGreatZZ2
namespace Go.Proofs.YtdihcdphgiaepaaGreat
open Go.RowKit
structure Dv where
 s : Cs
 msgs : Int
 flts : Int
 unit : Int
def askR (q : Rq) : Int × Int × Int × Int :=
 if q.fn = 1 ∨ q.fn = 2 ∨ q.fn = 3 ∨ q.fn = 4 then (q.loc, q.cnt, 0, 0)
 else if q.fn = 5 ∨ q.fn = 6 then (0, 0, q.loc, 1)
 else if q.fn = 15 ∨ q.fn = 16 then (0, 0, q.loc, q.cnt)
 else if q.fn = 22 then (q.loc, 1, q.loc, 1)
 else if q.fn = 23 then (q.loc, q.cnt, q.wat, q.vals.length)
 else (0, 0, 0, 0)
def maskW (v a o : UInt16) : UInt16 := (v &&& a) ||| (o &&& ~~~a)
def refD (d : Dv) (f k : Int) : Rp × Dv := (refP (f % 128) k, { d with flts := d.flts + 1 })
def diagD (d : Dv) (q : Rq) : Rp × Dv :=
 if q.sub = 0 then (⟨q.fn, 0, 0, 0, q.sub, [], q.vals, 0, 0, []⟩, d)
 else if q.sub = 10 then (⟨q.fn, 0, 0, 0, q.sub, [], q.vals, 0, 0, []⟩, { d with msgs := 0, flts := 0 })
 else if q.sub = 11 ∨ q.sub = 13 ∨ q.sub = 14 then
  if q.vals.getD 0 0 ≠ 0 then refD d q.fn 3
  else (⟨q.fn, 0, 0, 0, q.sub, [], [wOf (if q.sub = 13 then d.flts else d.msgs)], 0, 0, []⟩, d)
 else refD d q.fn 3
def goD (n : Nat) (d : Dv) (q : Rq) : Rp × Dv :=
 if q.fn = 1 ∨ q.fn = 2 then (⟨q.fn, 0, 0, 0, 0, getB n d.s (q.fn - 1) q.loc q.cnt, [], 0, 0, []⟩, d)
 else if q.fn = 3 then (⟨q.fn, 0, 0, 0, 0, [], getV n d.s 3 q.loc q.cnt, 0, 0, []⟩, d)
 else if q.fn = 4 then (⟨q.fn, 0, 0, 0, 0, [], getV n d.s 2 q.loc q.cnt, 0, 0, []⟩, d)
 else if q.fn = 5 then (⟨q.fn, 0, q.loc, q.cnt, 0, q.bits, [], 0, 0, []⟩, { d with s := setB n d.s 0 q.loc q.bits })
 else if q.fn = 15 then (⟨q.fn, 0, q.loc, q.cnt, 0, [], [], 0, 0, []⟩, { d with s := setB n d.s 0 q.loc q.bits })
 else if q.fn = 6 then (⟨q.fn, 0, q.loc, q.cnt, 0, [], q.vals, 0, 0, []⟩, { d with s := setV n d.s 3 q.loc q.vals })
 else if q.fn = 16 then (⟨q.fn, 0, q.loc, q.cnt, 0, [], [], 0, 0, []⟩, { d with s := setV n d.s 3 q.loc q.vals })
 else if q.fn = 22 then (⟨q.fn, 0, q.loc, 0, 0, [], [], q.land, q.lor, []⟩, { d with s := setV n d.s 3 q.loc [maskW ((getV n d.s 3 q.loc 1).getD 0 0) q.land q.lor] })
 else if q.fn = 23 then (⟨q.fn, 0, 0, 0, 0, [], getV n (setV n d.s 3 q.wat q.vals) 3 q.loc q.cnt, 0, 0, []⟩, { d with s := setV n d.s 3 q.wat q.vals })
 else if q.fn = 8 then diagD d q
 else if q.fn = 17 then (⟨q.fn, 0, 0, 0, 0, [], [], 0, 0, [b8 d.unit, 255]⟩, d)
 else (⟨q.fn, 0, 0, 0, 0, [], [], 0, 0, []⟩, d)
def allThere (n : Nat) (q : Rq) : Bool := fits n (askR q).1 (askR q).2.1 && fits n (askR q).2.2.1 (askR q).2.2.2
def doD (n : Nat) (d0 : Dv) (q : Rq) : Rp × Dv :=
 let d : Dv := { d0 with msgs := d0.msgs + 1 }
 if knownB q.fn = false then refD d q.fn 1
 else if countsB q = false then refD d q.fn 3
 else if allThere n q = false then refD d q.fn 2
 else goD n d q
noncomputable def pduD (n : Nat) (d : Dv) (b : List UInt8) : List UInt8 × Dv :=
 if b = [] then ([], d)
 else if readE b ≠ 0 then
  let x := refD { d with msgs := d.msgs + 1 } (fnOf b) (if readE b = 15 then 1 else 3)
  (layR x.1, x.2)
 else (layR (doD n d (readQ b)).1, (doD n d (readQ b)).2)
abbrev tP : TypeId := 46
abbrev zsP : List Value := [.int .i64 0, .int .i64 0, .int .i64 0, .int .i64 0, .int .i64 0, .slice none 0 0, .slice none 0 0, .int .u16 0, .int .u16 0, .slice none 0 0]
theorem Blk.setne {w : World} {g g' i : Nat} {e : TypeId} {xs : List Value} {u : Value} (h : Blk w g e xs) (hne : g ≠ g') : Blk (w.setCell ⟨g', i, none⟩ u) g e xs :=
 h.kp (F := (· = g')) (Kp.set (F := (· = g')) (Kp.refl _ w) (p := ⟨g', i, none⟩) (fun _ => rfl) u) hne
theorem put10 {w : World} {b : Nat} {xs : List Value} (h : Blk w b tP xs) (hl : xs.length = 10) (v0 v1 v2 v3 v4 v5 v6 v7 v8 v9 : Value) : ∃ w3, (((((((((w.setCell ⟨b, 0, none⟩ v0).setCell ⟨b, 1, none⟩ v1).setCell ⟨b, 2, none⟩ v2).setCell ⟨b, 3, none⟩ v3).setCell ⟨b, 4, none⟩ v4).setCell ⟨b, 5, none⟩ v5).setCell ⟨b, 6, none⟩ v6).setCell ⟨b, 7, none⟩ v7).setCell ⟨b, 8, none⟩ v8).setCell ⟨b, 9, none⟩ v9 = w3 ∧ Blk w3 b tP [v0, v1, v2, v3, v4, v5, v6, v7, v8, v9] ∧
  (∀ g e ys, Blk w g e ys → g ≠ b → Blk w3 g e ys) ∧ (∀ F a, Kp F a w → (b < a.heap.size → F b) → Kp F a w3) := by
 refine ⟨_, rfl, ?_, fun g e ys hg hne => ?_, fun F a k hF => ?_⟩
 ·
  obtain ⟨x0, x1, x2, x3, x4, x5, x6, x7, x8, x9, rfl⟩ : ∃ x0 x1 x2 x3 x4 x5 x6 x7 x8 x9, xs = [x0, x1, x2, x3, x4, x5, x6, x7, x8, x9] := by
   match xs, hl with
   | [x0, x1, x2, x3, x4, x5, x6, x7, x8, x9], _ => exact ⟨x0, x1, x2, x3, x4, x5, x6, x7, x8, x9, rfl⟩
  exact (((((((((h.set 0 v0).set 1 v1).set 2 v2).set 3 v3).set 4 v4).set 5 v5).set 6 v6).set 7 v7).set 8 v8).set 9 v9
 ·
  exact (((((((((hg.setne hne).setne hne).setne hne).setne hne).setne hne).setne hne).setne hne).setne hne).setne hne).setne hne
 ·
  exact (((((((((k.set hF _).set hF _).set hF _).set hF _).set hF _).set hF _).set hF _).set hF _).set hF _).set hF _
theorem cells10 {w : World} {b : Nat} {x0 x1 x2 x3 x4 x5 x6 x7 x8 x9 : Value} (h : Blk w b tP [x0, x1, x2, x3, x4, x5, x6, x7, x8, x9]) : w.cell? ⟨b, 0, none⟩ = some x0 ∧ w.cell? ⟨b, 1, none⟩ = some x1 ∧ w.cell? ⟨b, 2, none⟩ = some x2 ∧ w.cell? ⟨b, 3, none⟩ = some x3 ∧ w.cell? ⟨b, 4, none⟩ = some x4 ∧ w.cell? ⟨b, 5, none⟩ = some x5 ∧ w.cell? ⟨b, 6, none⟩ = some x6 ∧ w.cell? ⟨b, 7, none⟩ = some x7 ∧ w.cell? ⟨b, 8, none⟩ = some x8 ∧ w.cell? ⟨b, 9, none⟩ = some x9 :=
 ⟨h.cell 0, h.cell 1, h.cell 2, h.cell 3, h.cell 4, h.cell 5, h.cell 6, h.cell 7, h.cell 8, h.cell 9⟩
theorem ofInt16 (x : UInt16) : BitVec.ofInt 16 (x.toNat : Int) = x.toBitVec := by
 apply BitVec.eq_of_toNat_eq
 have := x.toNat_lt;rw [BitVec.ofInt_natCast, BitVec.toNat_ofNat, Nat.mod_eq_of_lt (by omega)]
 rfl
theorem wrap16 (x : UInt16) : IntKind.u16.wrap ((x.toBitVec.toNat : Nat) : Int) = (x.toNat : Int) := by
 have := x.toNat_lt;rw [IntKind.wrap_u16];show ((x.toNat : Nat) : Int) % 65536 = _;omega
theorem and16 (x y : UInt16) : bits .and .u16 (x.toNat : Int) (y.toNat : Int) = ((x &&& y).toNat : Int) := by
 show IntKind.u16.wrap (((BitVec.ofInt 16 (x.toNat : Int) &&& BitVec.ofInt 16 (y.toNat : Int)).toNat : Nat) : Int) = _;rw [ofInt16, ofInt16];exact wrap16 (x &&& y)
theorem or16 (x y : UInt16) : bits .or .u16 (x.toNat : Int) (y.toNat : Int) = ((x ||| y).toNat : Int) := by
 show IntKind.u16.wrap (((BitVec.ofInt 16 (x.toNat : Int) ||| BitVec.ofInt 16 (y.toNat : Int)).toNat : Nat) : Int) = _;rw [ofInt16, ofInt16];exact wrap16 (x ||| y)
theorem andNot16 (x y : UInt16) : bits .andNot .u16 (x.toNat : Int) (y.toNat : Int) = ((x &&& ~~~y).toNat : Int) := by
 show IntKind.u16.wrap (((BitVec.ofInt 16 (x.toNat : Int) &&& ~~~ BitVec.ofInt 16 (y.toNat : Int)).toNat : Nat) : Int) = _;rw [ofInt16, ofInt16];exact wrap16 (x &&& ~~~y)
def RowF (F : Nat → Prop) (w : World) (v : Value) (xs : List Value) : Prop := Row w v xs ∧ (xs ≠ [] → Off F v)
theorem RowF.kp {F F' : Nat → Prop} {w w' : World} {v : Value} {xs : List Value} (h : RowF F w v xs) (k : Kp F' w w') (hf : ∀ i, i < w.heap.size → F' i → F i) : RowF F w' v xs := by
 refine ⟨?_, h.2⟩;by_cases h0 : xs = []
 ·
  subst h0;obtain ⟨a, cap, e, h1, h2, h3, -⟩ := h.1;exact ⟨a, cap, e, h1, h2, h3, .inl rfl⟩
 ·
  obtain ⟨a, cap, rfl, h1, h2, h3, h4⟩ := h.1;refine ⟨a, cap, rfl, h1, h2, h3, ?_⟩;rcases h4 with h4 | ⟨b, off, rfl, hc⟩
  ·
   exact .inl h4
  ·
   refine .inr ⟨b, off, rfl, fun i hi => ?_⟩;have e := hc i hi;have hlt : b < w.heap.size := by
    rw [List.getElem?_eq_getElem hi] at e;exact lt_of_cell e
   rw [← e];exact World.cell?_of_block (a := ⟨b, off + i, none⟩) (k.block b hlt (fun x => h.2 h0 b rfl (hf b hlt x)))
theorem RowF.ext {F : Nat → Prop} {w w' : World} {v : Value} {xs : List Value} (h : RowF F w v xs) (k : Below w.heap.size w w') : RowF F w' v xs := ⟨h.1.below k, h.2⟩
theorem RowF.sub {F F' : Nat → Prop} {w : World} {v : Value} {xs : List Value} (h : RowF F w v xs) (hf : ∀ i, F' i → F i) : RowF F' w v xs := ⟨h.1, fun h0 k hk x => h.2 h0 k hk (hf k x)⟩
def Gd (g lo hi k : Nat) : Prop := k = g ∨ In lo hi k
def IsRqF (F : Nat → Prop) (w : World) (v : Value) (q : Rq) : Prop := ∃ vb vv, v = rqV q.fn q.loc q.cnt q.wat q.sub vb vv q.land q.lor ∧ RowF F w vb (q.bits.map Value.bool) ∧ RowF F w vv (q.vals.map wV)
theorem IsRqF.slices {F : Nat → Prop} {w : World} {v : Value} {q : Rq} (h : IsRqF F w v q) : ∃ ab capb av capv, v = rqV q.fn q.loc q.cnt q.wat q.sub (.slice ab q.bits.length capb) (.slice av q.vals.length capv) q.land q.lor ∧ q.bits.length ≤ 9223372036854775807 ∧ q.vals.length ≤ 9223372036854775807 ∧
  RowF F w (.slice ab q.bits.length capb) (q.bits.map Value.bool) ∧ RowF F w (.slice av q.vals.length capv) (q.vals.map wV) := by
 obtain ⟨vb, vv, rfl, hb, hv⟩ := h;obtain ⟨ab, capb, rfl, h1, h2, -⟩ := id hb.1;obtain ⟨av, capv, rfl, h3, h4, -⟩ := id hv.1;simp only [List.length_map] at h1 h3 hb hv ⊢;unfold maxLen at h2 h4;exact ⟨ab, capb, av, capv, rfl, by omega, by omega, hb, hv⟩
def NRp (B : Nat) (w : World) (v : Value) (r : Rp) : Prop := ∃ vb vv vd, v = rpV r.fn r.code r.loc r.cnt r.sub vb vv r.land r.lor vd ∧ (Row w vb (r.bits.map Value.bool) ∧ Row w vv (r.vals.map wV) ∧ Row w vd (r.data.map bV)) ∧ NwV B vb ∧ NwV B vv ∧ NwV B vd
theorem NRp.ref (B : Nat) (w : World) (f k : Int) : NRp B w (rpV f k 0 0 0 (.slice none 0 0) (.slice none 0 0) 0 0 (.slice none 0 0)) (refP f k) := ⟨_, _, _, rfl, ⟨Row.nil w, Row.nil w, Row.nil w⟩, NwV.nil _ _ _, NwV.nil _ _ _, NwV.nil _ _ _⟩
theorem Kp.sub {F F' : Nat → Prop} {a b : World} (h : Kp F a b) (hf : ∀ i, F i → F' i) : Kp F' a b := h.mono hf
abbrev tQ : TypeId := 33
theorem cells9 {w : World} {b : Nat} {x0 x1 x2 x3 x4 x5 x6 x7 x8 : Value} (h : Blk w b tQ [x0, x1, x2, x3, x4, x5, x6, x7, x8]) : w.cell? ⟨b, 0, none⟩ = some x0 ∧ w.cell? ⟨b, 1, none⟩ = some x1 ∧ w.cell? ⟨b, 2, none⟩ = some x2 ∧ w.cell? ⟨b, 3, none⟩ = some x3 ∧ w.cell? ⟨b, 4, none⟩ = some x4 ∧ w.cell? ⟨b, 5, none⟩ = some x5 ∧ w.cell? ⟨b, 6, none⟩ = some x6 ∧ w.cell? ⟨b, 7, none⟩ = some x7 ∧ w.cell? ⟨b, 8, none⟩ = some x8 :=
 ⟨h.cell 0, h.cell 1, h.cell 2, h.cell 3, h.cell 4, h.cell 5, h.cell 6, h.cell 7, h.cell 8⟩
theorem getV_one {n : Nat} {s : Cs} {a : Int} (ha : 0 ≤ a) (hl : s.b0.length = n ∧ s.b1.length = n ∧ s.v0.length = n ∧ s.v1.length = n) (hf : fits n a 1 = true) : (getV n s 3 a 1).length = 1 := by
 have e : okV n 3 a 1 = true := by rw [okV, hf]; decide
 obtain ⟨-, -, h3⟩ := fits_iff.1 hf;rw [getV, if_pos e];simp only [rowV, sub];rw [if_neg (by decide), List.length_take, List.length_drop, hl.2.2.2];have : (1 : Int).toNat = 1 := rfl;omega
theorem counts_parts {q : Rq} (h : countsB q = true) : knownB q.fn = true ∧ ((0 ≤ q.loc ∧ q.loc ≤ 65535) ∧ (0 ≤ q.cnt ∧ q.cnt ≤ 65535) ∧ (0 ≤ q.wat ∧ q.wat ≤ 65535)) ∧ q.bits.length ≤ 2040 ∧ q.vals.length ≤ 127 ∧ (q.fn = 8 → q.vals.length = 1) := by
 have hr : rightE q = 0 := by simp [countsB] at h; exact h.1
 obtain ⟨hk, hf, hn, hl⟩ := right_parts hr;refine ⟨hk, ?_, ?_, ?_, ?_⟩
 ·
  simp [numB] at hn; omega
 ·
  obtain ⟨-, -, -, -, h5, -, -⟩ := hf;rcases h5 with (h5 | h5) | h5
  ·
   simp [listB, h5] at hl; omega
  ·
   simp [listB, h5] at hl; omega
  ·
   simp [h5]
 ·
  obtain ⟨-, -, -, -, -, h6, -⟩ := hf;rcases h6 with (h6 | h6 | h6 | h6) | h6
  ·
   simp [listB, h6] at hl; omega
  ·
   simp [listB, h6] at hl; omega
  ·
   simp [listB, h6] at hl; omega
  ·
   simp [listB, h6] at hl; omega
  ·
   simp [h6]
 ·
  intro h8;simp [listB, h8] at hl;exact hl
theorem NRp.is {B : Nat} {w : World} {v : Value} {r : Rp} (h : NRp B w v r) : IsRp w v r := by
 obtain ⟨vb, vv, vd, e, ⟨h1, h2, h3⟩, -⟩ := h;exact ⟨vb, vv, vd, e, h1, h2, h3⟩
theorem newv_off {B g lo hi : Nat} {a : Option Addr} {n c : Nat} (h : NewV B (.slice a n c)) (hg : g < B) (hh : hi ≤ B) : Off (Gd g lo hi) (.slice a n c) := fun k hk x => by
 cases a with
 | none => cases hk
 | some ad =>
  simp only [Value.ownBlock, Option.some.injEq] at hk;have := h ad n c rfl;rcases x with x | x
  ·
   omega
  ·
   have := x.2; omega
def Sz (n : Nat) (s : Cs) : Prop := s.b0.length = n ∧ s.b1.length = n ∧ s.v0.length = n ∧ s.v1.length = n
theorem sub_len {α : Type} {l : List α} {a m : Int} {n : Nat} (h : l.length = n) (h0 : 0 ≤ a ∧ 0 ≤ m ∧ a + m ≤ n) : ((sub l a m).length : Int) = m := by
 unfold sub;simp;omega
theorem Sz.rb {n : Nat} {s : Cs} (h : Sz n s) (sp : Int) : (rowB s sp).length = n := by
 unfold rowB; split <;> simp [h.1, h.2.1]
theorem Sz.rv {n : Nat} {s : Cs} (h : Sz n s) (sp : Int) : (rowV s sp).length = n := by
 unfold rowV; split <;> simp [h.2.2.1, h.2.2.2]
theorem Sz.setB {n : Nat} {s : Cs} (h : Sz n s) (sp a : Int) (l : List Bool) : Sz n (setB n s sp a l) := by
 unfold Go.Proofs.YtdihcdphgiaepaaGreat.setB
 split
 ·
  rename_i ho
  simp only [okB, Bool.and_eq_true] at ho;have hf := fits_iff.1 ho.2;have e : (splice (rowB s sp) a.toNat l).length = n := by rw [splice_len _ _ _ (by rw [h.rb]; omega), h.rb]
  unfold putRB;obtain ⟨h1, h2, h3, h4⟩ := h
  split
  ·
   exact ⟨e, h2, h3, h4⟩
  ·
   exact ⟨h1, e, h3, h4⟩
 ·
  exact h
theorem Sz.setV {n : Nat} {s : Cs} (h : Sz n s) (sp a : Int) (l : List UInt16) : Sz n (setV n s sp a l) := by
 unfold Go.Proofs.YtdihcdphgiaepaaGreat.setV
 split
 ·
  rename_i ho
  simp only [okV, Bool.and_eq_true] at ho;have hf := fits_iff.1 ho.2;have e : (splice (rowV s sp) a.toNat l).length = n := by rw [splice_len _ _ _ (by rw [h.rv]; omega), h.rv]
  unfold putRV;obtain ⟨h1, h2, h3, h4⟩ := h
  split
  ·
   exact ⟨h1, h2, e, h4⟩
  ·
   exact ⟨h1, h2, h3, e⟩
 ·
  exact h
theorem getB_l {n : Nat} {s : Cs} (h : Sz n s) {sp a m : Int} (hs : isB sp = true) (hf : fits n a m = true) : ((getB n s sp a m).length : Int) = m := by
 unfold getB;rw [if_pos (by unfold okB; rw [hs, hf]; rfl)];exact sub_len (h.rb sp) (fits_iff.1 hf)
theorem getV_l {n : Nat} {s : Cs} (h : Sz n s) {sp a m : Int} (hs : isV sp = true) (hf : fits n a m = true) : ((getV n s sp a m).length : Int) = m := by
 unfold getV;rw [if_pos (by unfold okV; rw [hs, hf]; rfl)];exact sub_len (h.rv sp) (fits_iff.1 hf)
theorem ref_good {f k : Int} (hf : 0 ≤ f ∧ f ≤ 127) (hk : 1 ≤ k ∧ k ≤ 255) : goodE (refP (f % 128) k) = 0 ∧ (refP (f % 128) k).fn = f := by
 have e : f % 128 = f := by omega
 rw [e];refine ⟨goodE_c0 (by show k ≠ 0; omega) ?_, rfl⟩;rw [codeB_iff _ (by show k ≠ 0; omega)];exact ⟨hk.1, hk.2, hf.1, hf.2, rfl⟩
structure Fit (n : Nat) (f c : Int) (x : Rp × Dv) : Prop where
 good : goodE x.1 = 0
 fn : x.1.fn = f
 ask : askB x.1 c = true
 sz : Sz n x.2.s
theorem ref_fit {n : Nat} {d : Dv} {f k c : Int} (hs : Sz n d.s) (hf : 0 ≤ f ∧ f ≤ 127) (hk : 1 ≤ k ∧ k ≤ 255) : Fit n f c (refD d f k) := by
 obtain ⟨h1, h2⟩ := ref_good hf hk;refine ⟨h1, h2, ?_, hs⟩;unfold askB;rw [if_pos (by show k ≠ 0; omega)]
theorem rp_fit {n : Nat} {r : Rp} {d : Dv} {f c : Int} (hs : Sz n d.s) (hc : r.code = 0) (hf : r.fn = f) (hk : knownB r.fn = true) (h1 : formA r) (h2 : (numB r.loc && numB r.sub && numB r.cnt) = true) (h3 : listA r = true) (ha : askB r c = true) : Fit n f c (r, d) :=
 ⟨goodE_0 hc hk h1 h2 h3, hf, ha, hs⟩
set_option maxHeartbeats 2000000 in
theorem go_fit {n : Nat} {d : Dv} {q : Rq} (hs : Sz n d.s) (hr : rightE q = 0) (hc : countsB q = true) (ht : allThere n q = true) : Fit n q.fn q.cnt (goD n d q) := by
 obtain ⟨hk, hfm, ⟨n1, n2, n3, n4⟩, hl⟩ := right_parts hr;simp only [countsB, Bool.and_eq_true] at hc;have hcn := hc.2;simp only [allThere, Bool.and_eq_true] at ht;obtain ⟨t1, t2⟩ := ht;have z : numB 0 = true := rfl;clear hr hc;have hkk := known_cases hk;obtain ⟨f, a, c, p, s, bs, vs, m, o⟩ := q;simp only at hk hkk hfm n1 n2 n3 n4 hl hcn t1 t2;have gB := fun sp hsp hf => getB_l (n := n) (s := d.s) hs (sp := sp) (a := a) (m := c) hsp hf;have gV := fun s' (hs' : Sz n s') sp hsp hf => getV_l (n := n) (s := s') hs' (sp := sp) (a := a) (m := c) hsp hf;rcases hkk with rfl | rfl | rfl | rfl | rfl | rfl | rfl | rfl | rfl | rfl | rfl | rfl
 all_goals
  simp [formP] at hfm;simp [askR] at t1 t2;simp [cntB] at hcn;simp [listB] at hl
 ·
  have e := gB 0 rfl t1;show Fit n 1 c (⟨1, 0, 0, 0, 0, getB n d.s 0 a c, [], 0, 0, []⟩, d);exact rp_fit hs rfl rfl rfl (by simp [formA]) rfl (by simp [listA]; omega) (by simp [askB, e])
 ·
  have e := gB 1 rfl t1;show Fit n 2 c (⟨2, 0, 0, 0, 0, getB n d.s 1 a c, [], 0, 0, []⟩, d);exact rp_fit hs rfl rfl rfl (by simp [formA]) rfl (by simp [listA]; omega) (by simp [askB, e])
 ·
  have e := gV d.s hs 3 rfl t1;show Fit n 3 c (⟨3, 0, 0, 0, 0, [], getV n d.s 3 a c, 0, 0, []⟩, d);exact rp_fit hs rfl rfl rfl (by simp [formA]) rfl (by simp [listA]; omega) (by simp [askB, e])
 ·
  have e := gV d.s hs 2 rfl t1;show Fit n 4 c (⟨4, 0, 0, 0, 0, [], getV n d.s 2 a c, 0, 0, []⟩, d);exact rp_fit hs rfl rfl rfl (by simp [formA]) rfl (by simp [listA]; omega) (by simp [askB, e])
 ·
  obtain ⟨rfl, -⟩ := hfm;show Fit n 5 0 (⟨5, 0, a, 0, 0, bs, [], 0, 0, []⟩, { d with s := setB n d.s 0 a bs });exact rp_fit (hs.setB _ _ _) rfl rfl rfl (by simp [formA]) (by simp [n1, z]) (by simp [listA, hl]) (by simp [askB])
 ·
  obtain ⟨rfl, -⟩ := hfm;show Fit n 6 0 (⟨6, 0, a, 0, 0, [], vs, 0, 0, []⟩, { d with s := setV n d.s 3 a vs });exact rp_fit (hs.setV _ _ _) rfl rfl rfl (by simp [formA]) (by simp [n1, z]) (by simp [listA, hl]) (by simp [askB])
 ·
  have hv : vs.length = 1 := by simpa using hl
  have good : ∀ (d' : Dv) (us : List UInt16), us.length = 1 → Sz n d'.s → Fit n 8 c (⟨8, 0, 0, 0, s, [], us, 0, 0, []⟩, d') := fun d' us hu hs' =>
   rp_fit hs' rfl rfl rfl (by simp [formA]) (by simp [n3, z]) (by simp [listA, hu]) (by simp [askB])
  have bad : Fit n 8 c (refD d 8 3) := ref_fit hs (by omega) (by omega);show Fit n 8 c (diagD d ⟨8, a, c, p, s, bs, vs, m, o⟩);unfold diagD;simp only
  split
  ·
   exact good d vs hv hs
  ·
   split
   ·
    exact good _ vs hv hs
   ·
    split
    ·
     split
     ·
      exact bad
     ·
      exact good d _ rfl hs
    ·
     exact bad
 ·
  show Fit n 15 c (⟨15, 0, a, c, 0, [], [], 0, 0, []⟩, { d with s := setB n d.s 0 a bs });exact rp_fit (hs.setB _ _ _) rfl rfl rfl (by simp [formA]) (by simp [n1, n4, z]) (by simp [listA]) (by simp [askB])
 ·
  show Fit n 16 c (⟨16, 0, a, c, 0, [], [], 0, 0, []⟩, { d with s := setV n d.s 3 a vs });exact rp_fit (hs.setV _ _ _) rfl rfl rfl (by simp [formA]) (by simp [n1, n4, z]) (by simp [listA]) (by simp [askB])
 ·
  show Fit n 17 c (⟨17, 0, 0, 0, 0, [], [], 0, 0, [b8 d.unit, 255]⟩, d);exact rp_fit hs rfl rfl rfl (by simp [formA]) rfl (by simp [listA]) (by simp [askB])
 ·
  show Fit n 22 c (⟨22, 0, a, 0, 0, [], [], m, o, []⟩, { d with s := setV n d.s 3 a [maskW ((getV n d.s 3 a 1).getD 0 0) m o] });exact rp_fit (hs.setV _ _ _) rfl rfl rfl (by simp [formA]) (by simp [n1, z]) (by simp [listA]) (by simp [askB])
 ·
  have e := gV _ (hs.setV 3 p vs) 3 rfl t1;show Fit n 23 c (⟨23, 0, 0, 0, 0, [], getV n (setV n d.s 3 p vs) 3 a c, 0, 0, []⟩, { d with s := setV n d.s 3 p vs });exact rp_fit (hs.setV _ _ _) rfl rfl rfl (by simp [formA]) rfl (by simp [listA]; omega) (by simp [askB, e])
theorem do_fit {n : Nat} {d : Dv} {q : Rq} (hs : Sz n d.s) (hr : rightE q = 0) : Fit n q.fn q.cnt (doD n d q) := by
 have hk := (right_parts hr).1;have hkk := known_cases hk;have h0 : 0 ≤ q.fn ∧ q.fn ≤ 127 := by omega
 unfold doD;simp only;rw [if_neg (by rw [hk]; simp)]
 split
 ·
  exact ref_fit (d := { d with msgs := d.msgs + 1 }) hs h0 (by omega)
 ·
  rename_i hc
  split
  ·
   exact ref_fit (d := { d with msgs := d.msgs + 1 }) hs h0 (by omega)
  ·
   rename_i ht
   exact go_fit (d := { d with msgs := d.msgs + 1 }) hs hr (by simpa using hc) (by simpa using ht)
theorem lay_fn {r : Rp} (_ : goodE r = 0) (hf : 0 ≤ r.fn ∧ r.fn ≤ 127) : fnOf (layA r) = r.fn ∨ fnOf (layA r) = r.fn + 128 := by
 unfold layA fnOf
 split
 ·
  right
  simp only [List.getD_cons_zero];rw [b8_val _ (by omega) (by omega)]
 ·
  left
  simp only [List.getD_cons_zero];rw [b8_val _ (by omega) (by omega)]
theorem take_fit {n : Nat} {f c : Int} {x : Rp × Dv} (h : Fit n f c x) (hf : 0 ≤ f ∧ f ≤ 127) : takeE (layR x.1) f c = 0 ∧ takeR (layR x.1) f c = x.1 := by
 rw [layR_0 h.good];have ha : ansB (fnOf (layA x.1)) f = true := by
  have := lay_fn h.good (by rw [h.fn]; exact hf);rw [h.fn] at this;unfold ansB;simp only [decide_eq_true_eq];omega
 have hi : isA (layA x.1) c x.1 := ⟨h.good, rfl, h.ask⟩;exact ⟨takeE_is ha hi, takeR_is ha hi⟩
theorem pdu_own {n : Nat} {d : Dv} {q : Rq} (hr : rightE q = 0) : pduD n d (bytesQ q) = (layR (doD n d q).1, (doD n d q).2) := by
 have hi : isQ (bytesQ q) q := ⟨hr, rfl⟩;unfold pduD;rw [if_neg (by simp [bytesQ]), if_neg (by rw [readE_is hi]; simp), readQ_is hi]
theorem low7 {x y : UInt8} (h : x.toNat % 128 = y.toNat % 128) : x &&& 127 = y &&& 127 := by
 apply UInt8.toNat_inj.1
 rw [UInt8.toNat_and, UInt8.toNat_and];have e : (127 : UInt8).toNat = 2 ^ 7 - 1 := rfl;rw [e, Nat.and_two_pow_sub_one_eq_mod, Nat.and_two_pow_sub_one_eq_mod];exact h
theorem body_pos {r : Rp} (hk : knownB r.fn = true) : 1 ≤ (bodyA r).length := by
 have := known_cases hk;unfold bodyA
 split
 ·
  simp [cntL]
 ·
  split
  ·
   simp [cntL]
  ·
   split
   ·
    simp [pw]
   ·
    split
    ·
     simp [cntL]
    ·
     rename_i h1 h2 h3 h4
     have h5 : r.fn = 5 ∨ r.fn = 6 ∨ r.fn = 8 ∨ r.fn = 22 := by omega
     rcases h5 with h5 | h5 | h5 | h5 <;> simp [bodyQ, echoQ, h5, pw]
theorem lay_two {r : Rp} (h : goodE r = 0) (hf : 0 ≤ r.fn ∧ r.fn ≤ 127) (b : UInt8) (hb : (b.toNat : Int) % 128 = r.fn) : 2 ≤ (layA r).length ∧ (layA r).getD 0 0 &&& 127 = b &&& 127 := by
 constructor
 ·
  unfold layA
  split
  ·
   simp
  ·
   rename_i hc
   have := body_pos (good_parts h (by omega)).1;simp only [List.length_cons];omega
 ·
  apply low7
  have := lay_fn h hf;unfold fnOf at this;omega
theorem pdu_two {n : Nat} {d : Dv} {b : List UInt8} (hs : Sz n d.s) (h0 : b ≠ []) : 2 ≤ (pduD n d b).1.length ∧ (pduD n d b).1.getD 0 0 &&& 127 = b.getD 0 0 &&& 127 ∧ Sz n (pduD n d b).2.s := by
 unfold pduD;rw [if_neg h0];have hfb : 0 ≤ fnOf b ∧ fnOf b ≤ 255 := by
  unfold fnOf;have := (b.getD 0 0).toNat_lt;omega
 split
 ·
  have hk : ∀ k : Int, 1 ≤ k ∧ k ≤ 255 → goodE (refP (fnOf b % 128) k) = 0 := fun k hk => by
   have := (ref_good (f := fnOf b % 128) (k := k) (by omega) hk).1
   rwa [show fnOf b % 128 % 128 = fnOf b % 128 by omega] at this
  have key : ∀ k : Int, 1 ≤ k ∧ k ≤ 255 → 2 ≤ (layR (refP (fnOf b % 128) k)).length ∧ (layR (refP (fnOf b % 128) k)).getD 0 0 &&& 127 = b.getD 0 0 &&& 127 := fun k hk' => by
   rw [layR_0 (hk k hk')];exact lay_two (hk k hk') (by show 0 ≤ fnOf b % 128 ∧ fnOf b % 128 ≤ 127; omega) _ rfl
  simp only [refD]
  split
  ·
   exact ⟨(key 1 (by omega)).1, (key 1 (by omega)).2, hs⟩
  ·
   exact ⟨(key 3 (by omega)).1, (key 3 (by omega)).2, hs⟩
 ·
  rename_i he
  have hx : ∃ q, isQ b q := by
   refine Classical.byContradiction fun hn => he ?_;intro e;cases hkn : knownB (fnOf b)
   ·
    rw [readE_fn h0 hkn] at e; cases e
   ·
    rw [readE_form h0 hkn hn] at e; cases e
  obtain ⟨q, hq⟩ := hx;rw [readQ_is hq];have F := do_fit (n := n) (d := d) hs hq.1;obtain ⟨-, e2, e3⟩ := fn_bytes hq;have hkk := known_cases e3;simp only;rw [layR_0 F.good];have := lay_two F.good (by rw [F.fn]; omega) (b.getD 0 0) (by rw [F.fn, ← e2]; unfold fnOf; unfold fnOf at e2; omega);exact ⟨this.1, this.2, F.sz⟩
set_option maxHeartbeats 400000 in
theorem within_any (n lo hi : Int) (w : World) (hn : -9223372036854775808 ≤ n ∧ n ≤ 9223372036854775807) (h0 : -1000000000000000000 ≤ lo) (h1 : hi ≤ 1000000000000000000) (h2 : lo ≤ hi) :
  Calls Tryz.prog 65 #[.int .i64 n, .int .i64 lo, .int .i64 hi] w fun e w' => (∃ m, e = .returned (.int .i64 m) ∧ lo ≤ m ∧ m ≤ hi) ∧ w = w' := by
 obtain ⟨hn1, hn2⟩ := hn;by_cases g1 : lo ≤ n ∧ n ≤ hi
 ·
  obtain ⟨g1, g2⟩ := g1;go_enter Tryz.func65, Tryz.ntmps65;go_wp2;go_ret;exact ⟨⟨n, rfl, g1, g2⟩, rfl⟩
 ·
  have d0 : 0 < hi - lo + 1 := by omega
  have b1 := Int.tmod_lt_of_pos n d0;have b2 := Int.lt_tmod_of_pos n d0;have hg : (lo ≤ n ∧ hi < n) ∨ n < lo := by omega
  generalize hq : n.tmod (hi - lo + 1) = q at *;have HQ : Hid (n.tmod (hi - lo + 1) = q) := hq;clear g1;have hq0 : ((hi - lo + 1 : Int) == 0) = false := by simp; omega
  by_cases hneg : q < 0
  ·
   rcases hg with ⟨g1, g2⟩ | g1
   all_goals
    go_enter Tryz.func65, Tryz.ntmps65;go_wp2;go_ret;exact ⟨⟨_, rfl, by omega, by omega⟩, rfl⟩
  ·
   rcases hg with ⟨g1, g2⟩ | g1
   all_goals
    go_enter Tryz.func65, Tryz.ntmps65;go_wp2;go_ret;exact ⟨⟨_, rfl, by omega, by omega⟩, rfl⟩
structure Dev (B g : Nat) (w w' : World) : Prop where
 os : w'.os = w.os
 tape : w'.tape = w.tape
 output : w'.output = w.output
 size : w.heap.size ≤ w'.heap.size
 block : ∀ k, k < B → k ≠ g → w'.heap[k]? = w.heap[k]?
theorem Dev.refl (B g : Nat) (w : World) : Dev B g w w := ⟨rfl, rfl, rfl, Nat.le_refl _, fun _ _ _ => rfl⟩
theorem Dev.trans {B g : Nat} {a b c : World} (h : Dev B g a b) (k : Dev B g b c) : Dev B g a c :=
 ⟨k.os.trans h.os, k.tape.trans h.tape, k.output.trans h.output, Nat.le_trans h.size k.size, fun i h1 h2 => (k.block i h1 h2).trans (h.block i h1 h2)⟩
theorem Dev.of_below {B g : Nat} {w w' : World} (h : Below B w w') : Dev B g w w' := ⟨h.os, h.tape, h.output, h.size, fun k hk _ => h.block k hk⟩
theorem Dev.setCell {B g : Nat} {a w : World} (h : Dev B g a w) {p : Addr} (hp : B ≤ p.block) (v : Value) : Dev B g a (w.setCell p v) := by
 refine h.trans (Dev.of_below ((Below.refl B w).setCell hp v))
theorem Dev.alloc {B g : Nat} {a w : World} (h : Dev B g a w) (hB : B ≤ w.heap.size) (o : Obj) : Dev B g a (w.alloc o) :=
 h.trans (Dev.of_below ((Below.refl B w).alloc hB o))
theorem Dev.drew {B g : Nat} {a w : World} (h : Dev B g a w) : Dev B g a w.drew := ⟨h.os, h.tape, h.output, h.size, h.block⟩
theorem Dev.drewN {B g : Nat} {a w : World} (h : Dev B g a w) (n : Nat) : Dev B g a (w.drewN n) := ⟨h.os, h.tape, h.output, h.size, h.block⟩
theorem Dev.mono {B B' g : Nat} {a w : World} (h : Dev B g a w) (hb : B' ≤ B) : Dev B' g a w := ⟨h.os, h.tape, h.output, h.size, fun k hk hg => h.block k (by omega) hg⟩
theorem Dev.below {B B' g : Nat} {a w : World} (h : Dev B g a w) (hb : B' ≤ B) (hg : B' ≤ g) : Below B' a w := ⟨h.os, h.tape, h.output, h.size, fun k hk => h.block k (by omega) (by omega)⟩
theorem Blk.dev {w w' : World} {B g k : Nat} {e : TypeId} {xs : List Value} (h : Blk w k e xs) (hd : Dev B g w w') (hk : k < B) (hg : k ≠ g) : Blk w' k e xs := (hd.block k hk hg).trans h
def Old (B g : Nat) (v : Value) : Prop := ∀ a n c, v = .slice (some a) n c → a.block < B ∧ a.block ≠ g
theorem Row.dev {w w' : World} {B g : Nat} {v : Value} {xs : List Value} (h : Row w v xs) (ho : xs = [] ∨ Old B g v) (hd : Dev B g w w') : Row w' v xs := by
 obtain ⟨a, cap, rfl, h1, h2, h3, h4⟩ := h;refine ⟨_, _, rfl, h1, h2, h3, ?_⟩;rcases ho with rfl | ho
 ·
  exact .inl rfl
 rcases h4 with rfl | ⟨b, off, rfl, hc⟩
 ·
  exact .inl rfl
 ·
  obtain ⟨o1, o2⟩ := ho _ _ _ rfl;refine .inr ⟨_, _, rfl, fun i hi => ?_⟩;rw [← hc i hi];exact World.cell?_of_block (a := ⟨b, off + i, none⟩) (hd.block b o1 o2)
structure Tap (B : Nat) (w : World) (g : Nat) (l : List Int) : Prop where
 ex : ∃ (vL : Value) (k : Nat), k ≤ l.length ∧ Blk w g 40 [vL, .int .i64 k] ∧ Row w vL (l.map iV) ∧ (l.map iV = [] ∨ Old B g vL)
 inn : ∀ i, i < l.length → -9223372036854775808 ≤ l.getD i 0 ∧ l.getD i 0 ≤ 9223372036854775807
 lt : g < B
theorem Tap.below {B : Nat} {w w' : World} {g : Nat} {l : List Int} (h : Tap B w g l) (hb : Below B w w') : Tap B w' g l := by
 obtain ⟨⟨vL, k, hk, hX, hR, ho⟩, hi, hl⟩ := h;exact ⟨⟨vL, k, hk, hX.below hb hl, hR.dev ho (Dev.of_below hb), ho⟩, hi, hl⟩
theorem functions_any (w : World) : Calls Tryz.prog 27 #[] w fun e w' => e = .returned (.slice (some ⟨w.heap.size, 0, none⟩) 12 12) ∧ w.alloc (.cells #[.int .i64 1, .int .i64 2, .int .i64 3, .int .i64 4, .int .i64 5, .int .i64 6, .int .i64 8, .int .i64 15, .int .i64 16, .int .i64 17, .int .i64 22, .int .i64 23] 3) = w' := by
 go_enter Tryz.func27, Tryz.ntmps27;go_wp2;go_ret;exact ⟨rfl, rfl⟩
/-- the blocks that a row may lie in -/
class Keep where
  ok : Nat → Prop
variable [Keep]
def OldK (B g : Nat) (v : Value) : Prop := ∀ a n c, v = .slice (some a) n c → a.block < B ∧ a.block ≠ g ∧ Keep.ok a.block
theorem OldK.old {B g : Nat} {v : Value} (h : OldK B g v) : Old B g v := fun a n c e => ⟨(h a n c e).1, (h a n c e).2.1⟩
structure TapK (B : Nat) (w : World) (g : Nat) (l : List Int) : Prop where
 ex : ∃ (vL : Value) (k : Nat), k ≤ l.length ∧ Blk w g 40 [vL, .int .i64 k] ∧ Row w vL (l.map iV) ∧ (l.map iV = [] ∨ OldK B g vL)
 inn : ∀ i, i < l.length → -9223372036854775808 ≤ l.getD i 0 ∧ l.getD i 0 ≤ 9223372036854775807
 lt : g < B
theorem TapK.below {B : Nat} {w w' : World} {g : Nat} {l : List Int} (h : TapK B w g l) (hb : Below B w w') : TapK B w' g l := by
 obtain ⟨⟨vL, k, hk, hX, hR, ho⟩, hi, hl⟩ := h;exact ⟨⟨vL, k, hk, hX.below hb hl, hR.dev (ho.imp id OldK.old) (Dev.of_below hb), ho⟩, hi, hl⟩
set_option maxHeartbeats 1000000 in
theorem next_k (B g : Nat) (l : List Int) (n : Int) (w : World) (hT : TapK B w g l) (hB : B ≤ w.heap.size) (hn : 1 ≤ n ∧ n ≤ 1000000) :
  Calls Tryz.prog 28 #[.pointer (some ⟨g, 0, none⟩), .int .i64 n] w fun e w' => ∃ m, e = .returned (.int .i64 m) ∧ 0 ≤ m ∧ m < n ∧ TapK B w' g l ∧ w'.heap.size = w.heap.size ∧ Dev w.heap.size g w w' := by
 obtain ⟨⟨vL, k, hk, X, hR, ho⟩, hi, hl⟩ := hT;obtain ⟨n1, n2⟩ := hn;have c0 : w.cell? ⟨g, 0, none⟩ = some vL := X.cell 0;have c1 : w.cell? ⟨g, 1, none⟩ = some (.int .i64 k) := X.cell 1;have f0 := X.frozen;have hT0 := hidden (show TapK B w g l from ⟨⟨vL, k, hk, X, hR, ho⟩, hi, hl⟩);obtain ⟨a, cap, rfl, -⟩ := id hR;obtain ⟨hll, hc, hm, hcell⟩ := hR.at;simp only [List.length_map] at hll hc hR hcell c0 ⊢ ho X;unfold maxLen at hm;by_cases hlt : k < l.length
 ·
  obtain ⟨b, off, rfl, hcl⟩ := hcell k 0 hlt;have cx := hcl k hlt;have ho' := ho.resolve_left (fun h => by have := congrArg List.length h; simp at this; rw [this] at hlt; simp at hlt);obtain ⟨o1, o2, -⟩ := ho' _ _ _ rfl;simp only at o1 o2;clear ho';obtain ⟨i1, i2⟩ := hi k hlt;have HTN : Hid (∀ w', Blk w' g 40 [.slice (some ⟨b, off, none⟩) l.length cap, .int .i64 ((k : Int) + 1)] → Dev B g w w' → TapK B w' g l) := fun w' hX hd =>
   ⟨⟨_, k + 1, by omega, by simpa using hX, hR.dev (ho.imp id OldK.old) hd, ho⟩, hi, hl⟩
  have HX := hidden (X.set 1 (.int .i64 ((k : Int) + 1)));clear hcl hcell hi;generalize l.getD k 0 = x at *;have t1 : ¬ ((l.length : Int) ≤ (k : Int)) := by omega
  have t2 : ¬ (n < 1) := by omega
  have t3 : (k : Int) < (l.length : Int) := by omega
  have hn0 : (n == 0) = false := by rw [beq_eq_false_iff_ne]; omega
  go_enter Tryz.func28, Tryz.ntmps28;go_wp2;go_quiet (fail)
  go_wp2;refine wp_region_pi [(0, true), (1, true), (2, true), (3, true), (4, true), (5, true), (6, true), (7, true), (8, true), (9, true), (10, true), (12, true), (11, false), (13, true), (14, true)] (by kernel_rfl) (by kernel_rfl) (by kernel_rfl) (fun _ _ _ d _ h => by cases d <;> exact h) ?_;have Y := ((X.drewN nq).set 1 (.int .i64 ((k : Int) + 1))).drew;have D : Dev w.heap.size g w ((w.drewN nq).setCell ⟨g, 1, none⟩ (.int .i64 ((k : Int) + 1))).drew :=
   ⟨rfl, rfl, rfl, by simp [World.drew, World.drewN, World.setCell], fun j _ hj => by simp [World.drew, World.drewN, World.setCell, Array.getElem?_modify, Ne.symm hj]⟩
  have Sz : ((w.drewN nq).setCell ⟨g, 1, none⟩ (.int .i64 ((k : Int) + 1))).drew.heap.size = w.heap.size := by simp [World.drew, World.drewN, World.setCell]
  have cb : ((w.drewN nq).setCell ⟨g, 1, none⟩ (.int .i64 ((k : Int) + 1))).drew.cell? ⟨b, off + k, none⟩ = some (iV x) := by
   rw [← cx]; exact World.cell?_of_block (a := ⟨b, off + k, none⟩) (D.block b (lt_of_cell cx) o2)
  clear X f0 c0 c1 cx HX;generalize ((w.drewN nq).setCell ⟨g, 1, none⟩ (.int .i64 ((k : Int) + 1))).drew = w2 at *;have x2 := Ext.refl w2;have RD : Hid (∀ w', Ext w2 w' → w'.cell? ⟨g, 0, none⟩ = some (.slice (some ⟨b, off, none⟩) l.length cap) ∧ w'.cell? ⟨g, 1, none⟩ = some (.int .i64 ((k : Int) + 1)) ∧ w'.cell? ⟨b, off + k, none⟩ = some (iV x)) := fun w' hx =>
   ⟨(Y.below hx Y.lt).cell 0, (Y.below hx Y.lt).cell 1, by rw [← cb]; exact World.cell?_of_block (a := ⟨b, off + k, none⟩) (hx.block b (lt_of_cell cb))⟩
  have a1 : (k : Int) + 1 - 1 = (k : Int) := by omega
  have wk : IntKind.i64.wrap (k : Int) = (k : Int) := by rw [IntKind.wrap_i64]; omega
  have wk1 : IntKind.i64.wrap ((k : Int) + 1) = (k : Int) + 1 := by rw [IntKind.wrap_i64]; omega
  iterate 12 (first | (refine pi_P x2 rfl ?_) | (refine pi_R x2 rfl (fun w' hx => by obtain ⟨y0, y1, y2⟩ := RD.out w' hx; go_simp; with_reducible rfl) ?_))
  refine pi_move rfl (by kernel_rfl) (fun K hK => ?_);go_wp2_with fail
  refine (within_any x 0 1073741824 _ ⟨i1, i2⟩ (by decide) (by decide) (by decide)).mono ?_;rintro e w3 ⟨⟨m, rfl, m1, m2⟩, rfl⟩;go_simp;refine hK.out _ _ x2 ?_;clear K hK;try simp only [Act.put, PuA, PuB, PuC]
  have r1 := Int.tmod_nonneg n m1;have r2 := Int.tmod_lt_of_pos m (show 0 < n by omega);have hnz : ¬ n = 0 := by omega
  have wm : IntKind.i64.wrap (m.tmod n) = m.tmod n := by rw [IntKind.wrap_i64]; omega
  iterate 2 (refine pi_P x2 rfl ?_)
  refine pi_nil ?_;have RR := hidden (show 0 ≤ m.tmod n ∧ m.tmod n < n from ⟨r1, r2⟩);clear r1 r2 RD cb;go_wp2;go_ret;exact ⟨_, rfl, RR.out.1, RR.out.2, HTN.out _ Y (D.mono (by have := Y.lt; omega)), Sz, D⟩
 ·
  have t1 : (l.length : Int) ≤ (k : Int) := by omega
  go_enter Tryz.func28, Tryz.ntmps28;go_wp2;go_quiet (fail)
  go_wp2;go_ret;refine ⟨0, rfl, by omega, by omega, hT0.out.below ?_, rfl, ?_⟩
  ·
   exact below_drewn0 _ _ _
  ·
   exact (Dev.refl _ _ _).drewN _
end Go.Proofs.YtdihcdphgiaepaaGreat
