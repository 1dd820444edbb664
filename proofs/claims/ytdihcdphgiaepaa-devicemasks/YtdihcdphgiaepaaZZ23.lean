/- Contracts once more, all that is made in an interval of its own; burgagelaw8.known. -/
import Derived.Test.YtdihcdphgiaepaaZZ13
import Derived.Test.YtdihcdphgiaepaaZZ16
import Derived.Test.YtdihcdphgiaepaaZZ22
namespace Go.Proofs.Ytdihcdphgiaepaa
open Go.RowKit
structure Dv where
 s : Cs
 msgs : Int
 flts : Int
 unit : Int
def askR (q : Rq) : Int × Int × Int × Int :=
 if q.fn = 1 ∨ q.fn = 2 ∨ q.fn = 3 ∨ q.fn = 4 then (q.loc, q.cnt, 0, 0)
 else if q.fn = 5 ∨ q.fn = 6 then (0, 0, q.loc, 1)
 else if q.fn = 15 ∨ q.fn = 16 then (0, 0, q.loc, q.cnt)
 else if q.fn = 22 then (q.loc, 1, q.loc, 1)
 else if q.fn = 23 then (q.loc, q.cnt, q.wat, q.vals.length)
 else (0, 0, 0, 0)
def maskW (v a o : UInt16) : UInt16 := (v &&& a) ||| (o &&& ~~~a)
def refD (d : Dv) (f k : Int) : Rp × Dv := (refP (f % 128) k, { d with flts := d.flts + 1 })
def diagD (d : Dv) (q : Rq) : Rp × Dv :=
 if q.sub = 0 then (⟨q.fn, 0, 0, 0, q.sub, [], q.vals, 0, 0, []⟩, d)
 else if q.sub = 10 then (⟨q.fn, 0, 0, 0, q.sub, [], q.vals, 0, 0, []⟩, { d with msgs := 0, flts := 0 })
 else if q.sub = 11 ∨ q.sub = 13 ∨ q.sub = 14 then
  if q.vals.getD 0 0 ≠ 0 then refD d q.fn 3
  else (⟨q.fn, 0, 0, 0, q.sub, [], [wOf (if q.sub = 13 then d.flts else d.msgs)], 0, 0, []⟩, d)
 else refD d q.fn 3
def goD (n : Nat) (d : Dv) (q : Rq) : Rp × Dv :=
 if q.fn = 1 ∨ q.fn = 2 then (⟨q.fn, 0, 0, 0, 0, getB n d.s (q.fn - 1) q.loc q.cnt, [], 0, 0, []⟩, d)
 else if q.fn = 3 then (⟨q.fn, 0, 0, 0, 0, [], getV n d.s 3 q.loc q.cnt, 0, 0, []⟩, d)
 else if q.fn = 4 then (⟨q.fn, 0, 0, 0, 0, [], getV n d.s 2 q.loc q.cnt, 0, 0, []⟩, d)
 else if q.fn = 5 then (⟨q.fn, 0, q.loc, q.cnt, 0, q.bits, [], 0, 0, []⟩, { d with s := setB n d.s 0 q.loc q.bits })
 else if q.fn = 15 then (⟨q.fn, 0, q.loc, q.cnt, 0, [], [], 0, 0, []⟩, { d with s := setB n d.s 0 q.loc q.bits })
 else if q.fn = 6 then (⟨q.fn, 0, q.loc, q.cnt, 0, [], q.vals, 0, 0, []⟩, { d with s := setV n d.s 3 q.loc q.vals })
 else if q.fn = 16 then (⟨q.fn, 0, q.loc, q.cnt, 0, [], [], 0, 0, []⟩, { d with s := setV n d.s 3 q.loc q.vals })
 else if q.fn = 22 then (⟨q.fn, 0, q.loc, 0, 0, [], [], q.land, q.lor, []⟩, { d with s := setV n d.s 3 q.loc [maskW ((getV n d.s 3 q.loc 1).getD 0 0) q.land q.lor] })
 else if q.fn = 23 then (⟨q.fn, 0, 0, 0, 0, [], getV n (setV n d.s 3 q.wat q.vals) 3 q.loc q.cnt, 0, 0, []⟩, { d with s := setV n d.s 3 q.wat q.vals })
 else if q.fn = 8 then diagD d q
 else if q.fn = 17 then (⟨q.fn, 0, 0, 0, 0, [], [], 0, 0, [b8 d.unit, 255]⟩, d)
 else (⟨q.fn, 0, 0, 0, 0, [], [], 0, 0, []⟩, d)
def allThere (n : Nat) (q : Rq) : Bool := fits n (askR q).1 (askR q).2.1 && fits n (askR q).2.2.1 (askR q).2.2.2
def doD (n : Nat) (d0 : Dv) (q : Rq) : Rp × Dv :=
 let d : Dv := { d0 with msgs := d0.msgs + 1 }
 if knownB q.fn = false then refD d q.fn 1
 else if countsB q = false then refD d q.fn 3
 else if allThere n q = false then refD d q.fn 2
 else goD n d q
noncomputable def pduD (n : Nat) (d : Dv) (b : List UInt8) : List UInt8 × Dv :=
 if b = [] then ([], d)
 else if readE b ≠ 0 then
  let x := refD { d with msgs := d.msgs + 1 } (fnOf b) (if readE b = 15 then 1 else 3)
  (layR x.1, x.2)
 else (layR (doD n d (readQ b)).1, (doD n d (readQ b)).2)
abbrev tP : TypeId := 30
abbrev zsP : List Value := [.int .i64 0, .int .i64 0, .int .i64 0, .int .i64 0, .int .i64 0, .slice none 0 0, .slice none 0 0, .int .u16 0, .int .u16 0, .slice none 0 0]
theorem Blk.setne {w : World} {g g' i : Nat} {e : TypeId} {xs : List Value} {u : Value} (h : Blk w g e xs) (hne : g ≠ g') : Blk (w.setCell ⟨g', i, none⟩ u) g e xs :=
 h.kp (F := (· = g')) (Kp.set (F := (· = g')) (Kp.refl _ w) (p := ⟨g', i, none⟩) (fun _ => rfl) u) hne
theorem put10 {w : World} {b : Nat} {xs : List Value} (h : Blk w b tP xs) (hl : xs.length = 10) (v0 v1 v2 v3 v4 v5 v6 v7 v8 v9 : Value) : ∃ w3, (((((((((w.setCell ⟨b, 0, none⟩ v0).setCell ⟨b, 1, none⟩ v1).setCell ⟨b, 2, none⟩ v2).setCell ⟨b, 3, none⟩ v3).setCell ⟨b, 4, none⟩ v4).setCell ⟨b, 5, none⟩ v5).setCell ⟨b, 6, none⟩ v6).setCell ⟨b, 7, none⟩ v7).setCell ⟨b, 8, none⟩ v8).setCell ⟨b, 9, none⟩ v9 = w3 ∧ Blk w3 b tP [v0, v1, v2, v3, v4, v5, v6, v7, v8, v9] ∧
  (∀ g e ys, Blk w g e ys → g ≠ b → Blk w3 g e ys) ∧ (∀ F a, Kp F a w → (b < a.heap.size → F b) → Kp F a w3) := by
 refine ⟨_, rfl, ?_, fun g e ys hg hne => ?_, fun F a k hF => ?_⟩
 ·
  obtain ⟨x0, x1, x2, x3, x4, x5, x6, x7, x8, x9, rfl⟩ : ∃ x0 x1 x2 x3 x4 x5 x6 x7 x8 x9, xs = [x0, x1, x2, x3, x4, x5, x6, x7, x8, x9] := by
   match xs, hl with
   | [x0, x1, x2, x3, x4, x5, x6, x7, x8, x9], _ => exact ⟨x0, x1, x2, x3, x4, x5, x6, x7, x8, x9, rfl⟩
  exact (((((((((h.set 0 v0).set 1 v1).set 2 v2).set 3 v3).set 4 v4).set 5 v5).set 6 v6).set 7 v7).set 8 v8).set 9 v9
 ·
  exact (((((((((hg.setne hne).setne hne).setne hne).setne hne).setne hne).setne hne).setne hne).setne hne).setne hne).setne hne
 ·
  exact (((((((((k.set hF _).set hF _).set hF _).set hF _).set hF _).set hF _).set hF _).set hF _).set hF _).set hF _
theorem cells10 {w : World} {b : Nat} {x0 x1 x2 x3 x4 x5 x6 x7 x8 x9 : Value} (h : Blk w b tP [x0, x1, x2, x3, x4, x5, x6, x7, x8, x9]) : w.cell? ⟨b, 0, none⟩ = some x0 ∧ w.cell? ⟨b, 1, none⟩ = some x1 ∧ w.cell? ⟨b, 2, none⟩ = some x2 ∧ w.cell? ⟨b, 3, none⟩ = some x3 ∧ w.cell? ⟨b, 4, none⟩ = some x4 ∧ w.cell? ⟨b, 5, none⟩ = some x5 ∧ w.cell? ⟨b, 6, none⟩ = some x6 ∧ w.cell? ⟨b, 7, none⟩ = some x7 ∧ w.cell? ⟨b, 8, none⟩ = some x8 ∧ w.cell? ⟨b, 9, none⟩ = some x9 :=
 ⟨h.cell 0, h.cell 1, h.cell 2, h.cell 3, h.cell 4, h.cell 5, h.cell 6, h.cell 7, h.cell 8, h.cell 9⟩
theorem ofInt16 (x : UInt16) : BitVec.ofInt 16 (x.toNat : Int) = x.toBitVec := by
 apply BitVec.eq_of_toNat_eq
 have := x.toNat_lt
 rw [BitVec.ofInt_natCast, BitVec.toNat_ofNat, Nat.mod_eq_of_lt (by omega)]
 rfl
theorem wrap16 (x : UInt16) : IntKind.u16.wrap ((x.toBitVec.toNat : Nat) : Int) = (x.toNat : Int) := by
 have := x.toNat_lt
 rw [IntKind.wrap_u16]
 show ((x.toNat : Nat) : Int) % 65536 = _
 omega
theorem and16 (x y : UInt16) : bits .and .u16 (x.toNat : Int) (y.toNat : Int) = ((x &&& y).toNat : Int) := by
 show IntKind.u16.wrap (((BitVec.ofInt 16 (x.toNat : Int) &&& BitVec.ofInt 16 (y.toNat : Int)).toNat : Nat) : Int) = _
 rw [ofInt16, ofInt16]
 exact wrap16 (x &&& y)
theorem or16 (x y : UInt16) : bits .or .u16 (x.toNat : Int) (y.toNat : Int) = ((x ||| y).toNat : Int) := by
 show IntKind.u16.wrap (((BitVec.ofInt 16 (x.toNat : Int) ||| BitVec.ofInt 16 (y.toNat : Int)).toNat : Nat) : Int) = _
 rw [ofInt16, ofInt16]
 exact wrap16 (x ||| y)
theorem andNot16 (x y : UInt16) : bits .andNot .u16 (x.toNat : Int) (y.toNat : Int) = ((x &&& ~~~y).toNat : Int) := by
 show IntKind.u16.wrap (((BitVec.ofInt 16 (x.toNat : Int) &&& ~~~ BitVec.ofInt 16 (y.toNat : Int)).toNat : Nat) : Int) = _
 rw [ofInt16, ofInt16]
 exact wrap16 (x &&& ~~~y)
def RowF (F : Nat → Prop) (w : World) (v : Value) (xs : List Value) : Prop := Row w v xs ∧ (xs ≠ [] → Off F v)
theorem RowF.kp {F F' : Nat → Prop} {w w' : World} {v : Value} {xs : List Value} (h : RowF F w v xs) (k : Kp F' w w') (hf : ∀ i, i < w.heap.size → F' i → F i) : RowF F w' v xs := by
 refine ⟨?_, h.2⟩
 by_cases h0 : xs = []
 ·
  subst h0
  obtain ⟨a, cap, e, h1, h2, h3, -⟩ := h.1
  exact ⟨a, cap, e, h1, h2, h3, .inl rfl⟩
 ·
  obtain ⟨a, cap, rfl, h1, h2, h3, h4⟩ := h.1
  refine ⟨a, cap, rfl, h1, h2, h3, ?_⟩
  rcases h4 with h4 | ⟨b, off, rfl, hc⟩
  ·
   exact .inl h4
  ·
   refine .inr ⟨b, off, rfl, fun i hi => ?_⟩
   have e := hc i hi
   have hlt : b < w.heap.size := by
    rw [List.getElem?_eq_getElem hi] at e
    exact lt_of_cell e
   rw [← e]
   exact World.cell?_of_block (a := ⟨b, off + i, none⟩) (k.block b hlt (fun x => h.2 h0 b rfl (hf b hlt x)))
theorem RowF.ext {F : Nat → Prop} {w w' : World} {v : Value} {xs : List Value} (h : RowF F w v xs) (k : Below w.heap.size w w') : RowF F w' v xs := ⟨h.1.below k, h.2⟩
theorem RowF.sub {F F' : Nat → Prop} {w : World} {v : Value} {xs : List Value} (h : RowF F w v xs) (hf : ∀ i, F' i → F i) : RowF F' w v xs := ⟨h.1, fun h0 k hk x => h.2 h0 k hk (hf k x)⟩
def Gd (g lo hi k : Nat) : Prop := k = g ∨ In lo hi k
def IsRqF (F : Nat → Prop) (w : World) (v : Value) (q : Rq) : Prop := ∃ vb vv, v = rqV q.fn q.loc q.cnt q.wat q.sub vb vv q.land q.lor ∧ RowF F w vb (q.bits.map Value.bool) ∧ RowF F w vv (q.vals.map wV)
theorem IsRqF.slices {F : Nat → Prop} {w : World} {v : Value} {q : Rq} (h : IsRqF F w v q) : ∃ ab capb av capv, v = rqV q.fn q.loc q.cnt q.wat q.sub (.slice ab q.bits.length capb) (.slice av q.vals.length capv) q.land q.lor ∧ q.bits.length ≤ 9223372036854775807 ∧ q.vals.length ≤ 9223372036854775807 ∧
  RowF F w (.slice ab q.bits.length capb) (q.bits.map Value.bool) ∧ RowF F w (.slice av q.vals.length capv) (q.vals.map wV) := by
 obtain ⟨vb, vv, rfl, hb, hv⟩ := h
 obtain ⟨ab, capb, rfl, h1, h2, -⟩ := id hb.1
 obtain ⟨av, capv, rfl, h3, h4, -⟩ := id hv.1
 simp only [List.length_map] at h1 h3 hb hv ⊢
 unfold maxLen at h2 h4
 exact ⟨ab, capb, av, capv, rfl, by omega, by omega, hb, hv⟩
def NRp (B : Nat) (w : World) (v : Value) (r : Rp) : Prop := ∃ vb vv vd, v = rpV r.fn r.code r.loc r.cnt r.sub vb vv r.land r.lor vd ∧ (Row w vb (r.bits.map Value.bool) ∧ Row w vv (r.vals.map wV) ∧ Row w vd (r.data.map bV)) ∧ NwV B vb ∧ NwV B vv ∧ NwV B vd
theorem NRp.ref (B : Nat) (w : World) (f k : Int) : NRp B w (rpV f k 0 0 0 (.slice none 0 0) (.slice none 0 0) 0 0 (.slice none 0 0)) (refP f k) := ⟨_, _, _, rfl, ⟨Row.nil w, Row.nil w, Row.nil w⟩, NwV.nil _ _ _, NwV.nil _ _ _, NwV.nil _ _ _⟩
theorem Kp.sub {F F' : Nat → Prop} {a b : World} (h : Kp F a b) (hf : ∀ i, F i → F' i) : Kp F' a b := h.mono hf
abbrev tQ : TypeId := 33
theorem cells9 {w : World} {b : Nat} {x0 x1 x2 x3 x4 x5 x6 x7 x8 : Value} (h : Blk w b tQ [x0, x1, x2, x3, x4, x5, x6, x7, x8]) : w.cell? ⟨b, 0, none⟩ = some x0 ∧ w.cell? ⟨b, 1, none⟩ = some x1 ∧ w.cell? ⟨b, 2, none⟩ = some x2 ∧ w.cell? ⟨b, 3, none⟩ = some x3 ∧ w.cell? ⟨b, 4, none⟩ = some x4 ∧ w.cell? ⟨b, 5, none⟩ = some x5 ∧ w.cell? ⟨b, 6, none⟩ = some x6 ∧ w.cell? ⟨b, 7, none⟩ = some x7 ∧ w.cell? ⟨b, 8, none⟩ = some x8 :=
 ⟨h.cell 0, h.cell 1, h.cell 2, h.cell 3, h.cell 4, h.cell 5, h.cell 6, h.cell 7, h.cell 8⟩
theorem getV_one {n : Nat} {s : Cs} {a : Int} (ha : 0 ≤ a) (hl : s.b0.length = n ∧ s.b1.length = n ∧ s.v0.length = n ∧ s.v1.length = n) (hf : fits n a 1 = true) : (getV n s 3 a 1).length = 1 := by
 have e : okV n 3 a 1 = true := by rw [okV, hf]; decide
 obtain ⟨-, -, h3⟩ := fits_iff.1 hf
 rw [getV, if_pos e]
 simp only [rowV, sub]
 rw [if_neg (by decide), List.length_take, List.length_drop, hl.2.2.2]
 have : (1 : Int).toNat = 1 := rfl
 omega
theorem counts_parts {q : Rq} (h : countsB q = true) : knownB q.fn = true ∧ ((0 ≤ q.loc ∧ q.loc ≤ 65535) ∧ (0 ≤ q.cnt ∧ q.cnt ≤ 65535) ∧ (0 ≤ q.wat ∧ q.wat ≤ 65535)) ∧ q.bits.length ≤ 2040 ∧ q.vals.length ≤ 127 ∧ (q.fn = 8 → q.vals.length = 1) := by
 have hr : rightE q = 0 := by simp [countsB] at h; exact h.1
 obtain ⟨hk, hf, hn, hl⟩ := right_parts hr
 refine ⟨hk, ?_, ?_, ?_, ?_⟩
 ·
  simp [numB] at hn; omega
 ·
  obtain ⟨-, -, -, -, h5, -, -⟩ := hf
  rcases h5 with (h5 | h5) | h5
  ·
   simp [listB, h5] at hl; omega
  ·
   simp [listB, h5] at hl; omega
  ·
   simp [h5]
 ·
  obtain ⟨-, -, -, -, -, h6, -⟩ := hf
  rcases h6 with (h6 | h6 | h6 | h6) | h6
  ·
   simp [listB, h6] at hl; omega
  ·
   simp [listB, h6] at hl; omega
  ·
   simp [listB, h6] at hl; omega
  ·
   simp [listB, h6] at hl; omega
  ·
   simp [h6]
 ·
  intro h8
  simp [listB, h8] at hl
  exact hl
theorem NRp.is {B : Nat} {w : World} {v : Value} {r : Rp} (h : NRp B w v r) : IsRp w v r := by
 obtain ⟨vb, vv, vd, e, ⟨h1, h2, h3⟩, -⟩ := h
 exact ⟨vb, vv, vd, e, h1, h2, h3⟩
theorem newv_off {B g lo hi : Nat} {a : Option Addr} {n c : Nat} (h : NewV B (.slice a n c)) (hg : g < B) (hh : hi ≤ B) : Off (Gd g lo hi) (.slice a n c) := fun k hk x => by
 cases a with
 | none => cases hk
 | some ad =>
  simp only [Value.ownBlock, Option.some.injEq] at hk
  have := h ad n c rfl
  rcases x with x | x
  ·
   omega
  ·
   have := x.2; omega
end Go.Proofs.Ytdihcdphgiaepaa
namespace Go.Proofs.Ytdihcdphgiaepaa
open Go.RowKit
end Go.Proofs.Ytdihcdphgiaepaa
namespace Go.Proofs.Ytdihcdphgiaepaa
open Go.RowKit
end Go.Proofs.Ytdihcdphgiaepaa
namespace Go.Proofs.Ytdihcdphgiaepaa
open Go.RowKit
theorem In.apart {lo hi lo' hi' : Nat} (h : hi ≤ lo') : ∀ i, In lo hi i → ¬ In lo' hi' i := fun i h1 h2 => by have := h1.2; have := h2.1; omega
structure RowI (lo hi : Nat) (w : World) (v : Value) (xs : List Value) : Prop where
 row : Row w v xs
 top : hi ≤ w.heap.size
 own : xs ≠ [] → ∀ k, v.ownBlock = some k → In lo hi k
theorem RowI.kp {F : Nat → Prop} {lo hi : Nat} {w w' : World} {v : Value} {xs : List Value} (h : RowI lo hi w v xs) (k : Kp F w w') (hF : ∀ i, In lo hi i → ¬ F i) : RowI lo hi w' v xs := by
 refine ⟨?_, Nat.le_trans h.top k.size, h.own⟩
 by_cases h0 : xs = []
 ·
  subst h0
  obtain ⟨a, cap, e, h1, h2, h3, -⟩ := h.row
  exact ⟨a, cap, e, h1, h2, h3, .inl rfl⟩
 ·
  exact h.row.kp k (fun i hi' => hF i (h.own h0 i hi'))
theorem RowI.ext {lo hi : Nat} {w w' : World} {v : Value} {xs : List Value} (h : RowI lo hi w v xs) (k : Below w.heap.size w w') : RowI lo hi w' v xs := h.kp (F := fun _ => False) (Kp.of_below k) (fun _ _ h => h)
theorem RowI.new {B : Nat} {w' : World} {v : Value} {xs : List Value} (h : Row w' v xs) (hn : NwV B v) : ∃ lo hi, RowI lo hi w' v xs ∧ B ≤ lo := by
 refine ⟨B, w'.heap.size, ⟨h, Nat.le_refl _, fun h0 k hk => ⟨hn k hk, ?_⟩⟩, Nat.le_refl _⟩
 obtain ⟨a, cap, rfl, -, -, -, h3⟩ := h
 rcases h3 with h3 | ⟨b, off, rfl, hc⟩
 ·
  exact absurd h3 h0
 ·
  simp only [Value.ownBlock, Option.some.injEq] at hk
  subst hk
  have hp : 0 < xs.length := List.length_pos_iff.2 h0
  have := hc 0 hp
  rw [List.getElem?_eq_getElem hp] at this
  exact lt_of_cell this
theorem new_i (c : Int) (n : Nat) (w : World) (hc : c = (n : Int)) (hn : 1 ≤ n ∧ n ≤ 65536) :
  Calls Try.prog 13 #[.int .i64 c] w fun e w' => ∃ g lo hi, e = .returned (ptrG g) ∧ SD w' lo hi g n (Cs.zero n) ∧ w.heap.size ≤ lo ∧ Below w.heap.size w w' := by
 subst hc
 exact (new_any n w hn).mono fun e w' ⟨g, e1, h1, h2⟩ => ⟨g, _, _, e1, h1, Nat.le_refl _, h2⟩
end Go.Proofs.Ytdihcdphgiaepaa
