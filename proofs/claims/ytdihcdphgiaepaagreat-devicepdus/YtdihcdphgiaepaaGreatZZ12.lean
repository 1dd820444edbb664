/- Contracts of store's there, read and write. -/
import Derived.Test.YtdihcdphgiaepaaGreatZZ2
import Derived.Test.YtdihcdphgiaepaaGreatZZ11
namespace Go.Proofs.YtdihcdphgiaepaaGreat
open Go.RowKit
def i64 (n : Int) : Prop := -9223372036854775808 ≤ n ∧ n ≤ 9223372036854775807
instance (n : Int) : Decidable (i64 n) := by unfold i64; infer_instance
structure Kp (F : Nat → Prop) (w w' : World) : Prop where
 os : w'.os = w.os
 tape : w'.tape = w.tape
 output : w'.output = w.output
 size : w.heap.size ≤ w'.heap.size
 block : ∀ k, k < w.heap.size → ¬ F k → w'.heap[k]? = w.heap[k]?
theorem Kp.refl (F : Nat → Prop) (w : World) : Kp F w w := ⟨rfl, rfl, rfl, Nat.le_refl _, fun _ _ _ => rfl⟩
theorem Kp.of_below {F : Nat → Prop} {w w' : World} (h : Below w.heap.size w w') : Kp F w w' := ⟨h.os, h.tape, h.output, h.size, fun k hk _ => h.block k hk⟩
theorem Kp.then {F F' : Nat → Prop} {a b c : World} (h : Kp F a b) (k : Kp F' b c) (hf : ∀ i, i < a.heap.size → F' i → F i) : Kp F a c :=
 ⟨k.os.trans h.os, k.tape.trans h.tape, k.output.trans h.output, Nat.le_trans h.size k.size, fun i h1 h2 => (k.block i (Nat.lt_of_lt_of_le h1 h.size) (fun x => h2 (hf i h1 x))).trans (h.block i h1 h2)⟩
theorem Kp.ext {F : Nat → Prop} {a b c : World} (h : Kp F a b) (k : Below b.heap.size b c) : Kp F a c := h.then (Kp.of_below (F := F) k) (fun _ _ h => h)
theorem Kp.mono {F F' : Nat → Prop} {a b : World} (h : Kp F a b) (hf : ∀ i, F i → F' i) : Kp F' a b :=
 ⟨h.os, h.tape, h.output, h.size, fun k h1 h2 => h.block k h1 (fun x => h2 (hf k x))⟩
theorem Kp.below {F : Nat → Prop} {a b : World} (h : Kp F a b) (B : Nat) (hB : B ≤ a.heap.size) (hF : ∀ k, F k → B ≤ k) : Below B a b :=
 ⟨h.os, h.tape, h.output, h.size, fun k hk => h.block k (by omega) (fun x => by have := hF k x; omega)⟩
theorem Kp.set {F : Nat → Prop} {a b : World} (h : Kp F a b) {p : Addr} (hp : p.block < a.heap.size → F p.block) (v : Value) : Kp F a (b.setCell p v) :=
 ⟨h.os, h.tape, h.output, by simpa [World.setCell] using h.size, fun k hk hF => by
  rw [← h.block k hk hF];have : p.block ≠ k := fun e => hF (e ▸ hp (e ▸ hk));simp [World.setCell, Array.getElem?_modify, this]⟩
theorem Kp.drewN {F : Nat → Prop} {a b : World} (h : Kp F a b) (n : Nat) : Kp F a (b.drewN n) := ⟨h.os, h.tape, h.output, h.size, h.block⟩
theorem Blk.kp {F : Nat → Prop} {w w' : World} {g : Nat} {e : TypeId} {xs : List Value} (h : Blk w g e xs) (k : Kp F w w') (hF : ¬ F g) : Blk w' g e xs := (k.block g h.lt hF).trans h
def Off (F : Nat → Prop) (v : Value) : Prop := ∀ k, v.ownBlock = some k → ¬ F k
theorem Row.kp {F : Nat → Prop} {w w' : World} {v : Value} {xs : List Value} (h : Row w v xs) (k : Kp F w w') (hF : Off F v) : Row w' v xs := by
 obtain ⟨a, cap, rfl, h1, h2, h0, h3⟩ := h;refine ⟨a, cap, rfl, h1, h2, h0, ?_⟩;rcases h3 with h3 | ⟨b, off, rfl, hc⟩
 ·
  exact .inl h3
 ·
  refine .inr ⟨b, off, rfl, fun i hi => ?_⟩;have := hc i hi;have hlt : b < w.heap.size := by
   rw [List.getElem?_eq_getElem hi] at this;exact lt_of_cell this
  rw [← this];exact World.cell?_of_block (a := ⟨b, off + i, none⟩) (k.block b hlt (hF b rfl))
def NwV (B : Nat) (v : Value) : Prop := ∀ k, v.ownBlock = some k → B ≤ k
theorem NwV.mono {B B' : Nat} {v : Value} (h : NwV B v) (hb : B' ≤ B) : NwV B' v := fun k hk => Nat.le_trans hb (h k hk)
theorem NwV.nil (B n c : Nat) : NwV B (.slice none n c) := fun _ h => by cases h
theorem NwV.mk (B g o n c : Nat) (h : B ≤ g) : NwV B (.slice (some ⟨g, o, none⟩) n c) := fun k hk => by
 simp only [Value.ownBlock, Option.some.injEq] at hk; omega
def In (lo hi k : Nat) : Prop := lo ≤ k ∧ k < hi
theorem NwV.off {B lo hi : Nat} {v : Value} (h : NwV B v) (hb : hi ≤ B) : Off (In lo hi) v := fun k hk hi' => by
 have := h k hk;have := hi'.2;omega
theorem Row.cut {w : World} {b off n cap : Nat} {xs : List Value} (h : Row w (.slice (some ⟨b, off, none⟩) n cap) xs) (f : Nat) (hf : f ≤ n) : Row w (.slice (if cap = f then some ⟨b, off, none⟩ else some ⟨b, off + f, none⟩) (n - f) (cap - f)) (xs.drop f) := by
 obtain ⟨a', cap', e, h1, h2, h3, h4⟩ := h;simp only [Value.slice.injEq] at e;obtain ⟨rfl, rfl, rfl⟩ := e;have hl : (xs.drop f).length = xs.length - f := by simp
 refine ⟨_, cap - f, by rw [hl], by omega, by omega, (fun h => by split at h <;> cases h), ?_⟩;by_cases hcf : cap = f
 ·
  exact .inl (List.eq_nil_of_length_eq_zero (by omega))
 ·
  rcases h4 with rfl | ⟨b', off', e', hc⟩
  ·
   exact .inl (by simp)
  ·
   simp only [Option.some.injEq, Addr.mk.injEq] at e';obtain ⟨rfl, rfl, -⟩ := e';refine .inr ⟨b, off + f, by rw [if_neg hcf], fun i hi => ?_⟩;rw [Nat.add_assoc, hc (f + i) (by omega)];simp
def Hd (w : World) (g : Nat) (e : TypeId) (c : Nat) (xs : List Value) : Prop := ∃ cur, Blk w g e cur ∧ xs.length ≤ c ∧ c ≤ cur.length ∧ c ≤ maxLen ∧ cur.take xs.length = xs
theorem Hd.row {w : World} {g c : Nat} {e : TypeId} {xs : List Value} (h : Hd w g e c xs) {n : Nat} (hn : xs.length = n) : Row w (.slice (some ⟨g, 0, none⟩) n c) xs := by
 subst hn;obtain ⟨cur, hb, h1, h2, h3, h4⟩ := h;refine ⟨_, c, rfl, h1, h3, (fun h => by cases h), .inr ⟨g, 0, rfl, fun i hi => ?_⟩⟩;rw [Nat.zero_add, hb.cell, ← h4, List.getElem?_take, if_pos hi]
theorem Hd.lt {w : World} {g c : Nat} {e : TypeId} {xs : List Value} (h : Hd w g e c xs) : g < w.heap.size := by
 obtain ⟨cur, hb, -⟩ := h; exact hb.lt
theorem Hd.kp {F : Nat → Prop} {w w' : World} {g c : Nat} {e : TypeId} {xs : List Value} (h : Hd w g e c xs) (k : Kp F w w') (hF : ¬ F g) : Hd w' g e c xs := by
 obtain ⟨cur, hb, r⟩ := h; exact ⟨cur, hb.kp k hF, r⟩
theorem Hd.of_owns {w : World} {base : Nat} {e : TypeId} {v : Value} {n : Nat} {xs : List Value} (h : w.ownsRow base e 1 v n xs) (h0 : 0 < n) : ∃ g c, v = .slice (some ⟨g, 0, none⟩) n c ∧ base ≤ g ∧ Hd w g e c xs := by
 have hl : xs.length = n := by have := h.1; omega
 rcases h.2 with ⟨rfl, rfl⟩ | ⟨g, cap, cur, rfl, hb, hg, hle, hm, hs, ht⟩
 ·
  omega
 ·
  refine ⟨g, cap, rfl, hb, cur.toList, by unfold Blk; simpa using hg, by omega, by simp; omega, hm, ?_⟩;rw [hl, ← ht];simp
theorem Hd.new (w : World) (k : Nat) (z : Value) (e : TypeId) (hk : k ≤ 65536) : Hd (w.alloc (.cells (zer k z) e)) w.heap.size e k (List.replicate k z) :=
 ⟨_, zer_blk w k z e, by simp, by simp, by unfold maxLen; omega, by simp⟩
theorem Blk.ne {w : World} {g g' : Nat} {e e' : TypeId} {xs ys : List Value} (h : Blk w g e xs) (h' : Blk w g' e' ys) (he : e ≠ e') : g ≠ g' := fun x => by
 subst x;unfold Blk at h h';rw [h] at h';simp at h';exact he h'.2
theorem Hd.ne {w : World} {g g' c c' : Nat} {e e' : TypeId} {xs ys : List Value} (h : Hd w g e c xs) (h' : Hd w g' e' c' ys) (he : e ≠ e') : g ≠ g' := by
 obtain ⟨a, h, -⟩ := h;obtain ⟨b, h', -⟩ := h';exact h.ne h' he
theorem Hd.neB {w : World} {g g' c' : Nat} {e e' : TypeId} {xs ys : List Value} (h : Blk w g e xs) (h' : Hd w g' e' c' ys) (he : e ≠ e') : g ≠ g' := by
 obtain ⟨b, h', -⟩ := h';exact h.ne h' he
theorem splice_len {α : Type} (L : List α) (o : Nat) (ys : List α) (h : o + ys.length ≤ L.length) : (splice L o ys).length = L.length := length_splice L o ys h
theorem splice_take {α : Type} (cur : List α) (n o : Nat) (ys : List α) (h : o + ys.length ≤ n) (hn : n ≤ cur.length) : (splice cur o ys).take n = splice (cur.take n) o ys := by
 unfold splice;rw [List.take_append, List.take_append, List.take_take, List.length_take, List.take_of_length_le (l := ys) (by omega), List.take_take, List.drop_take, Nat.min_eq_right (by omega), Nat.min_eq_left (by omega), Nat.min_eq_left (by omega), Nat.sub_sub]
theorem splice_map {α β : Type} (f : α → β) (L : List α) (o : Nat) (ys : List α) : (splice L o ys).map f = splice (L.map f) o (ys.map f) := by simp [splice]
theorem splice_nil {α : Type} (L : List α) (o : Nat) : splice L o [] = L := by simp [splice]
theorem Hd.spl {w : World} {g c : Nat} {e : TypeId} {xs cur ys : List Value} {o : Nat} (hb : Blk w g e (splice cur o ys)) (h1 : xs.length ≤ c) (h2 : c ≤ cur.length) (h3 : c ≤ maxLen) (h4 : cur.take xs.length = xs) (ho : o + ys.length ≤ xs.length) : Hd w g e c (splice xs o ys) := by
 have hl : (splice xs o ys).length = xs.length := splice_len _ _ _ ho;refine ⟨_, hb, by rw [hl]; exact h1, by rw [splice_len _ _ _ (by omega)]; exact h2, h3, ?_⟩;rw [hl, splice_take _ _ _ _ ho (by omega), h4]
theorem copy_runK {P : Program} {w : World} (dT sT ty elem : TypeId) (hu : P.underlying dT = some (.slice elem)) (hsz : (P.info? elem).map (·.size) = some 1)
  (g off dLen dCap : Nat) (a : Option Addr) (sLen sCap : Nat) (cur : List Value) (t : TypeId) (hg : Blk w g t cur) (src : List Value) (hs : Row w (.slice a sLen sCap) src) (h1 : ∀ v ∈ src, v.oneCell' = true)
  (hfit : off + dLen ≤ cur.length) :
  ∃ w', (Builtin.copy_ #[dT, sT] ty #[.slice (some ⟨g, off, none⟩) dLen dCap, .slice a sLen sCap]).run P w = .ok (goInt ((min src.length dLen : Nat) : Int)) w' ∧ Blk w' g t (splice cur off (src.take dLen)) ∧ Kp (· = g) w w' := by
 obtain ⟨a', cap', e, h2, h3, -, h4⟩ := hs;simp only [Value.slice.injEq] at e;obtain ⟨rfl, rfl, rfl⟩ := e;have hlen : (src.take dLen).length = min src.length dLen := by rw [List.length_take, Nat.min_comm]
 by_cases h0 : min src.length dLen = 0
 ·
  refine ⟨w, ?_, ?_, Kp.refl _ _⟩
  ·
   rw [h0];exact run_copy_none (P := P) w dT sT ty elem _ a dLen dCap src.length sCap hu hsz h0
  ·
   have : src.take dLen = [] := List.eq_nil_of_length_eq_zero (by omega);rw [this]
   simpa [splice] using hg
 ·
  rcases h4 with h4 | ⟨b, o, rfl, hc⟩
  ·
   subst h4; simp at h0
  ·
   have hrun := run_copy_row (P := P) w dT sT ty elem g off dLen dCap ⟨b, o, none⟩ src.length sCap cur.toArray t (src.take dLen) hu hsz hg hlen (fun j v hj => by
    have hj' : j < (src.take dLen).length := by
     rcases Nat.lt_or_ge j (src.take dLen).length with h | h
     ·
      exact h
     ·
      rw [List.getElem?_eq_none h] at hj; cases hj
    have hadd : (⟨b, o, none⟩ : Addr).add j = ⟨b, o + j, none⟩ := by unfold Addr.add; split <;> simp_all
    rw [hadd, hc j (by omega)];rw [List.getElem?_take] at hj
    split at hj
    ·
     exact hj
    ·
     cases hj) (by simp; omega) (fun v hv => h1 v (List.mem_of_mem_take hv))
   rw [hlen] at hrun;refine ⟨_, hrun, ?_, ⟨rfl, rfl, rfl, by simp [World.setRow], fun k _ hk => setRow_other w g k _ hk⟩⟩;show _ = _;rw [setRow_heap w g _ _ t _ hg];simp [splice, hlen]
structure Cs where
 b0 : List Bool
 b1 : List Bool
 v0 : List UInt16
 v1 : List UInt16
def Cs.zero (n : Nat) : Cs := ⟨List.replicate n false, List.replicate n false, List.replicate n 0, List.replicate n 0⟩
def rowB (s : Cs) (sp : Int) : List Bool := if sp = 0 then s.b0 else s.b1
def rowV (s : Cs) (sp : Int) : List UInt16 := if sp = 2 then s.v0 else s.v1
def putRB (s : Cs) (sp : Int) (l : List Bool) : Cs := if sp = 0 then { s with b0 := l } else { s with b1 := l }
def putRV (s : Cs) (sp : Int) (l : List UInt16) : Cs := if sp = 2 then { s with v0 := l } else { s with v1 := l }
def fits (n : Nat) (a m : Int) : Bool := decide (0 ≤ a ∧ 0 ≤ m ∧ a + m ≤ n)
theorem fits_t {n : Nat} {a m : Int} (h : 0 ≤ a ∧ 0 ≤ m ∧ a + m ≤ n) : fits n a m = true := decide_eq_true h
theorem fits_f {n : Nat} {a m : Int} (h : ¬ (0 ≤ a ∧ 0 ≤ m ∧ a + m ≤ n)) : fits n a m = false := decide_eq_false h
theorem fits_iff {n : Nat} {a m : Int} : fits n a m = true ↔ 0 ≤ a ∧ 0 ≤ m ∧ a + m ≤ n := by simp [fits]
def isB (sp : Int) : Bool := decide (sp = 0 ∨ sp = 1)
def isV (sp : Int) : Bool := decide (sp = 2 ∨ sp = 3)
def okB (n : Nat) (sp a m : Int) : Bool := isB sp && fits n a m
def okV (n : Nat) (sp a m : Int) : Bool := isV sp && fits n a m
def sub {α : Type} (l : List α) (a m : Int) : List α := (l.drop a.toNat).take m.toNat
def getB (n : Nat) (s : Cs) (sp a m : Int) : List Bool := if okB n sp a m = true then sub (rowB s sp) a m else []
def getV (n : Nat) (s : Cs) (sp a m : Int) : List UInt16 := if okV n sp a m = true then sub (rowV s sp) a m else []
def setB (n : Nat) (s : Cs) (sp a : Int) (l : List Bool) : Cs := if okB n sp a l.length = true then putRB s sp (splice (rowB s sp) a.toNat l) else s
def setV (n : Nat) (s : Cs) (sp a : Int) (l : List UInt16) : Cs := if okV n sp a l.length = true then putRV s sp (splice (rowV s sp) a.toNat l) else s
abbrev slG (g n c : Nat) : Value := .slice (some ⟨g, 0, none⟩) n c
abbrev ptrG (g : Nat) : Value := .pointer (some ⟨g, 0, none⟩)
structure Sto (t : TypeId) (pre : List Value) (w : World) (lo hi g n : Nat) (s : Cs) : Prop where
 lens : s.b0.length = n ∧ s.b1.length = n ∧ s.v0.length = n ∧ s.v1.length = n
 pos : 1 ≤ n ∧ n ≤ 65536
 top : hi ≤ w.heap.size
 typ : t ≠ 4 ∧ t ≠ 31
 me : In lo hi g
 rows : ∃ g0 g1 g2 g3 c0 c1 c2 c3, Blk w g t (pre ++ [slG g0 n c0, slG g1 n c1, slG g2 n c2, slG g3 n c3]) ∧ (In lo hi g0 ∧ In lo hi g1 ∧ In lo hi g2 ∧ In lo hi g3) ∧ (g0 ≠ g1 ∧ g2 ≠ g3) ∧
  Hd w g0 4 c0 (s.b0.map Value.bool) ∧ Hd w g1 4 c1 (s.b1.map Value.bool) ∧ Hd w g2 31 c2 (s.v0.map wV) ∧ Hd w g3 31 c3 (s.v1.map wV)
section
variable {t : TypeId} {pre : List Value} {w w' : World} {lo hi g n : Nat} {s : Cs}
theorem Sto.kp {F : Nat → Prop} (h : Sto t pre w lo hi g n s) (k : Kp F w w') (hF : ∀ i, In lo hi i → ¬ F i) : Sto t pre w' lo hi g n s := by
 obtain ⟨h1, h2, h3, h4, h5, g0, g1, g2, g3, c0, c1, c2, c3, hb, ⟨i0, i1, i2, i3⟩, hne, r0, r1, r2, r3⟩ := h;exact ⟨h1, h2, Nat.le_trans h3 k.size, h4, h5, g0, g1, g2, g3, c0, c1, c2, c3, hb.kp k (hF _ h5), ⟨i0, i1, i2, i3⟩, hne, r0.kp k (hF _ i0), r1.kp k (hF _ i1), r2.kp k (hF _ i2), r3.kp k (hF _ i3)⟩
theorem Sto.ext (h : Sto t pre w lo hi g n s) (k : Below w.heap.size w w') : Sto t pre w' lo hi g n s := h.kp (F := fun _ => False) (Kp.of_below k) (fun _ _ h => h)
theorem Sto.drewN (h : Sto t pre w lo hi g n s) (k : Nat) : Sto t pre (w.drewN k) lo hi g n s := h.ext (below_drewn0 _ _ _)
theorem Sto.atB (h : Sto t pre w lo hi g n s) {sp : Int} (hs : isB sp = true) : ∃ gr c xs, Blk w g t xs ∧ xs[pre.length + sp.toNat]? = some (slG gr n c) ∧ In lo hi gr ∧ Hd w gr 4 c ((rowB s sp).map Value.bool) ∧ (rowB s sp).length = n ∧ n ≤ c ∧
  ∀ w' l, l.length = n → Kp (· = gr) w w' → Hd w' gr 4 c (l.map Value.bool) → Sto t pre w' lo hi g n (putRB s sp l) ∧ Kp (In lo hi) w w' := by
 obtain ⟨⟨l0, l1, l2, l3⟩, h2, h3, ⟨t0, t1⟩, h5, g0, g1, g2, g3, c0, c1, c2, c3, hb, ⟨i0, i1, i2, i3⟩, ⟨n0, n1⟩, r0, r1, r2, r3⟩ := h;have a0 := Hd.neB hb r0 t0;have a1 := Hd.neB hb r1 t0;have d02 := r0.ne r2 (by decide);have d03 := r0.ne r3 (by decide);have d12 := r1.ne r2 (by decide);have d13 := r1.ne r3 (by decide);have hsp : sp = 0 ∨ sp = 1 := by simpa [isB] using hs
 rcases hsp with rfl | rfl
 ·
  refine ⟨g0, c0, _, hb, by simp, i0, r0, l0, ?_, fun w' l hl k hh => ⟨⟨⟨hl, l1, l2, l3⟩, h2, Nat.le_trans h3 k.size, ⟨t0, t1⟩, h5, g0, g1, g2, g3, c0, c1, c2, c3, hb.kp k a0, ⟨i0, i1, i2, i3⟩, ⟨n0, n1⟩, hh, r1.kp k (Ne.symm n0), r2.kp k (Ne.symm d02), r3.kp k (Ne.symm d03)⟩, k.mono (fun i e => by subst e; exact i0)⟩⟩;obtain ⟨_, _, q, _⟩ := r0
  simpa [l0] using q
 ·
  refine ⟨g1, c1, _, hb, by simp, i1, r1, l1, ?_, fun w' l hl k hh => ⟨⟨⟨l0, hl, l2, l3⟩, h2, Nat.le_trans h3 k.size, ⟨t0, t1⟩, h5, g0, g1, g2, g3, c0, c1, c2, c3, hb.kp k a1, ⟨i0, i1, i2, i3⟩, ⟨n0, n1⟩, r0.kp k n0, hh, r2.kp k (Ne.symm d12), r3.kp k (Ne.symm d13)⟩, k.mono (fun i e => by subst e; exact i1)⟩⟩;obtain ⟨_, _, q, _⟩ := r1
  simpa [l1] using q
theorem Sto.atV (h : Sto t pre w lo hi g n s) {sp : Int} (hs : isV sp = true) : ∃ gr c xs, Blk w g t xs ∧ xs[pre.length + sp.toNat]? = some (slG gr n c) ∧ In lo hi gr ∧ Hd w gr 31 c ((rowV s sp).map wV) ∧ (rowV s sp).length = n ∧ n ≤ c ∧
  ∀ w' l, l.length = n → Kp (· = gr) w w' → Hd w' gr 31 c (l.map wV) → Sto t pre w' lo hi g n (putRV s sp l) ∧ Kp (In lo hi) w w' := by
 obtain ⟨⟨l0, l1, l2, l3⟩, h2, h3, ⟨t0, t1⟩, h5, g0, g1, g2, g3, c0, c1, c2, c3, hb, ⟨i0, i1, i2, i3⟩, ⟨n0, n1⟩, r0, r1, r2, r3⟩ := h;have a2 := Hd.neB hb r2 t1;have a3 := Hd.neB hb r3 t1;have d02 := r0.ne r2 (by decide);have d03 := r0.ne r3 (by decide);have d12 := r1.ne r2 (by decide);have d13 := r1.ne r3 (by decide);have hsp : sp = 2 ∨ sp = 3 := by simpa [isV] using hs
 rcases hsp with rfl | rfl
 ·
  refine ⟨g2, c2, _, hb, by simp, i2, r2, l2, ?_, fun w' l hl k hh => ⟨⟨⟨l0, l1, hl, l3⟩, h2, Nat.le_trans h3 k.size, ⟨t0, t1⟩, h5, g0, g1, g2, g3, c0, c1, c2, c3, hb.kp k a2, ⟨i0, i1, i2, i3⟩, ⟨n0, n1⟩, r0.kp k d02, r1.kp k d12, hh, r3.kp k (Ne.symm n1)⟩, k.mono (fun i e => by subst e; exact i2)⟩⟩;obtain ⟨_, _, q, _⟩ := r2
  simpa [l2] using q
 ·
  refine ⟨g3, c3, _, hb, by simp, i3, r3, l3, ?_, fun w' l hl k hh => ⟨⟨⟨l0, l1, l2, hl⟩, h2, Nat.le_trans h3 k.size, ⟨t0, t1⟩, h5, g0, g1, g2, g3, c0, c1, c2, c3, hb.kp k a3, ⟨i0, i1, i2, i3⟩, ⟨n0, n1⟩, r0.kp k d03, r1.kp k d13, r2.kp k n1, hh⟩, k.mono (fun i e => by subst e; exact i3)⟩⟩;obtain ⟨_, _, q, _⟩ := r3
  simpa [l3] using q
end
theorem info_w16 : (Tryz.prog.info? 31).map (fun i => (i.zero, i.size, i.bytes)) = some (some (.int .u16 0), 1, 2) := by kernel_rfl
theorem one_words (l : List UInt16) : ∀ v ∈ l.map wV, v.oneCell' = true := by
 intro u hu; simp at hu; obtain ⟨x, _, rfl⟩ := hu; rfl
theorem one_bools (l : List Bool) : ∀ v ∈ l.map Value.bool, v.oneCell' = true := by
 intro u hu; simp at hu; rcases hu with ⟨_, rfl⟩ | ⟨_, rfl⟩ <;> rfl
def thB (n : Nat) (a m : Int) : Bool := (n != 0) && fits n a m
set_option maxHeartbeats 400000 in
theorem there_any (n : Nat) (a m : Int) (w : World) (hn : n ≤ 65536) (ha : i64 a) :
  Calls Tryz.prog 106 #[.int .i64 n, .int .i64 a, .int .i64 m] w fun e w' => e = .returned (.bool (thB n a m)) ∧ w = w' := by
 unfold i64 at ha;by_cases h0 : n = 0
 ·
  subst h0;have e : thB 0 a m = false := by simp [thB]
  rw [e];go_enter Tryz.func106, Tryz.ntmps106;go_wp2;go_ret;exact ⟨rfl, rfl⟩
 ·
  have hb : ((n : Int) == 0) = false := by simp; omega
  have hn0 : (n != 0) = true := by simpa using h0
  by_cases h1 : 0 ≤ a
  ·
   by_cases h2 : 0 ≤ m
   ·
    by_cases h3 : m ≤ (n : Int) - a
    ·
     have e : thB n a m = true := by rw [thB, hn0, fits_t (by omega)]; rfl
     rw [e];clear e hn0 h0;go_enter Tryz.func106, Tryz.ntmps106;go_wp2;go_ret;exact ⟨ret_bool (by first | (simp; done) | (simp; omega)), rfl⟩
    ·
     have e : thB n a m = false := by rw [thB, fits_f (by omega), Bool.and_false]
     rw [e];clear e hn0 h0;go_enter Tryz.func106, Tryz.ntmps106;go_wp2;go_ret;exact ⟨ret_bool (by first | (simp; done) | (simp; omega)), rfl⟩
   ·
    have e : thB n a m = false := by rw [thB, fits_f (by omega), Bool.and_false]
    rw [e];clear e hn0 h0;go_enter Tryz.func106, Tryz.ntmps106;go_wp2;go_ret;exact ⟨rfl, rfl⟩
  ·
   have e : thB n a m = false := by rw [thB, fits_f (by omega), Bool.and_false]
   rw [e];clear e hn0 h0;go_enter Tryz.func106, Tryz.ntmps106;go_wp2;go_ret;exact ⟨rfl, rfl⟩
set_option maxHeartbeats 1000000 in
theorem readB_no (a : Option Addr) (n c : Nat) (b m : Int) (w : World) (hn : n ≤ 65536) (hb : i64 b) (h : thB n b m = false) :
  Calls Tryz.prog 104 #[.slice a n c, .int .i64 b, .int .i64 m] w fun e w' => e = .returned (.tuple #[.slice none 0 0, .bool false]) ∧ w = w' := by
 have C := hidden (there_any n b m w hn hb);rw [h] at C;clear h hb;go_enter Tryz.func104, Tryz.ntmps104;go_wp2_with fail
 refine C.out.mono ?_;rintro e w1 ⟨rfl, rfl⟩;go_wp2;go_ret2
 exact ⟨rfl, rfl⟩
set_option maxHeartbeats 1000000 in
theorem readB_yes (g n c : Nat) (xs : List Bool) (b m : Int) (w : World) (hx : Hd w g 4 c (xs.map Value.bool)) (hl : xs.length = n) (hn : n ≤ 65536) (hb : i64 b) (h0 : 0 < n) (h : fits n b m = true) :
  Calls Tryz.prog 104 #[slG g n c, .int .i64 b, .int .i64 m] w fun e w' => ∃ v', e = .returned (.tuple #[v', .bool true]) ∧ Row w' v' ((sub xs b m).map Value.bool) ∧ NwV w.heap.size v' ∧ Below w.heap.size w w' := by
 have C := hidden (there_any n b m w hn hb);have et : thB n b m = true := by rw [thB, h]; simp; omega
 rw [et] at C;obtain ⟨q1, q2, q3⟩ := fits_iff.1 h;obtain ⟨b', rfl⟩ : ∃ b' : Nat, b = (b' : Int) := ⟨b.toNat, by omega⟩;obtain ⟨m', rfl⟩ : ∃ m' : Nat, m = (m' : Int) := ⟨m.toNat, by omega⟩;have R := (hx.row (by simpa using hl)).cut b' (by omega);obtain ⟨-, -, hc, -, hc2, -⟩ := id hx;have hmx := hc2;unfold maxLen at hmx;have hxc : n ≤ c := by obtain ⟨-, -, q, -⟩ := hx; simpa [hl] using q
 have hb0 : Below w.heap.size w (w.alloc (.cells (zer m' (.bool false)) 4)) := (Below.refl _ _).alloc (Nat.le_refl _) _;have hrun1 := mk_zer 29 4 (.bool false) 1 Tryz.underlying29 info_bool rfl (m' : Int) m' rfl (by omega) (by omega) w;have es : sub xs (b' : Int) (m' : Int) = (xs.drop b').take m' := by simp [sub]
 rw [es];have hlen : ((xs.drop b').take m').length = m' := by simp; omega
 obtain ⟨ad, had⟩ : ∃ ad, (if c = b' then some (⟨g, 0, none⟩ : Addr) else some ⟨g, 0 + b', none⟩) = ad := ⟨_, rfl⟩;rw [had] at R;rw [Nat.zero_add] at had;have had2 : (if (c : Int) = (b' : Int) then some (⟨g, 0, none⟩ : Addr) else some ⟨g, b', none⟩) = ad := by rw [← had]; split <;> split <;> first | rfl | omega
 obtain ⟨w1, hrun, hg1, hb1⟩ := copy_run (P := Tryz.prog) hb0 29 29 3 4 Tryz.underlying29 (by kernel_rfl) w.heap.size 0 m' m' ad (n - b') (c - b') _ _ (zer_blk w m' (.bool false) 4) (Nat.le_refl _) _ (R.below hb0) (by rw [← List.map_drop]; exact one_bools _) (by simp);have e2 : splice (List.replicate m' (.bool false)) 0 (((xs.map Value.bool).drop b').take m') = ((xs.drop b').take m').map Value.bool := by
  rw [← List.map_drop, ← List.map_take];unfold splice;simp only [List.take_zero, List.nil_append, List.length_map, hlen, Nat.zero_add];simp
 rw [e2] at hg1;have hr := hg1.row m' (by simp; omega) (by unfold maxLen; omega);simp only [List.length_map, hlen] at hr;have HC : Hid (b' ≤ n ∧ n ≤ c) := ⟨by omega, hxc⟩;clear e2 hg1 et h hx q1 q2 hb es;simp only [List.length_drop, List.length_map, hl] at hrun;go_enter Tryz.func104, Tryz.ntmps104;go_wp2_with fail
 refine C.out.mono ?_;rintro e w1' ⟨rfl, rfl⟩;go_wp2;go_ret2
 exact ⟨_, rfl, hr, NwV.mk _ _ _ _ _ (Nat.le_refl _), hb1⟩
set_option maxHeartbeats 1000000 in
theorem writeB_no (a a2 : Option Addr) (n c k c2 : Nat) (b : Int) (w : World) (hn : n ≤ 65536) (hb : i64 b) (_ : k ≤ c2) (_ : c2 ≤ maxLen) (h : thB n b k = false) :
  Calls Tryz.prog 135 #[.slice a n c, .int .i64 b, .slice a2 k c2] w fun e w' => e = .returned (.bool false) ∧ w = w' := by
 have C := hidden (there_any n b k w hn hb);rw [h] at C;clear h hb;go_enter Tryz.func135, Tryz.ntmps135;go_wp2_with fail
 refine C.out.mono ?_;rintro e w1 ⟨rfl, rfl⟩;go_wp2;go_ret;exact ⟨rfl, rfl⟩
set_option maxHeartbeats 1000000 in
theorem writeB_yes (g n c : Nat) (v : Value) (xs ys : List Bool) (b : Int) (w : World) (hx : Hd w g 4 c (xs.map Value.bool)) (hv : Row w v (ys.map Value.bool)) (hl : xs.length = n) (hn : n ≤ 65536) (hb : i64 b) (h0 : 0 < n) (h : fits n b ys.length = true) :
  Calls Tryz.prog 135 #[slG g n c, .int .i64 b, v] w fun e w' => e = .returned (.bool true) ∧ Hd w' g 4 c ((splice xs b.toNat ys).map Value.bool) ∧ Kp (· = g) w w' := by
 obtain ⟨av, cv, rfl, hv1, hv2, -⟩ := id hv;unfold maxLen at hv2;simp only [List.length_map] at hv hv1 ⊢;have C := hidden (there_any n b ys.length w hn hb);have et : thB n b ys.length = true := by rw [thB, h]; simp; omega
 rw [et] at C;obtain ⟨q1, q2, q3⟩ := fits_iff.1 h;obtain ⟨b', rfl⟩ : ∃ b' : Nat, b = (b' : Int) := ⟨b.toNat, by omega⟩;obtain ⟨cur, hbk, p1, p2, hc2, p4⟩ := id hx;have hmx := hc2;unfold maxLen at hmx;simp only [List.length_map, hl] at p1;obtain ⟨of, hof⟩ : ∃ of, (if c = b' then 0 else b') = of := ⟨_, rfl⟩;have HC : Hid (b' ≤ n ∧ n ≤ c) := ⟨by omega, p1⟩;have had2 : (if (c : Int) = (b' : Int) then some (⟨g, 0, none⟩ : Addr) else some ⟨g, b', none⟩) = some ⟨g, of, none⟩ := by
  rw [← hof];by_cases hcb : c = b'
  ·
   rw [if_pos hcb, if_pos (by omega)]
  ·
   rw [if_neg hcb, if_neg (by omega)]
 have had3 : (if c = b' then some (⟨g, 0, none⟩ : Addr) else some ⟨g, b', none⟩) = some ⟨g, of, none⟩ := by
  rw [← hof]; split <;> rfl
 have hofl : of + (n - b') ≤ cur.length := by
  rw [← hof]; split <;> omega
 obtain ⟨w1, hrun, hg1, hb1⟩ := copy_runK (P := Tryz.prog) (w := w) 29 29 3 4 Tryz.underlying29 (by kernel_rfl) g of (n - b') (c - b') av ys.length cv _ _ hbk (ys.map Value.bool) hv (one_bools _) hofl;have K1 : Hd w1 g 4 c ((splice xs b' ys).map Value.bool) := by
  have et' : (ys.map Value.bool).take (n - b') = ys.map Value.bool := List.take_of_length_le (by simp; omega);rw [et'] at hg1;have h5 : (xs.map Value.bool).length = n := by simpa using hl
  rw [h5] at p4;rw [splice_map];by_cases hcb : c = b'
  ·
   have hy0 : ys = [] := List.eq_nil_of_length_eq_zero (by omega);subst hy0;simp only [List.map_nil, splice_nil] at hg1 ⊢;exact ⟨cur, hg1, by omega, p2, hc2, by rw [h5]; exact p4⟩
  ·
   rw [if_neg hcb] at hof;subst hof;exact Hd.spl hg1 (by omega) p2 hc2 (by rw [h5]; exact p4) (by simp; omega)
 simp only [List.length_map] at hrun;clear hg1 hx hbk p4 et h q1 q2 hv hb;go_enter Tryz.func135, Tryz.ntmps135;go_wp2_with fail
 refine C.out.mono ?_;rintro e w1' ⟨rfl, rfl⟩;go_wp2;go_ret;exact ⟨rfl, by simpa using K1, hb1⟩
set_option maxHeartbeats 1000000 in
theorem readV_no (a : Option Addr) (n c : Nat) (b m : Int) (w : World) (hn : n ≤ 65536) (hb : i64 b) (h : thB n b m = false) :
  Calls Tryz.prog 63 #[.slice a n c, .int .i64 b, .int .i64 m] w fun e w' => e = .returned (.tuple #[.slice none 0 0, .bool false]) ∧ w = w' := by
 have C := hidden (there_any n b m w hn hb);rw [h] at C;clear h hb;go_enter Tryz.func63, Tryz.ntmps63;go_wp2_with fail
 refine C.out.mono ?_;rintro e w1 ⟨rfl, rfl⟩;go_wp2;go_ret2
 exact ⟨rfl, rfl⟩
set_option maxHeartbeats 1000000 in
theorem readV_yes (g n c : Nat) (xs : List UInt16) (b m : Int) (w : World) (hx : Hd w g 31 c (xs.map wV)) (hl : xs.length = n) (hn : n ≤ 65536) (hb : i64 b) (h0 : 0 < n) (h : fits n b m = true) :
  Calls Tryz.prog 63 #[slG g n c, .int .i64 b, .int .i64 m] w fun e w' => ∃ v', e = .returned (.tuple #[v', .bool true]) ∧ Row w' v' ((sub xs b m).map wV) ∧ NwV w.heap.size v' ∧ Below w.heap.size w w' := by
 have C := hidden (there_any n b m w hn hb);have et : thB n b m = true := by rw [thB, h]; simp; omega
 rw [et] at C;obtain ⟨q1, q2, q3⟩ := fits_iff.1 h;obtain ⟨b', rfl⟩ : ∃ b' : Nat, b = (b' : Int) := ⟨b.toNat, by omega⟩;obtain ⟨m', rfl⟩ : ∃ m' : Nat, m = (m' : Int) := ⟨m.toNat, by omega⟩;have R := (hx.row (by simpa using hl)).cut b' (by omega);obtain ⟨-, -, hc, -, hc2, -⟩ := id hx;have hmx := hc2;unfold maxLen at hmx;have hxc : n ≤ c := by obtain ⟨-, -, q, -⟩ := hx; simpa [hl] using q
 have hb0 : Below w.heap.size w (w.alloc (.cells (zer m' (.int .u16 0)) 31)) := (Below.refl _ _).alloc (Nat.le_refl _) _;have hrun1 := mk_zer 30 31 (.int .u16 0) 2 Tryz.underlying30 info_w16 rfl (m' : Int) m' rfl (by omega) (by omega) w;have es : sub xs (b' : Int) (m' : Int) = (xs.drop b').take m' := by simp [sub]
 rw [es];have hlen : ((xs.drop b').take m').length = m' := by simp; omega
 obtain ⟨ad, had⟩ : ∃ ad, (if c = b' then some (⟨g, 0, none⟩ : Addr) else some ⟨g, 0 + b', none⟩) = ad := ⟨_, rfl⟩;rw [had] at R;rw [Nat.zero_add] at had;have had2 : (if (c : Int) = (b' : Int) then some (⟨g, 0, none⟩ : Addr) else some ⟨g, b', none⟩) = ad := by rw [← had]; split <;> split <;> first | rfl | omega
 obtain ⟨w1, hrun, hg1, hb1⟩ := copy_run (P := Tryz.prog) hb0 30 30 3 31 Tryz.underlying30 (by kernel_rfl) w.heap.size 0 m' m' ad (n - b') (c - b') _ _ (zer_blk w m' (.int .u16 0) 31) (Nat.le_refl _) _ (R.below hb0) (by rw [← List.map_drop]; exact one_words _) (by simp);have e2 : splice (List.replicate m' (.int .u16 0)) 0 (((xs.map wV).drop b').take m') = ((xs.drop b').take m').map wV := by
  rw [← List.map_drop, ← List.map_take];unfold splice;simp only [List.take_zero, List.nil_append, List.length_map, hlen, Nat.zero_add];simp
 rw [e2] at hg1;have hr := hg1.row m' (by simp; omega) (by unfold maxLen; omega);simp only [List.length_map, hlen] at hr;have HC : Hid (b' ≤ n ∧ n ≤ c) := ⟨by omega, hxc⟩;clear e2 hg1 et h hx q1 q2 hb es;simp only [List.length_drop, List.length_map, hl] at hrun;go_enter Tryz.func63, Tryz.ntmps63;go_wp2_with fail
 refine C.out.mono ?_;rintro e w1' ⟨rfl, rfl⟩;go_wp2;go_ret2
 exact ⟨_, rfl, hr, NwV.mk _ _ _ _ _ (Nat.le_refl _), hb1⟩
set_option maxHeartbeats 1000000 in
theorem writeV_no (a a2 : Option Addr) (n c k c2 : Nat) (b : Int) (w : World) (hn : n ≤ 65536) (hb : i64 b) (_ : k ≤ c2) (_ : c2 ≤ maxLen) (h : thB n b k = false) :
  Calls Tryz.prog 136 #[.slice a n c, .int .i64 b, .slice a2 k c2] w fun e w' => e = .returned (.bool false) ∧ w = w' := by
 have C := hidden (there_any n b k w hn hb);rw [h] at C;clear h hb;go_enter Tryz.func136, Tryz.ntmps136;go_wp2_with fail
 refine C.out.mono ?_;rintro e w1 ⟨rfl, rfl⟩;go_wp2;go_ret;exact ⟨rfl, rfl⟩
set_option maxHeartbeats 1000000 in
theorem writeV_yes (g n c : Nat) (v : Value) (xs ys : List UInt16) (b : Int) (w : World) (hx : Hd w g 31 c (xs.map wV)) (hv : Row w v (ys.map wV)) (hl : xs.length = n) (hn : n ≤ 65536) (hb : i64 b) (h0 : 0 < n) (h : fits n b ys.length = true) :
  Calls Tryz.prog 136 #[slG g n c, .int .i64 b, v] w fun e w' => e = .returned (.bool true) ∧ Hd w' g 31 c ((splice xs b.toNat ys).map wV) ∧ Kp (· = g) w w' := by
 obtain ⟨av, cv, rfl, hv1, hv2, -⟩ := id hv;unfold maxLen at hv2;simp only [List.length_map] at hv hv1 ⊢;have C := hidden (there_any n b ys.length w hn hb);have et : thB n b ys.length = true := by rw [thB, h]; simp; omega
 rw [et] at C;obtain ⟨q1, q2, q3⟩ := fits_iff.1 h;obtain ⟨b', rfl⟩ : ∃ b' : Nat, b = (b' : Int) := ⟨b.toNat, by omega⟩;obtain ⟨cur, hbk, p1, p2, hc2, p4⟩ := id hx;have hmx := hc2;unfold maxLen at hmx;simp only [List.length_map, hl] at p1;obtain ⟨of, hof⟩ : ∃ of, (if c = b' then 0 else b') = of := ⟨_, rfl⟩;have HC : Hid (b' ≤ n ∧ n ≤ c) := ⟨by omega, p1⟩;have had2 : (if (c : Int) = (b' : Int) then some (⟨g, 0, none⟩ : Addr) else some ⟨g, b', none⟩) = some ⟨g, of, none⟩ := by
  rw [← hof];by_cases hcb : c = b'
  ·
   rw [if_pos hcb, if_pos (by omega)]
  ·
   rw [if_neg hcb, if_neg (by omega)]
 have had3 : (if c = b' then some (⟨g, 0, none⟩ : Addr) else some ⟨g, b', none⟩) = some ⟨g, of, none⟩ := by
  rw [← hof]; split <;> rfl
 have hofl : of + (n - b') ≤ cur.length := by
  rw [← hof]; split <;> omega
 obtain ⟨w1, hrun, hg1, hb1⟩ := copy_runK (P := Tryz.prog) (w := w) 30 30 3 31 Tryz.underlying30 (by kernel_rfl) g of (n - b') (c - b') av ys.length cv _ _ hbk (ys.map wV) hv (one_words _) hofl;have K1 : Hd w1 g 31 c ((splice xs b' ys).map wV) := by
  have et' : (ys.map wV).take (n - b') = ys.map wV := List.take_of_length_le (by simp; omega);rw [et'] at hg1;have h5 : (xs.map wV).length = n := by simpa using hl
  rw [h5] at p4;rw [splice_map];by_cases hcb : c = b'
  ·
   have hy0 : ys = [] := List.eq_nil_of_length_eq_zero (by omega);subst hy0;simp only [List.map_nil, splice_nil] at hg1 ⊢;exact ⟨cur, hg1, by omega, p2, hc2, by rw [h5]; exact p4⟩
  ·
   rw [if_neg hcb] at hof;subst hof;exact Hd.spl hg1 (by omega) p2 hc2 (by rw [h5]; exact p4) (by simp; omega)
 simp only [List.length_map] at hrun;clear hg1 hx hbk p4 et h q1 q2 hv hb;go_enter Tryz.func136, Tryz.ntmps136;go_wp2_with fail
 refine C.out.mono ?_;rintro e w1' ⟨rfl, rfl⟩;go_wp2;go_ret;exact ⟨rfl, by simpa using K1, hb1⟩
end Go.Proofs.YtdihcdphgiaepaaGreat
