/- Joined texts. -/
import Derived.Test.YtdihcdphgiaepaaGreatZZ23
import Derived.Test.YtdihcdphgiaepaaGreatZZ24
import Derived.Maps.AppendAt
set_option maxHeartbeats 1000000
namespace Go.Proofs.YtdihcdphgiaepaaGreat
open Go.RowKit
theorem nw_off {B g lo hi : Nat} {v : Value} (h : NwV B v) (hg : g < B) (hh : hi ≤ B) : Off (Gd g lo hi) v := fun k hk x => by
 have := h k hk;rcases x with x | x
 ·
  omega
 ·
  have := x.2; omega
theorem bw_gd {W w w' : World} {g lo hi : Nat} (hb : Bo W w) (k : Kp (Gd g lo hi) w w') (h : W.heap.size ≤ lo ∧ hi ≤ g ∧ W.heap.size ≤ g) : Bo W w' :=
 hb.trans (k.below _ hb.size (fun i x => by
  rcases x with x | x
  ·
   omega
  ·
   have := x.1; omega))
theorem RowF.nil (F : Nat → Prop) (w : World) : RowF F w nS [] := ⟨Row.nil w, fun h => absurd rfl h⟩
end Go.Proofs.YtdihcdphgiaepaaGreat
namespace Go.Proofs.YtdihcdphgiaepaaGreat
open Go.RowKit Go.ChangeShapes Go.WideShapes Go.ChangeAt Go.Deep
def RowsB (w : World) (v : Value) (xss : List (List UInt8)) : Prop :=
 ∃ vs, Row w v vs ∧ vs.length = xss.length ∧ ∀ i, i < xss.length → ∃ u, vs[i]? = some u ∧ Row w u ((xss.getD i []).map bV)
theorem RowsB.ext {w w' : World} {v : Value} {xss : List (List UInt8)} (h : RowsB w v xss) (hb : Bo w w') : RowsB w' v xss := by
 obtain ⟨vs, h1, h2, h3⟩ := h;refine ⟨vs, h1.below hb, h2, fun i hi => ?_⟩;obtain ⟨u, e, o⟩ := h3 i hi;exact ⟨u, e, o.below hb⟩
theorem RowsB.at {w : World} {v : Value} {xss : List (List UInt8)} (h : RowsB w v xss) : ∃ a cap, v = .slice a xss.length cap ∧ xss.length ≤ cap ∧ cap ≤ maxLen ∧
  ∀ i, i < xss.length → ∃ b off, a = some ⟨b, off, none⟩ ∧ ∀ j, j < xss.length → ∃ u, w.cell? ⟨b, off + j, none⟩ = some u ∧ Row w u ((xss.getD j []).map bV) := by
 obtain ⟨vs, ⟨a, cap, rfl, h1, h2, -, h4⟩, hl, h3⟩ := h;rw [hl] at h1 h4 ⊢;refine ⟨a, cap, rfl, h1, h2, fun i hi => ?_⟩;rcases h4 with rfl | ⟨b, off, rfl, hc⟩
 ·
  simp at hl; omega
 ·
  refine ⟨b, off, rfl, fun j hj => ?_⟩;obtain ⟨u, e, o⟩ := h3 j hj;exact ⟨u, by rw [hc j hj, e], o⟩
def ReqAt (w : World) (b o : Nat) (q : Rq) : Prop := ∃ vb vv,
 (w.cell? ⟨b, o, none⟩ = some (J q.fn) ∧ w.cell? ⟨b, o + 1, none⟩ = some (J q.loc) ∧ w.cell? ⟨b, o + 2, none⟩ = some (J q.cnt) ∧ w.cell? ⟨b, o + 3, none⟩ = some (J q.wat) ∧ w.cell? ⟨b, o + 4, none⟩ = some (J q.sub) ∧ w.cell? ⟨b, o + 5, none⟩ = some vb ∧ w.cell? ⟨b, o + 6, none⟩ = some vv ∧ w.cell? ⟨b, o + 7, none⟩ = some (wV q.land) ∧ w.cell? ⟨b, o + 8, none⟩ = some (wV q.lor)) ∧
 Row w vb (q.bits.map Value.bool) ∧ Row w vv (q.vals.map wV)
theorem cell_b {w0 w : World} {b o : Nat} {u : Value} (h : w0.cell? ⟨b, o, none⟩ = some u) (hb : Bo w0 w) : w.cell? ⟨b, o, none⟩ = some u := by
 rw [hb.cell (p := ⟨b, o, none⟩) (lt_of_cell h), h]
theorem ReqAt.ext {w0 w : World} {b o : Nat} {q : Rq} (h : ReqAt w0 b o q) (hb : Bo w0 w) : ReqAt w b o q := by
 obtain ⟨vb, vv, ⟨c0, c1, c2, c3, c4, c5, c6, c7, c8⟩, r1, r2⟩ := h;exact ⟨vb, vv, ⟨cell_b c0 hb, cell_b c1 hb, cell_b c2 hb, cell_b c3 hb, cell_b c4 hb, cell_b c5 hb, cell_b c6 hb, cell_b c7 hb, cell_b c8 hb⟩, r1.below hb, r2.below hb⟩
def Reqs (w : World) (v : Value) (qs : List Rq) : Prop := ∃ a cap, v = .slice a qs.length cap ∧ qs.length ≤ cap ∧ cap ≤ maxLen ∧ ∀ i, i < qs.length → ∃ b off, a = some ⟨b, off, none⟩ ∧ ∀ (j : Nat) (q : Rq), qs[j]? = some q → ReqAt w b (off + j * 9) q
theorem Reqs.nil (w : World) : Reqs w nS [] := ⟨none, 0, rfl, Nat.le_refl _, by unfold maxLen; omega, fun i hi => by simp at hi⟩
theorem Reqs.ext {w0 w : World} {v : Value} {qs : List Rq} (h : Reqs w0 v qs) (hb : Bo w0 w) : Reqs w v qs := by
 obtain ⟨a, cap, e, h1, h2, h3⟩ := h;refine ⟨a, cap, e, h1, h2, fun i hi => ?_⟩;obtain ⟨b, off, e2, h4⟩ := h3 i hi;exact ⟨b, off, e2, fun j q hq => (h4 j q hq).ext hb⟩
abbrev zQ9 : Value := .agg #[J 0, J 0, J 0, J 0, J 0, nS, nS, U 0, U 0]
theorem info_req : (Tryz.prog.info? tQ).map (fun i => (i.zero, i.size, i.bytes)) = some (some zQ9, 9, 96) := by kernel_rfl
theorem wpList_pushR {w : World} {ops : Array Oper} {rest : List Oper} {o : Oper} {a : Act} {Q : Exit → Act → World → Prop} (hgd : o.guard = none) (s x : Operand)
  (ho : o.op = .call { callee := .builtin .append, args := #[s, x], argTypes := #[23, 23] })
  (base : Nat) {v : Value} {m : Nat} {xs : List Value} (hsv : a.eval s = v) (hown : w.ownsRow base tQ 9 v m xs) (g c : Nat) (cs : List Value) (hxv : a.eval x = .slice (some ⟨g, 0, none⟩) 1 c) (hs : Blk w g tQ cs) (hcs : cs.length = 9) (h1 : ∀ u ∈ cs, u.oneCell' = true)
  (h63 : (m + 1) * 96 ≤ 140737488355328) (hbase : base ≤ w.heap.size)
  (h : ∀ v' w', w'.ownsRow base tQ 9 v' (m + 1) (xs ++ cs) → w.grownBy w' v.ownBlock → (v'.ownBlock = v.ownBlock ∨ v'.ownBlock = some w.heap.size) → wpList Tryz.prog ops Q rest (a.put o.dst v') w') : wpList Tryz.prog ops Q (o :: rest) a w := by
 obtain ⟨i, hi, hz, hsz, hby⟩ := info_parts info_req;refine wpList_append_own_at (P := Tryz.prog) w hgd s x 23 ho base tQ i _ 9 96 Tryz.underlying23 hi hz hsz hby rfl (by decide) v m _ hsv hown ⟨g, 0, none⟩ 1 c cs hxv (by omega) (fun j y hj => ?_) h1 (by unfold maxLen; omega) (by omega) hbase (fun v' w' q1 q2 _ q4 => h v' w' q1 q2 q4);have hadd : ∀ j, (⟨g, 0, none⟩ : Addr).add j = ⟨g, j, none⟩ := fun j => by unfold Addr.add; split <;> simp_all
 rw [hadd, hs.cell, hj]
def AptR (T : Nat → Prop) (w : World) (v vb : Value) (xs : List Value) : Prop := Row w vb xs ∧ (xs ≠ [] → ∀ k, vb.ownBlock = some k → v.ownBlock ≠ some k ∧ ¬ T k)
theorem Row.ltvR {w : World} {v : Value} {xs : List Value} (h : Row w v xs) (h0 : xs ≠ []) {k : Nat} (hk : v.ownBlock = some k) : k < w.heap.size := by
 obtain ⟨a, cap, rfl, -, -, -, h3⟩ := h;rcases h3 with h3 | ⟨b, off, rfl, hc⟩
 ·
  exact absurd h3 h0
 ·
  simp only [Value.ownBlock, Option.some.injEq] at hk;subst hk;have hp : 0 < xs.length := lpi.2 h0;have := hc 0 hp;rw [List.getElem?_eq_getElem hp] at this;exact lt_of_cell this
theorem Row.emptyR {w w' : World} {v : Value} (h : Row w v []) : Row w' v [] := by
 obtain ⟨a, cap, e, h1, h2, h3, -⟩ := h;exact ⟨a, cap, e, h1, h2, h3, .inl rfl⟩
theorem AptR.kp {T F : Nat → Prop} {w w' : World} {v vb : Value} {xs : List Value} (h : AptR T w v vb xs) (k : Kp F w w') (hF : ∀ i, i < w.heap.size → F i → T i) : AptR T w' v vb xs := by
 obtain ⟨h1, h2⟩ := h;by_cases h0 : xs = []
 ·
  subst h0; exact ⟨h1.emptyR, fun h => absurd rfl h⟩
 ·
  refine ⟨?_, h2⟩;have hlt := fun k hk => Row.ltvR h1 h0 (k := k) hk;exact h1.kp (F := fun i => F i ∧ i < w.heap.size) ⟨k.os, k.tape, k.output, k.size, fun i hi hn => k.block i hi (fun x => hn ⟨x, hi⟩)⟩ (fun i hi x => (h2 h0 i hi).2 (hF i (hlt i hi) x.1))
theorem AptR.grown {T : Nat → Prop} {w w' : World} {v v' vb : Value} {xs : List Value} (h : AptR T w v vb xs) (hg : w.grownBy w' v.ownBlock) (hv : v'.ownBlock = v.ownBlock ∨ v'.ownBlock = some w.heap.size) : AptR T w' v' vb xs := by
 obtain ⟨h1, h2⟩ := h;by_cases h0 : xs = []
 ·
  subst h0; exact ⟨h1.emptyR, fun h => absurd rfl h⟩
 ·
  refine ⟨h1.kp (F := fun k => some k = v.ownBlock) ⟨hg.os, hg.tape, hg.output, hg.size, fun k q1 q2 => hg.block k q1 q2⟩ (fun k hk e => (h2 h0 k hk).1 e.symm), fun _ k hk => ⟨?_, (h2 h0 k hk).2⟩⟩;rcases hv with hv | hv
  ·
   rw [hv]; exact (h2 h0 k hk).1
  ·
   rw [hv];intro e;have := Row.ltvR h1 h0 hk;cases e
   omega
def ReqL (T : Nat → Prop) (w : World) (v : Value) (c : Nat → Option Value) (q : Rq) : Prop := ∃ vb vv,
 (c 0 = some (J q.fn) ∧ c 1 = some (J q.loc) ∧ c 2 = some (J q.cnt) ∧ c 3 = some (J q.wat) ∧ c 4 = some (J q.sub) ∧ c 5 = some vb ∧ c 6 = some vv ∧ c 7 = some (wV q.land) ∧ c 8 = some (wV q.lor)) ∧ AptR T w v vb (q.bits.map Value.bool) ∧ AptR T w v vv (q.vals.map wV)
theorem ReqL.map {T : Nat → Prop} {w w' : World} {v v' : Value} {c c' : Nat → Option Value} {q : Rq} (h : ReqL T w v c q) (hc : ∀ j, j < 9 → c' j = c j) (hr : ∀ vb xs, AptR T w v vb xs → AptR T w' v' vb xs) : ReqL T w' v' c' q := by
 obtain ⟨vb, vv, ⟨c0, c1, c2, c3, c4, c5, c6, c7, c8⟩, r1, r2⟩ := h;exact ⟨vb, vv, ⟨(hc 0 (by omega)).trans c0, (hc 1 (by omega)).trans c1, (hc 2 (by omega)).trans c2, (hc 3 (by omega)).trans c3, (hc 4 (by omega)).trans c4, (hc 5 (by omega)).trans c5, (hc 6 (by omega)).trans c6, (hc 7 (by omega)).trans c7, (hc 8 (by omega)).trans c8⟩, hr _ _ r1, hr _ _ r2⟩
def OReqs (T : Nat → Prop) (w : World) (base : Nat) (v : Value) (qs : List Rq) : Prop := (∀ i, T i → i < base) ∧ ∃ xs, w.ownsRow base tQ 9 v qs.length xs ∧ ∀ i q, qs[i]? = some q → ReqL T w v (fun j => xs[i * 9 + j]?) q
theorem OReqs.nil {T : Nat → Prop} (w : World) (base : Nat) (hT : ∀ i, T i → i < base) : OReqs T w base nS [] := ⟨hT, [], ⟨rfl, .inl ⟨rfl, rfl⟩⟩, fun i q hq => by simp at hq⟩
theorem owns_kpR {F : Nat → Prop} {w w' : World} {base s : Nat} {e : TypeId} {v : Value} {n : Nat} {xs : List Value} (h : w.ownsRow base e s v n xs) (k : Kp F w w') (hF : ∀ i, base ≤ i → i < w.heap.size → ¬ F i) : w'.ownsRow base e s v n xs := by
 refine ⟨h.1, ?_⟩;rcases h.2 with h2 | ⟨g', cap, cur, rfl, hb', hg, rest⟩
 ·
  exact .inl h2
 ·
  have hlt := (Array.getElem?_eq_some_iff.1 hg).1;exact .inr ⟨g', cap, cur, rfl, hb', (k.block g' hlt (hF g' hb' hlt)).trans hg, rest⟩
theorem OReqs.kp {T F : Nat → Prop} {w w' : World} {base : Nat} {v : Value} {qs : List Rq} (h : OReqs T w base v qs) (k : Kp F w w') (hF : ∀ i, i < w.heap.size → F i → T i) : OReqs T w' base v qs := by
 obtain ⟨hT, xs, h1, h2⟩ := h;exact ⟨hT, xs, owns_kpR h1 k (fun i hi hl x => by have := hT i (hF i hl x); omega), fun i q hq => (h2 i q hq).map (fun _ _ => rfl) (fun vb xs r => r.kp k hF)⟩
theorem OReqs.ext {T : Nat → Prop} {w w' : World} {base : Nat} {v : Value} {qs : List Rq} (h : OReqs T w base v qs) (hb : Bo w w') : OReqs T w' base v qs := h.kp (F := fun _ => False) (Kp.of_below hb) (fun _ _ x => x.elim)
theorem OReqs.push {T : Nat → Prop} {w w' : World} {base : Nat} {v v' : Value} {qs : List Rq} {q : Rq} {xs cs : List Value} (hT : ∀ i, T i → i < base) (h1 : w.ownsRow base tQ 9 v qs.length xs) (h2 : ∀ i q, qs[i]? = some q → ReqL T w v (fun j => xs[i * 9 + j]?) q) (hc : ReqL T w v (fun j => cs[j]?) q) (ho : w'.ownsRow base tQ 9 v' (qs.length + 1) (xs ++ cs)) (hg : w.grownBy w' v.ownBlock)
  (hv : v'.ownBlock = v.ownBlock ∨ v'.ownBlock = some w.heap.size) : OReqs T w' base v' (qs ++ [q]) := by
 have hl : xs.length = qs.length * 9 := h1.1;refine ⟨hT, xs ++ cs, by simpa using ho, fun i r hr => ?_⟩;by_cases hlt : i < qs.length
 ·
  rw [List.getElem?_append_left hlt] at hr;exact (h2 i r hr).map (fun j hj => List.getElem?_append_left (by omega)) (fun vb xs r => r.grown hg hv)
 ·
  have : i = qs.length := by
   have := (List.getElem?_eq_some_iff.1 hr).1;simp at this; omega
  subst this;rw [List.getElem?_append_right (Nat.le_refl _), Nat.sub_self] at hr;cases hr
  exact hc.map (fun j hj => by rw [List.getElem?_append_right (by omega), hl]; congr 1; omega) (fun vb xs r => r.grown hg hv)
theorem OReqs.reqs {T : Nat → Prop} {w : World} {base : Nat} {v : Value} {qs : List Rq} (h : OReqs T w base v qs) : Reqs w v qs := by
 obtain ⟨hT, xs, h1, h2⟩ := h;rcases id h1.2 with ⟨rfl, h0⟩ | ⟨g, cap, cur, rfl, hb, hg, hle, hm, hs, ht⟩
 ·
  have : qs = [] := List.length_eq_zero_iff.1 h0;subst this;exact Reqs.nil w
 ·
  refine ⟨_, cap, rfl, hle, hm, fun i hi => ⟨g, 0, rfl, fun j q hq => ?_⟩⟩;have hj := (List.getElem?_eq_some_iff.1 hq).1;obtain ⟨vb, vv, ⟨c0, c1, c2, c3, c4, c5, c6, c7, c8⟩, r1, r2⟩ := h2 j q hq;have e : ∀ k, k < 9 → w.cell? ⟨g, 0 + j * 9 + k, none⟩ = xs[j * 9 + k]? := fun k hk => by
   have := h1.cellAt (j * 9 + k) (by omega);rw [Nat.zero_add];exact this
  exact ⟨vb, vv, ⟨(e 0 (by omega)).trans c0, (e 1 (by omega)).trans c1, (e 2 (by omega)).trans c2, (e 3 (by omega)).trans c3, (e 4 (by omega)).trans c4, (e 5 (by omega)).trans c5, (e 6 (by omega)).trans c6, (e 7 (by omega)).trans c7, (e 8 (by omega)).trans c8⟩, r1.1, r2.1⟩
theorem within_any (n lo hi : Int) (w : World) (hn : -9223372036854775808 ≤ n ∧ n ≤ 9223372036854775807) (h0 : -1000000000000000000 ≤ lo) (h1 : hi ≤ 1000000000000000000) (h2 : lo ≤ hi) :
  Calls Tryz.prog 65 #[J n, J lo, J hi] w fun e w' => (∃ m, e = .returned (J m) ∧ lo ≤ m ∧ m ≤ hi) ∧ w = w' := by
 obtain ⟨hn1, hn2⟩ := hn;by_cases g1 : lo ≤ n ∧ n ≤ hi
 ·
  obtain ⟨g1, g2⟩ := g1;go_enter Tryz.func65, Tryz.ntmps65;go_wp2;go_ret;exact ⟨⟨n, rfl, g1, g2⟩, rfl⟩
 ·
  have d0 : 0 < hi - lo + 1 := by omega
  have b1 := Int.tmod_lt_of_pos n d0;have b2 := Int.lt_tmod_of_pos n d0;have hg : (lo ≤ n ∧ hi < n) ∨ n < lo := by omega
  generalize hq : n.tmod (hi - lo + 1) = q at *;have HQ : Hid (n.tmod (hi - lo + 1) = q) := hq;clear g1;have hq0 : ((hi - lo + 1 : Int) == 0) = false := by simp; omega
  by_cases hneg : q < 0
  ·
   rcases hg with ⟨g1, g2⟩ | g1
   all_goals
    go_enter Tryz.func65, Tryz.ntmps65;go_wp2;go_ret;exact ⟨⟨_, rfl, by omega, by omega⟩, rfl⟩
  ·
   rcases hg with ⟨g1, g2⟩ | g1
   all_goals
    go_enter Tryz.func65, Tryz.ntmps65;go_wp2;go_ret;exact ⟨⟨_, rfl, by omega, by omega⟩, rfl⟩
structure Dev (B g : Nat) (w w' : World) : Prop where
 os : w'.os = w.os
 tape : w'.tape = w.tape
 output : w'.output = w.output
 size : w.heap.size ≤ w'.heap.size
 block : ∀ k, k < B → k ≠ g → w'.heap[k]? = w.heap[k]?
theorem Dev.refl (B g : Nat) (w : World) : Dev B g w w := ⟨rfl, rfl, rfl, Nat.le_refl _, fun _ _ _ => rfl⟩
theorem Dev.trans {B g : Nat} {a b c : World} (h : Dev B g a b) (k : Dev B g b c) : Dev B g a c :=
 ⟨k.os.trans h.os, k.tape.trans h.tape, k.output.trans h.output, Nat.le_trans h.size k.size, fun i h1 h2 => (k.block i h1 h2).trans (h.block i h1 h2)⟩
theorem Dev.of_below {B g : Nat} {w w' : World} (h : Below B w w') : Dev B g w w' := ⟨h.os, h.tape, h.output, h.size, fun k hk _ => h.block k hk⟩
theorem Dev.setCell {B g : Nat} {a w : World} (h : Dev B g a w) {p : Addr} (hp : B ≤ p.block) (v : Value) : Dev B g a (w.setCell p v) := by
 refine h.trans (Dev.of_below ((Below.refl B w).setCell hp v))
theorem Dev.alloc {B g : Nat} {a w : World} (h : Dev B g a w) (hB : B ≤ w.heap.size) (o : Obj) : Dev B g a (w.alloc o) :=
 h.trans (Dev.of_below ((Below.refl B w).alloc hB o))
theorem Dev.drew {B g : Nat} {a w : World} (h : Dev B g a w) : Dev B g a w.drew := ⟨h.os, h.tape, h.output, h.size, h.block⟩
theorem Dev.drewN {B g : Nat} {a w : World} (h : Dev B g a w) (n : Nat) : Dev B g a (w.drewN n) := ⟨h.os, h.tape, h.output, h.size, h.block⟩
theorem Dev.mono {B B' g : Nat} {a w : World} (h : Dev B g a w) (hb : B' ≤ B) : Dev B' g a w := ⟨h.os, h.tape, h.output, h.size, fun k hk hg => h.block k (by omega) hg⟩
theorem Dev.below {B B' g : Nat} {a w : World} (h : Dev B g a w) (hb : B' ≤ B) (hg : B' ≤ g) : Below B' a w := ⟨h.os, h.tape, h.output, h.size, fun k hk => h.block k (by omega) (by omega)⟩
theorem Blk.dev {w w' : World} {B g k : Nat} {e : TypeId} {xs : List Value} (h : Blk w k e xs) (hd : Dev B g w w') (hk : k < B) (hg : k ≠ g) : Blk w' k e xs := (hd.block k hk hg).trans h
def Old (B g : Nat) (v : Value) : Prop := ∀ a n c, v = .slice (some a) n c → a.block < B ∧ a.block ≠ g
theorem Row.dev {w w' : World} {B g : Nat} {v : Value} {xs : List Value} (h : Row w v xs) (ho : xs = [] ∨ Old B g v) (hd : Dev B g w w') : Row w' v xs := by
 obtain ⟨a, cap, rfl, h1, h2, h3, h4⟩ := h;refine ⟨_, _, rfl, h1, h2, h3, ?_⟩;rcases ho with rfl | ho
 ·
  exact .inl rfl
 rcases h4 with rfl | ⟨b, off, rfl, hc⟩
 ·
  exact .inl rfl
 ·
  obtain ⟨o1, o2⟩ := ho _ _ _ rfl;refine .inr ⟨_, _, rfl, fun i hi => ?_⟩;rw [← hc i hi];exact World.cell?_of_block (a := ⟨b, off + i, none⟩) (hd.block b o1 o2)
structure Tap (B : Nat) (w : World) (g : Nat) (l : List Int) : Prop where
 ex : ∃ (vL : Value) (k : Nat), k ≤ l.length ∧ Blk w g 40 [vL, J k] ∧ Row w vL (l.map iV) ∧ (l.map iV = [] ∨ Old B g vL)
 inn : ∀ i, i < l.length → -9223372036854775808 ≤ l.getD i 0 ∧ l.getD i 0 ≤ 9223372036854775807
 lt : g < B
theorem Tap.below {B : Nat} {w w' : World} {g : Nat} {l : List Int} (h : Tap B w g l) (hb : Below B w w') : Tap B w' g l := by
 obtain ⟨⟨vL, k, hk, hX, hR, ho⟩, hi, hl⟩ := h;exact ⟨⟨vL, k, hk, hX.below hb hl, hR.dev ho (Dev.of_below hb), ho⟩, hi, hl⟩
theorem functions_any (w : World) : Calls Tryz.prog 27 #[] w fun e w' => e = .returned (.slice (some ⟨w.heap.size, 0, none⟩) 12 12) ∧ w.alloc (.cells #[J 1, J 2, J 3, J 4, J 5, J 6, J 8, J 15, J 16, J 17, J 22, J 23] 3) = w' := by
 go_enter Tryz.func27, Tryz.ntmps27;go_wp2;go_ret;exact ⟨rfl, rfl⟩
theorem next_any (B g : Nat) (l : List Int) (n : Int) (w : World) (hT : Tap B w g l) (hB : B ≤ w.heap.size) (hn : 1 ≤ n ∧ n ≤ 1000000) :
  Calls Tryz.prog 28 #[.pointer (some ⟨g, 0, none⟩), J n] w fun e w' => ∃ m, e = .returned (J m) ∧ 0 ≤ m ∧ m < n ∧ Tap B w' g l ∧ w'.heap.size = w.heap.size ∧ Dev w.heap.size g w w' := by
 obtain ⟨⟨vL, k, hk, X, hR, ho⟩, hi, hl⟩ := hT;obtain ⟨n1, n2⟩ := hn;have c0 : w.cell? ⟨g, 0, none⟩ = some vL := X.cell 0;have c1 : w.cell? ⟨g, 1, none⟩ = some (J k) := X.cell 1;have f0 := X.frozen;have hT0 := Hh (show Tap B w g l from ⟨⟨vL, k, hk, X, hR, ho⟩, hi, hl⟩);obtain ⟨a, cap, rfl, -⟩ := id hR;obtain ⟨hll, hc, hm, hcell⟩ := hR.at;simp only [List.length_map] at hll hc hR hcell c0 ⊢ ho X;unfold maxLen at hm;by_cases hlt : k < l.length
 ·
  obtain ⟨b, off, rfl, hcl⟩ := hcell k 0 hlt;have cx := hcl k hlt;have ho' := ho.resolve_left (fun h => by have := congrArg List.length h; simp at this; rw [this] at hlt; simp at hlt);obtain ⟨o1, o2⟩ := ho' _ _ _ rfl;simp only at o1 o2;clear ho';obtain ⟨i1, i2⟩ := hi k hlt;have HTN : Hid (∀ w', Blk w' g 40 [.slice (some ⟨b, off, none⟩) l.length cap, J ((k : Int) + 1)] → Dev B g w w' → Tap B w' g l) := fun w' hX hd =>
   ⟨⟨_, k + 1, by omega, by simpa using hX, hR.dev ho hd, ho⟩, hi, hl⟩
  have HX := Hh (X.set 1 (J ((k : Int) + 1)));clear hcl hcell hi;generalize l.getD k 0 = x at *;have t1 : ¬ ((l.length : Int) ≤ (k : Int)) := by omega
  have t2 : ¬ (n < 1) := by omega
  have t3 : (k : Int) < (l.length : Int) := by omega
  have hn0 : (n == 0) = false := by rw [beq_eq_false_iff_ne]; omega
  go_enter Tryz.func28, Tryz.ntmps28;go_wp2;go_quiet (fail)
  go_wp2;refine wp_region_pi [(0, true), (1, true), (2, true), (3, true), (4, true), (5, true), (6, true), (7, true), (8, true), (9, true), (10, true), (12, true), (11, false), (13, true), (14, true)] (by kernel_rfl) (by kernel_rfl) (by kernel_rfl) (fun _ _ _ d _ h => by cases d <;> exact h) ?_;have Y := ((X.drewN nq).set 1 (J ((k : Int) + 1))).drew;have D : Dev w.heap.size g w ((w.drewN nq).setCell ⟨g, 1, none⟩ (J ((k : Int) + 1))).drew :=
   ⟨rfl, rfl, rfl, by simp [World.drew, World.drewN, World.setCell], fun j _ hj => by simp [World.drew, World.drewN, World.setCell, Array.getElem?_modify, Ne.symm hj]⟩
  have Sz : ((w.drewN nq).setCell ⟨g, 1, none⟩ (J ((k : Int) + 1))).drew.heap.size = w.heap.size := by simp [World.drew, World.drewN, World.setCell]
  have cb : ((w.drewN nq).setCell ⟨g, 1, none⟩ (J ((k : Int) + 1))).drew.cell? ⟨b, off + k, none⟩ = some (iV x) := by
   rw [← cx]; exact World.cell?_of_block (a := ⟨b, off + k, none⟩) (D.block b (lt_of_cell cx) o2)
  clear X f0 c0 c1 cx HX;generalize ((w.drewN nq).setCell ⟨g, 1, none⟩ (J ((k : Int) + 1))).drew = w2 at *;have x2 := Ext.refl w2;have RD : Hid (∀ w', Ext w2 w' → w'.cell? ⟨g, 0, none⟩ = some (.slice (some ⟨b, off, none⟩) l.length cap) ∧ w'.cell? ⟨g, 1, none⟩ = some (J ((k : Int) + 1)) ∧ w'.cell? ⟨b, off + k, none⟩ = some (iV x)) := fun w' hx =>
   ⟨(Y.below hx Y.lt).cell 0, (Y.below hx Y.lt).cell 1, by rw [← cb]; exact World.cell?_of_block (a := ⟨b, off + k, none⟩) (hx.block b (lt_of_cell cb))⟩
  have a1 : (k : Int) + 1 - 1 = (k : Int) := by omega
  have wk : IntKind.i64.wrap (k : Int) = (k : Int) := by rw [IntKind.wrap_i64]; omega
  have wk1 : IntKind.i64.wrap ((k : Int) + 1) = (k : Int) + 1 := by rw [IntKind.wrap_i64]; omega
  iterate 12 (first | (refine pi_P x2 rfl ?_) | (refine pi_R x2 rfl (fun w' hx => by obtain ⟨y0, y1, y2⟩ := RD.out w' hx; go_simp; with_reducible rfl) ?_))
  refine pi_M rfl (fun K hK => ?_);go_wp2_with fail
  refine (within_any x 0 1073741824 _ ⟨i1, i2⟩ (by decide) (by decide) (by decide)).mono ?_;rintro e w3 ⟨⟨m, rfl, m1, m2⟩, rfl⟩;go_simp;refine hK.out _ _ x2 ?_;clear K hK;try simp only [Pu]
  have r1 := Int.tmod_nonneg n m1;have r2 := Int.tmod_lt_of_pos m (show 0 < n by omega);have hnz : ¬ n = 0 := by omega
  have wm : IntKind.i64.wrap (m.tmod n) = m.tmod n := by rw [IntKind.wrap_i64]; omega
  iterate 2 (refine pi_P x2 rfl ?_)
  refine pi_nil ?_;have RR := Hh (show 0 ≤ m.tmod n ∧ m.tmod n < n from ⟨r1, r2⟩);clear r1 r2 RD cb;go_wp2;go_ret;exact ⟨_, rfl, RR.out.1, RR.out.2, HTN.out _ Y (D.mono (by have := Y.lt; omega)), Sz, D⟩
 ·
  have t1 : (l.length : Int) ≤ (k : Int) := by omega
  go_enter Tryz.func28, Tryz.ntmps28;go_wp2;go_quiet (fail)
  go_wp2;go_ret;refine ⟨0, rfl, by omega, by omega, hT0.out.below ?_, rfl, ?_⟩
  ·
   exact below_drewn0 _ _ _
  ·
   exact (Dev.refl _ _ _).drewN _
end Go.Proofs.YtdihcdphgiaepaaGreat
