/- The law DevicePdus of the statements holds at this commit: whatever it is given, it answers true and leaves what it was given as it was. Conditions: none beyond the statement's own. -/
import Derived.Maps.AppendAt
import Derived.Test.YtdihcdphgiaepaaGreatZZ29
import Derived.Test.YtdihcdphgiaepaaGreatZZ48
import Derived.Test.YtdihcdphgiaepaaGreatZZ9
import Derived.Test.YtdihcdphgiaepaaGreatZZ14
import Derived.Lib.SmallJoins
namespace Go.Proofs.YtdihcdphgiaepaaGreat
open Go.RowKit
def ReqAt (w : World) (b o : Nat) (q : Rq) : Prop := ∃ vb vv,
 (w.cell? ⟨b, o, none⟩ = some (.int .i64 q.fn) ∧ w.cell? ⟨b, o + 1, none⟩ = some (.int .i64 q.loc) ∧ w.cell? ⟨b, o + 2, none⟩ = some (.int .i64 q.cnt) ∧ w.cell? ⟨b, o + 3, none⟩ = some (.int .i64 q.wat) ∧ w.cell? ⟨b, o + 4, none⟩ = some (.int .i64 q.sub) ∧ w.cell? ⟨b, o + 5, none⟩ = some vb ∧ w.cell? ⟨b, o + 6, none⟩ = some vv ∧ w.cell? ⟨b, o + 7, none⟩ = some (wV q.land) ∧ w.cell? ⟨b, o + 8, none⟩ = some (wV q.lor)) ∧
 Row w vb (q.bits.map Value.bool) ∧ Row w vv (q.vals.map wV)
theorem cell_b {w0 w : World} {b o : Nat} {u : Value} (h : w0.cell? ⟨b, o, none⟩ = some u) (hb : Below w0.heap.size w0 w) : w.cell? ⟨b, o, none⟩ = some u := by
 rw [hb.cell (p := ⟨b, o, none⟩) (lt_of_cell h), h]
theorem ReqAt.ext {w0 w : World} {b o : Nat} {q : Rq} (h : ReqAt w0 b o q) (hb : Below w0.heap.size w0 w) : ReqAt w b o q := by
 obtain ⟨vb, vv, ⟨c0, c1, c2, c3, c4, c5, c6, c7, c8⟩, r1, r2⟩ := h;exact ⟨vb, vv, ⟨cell_b c0 hb, cell_b c1 hb, cell_b c2 hb, cell_b c3 hb, cell_b c4 hb, cell_b c5 hb, cell_b c6 hb, cell_b c7 hb, cell_b c8 hb⟩, r1.below hb, r2.below hb⟩
def Reqs (w : World) (v : Value) (qs : List Rq) : Prop := ∃ a cap, v = .slice a qs.length cap ∧ qs.length ≤ cap ∧ cap ≤ maxLen ∧ ∀ i, i < qs.length → ∃ b off, a = some ⟨b, off, none⟩ ∧ ∀ (j : Nat) (q : Rq), qs[j]? = some q → ReqAt w b (off + j * 9) q
theorem Reqs.nil (w : World) : Reqs w (.slice none 0 0) [] := ⟨none, 0, rfl, Nat.le_refl _, by unfold maxLen; omega, fun i hi => by simp at hi⟩
theorem Reqs.ext {w0 w : World} {v : Value} {qs : List Rq} (h : Reqs w0 v qs) (hb : Below w0.heap.size w0 w) : Reqs w v qs := by
 obtain ⟨a, cap, e, h1, h2, h3⟩ := h;refine ⟨a, cap, e, h1, h2, fun i hi => ?_⟩;obtain ⟨b, off, e2, h4⟩ := h3 i hi;exact ⟨b, off, e2, fun j q hq => (h4 j q hq).ext hb⟩
abbrev zQ9 : Value := .agg #[.int .i64 0, .int .i64 0, .int .i64 0, .int .i64 0, .int .i64 0, .slice none 0 0, .slice none 0 0, .int .u16 0, .int .u16 0]
def AptR (T : Nat → Prop) (w : World) (v vb : Value) (xs : List Value) : Prop := Row w vb xs ∧ (xs ≠ [] → ∀ k, vb.ownBlock = some k → v.ownBlock ≠ some k ∧ ¬ T k)
theorem Row.ltvR {w : World} {v : Value} {xs : List Value} (h : Row w v xs) (h0 : xs ≠ []) {k : Nat} (hk : v.ownBlock = some k) : k < w.heap.size := by
 obtain ⟨a, cap, rfl, -, -, -, h3⟩ := h;rcases h3 with h3 | ⟨b, off, rfl, hc⟩
 ·
  exact absurd h3 h0
 ·
  simp only [Value.ownBlock, Option.some.injEq] at hk;subst hk;have hp : 0 < xs.length := List.length_pos_iff.2 h0;have := hc 0 hp;rw [List.getElem?_eq_getElem hp] at this;exact lt_of_cell this
theorem Row.emptyR {w w' : World} {v : Value} (h : Row w v []) : Row w' v [] := by
 obtain ⟨a, cap, e, h1, h2, h3, -⟩ := h;exact ⟨a, cap, e, h1, h2, h3, .inl rfl⟩
theorem AptR.kp {T F : Nat → Prop} {w w' : World} {v vb : Value} {xs : List Value} (h : AptR T w v vb xs) (k : Kp F w w') (hF : ∀ i, i < w.heap.size → F i → T i) : AptR T w' v vb xs := by
 obtain ⟨h1, h2⟩ := h;by_cases h0 : xs = []
 ·
  subst h0; exact ⟨h1.emptyR, fun h => absurd rfl h⟩
 ·
  refine ⟨?_, h2⟩;have hlt := fun k hk => Row.ltvR h1 h0 (k := k) hk;exact h1.kp (F := fun i => F i ∧ i < w.heap.size) ⟨k.os, k.tape, k.output, k.size, fun i hi hn => k.block i hi (fun x => hn ⟨x, hi⟩)⟩ (fun i hi x => (h2 h0 i hi).2 (hF i (hlt i hi) x.1))
theorem AptR.grown {T : Nat → Prop} {w w' : World} {v v' vb : Value} {xs : List Value} (h : AptR T w v vb xs) (hg : w.grownBy w' v.ownBlock) (hv : v'.ownBlock = v.ownBlock ∨ v'.ownBlock = some w.heap.size) : AptR T w' v' vb xs := by
 obtain ⟨h1, h2⟩ := h;by_cases h0 : xs = []
 ·
  subst h0; exact ⟨h1.emptyR, fun h => absurd rfl h⟩
 ·
  refine ⟨h1.kp (F := fun k => some k = v.ownBlock) ⟨hg.os, hg.tape, hg.output, hg.size, fun k q1 q2 => hg.block k q1 q2⟩ (fun k hk e => (h2 h0 k hk).1 e.symm), fun _ k hk => ⟨?_, (h2 h0 k hk).2⟩⟩;rcases hv with hv | hv
  ·
   rw [hv]; exact (h2 h0 k hk).1
  ·
   rw [hv];intro e;have := Row.ltvR h1 h0 hk;cases e
   omega
def ReqL (T : Nat → Prop) (w : World) (v : Value) (c : Nat → Option Value) (q : Rq) : Prop := ∃ vb vv,
 (c 0 = some (.int .i64 q.fn) ∧ c 1 = some (.int .i64 q.loc) ∧ c 2 = some (.int .i64 q.cnt) ∧ c 3 = some (.int .i64 q.wat) ∧ c 4 = some (.int .i64 q.sub) ∧ c 5 = some vb ∧ c 6 = some vv ∧ c 7 = some (wV q.land) ∧ c 8 = some (wV q.lor)) ∧ AptR T w v vb (q.bits.map Value.bool) ∧ AptR T w v vv (q.vals.map wV)
theorem ReqL.map {T : Nat → Prop} {w w' : World} {v v' : Value} {c c' : Nat → Option Value} {q : Rq} (h : ReqL T w v c q) (hc : ∀ j, j < 9 → c' j = c j) (hr : ∀ vb xs, AptR T w v vb xs → AptR T w' v' vb xs) : ReqL T w' v' c' q := by
 obtain ⟨vb, vv, ⟨c0, c1, c2, c3, c4, c5, c6, c7, c8⟩, r1, r2⟩ := h;exact ⟨vb, vv, ⟨(hc 0 (by omega)).trans c0, (hc 1 (by omega)).trans c1, (hc 2 (by omega)).trans c2, (hc 3 (by omega)).trans c3, (hc 4 (by omega)).trans c4, (hc 5 (by omega)).trans c5, (hc 6 (by omega)).trans c6, (hc 7 (by omega)).trans c7, (hc 8 (by omega)).trans c8⟩, hr _ _ r1, hr _ _ r2⟩
def OReqs (T : Nat → Prop) (w : World) (base : Nat) (v : Value) (qs : List Rq) : Prop := (∀ i, T i → i < base) ∧ ∃ xs, w.ownsRow base tQ 9 v qs.length xs ∧ ∀ i q, qs[i]? = some q → ReqL T w v (fun j => xs[i * 9 + j]?) q
theorem OReqs.nil {T : Nat → Prop} (w : World) (base : Nat) (hT : ∀ i, T i → i < base) : OReqs T w base (.slice none 0 0) [] := ⟨hT, [], ⟨rfl, .inl ⟨rfl, rfl⟩⟩, fun i q hq => by simp at hq⟩
theorem owns_kpR {F : Nat → Prop} {w w' : World} {base s : Nat} {e : TypeId} {v : Value} {n : Nat} {xs : List Value} (h : w.ownsRow base e s v n xs) (k : Kp F w w') (hF : ∀ i, base ≤ i → i < w.heap.size → ¬ F i) : w'.ownsRow base e s v n xs := by
 refine ⟨h.1, ?_⟩;rcases h.2 with h2 | ⟨g', cap, cur, rfl, hb', hg, rest⟩
 ·
  exact .inl h2
 ·
  have hlt := (Array.getElem?_eq_some_iff.1 hg).1;exact .inr ⟨g', cap, cur, rfl, hb', (k.block g' hlt (hF g' hb' hlt)).trans hg, rest⟩
theorem OReqs.kp {T F : Nat → Prop} {w w' : World} {base : Nat} {v : Value} {qs : List Rq} (h : OReqs T w base v qs) (k : Kp F w w') (hF : ∀ i, i < w.heap.size → F i → T i) : OReqs T w' base v qs := by
 obtain ⟨hT, xs, h1, h2⟩ := h;exact ⟨hT, xs, owns_kpR h1 k (fun i hi hl x => by have := hT i (hF i hl x); omega), fun i q hq => (h2 i q hq).map (fun _ _ => rfl) (fun vb xs r => r.kp k hF)⟩
theorem OReqs.ext {T : Nat → Prop} {w w' : World} {base : Nat} {v : Value} {qs : List Rq} (h : OReqs T w base v qs) (hb : Below w.heap.size w w') : OReqs T w' base v qs := h.kp (F := fun _ => False) (Kp.of_below hb) (fun _ _ x => x.elim)
def kq1 : Rq := ⟨23, 3, 6, 14, 0, [], [255, 1], 0, 0⟩
def kq2 : Rq := ⟨5, 172, 0, 0, 0, [true], [], 0, 0⟩
def kb1 : List UInt8 := [23, 0, 3, 0, 6, 0, 14, 0, 2, 4, 0, 255, 0, 1]
def kb2 : List UInt8 := [5, 0, 172, 255, 0]
theorem open_i64s {H : Type} {enc : TypeId × Value → H} {P : Program} {w : World} {base : Nat} {held : Bool} {t e : TypeId} {a : Option Addr} {len cap : Nat} {d : DataW H} {p : List MemPlace} (ht : P.underlying t = some (.slice e)) (he : P.underlying e = some (.int .i64)) (hc : P.cellsOf e = 1)
  (h : DataW.Trod enc P w base (fun _ => true) held t (.slice a len cap) d p) : ∃ xs : List Int, Row w (.slice a len cap) (xs.map iV) ∧ lenIs d xs.length ∧ ∀ n ∈ xs, -9223372036854775808 ≤ n ∧ n ≤ 9223372036854775807 := by
 obtain ⟨zs, hr, hd, hw⟩ := open_row ht he hc h;exact ⟨zs, hr, hd, fun n hn => bounds_i64 (hw n hn)⟩
def ReqOk : Prop := ∀ (B g : Nat) (l : List Int) (w : World), Tap B w g l → B ≤ w.heap.size →
  Calls Tryz.prog 11 #[.pointer (some ⟨g, 0, none⟩)] w fun e w' => ∃ v', e = .returned v' ∧ ∃ q, IsRq w' v' q ∧ rightE q = 0 ∧ q.bits.length ≤ 30 ∧ (q.vals.length ≤ 30 ∧ q.cnt ≤ 30) ∧ NewQ B v' ∧ Dev B g w w'
end Go.Proofs.YtdihcdphgiaepaaGreat
namespace Go.Proofs.YtdihcdphgiaepaaGreat
open Go.RowKit Go.ChangeShapes Go.WideShapes Go.ChangeAt Go.Deep
theorem weights_mem {H : Type} {P : Program} {e : TypeId} {l : List (DataW H)} {d : DataW H} (h : d ∈ l) {x : Nat} (hx : x ∈ d.weights P e) : x ∈ DataW.weightsAll P e l := by
 induction l with
 | nil => simp at h
 | cons y r ih =>
  simp only [DataW.weightsAll, List.mem_append];rcases List.mem_cons.1 h with rfl | h
  ·
   exact .inl hx
  ·
   exact .inr (ih h)
theorem each_at {H : Type} {P : Program} {ts : List TypeId} {ds : List (DataW H)} {q : Nat → Bool} (h : (DataW.weightsEach P ts ds).all q = true) {j : Nat} {t : TypeId} {d : DataW H} (ht : ts[j]? = some t) (hd : ds[j]? = some d) : (d.weights P t).all q = true := by
 induction ts generalizing ds j with
 | nil => simp at ht
 | cons t0 ts ih =>
  cases ds with
  | nil => simp at hd
  | cons d0 ds =>
   simp only [DataW.weightsEach, List.all_append, Bool.and_eq_true] at h;cases j with
   | zero =>
    simp at ht hd;subst ht hd;exact h.1
   | succ j => exact ih h.2 (by simpa using ht) (by simpa using hd)
theorem open_rows8w {H : Type} {enc : TypeId × Value → H} {P : Program} {w : World} {base : Nat} {held : Bool} {t e q : TypeId} {a : Option Addr} {len cap : Nat} {d : DataW H} {p : List MemPlace} (ht : P.underlying t = some (.slice e)) (he : P.underlying e = some (.slice q)) (hq : P.underlying q = some (.int .u8)) (ce : P.cellsOf e = 1) (cq : P.cellsOf q = 1) (bq : P.bytesOf q = 1)
  (hw : (d.weights P t).all (· ≤ reachBytes) = true) (h : DataW.Trod enc P w base (fun _ => true) held t (.slice a len cap) d p) : ∃ xss : List (List UInt8), RowsB w (.slice a len cap) xss ∧ lenIs d xss.length ∧ ∀ i, (xss.getD i []).length ≤ 140737488351232 := by
 obtain ⟨fuel, hf⟩ := h;rcases open_slice1 ht ce hf with ⟨hcs, hx⟩ | ⟨a', len', cap', m, n, V, D, Pl, hcs, hb, hl, hm, hmm, hx0, hx⟩
 ·
  simp [Value.cells] at hcs;obtain ⟨rfl, rfl, rfl⟩ := hcs;simp only [Prod.mk.injEq] at hx;exact ⟨[], ⟨[], Row.nil w, rfl, fun i hi => by simp at hi⟩, .inl ⟨hx.1, rfl⟩, fun i => by simp⟩
 ·
  simp [Value.cells] at hcs;obtain ⟨rfl, rfl, rfl⟩ := hcs;simp only [if_true] at hmm;subst hmm;simp only [Prod.mk.injEq] at hx0;have hW : ∀ r, r < len → ((D r).weights P e).all (· ≤ reachBytes) = true := by
   intro r hr;rw [hx0.1] at hw;simp only [DataW.weights, ht, List.all_cons, Bool.and_eq_true, List.all_append] at hw;rw [List.all_eq_true] at *;intro x hx;exact hw.2.1 x (weights_mem (List.mem_map.2 ⟨r, List.mem_range.2 hr, rfl⟩) hx)
  have each : ∀ r, r < m → ∃ xs : List UInt8, Row w (V r) (xs.map bV) ∧ (r < len → xs.length ≤ 140737488351232) := by
   intro r hr;have h2 := (hx r hr).2;have hV : ∃ a l c, V r = .slice a l c := by
    rcases open_ints he hq cq h2 with ⟨hcs, -⟩ | ⟨x, l, c, zs, hcs, -⟩
    ·
     exact ⟨none, 0, 0, by simpa using hcs⟩
    ·
     exact ⟨some x, l, c, by simpa using hcs⟩
   obtain ⟨a2, l2, c2, e2⟩ := hV;rw [e2] at h2 ⊢;obtain ⟨xs, h3, h4⟩ := open_u8s he hq cq ⟨n, h2⟩;refine ⟨xs, h3, fun hr2 => ?_⟩;have hw2 := hW r hr2;rcases h4 with ⟨-, h4⟩ | ⟨el, sp, h4, h5⟩
   ·
    omega
   ·
    rw [h4] at hw2;simp only [DataW.weights, he, List.all_cons, Bool.and_eq_true, bq] at hw2;have h6 := of_decide_eq_true hw2.1;have h7 : reachBytes = 140737488351232 := by decide
    omega
  obtain ⟨y, hy⟩ := choose_lt each;have hV : Row w (.slice (some a') len m) ((List.range len).map V) := Row.of_cells hl hm (by simp) (fun i hi => by
   rw [(hx i (by omega)).1]; simp [hi])
  refine ⟨(List.range len).map y, ⟨(List.range len).map V, hV, by simp, fun i hi => ?_⟩, .inr ⟨_, _, hx0.1, by simp⟩, fun i => ?_⟩;rotate_left
  ·
   by_cases hi' : i < len
   ·
    have e : ((List.range len).map y).getD i [] = y i := by simp [List.getD_eq_getElem?_getD, hi']
    rw [e];exact (hy i (by omega)).2 hi'
   ·
    rw [List.getD_eq_getElem?_getD, List.getElem?_eq_none (by simp; omega)]; simp
  have hi' : i < len := by simpa using hi
  refine ⟨V i, by simp [hi'], ?_⟩;have e : ((List.range len).map y).getD i [] = y i := by simp [List.getD_eq_getElem?_getD, hi']
  rw [e];exact (hy i (by omega)).1
end Go.Proofs.YtdihcdphgiaepaaGreat
namespace Go.Proofs.YtdihcdphgiaepaaGreat
end Go.Proofs.YtdihcdphgiaepaaGreat
namespace Go.Proofs.YtdihcdphgiaepaaGreat.devicePdus
open Go.RowKit Go.ChangeShapes Go.WideShapes Go.ChangeAt Go.Deep
open Go.ChangeMaps (open_string shut_string)
theorem own : ownKnob Tryz.prog.godebug = none := by kernel_rfl
theorem laidOut : laidOutB Tryz.prog = true := by kernel_rfl
set_option maxRecDepth 100000 in
theorem lifted (os : Os) (started : os.Started) (H : Type) (enc : TypeId × Value → H) :
  ReturnsInHanded {} Tryz.checked os 5 .any (Rows.devicePdusSpec.pre6 enc Tryz.prog Tryz.f5 Rows.devicePdusRow.domain false) (Rows.devicePdusSpec.post enc Tryz.prog Tryz.f5 false true false false) := by
 refine returnsInHanded_of_change_sized (C := Tryz.checked) own started (by kernel_rfl) Tryz.func5
  (ChangeSpec.witness6 (enc := enc) (C := Tryz.checked) false ⟨#[], #[.slice none 0 0, .slice none 0 0], []⟩ 8 (by kernel_rfl) (by kernel_rfl) (by kernel_rfl) (by kernel_rfl)) ?_
 intro W base args ds gs before hval0 hW hcnd hsz0 _;have hsz : (DataW.weightsEach Tryz.prog (Tryz.f5.params.toList ++ Rows.devicePdusSpec.plain.varTypes Tryz.prog) (ds ++ gs)).all (· ≤ reachBytes) = true := hsz0;have hval : ∀ (j : Nat) t v, Tryz.f5.params[j]? = some t → args[j]? = some v → Value.okWide Tryz.prog W .any base t v := hval0;have hW' := hW;obtain ⟨p, q, hA0, hV, rfl, hfz, hnd⟩ := hW;have hA : DataW.TrodAll enc Tryz.prog W 0 (fun _ => true) true Tryz.f5.params.toList args.toList ds p := hA0;rw [Tryz.params5] at hA hval hsz;obtain ⟨v0, vs0, d0, ds0, p0, q0, hargs, rfl, rfl, h0, r0⟩ := trodAll_cons hA;obtain ⟨v1, vs1, d1, ds1, p1, q1, rfl, rfl, rfl, h1, r1⟩ := trodAll_cons r0;obtain ⟨rfl, rfl, rfl⟩ := trodAll_nil r1;obtain rfl : args = #[v0, v1] := by cases args; simp_all
 obtain ⟨rfl, rfl⟩ := trodVars_none hV;simp only [List.append_nil] at hsz;obtain ⟨a0, len0, cap0, rfl⟩ := okWide_slice Tryz.underlying25 (hval 0 25 v0 rfl rfl);have k0 := h0;have lt0 : ∀ x ∈ p0, x.block < W.heap.size := by obtain ⟨m, hm⟩ := k0; exact DataW.trod_lt m _ _ _ hm
 obtain ⟨x0, w0, l0, b0⟩ := open_i64s Tryz.underlying25 Tryz.underlying3 (by kernel_rfl) h0;have s0 : x0.length * 8 ≤ 140737488351232 := reach_slice hsz (j := 0) rfl rfl Tryz.underlying25 l0 (by kernel_rfl);obtain ⟨a1, len1, cap1, rfl⟩ := okWide_slice Tryz.underlying28 (hval 1 28 v1 rfl rfl);have k1 := h1;have lt1 : ∀ x ∈ p1, x.block < W.heap.size := by obtain ⟨m, hm⟩ := k1; exact DataW.trod_lt m _ _ _ hm
 obtain ⟨x1, w1, l1, b1⟩ := open_rows8w Tryz.underlying28 Tryz.underlying27 Tryz.underlying5 (by kernel_rfl) (by kernel_rfl) (by kernel_rfl) (each_at hsz (j := 1) rfl rfl) h1;clear hA0 hval0;refine (pdus9 _ _ x0 x1 W w0 b0 w1 b1).mono fun e W' ⟨he, bel⟩ => ?_;subst he;exact ⟨_, rfl, _, _, _, [], _, [], hW', trodAll_mk1 (shut_bool Tryz.underlying4 _), (trodAll_cons_mk (Below.trod laidOut (by kernel_rfl) (of_decide_eq_true (by kernel_rfl)) k0 bel lt0) (trodAll_cons_mk (Below.trod laidOut (by kernel_rfl) (of_decide_eq_true (by kernel_rfl)) k1 bel lt1) trodAll_mk0)), rfl, bel.frame _, fun h => by cases h⟩
theorem holds : Rows.DevicePdusSaid :=
 OpenClaim.holds_of_wide 5 Tryz.f5 rfl rfl rfl rfl rfl rfl rfl ⟨rfl, rfl, rfl, rfl, rfl⟩ rfl rfl rfl rfl rfl (by kernel_rfl) Tryz.func5 (by kernel_rfl)
  (of_decide_eq_true (by kernel_rfl)) (by unfold Func.isWrapper; first | (rw [if_pos (by decide +kernel)]; kernel_rfl) | (rw [if_neg (by decide +kernel)]; exact ⟨rfl, rfl⟩))
  (fun os started H enc _ => lifted os started H enc)
end Go.Proofs.YtdihcdphgiaepaaGreat.devicePdus
