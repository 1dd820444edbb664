/- Joined texts. -/
import Derived.Lib.SmallJoins
import Derived.Test.YtdihcdphgiaepaaGreatZZ27
namespace Go.Proofs.YtdihcdphgiaepaaGreat
open Go.RowKit Go.ChangeShapes Go.WideShapes Go.ChangeAt Go.Deep
theorem array9l {α : Type} {cs : List α} (h : cs.length = 9) : ∃ c0 c1 c2 c3 c4 c5 c6 c7 c8, cs = [c0, c1, c2, c3, c4, c5, c6, c7, c8] := by
 match cs, h with
 | [c0, c1, c2, c3, c4, c5, c6, c7, c8], _ => exact ⟨c0, c1, c2, c3, c4, c5, c6, c7, c8, rfl⟩
set_option maxRecDepth 10000 in
theorem open_reqs {H : Type} {enc : TypeId × Value → H} {w : World} {base : Nat} {held : Bool} {a : Option Addr} {len cap : Nat} {d : DataW H} {p : List MemPlace}
  (h : DataW.Trod enc Tryz.prog w base (fun _ => true) held 23 (.slice a len cap) d p) : ∃ qs : List Rq, Reqs w (.slice a len cap) qs ∧ lenIs d qs.length := by
 obtain ⟨fuel, hf⟩ := h;have hC : Tryz.prog.cellsOf tQ = 9 := by kernel_rfl
 have k3 : Tryz.prog.cellsOf 3 = 1 := by kernel_rfl
 have kb : Tryz.prog.cellsOf 29 = 1 := by kernel_rfl
 have kw : Tryz.prog.cellsOf 30 = 1 := by kernel_rfl
 have ku : Tryz.prog.cellsOf 31 = 1 := by kernel_rfl
 rcases open_slice Tryz.underlying23 hf with ⟨hcs, hx⟩ | ⟨a', len', cap', m, n, D, Pl, hcs, hb, hl, hm, hmm, hx0, hx⟩
 ·
  simp [Value.cells] at hcs;obtain ⟨rfl, rfl, rfl⟩ := hcs;simp only [Prod.mk.injEq] at hx;exact ⟨[], Reqs.nil w, .inl ⟨hx.1, rfl⟩⟩
 ·
  simp [Value.cells] at hcs;obtain ⟨rfl, rfl, rfl⟩ := hcs;simp only [if_true] at hmm;subst hmm;simp only [Prod.mk.injEq] at hx0;obtain ⟨b, off, spot⟩ := a';by_cases h0 : len = 0
  ·
   subst h0;exact ⟨[], ⟨_, m, rfl, hl, hm, fun i hi => by simp at hi⟩, .inr ⟨_, _, hx0.1, by simp⟩⟩
  have hspot : spot = none := by
   obtain ⟨cs, h1, -⟩ := hx 0 (by omega);rw [hC] at h1;obtain ⟨_, hlen, hcell⟩ := World.cells?_some h1;obtain ⟨c0, c1, c2, c3, c4, c5, c6, c7, c8, rfl⟩ := array9l hlen;have q0 := hcell 0 (by omega);have e := World.cell?_spot (q0.trans (show _ = some c0 from rfl))
   simpa [Addr.add] using e
  subst hspot;have each : ∀ j, j < len → ∃ q : Rq, ReqAt w b (off + j * 9) q := by
   intro j hj;obtain ⟨cs, h1, h2⟩ := hx j (by omega);rw [hC] at h1;obtain ⟨_, hlen, hcell⟩ := World.cells?_some h1;obtain ⟨c0, c1, c2, c3, c4, c5, c6, c7, c8, rfl⟩ := array9l hlen;have q0 := hcell 0 (by omega);have q1 := hcell 1 (by omega);have q2 := hcell 2 (by omega);have q3 := hcell 3 (by omega);have q4 := hcell 4 (by omega);have q5 := hcell 5 (by omega);have q6 := hcell 6 (by omega);have q7 := hcell 7 (by omega);have q8 := hcell 8 (by omega);have hadd : ∀ x y, ((⟨b, off, none⟩ : Addr).add x).add y = ⟨b, off + x + y, none⟩ := fun x y => by unfold Addr.add; split <;> split <;> simp_all
   rw [hadd] at q0 q1 q2 q3 q4 q5 q6 q7 q8;obtain ⟨xs, k, -, -, -, hl2, hy⟩ := DataW.trod_struct Tryz.underlying33 h2
   match xs, hl2 with
   | [y0, y1, y2, y3, y4, y5, y6, y7, y8], _ =>
    have h0 := hy 0 _ rfl;have h1 := hy 1 _ rfl;have h2 := hy 2 _ rfl;have h3 := hy 3 _ rfl;have h4 := hy 4 _ rfl;have h5 := hy 5 _ rfl;have h6 := hy 6 _ rfl;have h7 := hy 7 _ rfl;have h8 := hy 8 _ rfl;simp [k3, kb, kw, ku] at h0 h1 h2 h3 h4 h5 h6 h7 h8;obtain ⟨n0, e0, -, w0⟩ := DataW.trod_int Tryz.underlying3 h0;obtain ⟨n1, e1, -, w1⟩ := DataW.trod_int Tryz.underlying3 h1;obtain ⟨n2, e2, -, w2⟩ := DataW.trod_int Tryz.underlying3 h2;obtain ⟨n3, e3, -, w3⟩ := DataW.trod_int Tryz.underlying3 h3;obtain ⟨n4, e4, -, w4⟩ := DataW.trod_int Tryz.underlying3 h4;obtain ⟨n7, e7, -, w7⟩ := DataW.trod_int Tryz.underlying31 h7;obtain ⟨n8, e8, -, w8⟩ := DataW.trod_int Tryz.underlying31 h8;simp only [List.cons.injEq, and_true] at e0 e1 e2 e3 e4 e7 e8;have hV5 : ∃ a l c, c5 = .slice a l c := by
     rcases open_bools Tryz.underlying29 Tryz.underlying4 (by kernel_rfl) h5 with ⟨hcs, -⟩ | ⟨x, l, c, B, hcs, -⟩
     ·
      exact ⟨none, 0, 0, by simpa using hcs⟩
     ·
      exact ⟨some x, l, c, by simpa using hcs⟩
    have hV6 : ∃ a l c, c6 = .slice a l c := by
     rcases open_ints Tryz.underlying30 Tryz.underlying31 (by kernel_rfl) h6 with ⟨hcs, -⟩ | ⟨x, l, c, zs, hcs, -⟩
     ·
      exact ⟨none, 0, 0, by simpa using hcs⟩
     ·
      exact ⟨some x, l, c, by simpa using hcs⟩
    obtain ⟨a5, l5, p5, e5⟩ := hV5;obtain ⟨a6, l6, p6, e6⟩ := hV6;subst e0 e1 e2 e3 e4 e5 e6 e7 e8;obtain ⟨bs, r5, -⟩ := open_boolrow Tryz.underlying29 Tryz.underlying4 (by kernel_rfl) ⟨k, h5⟩;obtain ⟨vs, r6, -⟩ := open_u16s Tryz.underlying30 Tryz.underlying31 (by kernel_rfl) ⟨k, h6⟩;have z : ∀ x : Int, (0 ≤ x ∧ x ≤ 65535) → wV (wOf x) = .int .u16 x := fun x hx => by rw [wV, wOf_nat, show x % 65536 = x by omega]
    exact ⟨⟨n0, n1, n2, n3, n4, bs, vs, wOf n7, wOf n8⟩, _, _, ⟨by simpa using q0, by simpa using q1, by simpa using q2, by simpa using q3, by simpa using q4, by simpa using q5, by simpa using q6, by rw [z n7 (bounds_u16 w7)]; simpa using q7, by rw [z n8 (bounds_u16 w8)]; simpa using q8⟩, r5, r6⟩
  haveI : Inhabited Rq := ⟨zeroQ⟩
  obtain ⟨y, hy⟩ := choose_lt each;refine ⟨(List.range len).map y, ⟨some ⟨b, off, none⟩, m, by simp, by simpa using hl, hm, fun i hi => ⟨b, off, rfl, fun j q hq => ?_⟩⟩, .inr ⟨_, _, hx0.1, by simp⟩⟩;have hj : j < len := by have := (List.getElem?_eq_some_iff.1 hq).1; simpa using this
  simp [hj] at hq;subst hq;exact hy j hj
theorem weights_mem {H : Type} {P : Program} {e : TypeId} {l : List (DataW H)} {d : DataW H} (h : d ∈ l) {x : Nat} (hx : x ∈ d.weights P e) : x ∈ DataW.weightsAll P e l := by
 induction l with
 | nil => simp at h
 | cons y r ih =>
  simp only [DataW.weightsAll, List.mem_append];rcases List.mem_cons.1 h with rfl | h
  ·
   exact .inl hx
  ·
   exact .inr (ih h)
theorem each_at {H : Type} {P : Program} {ts : List TypeId} {ds : List (DataW H)} {q : Nat → Bool} (h : (DataW.weightsEach P ts ds).all q = true) {j : Nat} {t : TypeId} {d : DataW H} (ht : ts[j]? = some t) (hd : ds[j]? = some d) : (d.weights P t).all q = true := by
 induction ts generalizing ds j with
 | nil => simp at ht
 | cons t0 ts ih =>
  cases ds with
  | nil => simp at hd
  | cons d0 ds =>
   simp only [DataW.weightsEach, List.all_append, Bool.and_eq_true] at h;cases j with
   | zero =>
    simp at ht hd;subst ht hd;exact h.1
   | succ j => exact ih h.2 (by simpa using ht) (by simpa using hd)
theorem open_rows8w {H : Type} {enc : TypeId × Value → H} {P : Program} {w : World} {base : Nat} {held : Bool} {t e q : TypeId} {a : Option Addr} {len cap : Nat} {d : DataW H} {p : List MemPlace} (ht : P.underlying t = some (.slice e)) (he : P.underlying e = some (.slice q)) (hq : P.underlying q = some (.int .u8)) (ce : P.cellsOf e = 1) (cq : P.cellsOf q = 1) (bq : P.bytesOf q = 1)
  (hw : (d.weights P t).all (· ≤ reachBytes) = true) (h : DataW.Trod enc P w base (fun _ => true) held t (.slice a len cap) d p) : ∃ xss : List (List UInt8), RowsB w (.slice a len cap) xss ∧ lenIs d xss.length ∧ ∀ i, (xss.getD i []).length ≤ 140737488351232 := by
 obtain ⟨fuel, hf⟩ := h;rcases open_slice1 ht ce hf with ⟨hcs, hx⟩ | ⟨a', len', cap', m, n, V, D, Pl, hcs, hb, hl, hm, hmm, hx0, hx⟩
 ·
  simp [Value.cells] at hcs;obtain ⟨rfl, rfl, rfl⟩ := hcs;simp only [Prod.mk.injEq] at hx;exact ⟨[], ⟨[], Row.nil w, rfl, fun i hi => by simp at hi⟩, .inl ⟨hx.1, rfl⟩, fun i => by simp⟩
 ·
  simp [Value.cells] at hcs;obtain ⟨rfl, rfl, rfl⟩ := hcs;simp only [if_true] at hmm;subst hmm;simp only [Prod.mk.injEq] at hx0;have hW : ∀ r, r < len → ((D r).weights P e).all (· ≤ reachBytes) = true := by
   intro r hr;rw [hx0.1] at hw;simp only [DataW.weights, ht, List.all_cons, Bool.and_eq_true, List.all_append] at hw;rw [List.all_eq_true] at *;intro x hx;exact hw.2.1 x (weights_mem (List.mem_map.2 ⟨r, List.mem_range.2 hr, rfl⟩) hx)
  have each : ∀ r, r < m → ∃ xs : List UInt8, Row w (V r) (xs.map bV) ∧ (r < len → xs.length ≤ 140737488351232) := by
   intro r hr;have h2 := (hx r hr).2;have hV : ∃ a l c, V r = .slice a l c := by
    rcases open_ints he hq cq h2 with ⟨hcs, -⟩ | ⟨x, l, c, zs, hcs, -⟩
    ·
     exact ⟨none, 0, 0, by simpa using hcs⟩
    ·
     exact ⟨some x, l, c, by simpa using hcs⟩
   obtain ⟨a2, l2, c2, e2⟩ := hV;rw [e2] at h2 ⊢;obtain ⟨xs, h3, h4⟩ := open_u8s he hq cq ⟨n, h2⟩;refine ⟨xs, h3, fun hr2 => ?_⟩;have hw2 := hW r hr2;rcases h4 with ⟨-, h4⟩ | ⟨el, sp, h4, h5⟩
   ·
    omega
   ·
    rw [h4] at hw2;simp only [DataW.weights, he, List.all_cons, Bool.and_eq_true, bq] at hw2;have h6 := of_decide_eq_true hw2.1;have h7 : reachBytes = 140737488351232 := by decide
    omega
  obtain ⟨y, hy⟩ := choose_lt each;have hV : Row w (.slice (some a') len m) ((List.range len).map V) := Row.of_cells hl hm (by simp) (fun i hi => by
   rw [(hx i (by omega)).1]; simp [hi])
  refine ⟨(List.range len).map y, ⟨(List.range len).map V, hV, by simp, fun i hi => ?_⟩, .inr ⟨_, _, hx0.1, by simp⟩, fun i => ?_⟩;rotate_left
  ·
   by_cases hi' : i < len
   ·
    have e : ((List.range len).map y).getD i [] = y i := by simp [List.getD_eq_getElem?_getD, hi']
    rw [e];exact (hy i (by omega)).2 hi'
   ·
    rw [List.getD_eq_getElem?_getD, List.getElem?_eq_none (by simp; omega)]; simp
  have hi' : i < len := by simpa using hi
  refine ⟨V i, by simp [hi'], ?_⟩;have e : ((List.range len).map y).getD i [] = y i := by simp [List.getD_eq_getElem?_getD, hi']
  rw [e];exact (hy i (by omega)).1
end Go.Proofs.YtdihcdphgiaepaaGreat
