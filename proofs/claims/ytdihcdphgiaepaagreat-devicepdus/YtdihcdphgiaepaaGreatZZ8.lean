/- Contract of pdu.guess, by function. -/
import Derived.Test.YtdihcdphgiaepaaGreatZZ7
import Derived.Test.YtdihcdphgiaepaaGreatZZ4
import Derived.Test.YtdihcdphgiaepaaGreatZZ5
import Derived.Test.YtdihcdphgiaepaaGreatZZ6
import Derived.OrdersHeld
import Derived.Test.YtdihcdphgiaepaaGreatZZ1
namespace Go.Proofs.YtdihcdphgiaepaaGreat
open Go.RowKit
set_option maxHeartbeats 400000 in
theorem get_pdu (v : Value) (bs : List UInt8) (n : Int) (w : World) (hn : -9223372036854775808 ≤ n ∧ n ≤ 9223372036854775807) (hv : Row w v (bs.map bV)) :
  Calls Tryz.prog 107 #[v, .int .i64 n] w fun e w' => e = .returned (.int .i64 (getN bs n)) ∧ ∃ nq, w' = w.drewN nq := by
 have C := hidden (get_any v bs n w hn hv);generalize getN bs n = N at *;generalize getOk bs n = b at *;clear hv;go_enter Tryz.func107, Tryz.ntmps107;go_wp2_with fail
 refine C.out.mono ?_;rintro e w1 ⟨rfl, nq, rfl⟩;go_wp2;go_ret;exact ⟨rfl, nq, rfl⟩
theorem Row.empty (w : World) (a : Option Addr) (cap : Nat) (h : a = none → cap = 0) (h2 : cap ≤ maxLen) : Row w (.slice a 0 cap) [] := ⟨a, cap, rfl, Nat.zero_le _, h2, h, .inl rfl⟩
theorem Row.drop {w : World} {a : Option Addr} {n cap : Nat} {xs : List Value} (h : Row w (.slice a n cap) xs) (k : Nat) (hk : k ≤ n) (b off : Nat) (ha : a = some ⟨b, off, none⟩) : Row w (.slice (some ⟨b, off + k, none⟩) (n - k) (cap - k)) (xs.drop k) := by
 obtain ⟨a', cap', e, h1, h2, h3, h4⟩ := h;simp only [Value.slice.injEq] at e;obtain ⟨rfl, rfl, rfl⟩ := e;have hl : (xs.drop k).length = xs.length - k := by simp
 refine ⟨_, _, by rw [hl], by omega, by omega, (fun h => by cases h), ?_⟩;rcases h4 with rfl | ⟨b', off', e, hc⟩
 ·
  exact .inl (by simp)
 ·
  rw [ha] at e;simp only [Option.some.injEq, Addr.mk.injEq] at e;obtain ⟨rfl, rfl, -⟩ := e;refine .inr ⟨b, off + k, rfl, fun i hi => ?_⟩;rw [hl] at hi;rw [Nat.add_assoc, hc (k + i) (by omega), List.getElem?_drop]
set_option maxHeartbeats 400000 in
theorem tail_pdu (v : Value) (bs : List UInt8) (n : Int) (k : Nat) (w : World) (hn : n = (k : Int)) (hk : k ≤ 1000) (hv : Row w v (bs.map bV)) :
  Calls Tryz.prog 109 #[v, .int .i64 n] w fun e w' => ∃ v', e = .returned v' ∧ Row w v' ((tailL bs k).map bV) ∧ w = w' := by
 subst hn;obtain ⟨a, cap, rfl, -⟩ := id hv;obtain ⟨hl, hc, hm, hcell⟩ := hv.at;simp only [List.length_map] at hl hc hv hcell ⊢;unfold maxLen at hm;by_cases h1 : bs.length ≤ k
 ·
  have e : tailL bs k = [] := by simp [tailL, h1]
  rw [e];have h1' : (bs.length : Int) ≤ (k : Int) := by omega
  go_enter Tryz.func109, Tryz.ntmps109;go_wp2;go_ret;exact ⟨_, rfl, Row.nil _, rfl⟩
 ·
  obtain ⟨b, off, rfl, hcl⟩ := hcell k 0 (by omega);have c0 := hcl k (by omega);have HE : Hid (∀ z : UInt8, z = bs.getD k 0 → (bs.length - k - 1 = z.toNat → tailL bs k = bs.drop (k + 1)) ∧ (bs.length - k - 1 ≠ z.toNat → tailL bs k = [])) := by
   rintro z rfl;constructor
   ·
    intro h; unfold tailL; rw [if_neg (by intro h'; rcases h' with h' | h' <;> omega)]
   ·
    intro h; unfold tailL; rw [if_pos (.inr h)]
  have HD := hidden (hv.drop (k + 1) (by omega) b off rfl);obtain ⟨z, hz⟩ : ∃ z, z = bs.getD k 0 := ⟨_, rfl⟩;rw [← hz] at c0;replace HE := HE.out z hz;clear hz hcl hcell hv;have hzl := z.toNat_lt;have h1' : ¬ (bs.length : Int) ≤ (k : Int) := by omega
  by_cases h2 : bs.length - k - 1 = z.toNat
  ·
   rw [HE.1 h2, List.map_drop];have t2 : ((bs.length : Int) - (k : Int) - 1 != (z.toNat : Int)) = false := by simp; omega
   have h3 : (k : Int) + 1 ≤ (bs.length : Int) := by omega
   clear HE h2 h1;have e1 : ((bs.length : Int) - ((k : Int) + 1)).toNat = bs.length - (k + 1) := by omega
   have e2 : ((cap : Int) - ((k : Int) + 1)).toNat = cap - (k + 1) := by omega
   go_enter Tryz.func109, Tryz.ntmps109;go_wp2
   ·
    go_ret;have e3 : bs.length - (k + 1) = 0 := by omega
    have e4 : List.drop (k + 1) (bs.map bV) = [] := List.drop_eq_nil_of_le (by simp; omega);rw [e4];refine ⟨_, rfl, ?_, rfl⟩;simp only [e3];exact Row.empty _ _ _ (fun h => by cases h) (Nat.zero_le _)
   ·
    go_ret;exact ⟨_, rfl, HD.out, rfl⟩
  ·
   rw [HE.2 h2];have t2 : ((bs.length : Int) - (k : Int) - 1 != (z.toNat : Int)) = true := by simp; omega
   clear HE h2 h1;go_enter Tryz.func109, Tryz.ntmps109;go_wp2;go_ret;exact ⟨_, rfl, Row.nil _, rfl⟩
abbrev rpV (f k a c s : Int) (vb vv : Value) (m o : UInt16) (vd : Value) : Value := .agg #[.int .i64 f, .int .i64 k, .int .i64 a, .int .i64 c, .int .i64 s, vb, vv, wV m, wV o, vd]
def IsRp (w : World) (v : Value) (r : Rp) : Prop := ∃ vb vv vd, v = rpV r.fn r.code r.loc r.cnt r.sub vb vv r.land r.lor vd ∧ Row w vb (r.bits.map Value.bool) ∧ Row w vv (r.vals.map wV) ∧ Row w vd (r.data.map bV)
theorem IsRp.below {w w' : World} {v : Value} {r : Rp} (h : IsRp w v r) (hb : Below w.heap.size w w') : IsRp w' v r := by
 obtain ⟨vb, vv, vd, rfl, h1, h2, h3⟩ := h;exact ⟨vb, vv, vd, rfl, h1.below hb, h2.below hb, h3.below hb⟩
theorem zero_rp (w : World) : IsRp w (rpV 0 0 0 0 0 (.slice none 0 0) (.slice none 0 0) 0 0 (.slice none 0 0)) zeroP := ⟨_, _, _, rfl, Row.nil w, Row.nil w, Row.nil w⟩
theorem ref_rp (w : World) (f k : Int) : IsRp w (rpV f k 0 0 0 (.slice none 0 0) (.slice none 0 0) 0 0 (.slice none 0 0)) (refP f k) := ⟨_, _, _, rfl, Row.nil w, Row.nil w, Row.nil w⟩
theorem IsRp.slices {w : World} {v : Value} {q : Rp} (h : IsRp w v q) : ∃ ab capb av capv ad capd, v = rpV q.fn q.code q.loc q.cnt q.sub (.slice ab q.bits.length capb) (.slice av q.vals.length capv) q.land q.lor (.slice ad q.data.length capd) ∧ q.bits.length ≤ 9223372036854775807 ∧ q.vals.length ≤ 9223372036854775807 ∧ q.data.length ≤ 9223372036854775807 := by
 obtain ⟨vb, vv, vd, rfl, hb, hv, hd⟩ := h;obtain ⟨ab, capb, rfl, h1, h2, -⟩ := hb;obtain ⟨av, capv, rfl, h3, h4, -⟩ := hv;obtain ⟨ad, capd, rfl, h5, h6, -⟩ := hd;simp only [List.length_map] at h1 h3 h5 ⊢;unfold maxLen at h2 h4 h6;exact ⟨ab, capb, av, capv, ad, capd, rfl, by omega, by omega, by omega⟩
theorem number_rep (n : Int) (w : World) : Calls Tryz.prog 118 #[.int .i64 n] w fun e w' => e = .returned (.bool (numB n)) ∧ w = w' := by
 by_cases h1 : 0 ≤ n
 ·
  by_cases h2 : n ≤ 65535
  ·
   have hb : numB n = true := by simp [numB]; omega
   rw [hb];go_enter Tryz.func118, Tryz.ntmps118;go_wp2;go_ret;exact ⟨rfl, rfl⟩
  ·
   have hb : numB n = false := by simp [numB]; omega
   rw [hb];go_enter Tryz.func118, Tryz.ntmps118;go_wp2;go_ret;exact ⟨rfl, rfl⟩
 ·
  have hb : numB n = false := by simp [numB]; omega
  rw [hb];go_enter Tryz.func118, Tryz.ntmps118;go_wp2;go_ret;exact ⟨rfl, rfl⟩
theorem and127 (n : Int) : bits BinOp.and IntKind.i64 n 127 = n % 128 := by simpa using i64_and_mask n 7 (by decide)
theorem and255 (n : Int) : bits BinOp.and IntKind.i64 n 255 = n % 256 := by simpa using i64_and_mask n 8 (by decide)
set_option maxHeartbeats 400000 in
theorem refuse_rep (f k : Int) (w : World) : Calls Tryz.prog 79 #[.int .i64 f, .int .i64 k] w fun e w' => e = .returned (rpV (f % 128) (k % 256) 0 0 0 (.slice none 0 0) (.slice none 0 0) 0 0 (.slice none 0 0)) ∧ Below w.heap.size w w' := by
 have a1 := and127 f;have a2 := and255 k;go_enter Tryz.func79, Tryz.ntmps79;go_wp2;refine bodyPost_ret (v := _) (by simp [results, Tryz.results79, go_sem]; with_reducible rfl) rfl ?_;exact ⟨rfl, (Below.refl _ _).alloc (Nat.le_refl _) _⟩
section
variable {P : Program} {ops : Array Oper} {Q : Exit → Act → World → Prop} {S : World → Prop} {n : Nat} {listed : Array Bool} {i : Nat} {a : Act} {w : World}
  {dst : Option Tmp} {op : Op} {ty : TypeId} {pos : String} {after : Array Edge} {guard : Option (Nat × Bool)} {v : Value}
theorem h_begin {id : Nat} (k : Nat) (hk : ops.size = k) (hm : P.follows .mixedOrders = true) (h : wpAnyH P .any ops Q (fun _ => True) k (Array.replicate k false) a w.drew) : (Code.region id ops true).wp P Q a w := by
 subst hk;exact wp_region_held hm h
theorem h_pure (hS : S w) (hs : Region.noSelect ops = true) (hQ : ∀ c a w d v, Q (.panic c) (Act.put a d v) w → Q (.panic c) a w) (i : Nat) (hi : ops[i]? = some ⟨dst, op, ty, pos, after, guard⟩)
  (hc : (Region.free .any ops listed i && (Region.ready .any ops listed).contains i) = true) (hw : Region.wanted ⟨dst, op, ty, pos, after, guard⟩ (yielded ops a.tmps) = true)
  (hv : ∀ w', (execOp a.eval ⟨dst, op, ty, pos, after, guard⟩).run P w' = .ok (.value v) w') (h : wpAnyH P .any ops Q S n (listed.setIfInBounds i true) (a.put dst v) w) : wpAnyH P .any ops Q S (n + 1) listed a w := by
 simp only [Bool.and_eq_true] at hc;exact wpAnyH_take hi hs hc.1 hc.2 (fun c a w => hQ c a w _ _) (.inl ⟨hw, fun w' _ => hv w'⟩) hS h
theorem h_read (S' : World → Prop) (hS : ∀ w', S' w' → S w') (hS' : S' w) (hs : Region.noSelect ops = true) (hQ : ∀ c a w d v, Q (.panic c) (Act.put a d v) w → Q (.panic c) a w) (i : Nat) (hi : ops[i]? = some ⟨dst, op, ty, pos, after, guard⟩)
  (hc : (Region.free .any ops listed i && (Region.ready .any ops listed).contains i) = true) (hw : Region.wanted ⟨dst, op, ty, pos, after, guard⟩ (yielded ops a.tmps) = true)
  (hv : ∀ w', S' w' → (execOp a.eval ⟨dst, op, ty, pos, after, guard⟩).run P w' = .ok (.value v) w') (h : wpAnyH P .any ops Q S' n (listed.setIfInBounds i true) (a.put dst v) w) : wpAnyH P .any ops Q S (n + 1) listed a w := by
 simp only [Bool.and_eq_true] at hc;exact held_mono hS _ _ _ _ (wpAnyH_take hi hs hc.1 hc.2 (fun c a w => hQ c a w _ _) (.inl ⟨hw, hv⟩) hS' h)
theorem h_op (i : Nat) (hi : ops[i]? = some ⟨dst, op, ty, pos, after, guard⟩) (hw : Region.wanted ⟨dst, op, ty, pos, after, guard⟩ (yielded ops a.tmps) = true)
  (h : ∀ K : Act → World → Prop, Hid (∀ a' w', S w' → wpAnyH P .any ops Q S n (listed.setIfInBounds i true) a' w' → K a' w') → Oper.wp P ⟨dst, op, ty, pos, after, guard⟩ a w K Q) :
  wpOp P ops Q i (fun a' w' => S w' ∧ wpAnyH P .any ops Q S n (listed.setIfInBounds i true) a' w') a w := by
 unfold wpOp;simp only [hi, hw, if_true];exact .inl (h _ (fun a' w' h1 h2 => ⟨h1, h2⟩))
theorem h_move (i : Nat) (hr : Region.ready .any ops listed = [i]) (h : wpOp P ops Q i (fun a' w' => S w' ∧ wpAnyH P .any ops Q S n (listed.setIfInBounds i true) a' w') a w) : wpAnyH P .any ops Q S (n + 1) listed a w :=
 wpAnyH_all hr (by simp) (fun j hj => by simp only [List.mem_singleton] at hj; subst hj; exact h)
theorem h_move2 (i j : Nat) (hr : Region.ready .any ops listed = [i, j]) (h : wpOp P ops Q i (fun a' w' => S w' ∧ wpAnyH P .any ops Q S n (listed.setIfInBounds i true) a' w') a w)
  (h2 : wpOp P ops Q j (fun a' w' => S w' ∧ wpAnyH P .any ops Q S n (listed.setIfInBounds j true) a' w') a w) : wpAnyH P .any ops Q S (n + 1) listed a w :=
 wpAnyH_all hr (by simp) (fun k hk => by
  simp only [List.mem_cons, List.not_mem_nil, or_false] at hk;rcases hk with rfl | rfl
  ·
   exact h
  ·
   exact h2)
theorem h_done (hr : Region.ready .any ops listed = []) (h : Q .normal a w) : wpAnyH P .any ops Q S n listed a w := wpAnyH_done hr h n
theorem h_P (hS : S w) (i : Nat) (hi : ops[i]? = some ⟨dst, op, ty, pos, after, guard⟩) {a' : Act} (h : wpAnyH P .any ops Q S n (listed.setIfInBounds i true) a' w) (hs : Region.noSelect ops = true := by kernel_rfl) (hQ : ∀ c a w d v, Q (.panic c) (Act.put a d v) w → Q (.panic c) a w := by intro _ _ _ d _ h; cases d <;> exact h)
  (hc : (Region.free .any ops listed i && (Region.ready .any ops listed).contains i) = true := by kernel_rfl) (hw : Region.wanted ⟨dst, op, ty, pos, after, guard⟩ (yielded ops a.tmps) = true := by kernel_rfl)
  (hv : ∀ w', (execOp a.eval ⟨dst, op, ty, pos, after, guard⟩).run P w' = .ok (.value v) w' := by intro w'; go_simp; with_reducible rfl) (ha : a.put dst v = a' := by (try simp only [Act.put, PuA, PuB, PuC]); exact rfl) : wpAnyH P .any ops Q S (n + 1) listed a w := h_pure hS hs hQ i hi hc hw hv (ha ▸ h)
theorem h_R (S' : World → Prop) (hS : ∀ w', S' w' → S w') (hS' : S' w) (i : Nat) (hi : ops[i]? = some ⟨dst, op, ty, pos, after, guard⟩) (hv : ∀ w', S' w' → (execOp a.eval ⟨dst, op, ty, pos, after, guard⟩).run P w' = .ok (.value v) w')
  {a' : Act} (h : wpAnyH P .any ops Q S' n (listed.setIfInBounds i true) a' w) (hs : Region.noSelect ops = true := by kernel_rfl) (hQ : ∀ c a w d v, Q (.panic c) (Act.put a d v) w → Q (.panic c) a w := by intro _ _ _ d _ h; cases d <;> exact h)
  (hc : (Region.free .any ops listed i && (Region.ready .any ops listed).contains i) = true := by kernel_rfl) (hw : Region.wanted ⟨dst, op, ty, pos, after, guard⟩ (yielded ops a.tmps) = true := by kernel_rfl)
  (ha : a.put dst v = a' := by (try simp only [Act.put, PuA, PuB, PuC]); exact rfl) : wpAnyH P .any ops Q S (n + 1) listed a w := h_read S' hS hS' hs hQ i hi hc hw hv (ha ▸ h)
end
def NewQ (base : Nat) (v : Value) : Prop := ∃ x0 x1 x2 x3 x4 vb vv x7 x8, v = .agg #[x0, x1, x2, x3, x4, vb, vv, x7, x8] ∧ NewV base vb ∧ NewV base vv
theorem NewQ.le {base base' : Nat} {v : Value} (h : NewQ base v) (hb : base' ≤ base) : NewQ base' v := by
 obtain ⟨x0, x1, x2, x3, x4, vb, vv, x7, x8, e, h1, h2⟩ := h;exact ⟨x0, x1, x2, x3, x4, vb, vv, x7, x8, e, h1.le hb, h2.le hb⟩
theorem NewQ.parts {base : Nat} {x0 x1 x2 x3 x4 vb vv x7 x8 : Value} (h : NewQ base (.agg #[x0, x1, x2, x3, x4, vb, vv, x7, x8])) : NewV base vb ∧ NewV base vv := by
 obtain ⟨_, _, _, _, _, _, _, _, _, e, h1, h2⟩ := h;simp only [Value.agg.injEq, Array.mk.injEq, List.cons.injEq] at e;obtain ⟨-, -, -, -, -, rfl, rfl, -⟩ := e;exact ⟨h1, h2⟩
theorem Blk.set_ne {w : World} {g g' : Nat} {e : TypeId} {xs : List Value} (h : Blk w g' e xs) (hne : g ≠ g') (i : Nat) (v : Value) : Blk (w.setCell ⟨g, i, none⟩ v) g' e xs := by
 unfold Blk at h ⊢;simp only [World.setCell, Array.getElem?_modify, hne, if_false];exact h
theorem wOf_wrap (n : Int) : ((wOf n).toNat : Int) = n % 65536 := wOf_nat n
theorem row_one_w (w : World) (n : Int) (h : 0 ≤ n ∧ n ≤ 65535) (g : Nat) (hg : g = w.heap.size) : Row (w.alloc (.cells #[.int .u16 n] 31)) (.slice (some ⟨g, 0, none⟩) 1 1) ([wOf n].map wV) := by
 subst hg;have : [wOf n].map wV = [.int .u16 n] := by simp [wV, wOf_wrap]; omega
 rw [this]; exact row_new w _ 31 1 rfl (by decide)
theorem row_one_b (w : World) (x : Bool) (g : Nat) (hg : g = w.heap.size) : Row (w.alloc (.cells #[.bool x] 4)) (.slice (some ⟨g, 0, none⟩) 1 1) ([x].map Value.bool) := by subst hg; exact row_new w _ 4 1 rfl (by decide)
theorem getN_in (bs : List UInt8) (n : Int) : 0 ≤ getN bs n ∧ getN bs n ≤ 65535 := by
 unfold getN
 split
 ·
  have := (mkW (bs.getD n.toNat 0) (bs.getD (n.toNat + 1) 0)).toNat_lt; omega
 ·
  omega
set_option maxRecDepth 100000 in
set_option maxHeartbeats 400000 in
theorem guess_pdu_1 (v : Value) (bs : List UInt8) (w : World) (hv : Row w v (bs.map bV)) (h0 : bs ≠ []) (hf : fnOf bs = 1) :
  Calls Tryz.prog 76 #[v] w fun e w' => ∃ v', e = .returned v' ∧ IsRq w' v' (gP bs) ∧ Below w.heap.size w w' ∧ NewQ w.heap.size v' := by
 obtain ⟨a, cap, rfl, -⟩ := id hv;obtain ⟨hl, hc, hm, hcell⟩ := hv.at;simp only [List.length_map] at hl hc hv hcell ⊢;obtain ⟨b, off, rfl, hcl⟩ := hcell 0 0 (List.length_pos_iff.2 h0);have c0 := hcl 0 (List.length_pos_iff.2 h0);have hp : (0 : Int) < (bs.length : Int) := by have := List.length_pos_iff.2 h0; omega
 have EQ : Hid (gP bs = ⟨1, getN bs 1, getN bs 3, 0, 0, [], [], 0, 0⟩) := by show _ = _; simp [gP, hf]
 have hf2 : (bs.getD 0 0).toNat = 1 := by unfold fnOf at hf; omega
 simp only [bV, hf2, Nat.add_zero] at c0;have hlt := lt_of_cell c0;have C1 := hidden (fun w' (h : Row w' (.slice (some ⟨b, off, none⟩) bs.length cap) (bs.map bV)) => get_pdu _ bs 1 w' (by omega) h);obtain ⟨i1, j1⟩ := getN_in bs 1;have C3 := hidden (fun w' (h : Row w' (.slice (some ⟨b, off, none⟩) bs.length cap) (bs.map bV)) => get_pdu _ bs 3 w' (by omega) h);obtain ⟨i3, j3⟩ := getN_in bs 3;generalize getN bs 1 = N1 at *;generalize getN bs 3 = N3 at *;have W0 := hidden (fun o1 o2 => ((Below.refl w.heap.size w).alloc (Nat.le_refl _) o1).alloc (by simp) o2);clear hcl hcell hf hf2 hc;go_enter Tryz.func76, Tryz.ntmps76;go_wp2_with fail
 refine (C1.out _ (hv.below (W0.out _ _))).mono ?_;rintro e w1 ⟨rfl, nq0, rfl⟩;go_wp2_with fail
 refine (C3.out _ (hv.below (below_drewn (W0.out _ _) _))).mono ?_;rintro e w1 ⟨rfl, nq1, rfl⟩;go_wp2;refine bodyPost_ret (v := _) (by simp [results, Tryz.results76, go_sem]; exact rfl) rfl ?_;refine ⟨_, rfl, ?_, ?_, ?_⟩
 ·
  rw [EQ.out];exact ⟨_, _, rfl, Row.nil _, Row.nil _⟩
 ·
  repeat' (refine Below.setCell ?_ (by simp) _)
  exact below_drewn (W0.out _ _) _
 ·
  exact ⟨_, _, _, _, _, _, _, _, _, rfl, NewV.none _ _ _, NewV.none _ _ _⟩
set_option maxRecDepth 100000 in
set_option maxHeartbeats 400000 in
theorem guess_pdu_2 (v : Value) (bs : List UInt8) (w : World) (hv : Row w v (bs.map bV)) (h0 : bs ≠ []) (hf : fnOf bs = 2) :
  Calls Tryz.prog 76 #[v] w fun e w' => ∃ v', e = .returned v' ∧ IsRq w' v' (gP bs) ∧ Below w.heap.size w w' ∧ NewQ w.heap.size v' := by
 obtain ⟨a, cap, rfl, -⟩ := id hv;obtain ⟨hl, hc, hm, hcell⟩ := hv.at;simp only [List.length_map] at hl hc hv hcell ⊢;obtain ⟨b, off, rfl, hcl⟩ := hcell 0 0 (List.length_pos_iff.2 h0);have c0 := hcl 0 (List.length_pos_iff.2 h0);have hp : (0 : Int) < (bs.length : Int) := by have := List.length_pos_iff.2 h0; omega
 have EQ : Hid (gP bs = ⟨2, getN bs 1, getN bs 3, 0, 0, [], [], 0, 0⟩) := by show _ = _; simp [gP, hf]
 have hf2 : (bs.getD 0 0).toNat = 2 := by unfold fnOf at hf; omega
 simp only [bV, hf2, Nat.add_zero] at c0;have hlt := lt_of_cell c0;have C1 := hidden (fun w' (h : Row w' (.slice (some ⟨b, off, none⟩) bs.length cap) (bs.map bV)) => get_pdu _ bs 1 w' (by omega) h);obtain ⟨i1, j1⟩ := getN_in bs 1;have C3 := hidden (fun w' (h : Row w' (.slice (some ⟨b, off, none⟩) bs.length cap) (bs.map bV)) => get_pdu _ bs 3 w' (by omega) h);obtain ⟨i3, j3⟩ := getN_in bs 3;generalize getN bs 1 = N1 at *;generalize getN bs 3 = N3 at *;have W0 := hidden (fun o1 o2 => ((Below.refl w.heap.size w).alloc (Nat.le_refl _) o1).alloc (by simp) o2);clear hcl hcell hf hf2 hc;go_enter Tryz.func76, Tryz.ntmps76;go_wp2_with fail
 refine (C1.out _ (hv.below (W0.out _ _))).mono ?_;rintro e w1 ⟨rfl, nq0, rfl⟩;go_wp2_with fail
 refine (C3.out _ (hv.below (below_drewn (W0.out _ _) _))).mono ?_;rintro e w1 ⟨rfl, nq1, rfl⟩;go_wp2;refine bodyPost_ret (v := _) (by simp [results, Tryz.results76, go_sem]; exact rfl) rfl ?_;refine ⟨_, rfl, ?_, ?_, ?_⟩
 ·
  rw [EQ.out];exact ⟨_, _, rfl, Row.nil _, Row.nil _⟩
 ·
  repeat' (refine Below.setCell ?_ (by simp) _)
  exact below_drewn (W0.out _ _) _
 ·
  exact ⟨_, _, _, _, _, _, _, _, _, rfl, NewV.none _ _ _, NewV.none _ _ _⟩
set_option maxRecDepth 100000 in
set_option maxHeartbeats 400000 in
theorem guess_pdu_3 (v : Value) (bs : List UInt8) (w : World) (hv : Row w v (bs.map bV)) (h0 : bs ≠ []) (hf : fnOf bs = 3) :
  Calls Tryz.prog 76 #[v] w fun e w' => ∃ v', e = .returned v' ∧ IsRq w' v' (gP bs) ∧ Below w.heap.size w w' ∧ NewQ w.heap.size v' := by
 obtain ⟨a, cap, rfl, -⟩ := id hv;obtain ⟨hl, hc, hm, hcell⟩ := hv.at;simp only [List.length_map] at hl hc hv hcell ⊢;obtain ⟨b, off, rfl, hcl⟩ := hcell 0 0 (List.length_pos_iff.2 h0);have c0 := hcl 0 (List.length_pos_iff.2 h0);have hp : (0 : Int) < (bs.length : Int) := by have := List.length_pos_iff.2 h0; omega
 have EQ : Hid (gP bs = ⟨3, getN bs 1, getN bs 3, 0, 0, [], [], 0, 0⟩) := by show _ = _; simp [gP, hf]
 have hf2 : (bs.getD 0 0).toNat = 3 := by unfold fnOf at hf; omega
 simp only [bV, hf2, Nat.add_zero] at c0;have hlt := lt_of_cell c0;have C1 := hidden (fun w' (h : Row w' (.slice (some ⟨b, off, none⟩) bs.length cap) (bs.map bV)) => get_pdu _ bs 1 w' (by omega) h);obtain ⟨i1, j1⟩ := getN_in bs 1;have C3 := hidden (fun w' (h : Row w' (.slice (some ⟨b, off, none⟩) bs.length cap) (bs.map bV)) => get_pdu _ bs 3 w' (by omega) h);obtain ⟨i3, j3⟩ := getN_in bs 3;generalize getN bs 1 = N1 at *;generalize getN bs 3 = N3 at *;have W0 := hidden (fun o1 o2 => ((Below.refl w.heap.size w).alloc (Nat.le_refl _) o1).alloc (by simp) o2);clear hcl hcell hf hf2 hc;go_enter Tryz.func76, Tryz.ntmps76;go_wp2_with fail
 refine (C1.out _ (hv.below (W0.out _ _))).mono ?_;rintro e w1 ⟨rfl, nq0, rfl⟩;go_wp2_with fail
 refine (C3.out _ (hv.below (below_drewn (W0.out _ _) _))).mono ?_;rintro e w1 ⟨rfl, nq1, rfl⟩;go_wp2;refine bodyPost_ret (v := _) (by simp [results, Tryz.results76, go_sem]; exact rfl) rfl ?_;refine ⟨_, rfl, ?_, ?_, ?_⟩
 ·
  rw [EQ.out];exact ⟨_, _, rfl, Row.nil _, Row.nil _⟩
 ·
  repeat' (refine Below.setCell ?_ (by simp) _)
  exact below_drewn (W0.out _ _) _
 ·
  exact ⟨_, _, _, _, _, _, _, _, _, rfl, NewV.none _ _ _, NewV.none _ _ _⟩
set_option maxRecDepth 100000 in
set_option maxHeartbeats 400000 in
theorem guess_pdu_4 (v : Value) (bs : List UInt8) (w : World) (hv : Row w v (bs.map bV)) (h0 : bs ≠ []) (hf : fnOf bs = 4) :
  Calls Tryz.prog 76 #[v] w fun e w' => ∃ v', e = .returned v' ∧ IsRq w' v' (gP bs) ∧ Below w.heap.size w w' ∧ NewQ w.heap.size v' := by
 obtain ⟨a, cap, rfl, -⟩ := id hv;obtain ⟨hl, hc, hm, hcell⟩ := hv.at;simp only [List.length_map] at hl hc hv hcell ⊢;obtain ⟨b, off, rfl, hcl⟩ := hcell 0 0 (List.length_pos_iff.2 h0);have c0 := hcl 0 (List.length_pos_iff.2 h0);have hp : (0 : Int) < (bs.length : Int) := by have := List.length_pos_iff.2 h0; omega
 have EQ : Hid (gP bs = ⟨4, getN bs 1, getN bs 3, 0, 0, [], [], 0, 0⟩) := by show _ = _; simp [gP, hf]
 have hf2 : (bs.getD 0 0).toNat = 4 := by unfold fnOf at hf; omega
 simp only [bV, hf2, Nat.add_zero] at c0;have hlt := lt_of_cell c0;have C1 := hidden (fun w' (h : Row w' (.slice (some ⟨b, off, none⟩) bs.length cap) (bs.map bV)) => get_pdu _ bs 1 w' (by omega) h);obtain ⟨i1, j1⟩ := getN_in bs 1;have C3 := hidden (fun w' (h : Row w' (.slice (some ⟨b, off, none⟩) bs.length cap) (bs.map bV)) => get_pdu _ bs 3 w' (by omega) h);obtain ⟨i3, j3⟩ := getN_in bs 3;generalize getN bs 1 = N1 at *;generalize getN bs 3 = N3 at *;have W0 := hidden (fun o1 o2 => ((Below.refl w.heap.size w).alloc (Nat.le_refl _) o1).alloc (by simp) o2);clear hcl hcell hf hf2 hc;go_enter Tryz.func76, Tryz.ntmps76;go_wp2_with fail
 refine (C1.out _ (hv.below (W0.out _ _))).mono ?_;rintro e w1 ⟨rfl, nq0, rfl⟩;go_wp2_with fail
 refine (C3.out _ (hv.below (below_drewn (W0.out _ _) _))).mono ?_;rintro e w1 ⟨rfl, nq1, rfl⟩;go_wp2;refine bodyPost_ret (v := _) (by simp [results, Tryz.results76, go_sem]; exact rfl) rfl ?_;refine ⟨_, rfl, ?_, ?_, ?_⟩
 ·
  rw [EQ.out];exact ⟨_, _, rfl, Row.nil _, Row.nil _⟩
 ·
  repeat' (refine Below.setCell ?_ (by simp) _)
  exact below_drewn (W0.out _ _) _
 ·
  exact ⟨_, _, _, _, _, _, _, _, _, rfl, NewV.none _ _ _, NewV.none _ _ _⟩
set_option maxRecDepth 100000 in
set_option maxHeartbeats 400000 in
theorem guess_pdu_17 (v : Value) (bs : List UInt8) (w : World) (hv : Row w v (bs.map bV)) (h0 : bs ≠ []) (hf : fnOf bs = 17) :
  Calls Tryz.prog 76 #[v] w fun e w' => ∃ v', e = .returned v' ∧ IsRq w' v' (gP bs) ∧ Below w.heap.size w w' ∧ NewQ w.heap.size v' := by
 obtain ⟨a, cap, rfl, -⟩ := id hv;obtain ⟨hl, hc, hm, hcell⟩ := hv.at;simp only [List.length_map] at hl hc hv hcell ⊢;obtain ⟨b, off, rfl, hcl⟩ := hcell 0 0 (List.length_pos_iff.2 h0);have c0 := hcl 0 (List.length_pos_iff.2 h0);have hp : (0 : Int) < (bs.length : Int) := by have := List.length_pos_iff.2 h0; omega
 have EQ : Hid (gP bs = ⟨17, 0, 0, 0, 0, [], [], 0, 0⟩) := by show _ = _; simp [gP, hf]
 have hf2 : (bs.getD 0 0).toNat = 17 := by unfold fnOf at hf; omega
 simp only [bV, hf2, Nat.add_zero] at c0;have hlt := lt_of_cell c0;have W0 := hidden (fun o1 o2 => ((Below.refl w.heap.size w).alloc (Nat.le_refl _) o1).alloc (by simp) o2);clear hcl hcell hf hf2 hc;go_enter Tryz.func76, Tryz.ntmps76;go_wp2;refine bodyPost_ret (v := _) (by simp [results, Tryz.results76, go_sem]; exact rfl) rfl ?_;refine ⟨_, rfl, ?_, ?_, ?_⟩
 ·
  rw [EQ.out];exact ⟨_, _, rfl, Row.nil _, Row.nil _⟩
 ·
  repeat' (refine Below.setCell ?_ (by simp) _)
  exact W0.out _ _
 ·
  exact ⟨_, _, _, _, _, _, _, _, _, rfl, NewV.none _ _ _, NewV.none _ _ _⟩
set_option maxRecDepth 100000 in
set_option maxHeartbeats 400000 in
theorem guess_pdu_22 (v : Value) (bs : List UInt8) (w : World) (hv : Row w v (bs.map bV)) (h0 : bs ≠ []) (hf : fnOf bs = 22) :
  Calls Tryz.prog 76 #[v] w fun e w' => ∃ v', e = .returned v' ∧ IsRq w' v' (gP bs) ∧ Below w.heap.size w w' ∧ NewQ w.heap.size v' := by
 obtain ⟨a, cap, rfl, -⟩ := id hv;obtain ⟨hl, hc, hm, hcell⟩ := hv.at;simp only [List.length_map] at hl hc hv hcell ⊢;obtain ⟨b, off, rfl, hcl⟩ := hcell 0 0 (List.length_pos_iff.2 h0);have c0 := hcl 0 (List.length_pos_iff.2 h0);have hp : (0 : Int) < (bs.length : Int) := by have := List.length_pos_iff.2 h0; omega
 have EQ : Hid (gP bs = ⟨22, getN bs 1, 0, 0, 0, [], [], wOf (getN bs 3), wOf (getN bs 5)⟩) := by show _ = _; simp [gP, hf]
 have hf2 : (bs.getD 0 0).toNat = 22 := by unfold fnOf at hf; omega
 simp only [bV, hf2, Nat.add_zero] at c0;have hlt := lt_of_cell c0;have C1 := hidden (fun w' (h : Row w' (.slice (some ⟨b, off, none⟩) bs.length cap) (bs.map bV)) => get_pdu _ bs 1 w' (by omega) h);obtain ⟨i1, j1⟩ := getN_in bs 1;have C3 := hidden (fun w' (h : Row w' (.slice (some ⟨b, off, none⟩) bs.length cap) (bs.map bV)) => get_pdu _ bs 3 w' (by omega) h);obtain ⟨i3, j3⟩ := getN_in bs 3;have C5 := hidden (fun w' (h : Row w' (.slice (some ⟨b, off, none⟩) bs.length cap) (bs.map bV)) => get_pdu _ bs 5 w' (by omega) h);obtain ⟨i5, j5⟩ := getN_in bs 5;generalize getN bs 1 = N1 at *;generalize getN bs 3 = N3 at *;generalize getN bs 5 = N5 at *;have W0 := hidden (fun o1 o2 => ((Below.refl w.heap.size w).alloc (Nat.le_refl _) o1).alloc (by simp) o2);clear hcl hcell hf hf2 hc;go_enter Tryz.func76, Tryz.ntmps76;go_wp2_with fail
 refine (C1.out _ (hv.below (W0.out _ _))).mono ?_;rintro e w1 ⟨rfl, nq0, rfl⟩;go_wp2_with fail
 refine (C3.out _ (hv.below (below_drewn (W0.out _ _) _))).mono ?_;rintro e w1 ⟨rfl, nq1, rfl⟩;go_wp2_with fail
 refine (C5.out _ (hv.below (below_drewn (W0.out _ _) _))).mono ?_;rintro e w1 ⟨rfl, nq2, rfl⟩;go_wp2;refine bodyPost_ret (v := _) (by simp [results, Tryz.results76, go_sem]; exact rfl) rfl ?_;refine ⟨_, rfl, ?_, ?_, ?_⟩
 ·
  rw [EQ.out];refine ⟨.slice none 0 0, .slice none 0 0, ?_, Row.nil _, Row.nil _⟩;simp [wOf_wrap];omega
 ·
  repeat' (refine Below.setCell ?_ (by simp) _)
  exact below_drewn (W0.out _ _) _
 ·
  exact ⟨_, _, _, _, _, _, _, _, _, rfl, NewV.none _ _ _, NewV.none _ _ _⟩
set_option maxRecDepth 100000 in
set_option maxHeartbeats 400000 in
theorem guess_pdu_5 (v : Value) (bs : List UInt8) (w : World) (hv : Row w v (bs.map bV)) (h0 : bs ≠ []) (hf : fnOf bs = 5) :
  Calls Tryz.prog 76 #[v] w fun e w' => ∃ v', e = .returned v' ∧ IsRq w' v' (gP bs) ∧ Below w.heap.size w w' ∧ NewQ w.heap.size v' := by
 obtain ⟨a, cap, rfl, -⟩ := id hv;obtain ⟨hl, hc, hm, hcell⟩ := hv.at;simp only [List.length_map] at hl hc hv hcell ⊢;obtain ⟨b, off, rfl, hcl⟩ := hcell 0 0 (List.length_pos_iff.2 h0);have c0 := hcl 0 (List.length_pos_iff.2 h0);have hp : (0 : Int) < (bs.length : Int) := by have := List.length_pos_iff.2 h0; omega
 have EQ : Hid (gP bs = ⟨5, getN bs 1, 0, 0, 0, [getN bs 3 == 65280], [], 0, 0⟩) := by show _ = _; simp [gP, hf]
 have hf2 : (bs.getD 0 0).toNat = 5 := by unfold fnOf at hf; omega
 simp only [bV, hf2, Nat.add_zero] at c0;have hlt := lt_of_cell c0;have C1 := hidden (fun w' (h : Row w' (.slice (some ⟨b, off, none⟩) bs.length cap) (bs.map bV)) => get_pdu _ bs 1 w' (by omega) h);obtain ⟨i1, j1⟩ := getN_in bs 1;have C3 := hidden (fun w' (h : Row w' (.slice (some ⟨b, off, none⟩) bs.length cap) (bs.map bV)) => get_pdu _ bs 3 w' (by omega) h);obtain ⟨i3, j3⟩ := getN_in bs 3;generalize getN bs 1 = N1 at *;generalize getN bs 3 = N3 at *;have W0 := hidden (fun o1 o2 => ((Below.refl w.heap.size w).alloc (Nat.le_refl _) o1).alloc (by simp) o2);clear hcl hcell hf hf2 hc;go_enter Tryz.func76, Tryz.ntmps76;go_wp2_with fail
 refine (C1.out _ (hv.below (W0.out _ _))).mono ?_;rintro e w1 ⟨rfl, nq0, rfl⟩;go_wp2_with fail
 refine (C3.out _ (hv.below (below_drewn (W0.out _ _) _))).mono ?_;rintro e w1 ⟨rfl, nq1, rfl⟩;go_wp2;refine bodyPost_ret (v := _) (by simp [results, Tryz.results76, go_sem]; exact rfl) rfl ?_;refine ⟨_, rfl, ?_, ?_, ?_⟩
 ·
  rw [EQ.out];refine ⟨_, _, rfl, ?_, Row.nil _⟩;exact row_one_b _ _ _ (by simp)
 ·
  refine Below.alloc ?_ (by simp; omega) _
  repeat' (refine Below.setCell ?_ (by simp) _)
  exact below_drewn (W0.out _ _) _
 ·
  exact ⟨_, _, _, _, _, _, _, _, _, rfl, NewV.some _ _ _ _ _ (by omega), NewV.none _ _ _⟩
set_option maxRecDepth 100000 in
set_option maxHeartbeats 400000 in
theorem guess_pdu_6 (v : Value) (bs : List UInt8) (w : World) (hv : Row w v (bs.map bV)) (h0 : bs ≠ []) (hf : fnOf bs = 6) :
  Calls Tryz.prog 76 #[v] w fun e w' => ∃ v', e = .returned v' ∧ IsRq w' v' (gP bs) ∧ Below w.heap.size w w' ∧ NewQ w.heap.size v' := by
 obtain ⟨a, cap, rfl, -⟩ := id hv;obtain ⟨hl, hc, hm, hcell⟩ := hv.at;simp only [List.length_map] at hl hc hv hcell ⊢;obtain ⟨b, off, rfl, hcl⟩ := hcell 0 0 (List.length_pos_iff.2 h0);have c0 := hcl 0 (List.length_pos_iff.2 h0);have hp : (0 : Int) < (bs.length : Int) := by have := List.length_pos_iff.2 h0; omega
 have EQ : Hid (gP bs = ⟨6, getN bs 1, 0, 0, 0, [], [wOf (getN bs 3)], 0, 0⟩) := by show _ = _; simp [gP, hf]
 have hf2 : (bs.getD 0 0).toNat = 6 := by unfold fnOf at hf; omega
 simp only [bV, hf2, Nat.add_zero] at c0;have hlt := lt_of_cell c0;have C1 := hidden (fun w' (h : Row w' (.slice (some ⟨b, off, none⟩) bs.length cap) (bs.map bV)) => get_pdu _ bs 1 w' (by omega) h);obtain ⟨i1, j1⟩ := getN_in bs 1;have C3 := hidden (fun w' (h : Row w' (.slice (some ⟨b, off, none⟩) bs.length cap) (bs.map bV)) => get_pdu _ bs 3 w' (by omega) h);obtain ⟨i3, j3⟩ := getN_in bs 3;generalize getN bs 1 = N1 at *;generalize getN bs 3 = N3 at *;have W0 := hidden (fun o1 o2 => ((Below.refl w.heap.size w).alloc (Nat.le_refl _) o1).alloc (by simp) o2);clear hcl hcell hf hf2 hc;go_enter Tryz.func76, Tryz.ntmps76;go_wp2_with fail
 refine (C1.out _ (hv.below (W0.out _ _))).mono ?_;rintro e w1 ⟨rfl, nq0, rfl⟩;go_wp2_with fail
 refine (C3.out _ (hv.below (below_drewn (W0.out _ _) _))).mono ?_;rintro e w1 ⟨rfl, nq1, rfl⟩;go_wp2;refine bodyPost_ret (v := _) (by simp [results, Tryz.results76, go_sem]; exact rfl) rfl ?_;refine ⟨_, rfl, ?_, ?_, ?_⟩
 ·
  rw [EQ.out];refine ⟨_, _, rfl, Row.nil _, ?_⟩;exact row_one_w _ _ ⟨i3, j3⟩ _ (by simp)
 ·
  refine Below.alloc ?_ (by simp; omega) _
  repeat' (refine Below.setCell ?_ (by simp) _)
  exact below_drewn (W0.out _ _) _
 ·
  exact ⟨_, _, _, _, _, _, _, _, _, rfl, NewV.none _ _ _, NewV.some _ _ _ _ _ (by omega)⟩
set_option maxRecDepth 100000 in
set_option maxHeartbeats 400000 in
theorem guess_pdu_8 (v : Value) (bs : List UInt8) (w : World) (hv : Row w v (bs.map bV)) (h0 : bs ≠ []) (hf : fnOf bs = 8) :
  Calls Tryz.prog 76 #[v] w fun e w' => ∃ v', e = .returned v' ∧ IsRq w' v' (gP bs) ∧ Below w.heap.size w w' ∧ NewQ w.heap.size v' := by
 obtain ⟨a, cap, rfl, -⟩ := id hv;obtain ⟨hl, hc, hm, hcell⟩ := hv.at;simp only [List.length_map] at hl hc hv hcell ⊢;obtain ⟨b, off, rfl, hcl⟩ := hcell 0 0 (List.length_pos_iff.2 h0);have c0 := hcl 0 (List.length_pos_iff.2 h0);have hp : (0 : Int) < (bs.length : Int) := by have := List.length_pos_iff.2 h0; omega
 have EQ : Hid (gP bs = ⟨8, 0, 0, 0, getN bs 1, [], [wOf (getN bs 3)], 0, 0⟩) := by show _ = _; simp [gP, hf]
 have hf2 : (bs.getD 0 0).toNat = 8 := by unfold fnOf at hf; omega
 simp only [bV, hf2, Nat.add_zero] at c0;have hlt := lt_of_cell c0;have C1 := hidden (fun w' (h : Row w' (.slice (some ⟨b, off, none⟩) bs.length cap) (bs.map bV)) => get_pdu _ bs 1 w' (by omega) h);obtain ⟨i1, j1⟩ := getN_in bs 1;have C3 := hidden (fun w' (h : Row w' (.slice (some ⟨b, off, none⟩) bs.length cap) (bs.map bV)) => get_pdu _ bs 3 w' (by omega) h);obtain ⟨i3, j3⟩ := getN_in bs 3;generalize getN bs 1 = N1 at *;generalize getN bs 3 = N3 at *;have W0 := hidden (fun o1 o2 => ((Below.refl w.heap.size w).alloc (Nat.le_refl _) o1).alloc (by simp) o2);clear hcl hcell hf hf2 hc;go_enter Tryz.func76, Tryz.ntmps76;go_wp2_with fail
 refine (C1.out _ (hv.below (W0.out _ _))).mono ?_;rintro e w1 ⟨rfl, nq0, rfl⟩;go_wp2_with fail
 refine (C3.out _ (hv.below (below_drewn (W0.out _ _) _))).mono ?_;rintro e w1 ⟨rfl, nq1, rfl⟩;go_wp2;refine bodyPost_ret (v := _) (by simp [results, Tryz.results76, go_sem]; exact rfl) rfl ?_;refine ⟨_, rfl, ?_, ?_, ?_⟩
 ·
  rw [EQ.out];refine ⟨_, _, rfl, Row.nil _, ?_⟩;exact row_one_w _ _ ⟨i3, j3⟩ _ (by simp)
 ·
  refine Below.alloc ?_ (by simp; omega) _
  repeat' (refine Below.setCell ?_ (by simp) _)
  exact below_drewn (W0.out _ _) _
 ·
  exact ⟨_, _, _, _, _, _, _, _, _, rfl, NewV.none _ _ _, NewV.some _ _ _ _ _ (by omega)⟩
end Go.Proofs.YtdihcdphgiaepaaGreat
