/- A region that draws its order, walked step by step: what reads is taken as soon as it may come, under a condition S on the world that every later step must keep; what moves is branched over. Over any program. -/
import Derived.Test.YtdihcdphgiaepaaZZ12
import Derived.Test.YtdihcdphgiaepaaZZ6
import Derived.Test.YtdihcdphgiaepaaZZ10
import Derived.OrdersHeld
import Derived.Test.YtdihcdphgiaepaaZZ2
namespace Go.Proofs.Ytdihcdphgiaepaa
open Go.RowKit
set_option maxHeartbeats 400000 in
theorem get_pdu (v : Value) (bs : List UInt8) (n : Int) (w : World) (hn : -9223372036854775808 ≤ n ∧ n ≤ 9223372036854775807) (hv : Row w v (bs.map bV)) :
  Calls Try.prog 70 #[v, .int .i64 n] w fun e w' => e = .returned (.int .i64 (getN bs n)) ∧ ∃ nq, w' = w.drewN nq := by
 have C := hidden (get_any v bs n w hn hv)
 generalize getN bs n = N at *
 generalize getOk bs n = b at *
 clear hv
 go_enter Try.func70, Try.ntmps70
 go_wp2_with fail
 refine C.out.mono ?_
 rintro e w1 ⟨rfl, nq, rfl⟩
 go_wp2
 go_ret
 exact ⟨rfl, nq, rfl⟩
theorem Row.empty (w : World) (a : Option Addr) (cap : Nat) (h : a = none → cap = 0) (h2 : cap ≤ maxLen) : Row w (.slice a 0 cap) [] := ⟨a, cap, rfl, Nat.zero_le _, h2, h, .inl rfl⟩
theorem Row.drop {w : World} {a : Option Addr} {n cap : Nat} {xs : List Value} (h : Row w (.slice a n cap) xs) (k : Nat) (hk : k ≤ n) (b off : Nat) (ha : a = some ⟨b, off, none⟩) : Row w (.slice (some ⟨b, off + k, none⟩) (n - k) (cap - k)) (xs.drop k) := by
 obtain ⟨a', cap', e, h1, h2, h3, h4⟩ := h
 simp only [Value.slice.injEq] at e
 obtain ⟨rfl, rfl, rfl⟩ := e
 have hl : (xs.drop k).length = xs.length - k := by simp
 refine ⟨_, _, by rw [hl], by omega, by omega, (fun h => by cases h), ?_⟩
 rcases h4 with rfl | ⟨b', off', e, hc⟩
 ·
  exact .inl (by simp)
 ·
  rw [ha] at e
  simp only [Option.some.injEq, Addr.mk.injEq] at e
  obtain ⟨rfl, rfl, -⟩ := e
  refine .inr ⟨b, off + k, rfl, fun i hi => ?_⟩
  rw [hl] at hi
  rw [Nat.add_assoc, hc (k + i) (by omega), List.getElem?_drop]
set_option maxHeartbeats 400000 in
theorem tail_pdu (v : Value) (bs : List UInt8) (n : Int) (k : Nat) (w : World) (hn : n = (k : Int)) (hk : k ≤ 1000) (hv : Row w v (bs.map bV)) :
  Calls Try.prog 72 #[v, .int .i64 n] w fun e w' => ∃ v', e = .returned v' ∧ Row w v' ((tailL bs k).map bV) ∧ w = w' := by
 subst hn
 obtain ⟨a, cap, rfl, -⟩ := id hv
 obtain ⟨hl, hc, hm, hcell⟩ := hv.at
 simp only [List.length_map] at hl hc hv hcell ⊢
 unfold maxLen at hm
 by_cases h1 : bs.length ≤ k
 ·
  have e : tailL bs k = [] := by simp [tailL, h1]
  rw [e]
  have h1' : (bs.length : Int) ≤ (k : Int) := by omega
  go_enter Try.func72, Try.ntmps72
  go_wp2
  go_ret
  exact ⟨_, rfl, Row.nil _, rfl⟩
 ·
  obtain ⟨b, off, rfl, hcl⟩ := hcell k 0 (by omega)
  have c0 := hcl k (by omega)
  have HE : Hid (∀ z : UInt8, z = bs.getD k 0 → (bs.length - k - 1 = z.toNat → tailL bs k = bs.drop (k + 1)) ∧ (bs.length - k - 1 ≠ z.toNat → tailL bs k = [])) := by
   rintro z rfl
   constructor
   ·
    intro h; unfold tailL; rw [if_neg (by intro h'; rcases h' with h' | h' <;> omega)]
   ·
    intro h; unfold tailL; rw [if_pos (.inr h)]
  have HD := hidden (hv.drop (k + 1) (by omega) b off rfl)
  obtain ⟨z, hz⟩ : ∃ z, z = bs.getD k 0 := ⟨_, rfl⟩
  rw [← hz] at c0
  replace HE := HE.out z hz
  clear hz hcl hcell hv
  have hzl := z.toNat_lt
  have h1' : ¬ (bs.length : Int) ≤ (k : Int) := by omega
  by_cases h2 : bs.length - k - 1 = z.toNat
  ·
   rw [HE.1 h2, List.map_drop]
   have t2 : ((bs.length : Int) - (k : Int) - 1 != (z.toNat : Int)) = false := by simp; omega
   have h3 : (k : Int) + 1 ≤ (bs.length : Int) := by omega
   clear HE h2 h1
   have e1 : ((bs.length : Int) - ((k : Int) + 1)).toNat = bs.length - (k + 1) := by omega
   have e2 : ((cap : Int) - ((k : Int) + 1)).toNat = cap - (k + 1) := by omega
   go_enter Try.func72, Try.ntmps72
   go_wp2
   ·
    go_ret
    have e3 : bs.length - (k + 1) = 0 := by omega
    have e4 : List.drop (k + 1) (bs.map bV) = [] := List.drop_eq_nil_of_le (by simp; omega)
    rw [e4]
    refine ⟨_, rfl, ?_, rfl⟩
    simp only [e3]
    exact Row.empty _ _ _ (fun h => by cases h) (Nat.zero_le _)
   ·
    go_ret
    exact ⟨_, rfl, HD.out, rfl⟩
  ·
   rw [HE.2 h2]
   have t2 : ((bs.length : Int) - (k : Int) - 1 != (z.toNat : Int)) = true := by simp; omega
   clear HE h2 h1
   go_enter Try.func72, Try.ntmps72
   go_wp2
   go_ret
   exact ⟨_, rfl, Row.nil _, rfl⟩
end Go.Proofs.Ytdihcdphgiaepaa
namespace Go.Proofs.Ytdihcdphgiaepaa
open Go.RowKit
abbrev rpV (f k a c s : Int) (vb vv : Value) (m o : UInt16) (vd : Value) : Value := .agg #[.int .i64 f, .int .i64 k, .int .i64 a, .int .i64 c, .int .i64 s, vb, vv, wV m, wV o, vd]
def IsRp (w : World) (v : Value) (r : Rp) : Prop := ∃ vb vv vd, v = rpV r.fn r.code r.loc r.cnt r.sub vb vv r.land r.lor vd ∧ Row w vb (r.bits.map Value.bool) ∧ Row w vv (r.vals.map wV) ∧ Row w vd (r.data.map bV)
theorem IsRp.below {w w' : World} {v : Value} {r : Rp} (h : IsRp w v r) (hb : Below w.heap.size w w') : IsRp w' v r := by
 obtain ⟨vb, vv, vd, rfl, h1, h2, h3⟩ := h
 exact ⟨vb, vv, vd, rfl, h1.below hb, h2.below hb, h3.below hb⟩
theorem zero_rp (w : World) : IsRp w (rpV 0 0 0 0 0 (.slice none 0 0) (.slice none 0 0) 0 0 (.slice none 0 0)) zeroP := ⟨_, _, _, rfl, Row.nil w, Row.nil w, Row.nil w⟩
theorem ref_rp (w : World) (f k : Int) : IsRp w (rpV f k 0 0 0 (.slice none 0 0) (.slice none 0 0) 0 0 (.slice none 0 0)) (refP f k) := ⟨_, _, _, rfl, Row.nil w, Row.nil w, Row.nil w⟩
theorem IsRp.slices {w : World} {v : Value} {q : Rp} (h : IsRp w v q) : ∃ ab capb av capv ad capd, v = rpV q.fn q.code q.loc q.cnt q.sub (.slice ab q.bits.length capb) (.slice av q.vals.length capv) q.land q.lor (.slice ad q.data.length capd) ∧ q.bits.length ≤ 9223372036854775807 ∧ q.vals.length ≤ 9223372036854775807 ∧ q.data.length ≤ 9223372036854775807 := by
 obtain ⟨vb, vv, vd, rfl, hb, hv, hd⟩ := h
 obtain ⟨ab, capb, rfl, h1, h2, -⟩ := hb
 obtain ⟨av, capv, rfl, h3, h4, -⟩ := hv
 obtain ⟨ad, capd, rfl, h5, h6, -⟩ := hd
 simp only [List.length_map] at h1 h3 h5 ⊢
 unfold maxLen at h2 h4 h6
 exact ⟨ab, capb, av, capv, ad, capd, rfl, by omega, by omega, by omega⟩
theorem number_rep (n : Int) (w : World) : Calls Try.prog 81 #[.int .i64 n] w fun e w' => e = .returned (.bool (numB n)) ∧ w = w' := by
 by_cases h1 : 0 ≤ n
 ·
  by_cases h2 : n ≤ 65535
  ·
   have hb : numB n = true := by simp [numB]; omega
   rw [hb]
   go_enter Try.func81, Try.ntmps81
   go_wp2
   go_ret
   exact ⟨rfl, rfl⟩
  ·
   have hb : numB n = false := by simp [numB]; omega
   rw [hb]
   go_enter Try.func81, Try.ntmps81
   go_wp2
   go_ret
   exact ⟨rfl, rfl⟩
 ·
  have hb : numB n = false := by simp [numB]; omega
  rw [hb]
  go_enter Try.func81, Try.ntmps81
  go_wp2
  go_ret
  exact ⟨rfl, rfl⟩
set_option maxHeartbeats 1000000 in
theorem counted_rep (u v : Value) (xs ys : List UInt8) (w : World) (hu : Row w u (xs.map bV)) (hv : Row w v (ys.map bV)) (h1 : xs.length ≤ 100000) (h2 : ys.length ≤ 100000) :
  Calls Try.prog 61 #[u, v] w fun e w' => ∃ v', e = .returned v' ∧ Row w' v' ((xs ++ cntL ys).map bV) ∧ Below w.heap.size w w' := by
 obtain ⟨a, cap, rfl, -⟩ := id hu
 obtain ⟨a2, cap2, rfl, -⟩ := id hv
 simp only [List.length_map] at hu hv ⊢
 have W0 := hidden (fun o1 o2 => ((Below.refl w.heap.size w).alloc (Nat.le_refl _) o1).alloc (by simp) o2)
 have ef : flatTo [xs, [UInt8.ofNat ys.length], ys] 3 = xs ++ cntL ys := by simp [flatTo, cntL]
 have EF := hidden ef
 clear ef
 have e8 : ((UInt8.ofNat ys.length).toNat : Int) = (ys.length : Int) % 256 := by rw [UInt8.toNat_ofNat']; omega
 have E8 := hidden e8
 clear e8
 have R1 := hidden (row_new w [.int .u8 ((ys.length : Int) % 256)] 5 1 rfl (by decide))
 go_enter Try.func61, Try.ntmps61
 go_wp2_with fail
 have C := concat_any (w.heap.size + 1) [.slice a xs.length cap, .slice (some ⟨w.heap.size, 0, none⟩) 1 1, .slice a2 ys.length cap2] [xs, [UInt8.ofNat ys.length], ys]
  ((w.alloc (.cells #[.int .u8 ((ys.length : Int) % 256)] 5)).alloc (.cells #[.slice a xs.length cap, .slice (some ⟨w.heap.size, 0, none⟩) 1 1, .slice a2 ys.length cap2] 28)) (by simpa using Blk.new (w.alloc (.cells #[.int .u8 ((ys.length : Int) % 256)] 5)) 28 [.slice a xs.length cap, .slice (some ⟨w.heap.size, 0, none⟩) 1 1, .slice a2 ys.length cap2]) rfl ?q1 ?q2 ?q3 (by simp)
 case q1 =>
  intro i hi
  match i, hi with
  | 0, _ => exact ⟨_, rfl, hu.below (W0.out _ _)⟩
  | 1, _ =>
   refine ⟨_, rfl, ?_⟩
   have : ([UInt8.ofNat ys.length].map bV) = [.int .u8 ((ys.length : Int) % 256)] := by simp only [List.map_cons, List.map_nil, bV, E8.out]
   show Row _ _ ([UInt8.ofNat ys.length].map bV)
   rw [this]
   exact R1.out.below ((Below.refl _ _).alloc (Nat.le_refl _) _)
  | 2, _ => exact ⟨_, rfl, hv.below (W0.out _ _)⟩
 case q2 => rw [show [xs, [UInt8.ofNat ys.length], ys].length = 3 from rfl, EF.out]; simp [cntL]; omega
 case q3 => rw [show [xs, [UInt8.ofNat ys.length], ys].length = 3 from rfl, EF.out]; simp [cntL]; omega
 refine C.mono ?_
 rintro e w2 ⟨v2, rfl, hr2, B2⟩
 rw [show [xs, [UInt8.ofNat ys.length], ys].length = 3 from rfl, EF.out] at hr2
 replace B2 := below_then (W0.out _ _) B2
 go_wp2
 go_ret
 exact ⟨_, rfl, hr2, B2⟩
theorem and127 (n : Int) : bits BinOp.and IntKind.i64 n 127 = n % 128 := by simpa using i64_and_mask n 7 (by decide)
theorem and255 (n : Int) : bits BinOp.and IntKind.i64 n 255 = n % 256 := by simpa using i64_and_mask n 8 (by decide)
set_option maxHeartbeats 400000 in
theorem refuse_rep (f k : Int) (w : World) : Calls Try.prog 28 #[.int .i64 f, .int .i64 k] w fun e w' => e = .returned (rpV (f % 128) (k % 256) 0 0 0 (.slice none 0 0) (.slice none 0 0) 0 0 (.slice none 0 0)) ∧ Below w.heap.size w w' := by
 have a1 := and127 f
 have a2 := and255 k
 go_enter Try.func28, Try.ntmps28
 go_wp2
 refine bodyPost_ret (v := _) (by simp [results, Try.results28, go_sem]; with_reducible rfl) rfl ?_
 exact ⟨rfl, (Below.refl _ _).alloc (Nat.le_refl _) _⟩
end Go.Proofs.Ytdihcdphgiaepaa
namespace Go.Proofs.Ytdihcdphgiaepaa
open Go.RowKit
section
variable {P : Program} {ops : Array Oper} {Q : Exit → Act → World → Prop} {S : World → Prop} {n : Nat} {listed : Array Bool} {i : Nat} {a : Act} {w : World}
  {dst : Option Tmp} {op : Op} {ty : TypeId} {pos : String} {after : Array Edge} {guard : Option (Nat × Bool)} {v : Value}
theorem h_begin {id : Nat} (k : Nat) (hk : ops.size = k) (hm : P.follows .mixedOrders = true) (h : wpAnyH P .any ops Q (fun _ => True) k (Array.replicate k false) a w.drew) : (Code.region id ops true).wp P Q a w := by
 subst hk
 exact wp_region_held hm h
theorem h_pure (hS : S w) (hs : Region.noSelect ops = true) (hQ : ∀ c a w d v, Q (.panic c) (Act.put a d v) w → Q (.panic c) a w) (i : Nat) (hi : ops[i]? = some ⟨dst, op, ty, pos, after, guard⟩)
  (hc : (Region.free .any ops listed i && (Region.ready .any ops listed).contains i) = true) (hw : Region.wanted ⟨dst, op, ty, pos, after, guard⟩ (yielded ops a.tmps) = true)
  (hv : ∀ w', (execOp a.eval ⟨dst, op, ty, pos, after, guard⟩).run P w' = .ok (.value v) w') (h : wpAnyH P .any ops Q S n (listed.setIfInBounds i true) (a.put dst v) w) : wpAnyH P .any ops Q S (n + 1) listed a w := by
 simp only [Bool.and_eq_true] at hc
 exact wpAnyH_take hi hs hc.1 hc.2 (fun c a w => hQ c a w _ _) (.inl ⟨hw, fun w' _ => hv w'⟩) hS h
theorem h_read (S' : World → Prop) (hS : ∀ w', S' w' → S w') (hS' : S' w) (hs : Region.noSelect ops = true) (hQ : ∀ c a w d v, Q (.panic c) (Act.put a d v) w → Q (.panic c) a w) (i : Nat) (hi : ops[i]? = some ⟨dst, op, ty, pos, after, guard⟩)
  (hc : (Region.free .any ops listed i && (Region.ready .any ops listed).contains i) = true) (hw : Region.wanted ⟨dst, op, ty, pos, after, guard⟩ (yielded ops a.tmps) = true)
  (hv : ∀ w', S' w' → (execOp a.eval ⟨dst, op, ty, pos, after, guard⟩).run P w' = .ok (.value v) w') (h : wpAnyH P .any ops Q S' n (listed.setIfInBounds i true) (a.put dst v) w) : wpAnyH P .any ops Q S (n + 1) listed a w := by
 simp only [Bool.and_eq_true] at hc
 exact held_mono hS _ _ _ _ (wpAnyH_take hi hs hc.1 hc.2 (fun c a w => hQ c a w _ _) (.inl ⟨hw, hv⟩) hS' h)
theorem h_op (i : Nat) (hi : ops[i]? = some ⟨dst, op, ty, pos, after, guard⟩) (hw : Region.wanted ⟨dst, op, ty, pos, after, guard⟩ (yielded ops a.tmps) = true)
  (h : ∀ K : Act → World → Prop, Hid (∀ a' w', S w' → wpAnyH P .any ops Q S n (listed.setIfInBounds i true) a' w' → K a' w') → Oper.wp P ⟨dst, op, ty, pos, after, guard⟩ a w K Q) :
  wpOp P ops Q i (fun a' w' => S w' ∧ wpAnyH P .any ops Q S n (listed.setIfInBounds i true) a' w') a w := by
 unfold wpOp
 simp only [hi, hw, if_true]
 exact .inl (h _ (fun a' w' h1 h2 => ⟨h1, h2⟩))
theorem h_move (i : Nat) (hr : Region.ready .any ops listed = [i]) (h : wpOp P ops Q i (fun a' w' => S w' ∧ wpAnyH P .any ops Q S n (listed.setIfInBounds i true) a' w') a w) : wpAnyH P .any ops Q S (n + 1) listed a w :=
 wpAnyH_all hr (by simp) (fun j hj => by simp only [List.mem_singleton] at hj; subst hj; exact h)
theorem h_done (hr : Region.ready .any ops listed = []) (h : Q .normal a w) : wpAnyH P .any ops Q S n listed a w := wpAnyH_done hr h n
theorem h_P (hS : S w) (i : Nat) (hi : ops[i]? = some ⟨dst, op, ty, pos, after, guard⟩) {a' : Act} (h : wpAnyH P .any ops Q S n (listed.setIfInBounds i true) a' w) (hs : Region.noSelect ops = true := by kernel_rfl) (hQ : ∀ c a w d v, Q (.panic c) (Act.put a d v) w → Q (.panic c) a w := by intro _ _ _ d _ h; cases d <;> exact h)
  (hc : (Region.free .any ops listed i && (Region.ready .any ops listed).contains i) = true := by kernel_rfl) (hw : Region.wanted ⟨dst, op, ty, pos, after, guard⟩ (yielded ops a.tmps) = true := by kernel_rfl)
  (hv : ∀ w', (execOp a.eval ⟨dst, op, ty, pos, after, guard⟩).run P w' = .ok (.value v) w' := by intro w'; go_simp; with_reducible rfl) (ha : a.put dst v = a' := by (try simp only [Act.put, PuA, PuB, PuC]); exact rfl) : wpAnyH P .any ops Q S (n + 1) listed a w := h_pure hS hs hQ i hi hc hw hv (ha ▸ h)
theorem h_R (S' : World → Prop) (hS : ∀ w', S' w' → S w') (hS' : S' w) (i : Nat) (hi : ops[i]? = some ⟨dst, op, ty, pos, after, guard⟩) (hv : ∀ w', S' w' → (execOp a.eval ⟨dst, op, ty, pos, after, guard⟩).run P w' = .ok (.value v) w')
  {a' : Act} (h : wpAnyH P .any ops Q S' n (listed.setIfInBounds i true) a' w) (hs : Region.noSelect ops = true := by kernel_rfl) (hQ : ∀ c a w d v, Q (.panic c) (Act.put a d v) w → Q (.panic c) a w := by intro _ _ _ d _ h; cases d <;> exact h)
  (hc : (Region.free .any ops listed i && (Region.ready .any ops listed).contains i) = true := by kernel_rfl) (hw : Region.wanted ⟨dst, op, ty, pos, after, guard⟩ (yielded ops a.tmps) = true := by kernel_rfl)
  (ha : a.put dst v = a' := by (try simp only [Act.put, PuA, PuB, PuC]); exact rfl) : wpAnyH P .any ops Q S (n + 1) listed a w := h_read S' hS hS' hs hQ i hi hc hw hv (ha ▸ h)
end
end Go.Proofs.Ytdihcdphgiaepaa
