/- Contract of burgagelaw4.made. -/
import Derived.Test.YtbajlhpmmmhkoaaJ44
import Derived.Test.YtbajlhpmmmhkoaaJ45
import Derived.Test.YtbajlhpmmmhkoaaJ30
import Derived.Test.YtbajlhpmmmhkoaaJ31
namespace Go.Proofs.Ytbajlhpmmmhkoaa
open Go.RowKit
set_option maxHeartbeats 400000 in
theorem refuse_ref (f k : Int) (w : World) : Calls Try.prog 16 #[.int .i64 f, .int .i64 k] w fun e w' => e = .returned (rpV (f % 128) (k % 256) 0 0 0 (.slice none 0 0) (.slice none 0 0) 0 0 (.slice none 0 0)) ∧ Below w.heap.size w w' := by
 have a1 := and127 f
 have a2 := and255 k
 go_enter Try.func16, Try.ntmps16
 go_wp2
 refine bodyPost_ret (v := _) (by simp [results, Try.results16, go_sem]; with_reducible rfl) rfl ?_
 exact ⟨rfl, (Below.refl _ _).alloc (Nat.le_refl _) _⟩
set_option maxRecDepth 100000 in
set_option maxHeartbeats 1000000 in
theorem tbytes_any (B g : Nat) (l : List Int) (n : Int) (w : World) (hT : Tap B w g l) (hB : B ≤ w.heap.size) (hn : 0 ≤ n ∧ n ≤ 1000) :
  Calls Try.prog 19 #[.pointer (some ⟨g, 0, none⟩), .int .i64 n] w fun e w' => ∃ v', e = .returned v' ∧ ∃ bs : List UInt8, Row w' v' (bs.map bV) ∧ (bs.length : Int) ≤ n ∧ NewV w.heap.size v' ∧ Tap B w' g l ∧ Dev w.heap.size g w w' := by
 obtain ⟨n0, n1⟩ := hn
 have hgB := hT.lt
 go_enter Try.func19, Try.ntmps19
 go_wp2_with fail
 refine (next_any B g l (n + 1) _ hT hB (by omega)).mono ?_
 rintro e w1 ⟨mx, rfl, mx0, mx1, T1, S1, D1⟩
 obtain ⟨k0, rfl⟩ : ∃ k : Nat, mx = (k : Int) := ⟨mx.toNat, by omega⟩
 go_wp2
 go_loopw [5, 6] (fun z i wr => ∃ (k : Nat) (bs : List UInt8), k ≤ k0 ∧ i = .int .i64 ((k0 - k : Nat) : Int) ∧ bs.length = k ∧ wr.ownsRow w.heap.size 5 1 z k (bs.map bV) ∧ Tap B wr g l ∧ Dev w.heap.size g w wr ∧ w.heap.size ≤ wr.heap.size) (fun _ i _ => (intOf i).toNat)
 case atStart => exact ⟨0, [], Nat.zero_le _, by simp, rfl, World.ownsRow_nil _ _ _ _, T1, D1, by omega⟩
 case round =>
  clear T1 D1 S1
  obtain ⟨k, bs, hk, rfl, hbl, ho, Tr, D, hz⟩ := hrel
  by_cases hlt : k < k0
  ·
   have hlt' : (0 : Int) < ((k0 - k : Nat) : Int) := by omega
   go_wp2_with fail
   refine (next_any B g l 256 _ Tr (by omega) (by decide)).mono ?_
   rintro e w2 ⟨y, rfl, y0, y1, T2, S2, D2⟩
   replace ho := owns_dev ho D2 (by omega)
   replace D := D.trans (D2.mono hz)
   replace S2 : wr.heap.size ≤ w2.heap.size := by omega
   have e8 := hidden (b8_val y y0 (by omega))
   have R1 := row_new w2 [.int .u8 y] 5 1 rfl (by decide)
   have L0 := hidden hbl
   clear hbl
   go_wp2_with (at_builtin; refine wpList_app rfl (.tmp 15) (.tmp 19) 33 rfl w.heap.size 5 (.int .u8 0) 1 Try.underlying33 info_u8 rfl rfl (ho.alloc _) rfl R1 ?k0 ?k1 ?k2 ?k3 ?_)
   case k0 => intro u hu; simp at hu; subst hu; rfl
   case k1 => simp [maxLen]; omega
   case k2 => simp; omega
   case k3 => simp; omega
   intro v3 w3 ho3 hg3
   have Bl := ((Below.refl w.heap.size w2).alloc (by omega) (.cells #[.int .u8 y] 5)).grown hg3 (by simp; omega) (fun r hr => (ho.lt r hr).1)
   replace T2 := T2.below (Bl.mono (by omega))
   replace D := D.trans (Dev.of_below Bl)
   have hz3 : w.heap.size ≤ w3.heap.size := by have := hg3.size; simp at this; omega
   clear Bl R1 ho
   have hk' : ((k0 - k : Nat) : Int) - 1 = ((k0 - (k + 1) : Nat) : Int) := by omega
   go_wp2
   go_roundw
   case rel =>
    refine ⟨k + 1, bs ++ [b8 y], by omega, by rw [← hk'], by simp [L0.out], ?_, T2, D, hz3⟩
    have e : bs.map bV ++ [Value.int .u8 y] = (bs ++ [b8 y]).map bV := by simp [bV, e8.out]
    rw [e] at ho3
    simpa using ho3
   case measure => simp [intOf]; omega
  ·
   obtain rfl : k = k0 := by omega
   have hlt' : ¬ (0 : Int) < ((k - k : Nat) : Int) := by omega
   clear hlt
   go_wp2
   go_ret
   exact ⟨_, rfl, bs, Row.of_owns ho, by omega, NewV.of_owns ho, Tr, D⟩
end Go.Proofs.Ytbajlhpmmmhkoaa
namespace Go.Proofs.Ytbajlhpmmmhkoaa
open Go.RowKit
theorem ref_good (f k : Int) (h0 : 0 ≤ f) (h1 : f ≤ 127) (h2 : 1 ≤ k) (h3 : k ≤ 255) : goodE (refP f k) = 0 :=
 goodE_c0 (by simp [refP]; omega) ((codeB_iff _ (by simp [refP]; omega)).2 ⟨h2, h3, h0, h1, rfl⟩)
end Go.Proofs.Ytbajlhpmmmhkoaa
namespace Go.Proofs.Ytbajlhpmmmhkoaa
open Go.RowKit
def FromQ (base : Nat) (qv v : Value) : Prop := ∃ x0 x1 x2 x3 x4 vb vv x7 x8 vd z0 z1 z2 z3 z4 qb qw z7 z8, v = .agg #[x0, x1, x2, x3, x4, vb, vv, x7, x8, vd] ∧ qv = .agg #[z0, z1, z2, z3, z4, qb, qw, z7, z8] ∧ (NewV base vb ∨ vb = qb) ∧ (NewV base vv ∨ vv = qw) ∧ NewV base vd
theorem echoP_good {q : Rq} (h : rightE q = 0) (hf : q.fn = 5 ∨ q.fn = 6 ∨ q.fn = 8 ∨ q.fn = 22) : goodE (echoP q) = 0 := by
 obtain ⟨hk, hform, ⟨n1, n2, n3, n4⟩, hl⟩ := right_parts h
 clear h
 obtain ⟨f, a, c, p, s, bs, vs, m, o⟩ := q
 simp only at hf hk n1 n2 n3 n4
 have z : numB 0 = true := rfl
 rcases hf with rfl | rfl | rfl | rfl
 all_goals
  clear hk
  simp [formP] at hform
  simp [listB] at hl
 ·
  obtain ⟨rfl, rfl, rfl, rfl, rfl, rfl⟩ := hform
  exact goodE_0 rfl rfl (by simp [formA, echoP]) (by simp [echoP, n1, z]) (by simp [listA, echoP, hl])
 ·
  obtain ⟨rfl, rfl, rfl, rfl, rfl, rfl⟩ := hform
  exact goodE_0 rfl rfl (by simp [formA, echoP]) (by simp [echoP, n1, z]) (by simp [listA, echoP, hl])
 ·
  obtain ⟨rfl, rfl, rfl, rfl, rfl, rfl⟩ := hform
  exact goodE_0 rfl rfl (by simp [formA, echoP]) (by simp [echoP, n3, z]) (by simp [listA, echoP, hl])
 ·
  obtain ⟨rfl, rfl, rfl, rfl, rfl⟩ := hform
  exact goodE_0 rfl rfl (by simp [formA, echoP]) (by simp [echoP, n1, z]) (by simp [listA, echoP])
end Go.Proofs.Ytbajlhpmmmhkoaa
