/- Contracts once more, saying that what is handed back is new. -/
import Derived.Test.YtdihcdphgiaepaaGreatZZ27
import Derived.Test.YtdihcdphgiaepaaGreatZZ28
import Derived.Test.YtdihcdphgiaepaaGreatZZ12
namespace Go.Proofs.YtdihcdphgiaepaaGreat
open Go.RowKit
theorem nw_off {B g lo hi : Nat} {v : Value} (h : NwV B v) (hg : g < B) (hh : hi ≤ B) : Off (Gd g lo hi) v := fun k hk x => by
 have := h k hk;rcases x with x | x
 ·
  omega
 ·
  have := x.2; omega
theorem bw_gd {W w w' : World} {g lo hi : Nat} (hb : Below W.heap.size W w) (k : Kp (Gd g lo hi) w w') (h : W.heap.size ≤ lo ∧ hi ≤ g ∧ W.heap.size ≤ g) : Below W.heap.size W w' :=
 hb.trans (k.below _ hb.size (fun i x => by
  rcases x with x | x
  ·
   omega
  ·
   have := x.1; omega))
theorem RowF.nil (F : Nat → Prop) (w : World) : RowF F w (.slice none 0 0) [] := ⟨Row.nil w, fun h => absurd rfl h⟩
set_option maxHeartbeats 1000000 in
theorem concat_new (g : Nat) (vs : List Value) (xss : List (List UInt8)) (w : World) (hg : Blk w g 27 vs) (hl : vs.length = xss.length) (hr : ∀ i, i < vs.length → ∃ v, vs[i]? = some v ∧ Row w v ((xss.getD i []).map bV)) (h0 : 0 < (flatTo xss xss.length).length) (h1 : (flatTo xss xss.length).length ≤ 1000000) (h2 : vs.length ≤ 1000) :
  Calls Tryz.prog 120 #[.slice (some ⟨g, 0, none⟩) vs.length vs.length] w fun e w' => ∃ v', e = .returned v' ∧ w'.ownsRow w.heap.size 5 1 v' (flatTo xss xss.length).length ((flatTo xss xss.length).map bV) ∧ Below w.heap.size w w' := by
 have hlt := hg.lt;have HR := hidden hr;have HL := hidden hl;have FL := hidden (flat_le xss);have FT := hidden (flat_take xss);clear hr hl;generalize hn : vs.length = n at *;have HN := hidden hn;clear hn;go_enter Tryz.func120, Tryz.ntmps120;go_wp2;go_loopw [3, 11] (fun z i wr => ∃ k : Nat, k ≤ n ∧ i = .int .i64 k ∧ z = .int .i64 ((flatTo xss k).length : Nat) ∧ w = wr) (fun _ i _ => n - (intOf i).toNat)
 case atStart => exact ⟨0, Nat.zero_le _, rfl, by simp [flatTo], rfl⟩
 case round =>
  obtain ⟨k, hk, rfl, rfl, rfl⟩ := hrel;by_cases hkn : k < n
  ·
   obtain ⟨v, e1, e2⟩ := HR.out k hkn;obtain ⟨a, cap, rfl, -⟩ := e2;have c0 : w.cell? ⟨g, k, none⟩ = _ := (hg.cell k).trans e1;have S := FT.out k (by have := HL.out; omega);have Le := FL.out k;have Le2 := FL.out (k + 1);rw [S, List.length_append] at Le2;have S2 := hidden S;clear e1 S;simp only [List.length_map] at c0;generalize xss.getD k [] = y at *;generalize flatTo xss k = ys at *;have u1 : ¬ ((ys.length : Int) + (y.length : Int) < 0) := by omega
   have hkn' : (k : Int) < (n : Int) := by omega
   go_wp2;go_roundw
   case rel =>
    refine ⟨k + 1, by omega, by go_num, ?_, trivial⟩;rw [S2.out, List.length_append]; simp
   case measure => simp [intOf]; omega
  ·
   obtain rfl : k = n := by omega
   have HL' := HL.out;rw [← HL'] at h0 h1;have T := hidden HL';clear HL';have S3 : ((flatTo xss k).length : Int) < 1000001 := by omega
   have hkn' : ¬ (k : Int) < (k : Int) := by omega
   clear hkn;go_wp2_with fail
   refine (grow_nil _ (flatTo xss k).length _ rfl h0 (by omega)).mono ?_;rintro e w1 ⟨v1, rfl, ho1, b1⟩;go_wp2;go_loopw [6, 27] (fun z i wr => ∃ j : Nat, j ≤ k ∧ i = .int .i64 j ∧ wr.ownsRow w.heap.size 5 1 z (flatTo xss j).length ((flatTo xss j).map bV) ∧ Below w.heap.size w wr) (fun _ i _ => k - (intOf i).toNat)
   case atStart => exact ⟨0, Nat.zero_le _, rfl, by simpa [flatTo] using ho1, b1⟩
   case round =>
    obtain ⟨j, hj, rfl, ho, hb⟩ := hrel;clear ho1 b1;by_cases hjn : j < k
    ·
     obtain ⟨v, e1, e2⟩ := HR.out j hjn;have R2 := e2.below hb;obtain ⟨a, cap, rfl, -⟩ := e2;have c0 : wr.cell? ⟨g, j, none⟩ = _ := ((hg.below hb hlt).cell j).trans e1;have S := FT.out j (by have := HL.out; omega);have Le := FL.out j;have Le2 := FL.out (j + 1);rw [← T.out] at Le Le2;rw [S, List.length_append] at Le2;have S2 := hidden S;clear e1 S;simp only [List.length_map] at c0 R2;generalize xss.getD j [] = y at *;generalize flatTo xss j = ys at *;have hjn' : (j : Int) < (k : Int) := by omega
     have hsz := hb.size;go_wp2_with (at_builtin; refine wpList_app rfl (.tmp 31) (.tmp 32) 27 rfl w.heap.size 5 (.int .u8 0) 1 Tryz.underlying27 info_u8 rfl rfl ho rfl R2 ?k0 ?k1 ?k2 ?k3 ?_)
     case k0 => exact one_bytes y
     case k1 => simp [maxLen]; omega
     case k2 => simp; omega
     case k3 => exact hsz
     intro v2 w2 ho2 hg2;have q := hb.grown hg2 hsz (fun k hk => (ho.lt k hk).1);go_wp2;go_roundw
     case rel =>
      refine ⟨j + 1, by omega, by go_num, ?_, q⟩;rw [S2.out, List.length_append]
      simpa using ho2
     case measure => simp [intOf]; omega
    ·
     obtain rfl : j = k := by omega
     have hjn' : ¬ (j : Int) < (j : Int) := by omega
     clear hjn;go_wp2;go_ret;rw [← T.out];exact ⟨_, rfl, ho, hb⟩
theorem counted_rep_new (u v : Value) (xs ys : List UInt8) (w : World) (hu : Row w u (xs.map bV)) (hv : Row w v (ys.map bV)) (h1 : xs.length ≤ 100000) (h2 : ys.length ≤ 100000) :
  Calls Tryz.prog 81 #[u, v] w fun e w' => ∃ v', e = .returned v' ∧ Row w' v' ((xs ++ cntL ys).map bV) ∧ NwV w.heap.size v' ∧ Below w.heap.size w w' := by
 obtain ⟨a, cap, rfl, -⟩ := id hu;obtain ⟨a2, cap2, rfl, -⟩ := id hv;simp only [List.length_map] at hu hv ⊢;have W0 := hidden (fun o1 o2 => ((Below.refl w.heap.size w).alloc (Nat.le_refl _) o1).alloc (by simp) o2);have ef : flatTo [xs, [UInt8.ofNat ys.length], ys] 3 = xs ++ cntL ys := by simp [flatTo, cntL]
 have EF := hidden ef;clear ef;have e8 : ((UInt8.ofNat ys.length).toNat : Int) = (ys.length : Int) % 256 := by rw [UInt8.toNat_ofNat']; omega
 have E8 := hidden e8;clear e8;have R1 := hidden (row_new w [.int .u8 ((ys.length : Int) % 256)] 5 1 rfl (by decide));go_enter Tryz.func81, Tryz.ntmps81;go_wp2_with fail
 have C := concat_new (w.heap.size + 1) [.slice a xs.length cap, .slice (some ⟨w.heap.size, 0, none⟩) 1 1, .slice a2 ys.length cap2] [xs, [UInt8.ofNat ys.length], ys]
  ((w.alloc (.cells #[.int .u8 ((ys.length : Int) % 256)] 5)).alloc (.cells #[.slice a xs.length cap, .slice (some ⟨w.heap.size, 0, none⟩) 1 1, .slice a2 ys.length cap2] 27)) (by simpa using Blk.new (w.alloc (.cells #[.int .u8 ((ys.length : Int) % 256)] 5)) 27 [.slice a xs.length cap, .slice (some ⟨w.heap.size, 0, none⟩) 1 1, .slice a2 ys.length cap2]) rfl ?q1 ?q2 ?q3 (by simp)
 case q1 =>
  intro i hi
  match i, hi with
  | 0, _ => exact ⟨_, rfl, hu.below (W0.out _ _)⟩
  | 1, _ =>
   refine ⟨_, rfl, ?_⟩;have : ([UInt8.ofNat ys.length].map bV) = [.int .u8 ((ys.length : Int) % 256)] := by simp only [List.map_cons, List.map_nil, bV, E8.out]
   show Row _ _ ([UInt8.ofNat ys.length].map bV);rw [this];exact R1.out.below ((Below.refl _ _).alloc (Nat.le_refl _) _)
  | 2, _ => exact ⟨_, rfl, hv.below (W0.out _ _)⟩
 case q2 => rw [show [xs, [UInt8.ofNat ys.length], ys].length = 3 from rfl, EF.out]; simp [cntL]; omega
 case q3 => rw [show [xs, [UInt8.ofNat ys.length], ys].length = 3 from rfl, EF.out]; simp [cntL]; omega
 refine C.mono ?_;rintro e w2 ⟨v2, rfl, ho2, B2⟩;have hr2 := Row.of_owns ho2;have nw2 : Hid (NwV w.heap.size v2) := fun k hk => Nat.le_trans (W0.out _ _).size (ho2.lt k hk).1;clear ho2;rw [show [xs, [UInt8.ofNat ys.length], ys].length = 3 from rfl, EF.out] at hr2;replace B2 := below_then (W0.out _ _) B2;go_wp2;go_ret;exact ⟨_, rfl, hr2, nw2.out, B2⟩
set_option maxHeartbeats 400000 in
theorem put_new (v : Value) (bs : List UInt8) (n : Int) (w : World) (_hn : -9223372036854775808 ≤ n ∧ n ≤ 9223372036854775807) (hv : Row w v (bs.map bV)) (hr : bs.length ≤ 140737488351232) :
  Calls Tryz.prog 84 #[v, .int .i64 n] w fun e w' => ∃ v', e = .returned v' ∧ Row w' v' ((bs ++ [hiB (wOf n), loB (wOf n)]).map bV) ∧ NwV w.heap.size v' ∧ Below w.heap.size w w' := by
 obtain ⟨a, cap, rfl, -⟩ := id hv;obtain ⟨hl, hc, hm, -⟩ := hv.at;simp only [List.length_map] at hl hc hv ⊢;have hmk := mk_zer 27 5 (.int .u8 0) 1 Tryz.underlying27 info_u8 rfl ((bs.length : Int) + 2) (bs.length + 2) (by omega) (by omega) (by omega);have hb0 : Below w.heap.size w (w.alloc (.cells (zer (bs.length + 2) (.int .u8 0)) 5)) := (Below.refl _ _).alloc (Nat.le_refl _) _;have hg0 := zer_blk w (bs.length + 2) (.int .u8 0) 5;obtain ⟨w1, hrun, hg1, hb1⟩ := copy_run (P := Tryz.prog) hb0 27 27 3 5 Tryz.underlying27 (by kernel_rfl) w.heap.size 0 (bs.length + 2) (bs.length + 2) a bs.length cap _ _ hg0 (Nat.le_refl _) (bs.map bV) (hv.below hb0) (one_bytes bs) (by simp);have hg3 : Blk w1 w.heap.size 5 (bs.map bV ++ [.int .u8 0, .int .u8 0]) := by
  have e : splice (List.replicate (bs.length + 2) (Value.int .u8 0)) 0 ((bs.map bV).take (bs.length + 2)) = bs.map bV ++ [.int .u8 0, .int .u8 0] := by
   rw [List.take_of_length_le (by simp)];simp [splice, List.drop_replicate]
  rw [← e]; exact hg1
 clear hg1 hg0 hb0 hv;go_enter Tryz.func84, Tryz.ntmps84;go_wp2_with fail
 refine (lay_blk w.heap.size (bs.length + 2) (bs.length + 2) _ _ bs.length (wOf n) w1 _ _ hg3 (by simp) rfl (by rw [wOf_nat, IntKind.wrap_u16]) (by omega) (by unfold maxLen; omega)).mono ?_;rintro e w2 ⟨rfl, hg4, hb4⟩;go_wp2;go_ret;have e2 : ((bs.map bV ++ [Value.int .u8 0, .int .u8 0]).set bs.length (bV (hiB (wOf n)))).set (bs.length + 1) (bV (loB (wOf n))) = (bs ++ [hiB (wOf n), loB (wOf n)]).map bV := by
  simp
 rw [e2] at hg4;refine ⟨_, rfl, ?_, NwV.mk _ _ _ _ _ (Nat.le_refl _), ?_⟩
 ·
  have := hg4.row (bs.length + 2) (by simp) (by unfold maxLen; omega)
  simpa using this
 ·
  exact hb1.trans hb4
set_option maxHeartbeats 1000000 in
theorem put_pdu_new (u v : Value) (xs : List UInt8) (l : List Int) (w : World) (hu : Row w u (xs.map bV)) (hv : Row w v (l.map iV)) (hl : ∀ i, i < l.length → -9223372036854775808 ≤ l.getD i 0 ∧ l.getD i 0 ≤ 9223372036854775807) (h1 : xs.length ≤ 100000) (h2 : l.length ≤ 1000) :
  Calls Tryz.prog 111 #[u, v] w fun e w' => ∃ v', e = .returned v' ∧ Row w' v' ((xs ++ pwL l).map bV) ∧ (0 < l.length → NwV w.heap.size v') ∧ Below w.heap.size w w' := by
 obtain ⟨a2, cap2, rfl, -⟩ := id hv;simp only [List.length_map] at hv ⊢;have HI := hidden hl;clear hl;have PT := hidden (pwL_take l);go_enter Tryz.func111, Tryz.ntmps111;go_wp2;go_loopw [0, 9] (fun z i wr => ∃ k : Nat, k ≤ l.length ∧ i = .int .i64 k ∧ Row wr z ((xs ++ pwL (l.take k)).map bV) ∧ Below w.heap.size w wr ∧ Hid (0 < k → NwV w.heap.size z)) (fun _ i _ => l.length - (intOf i).toNat)
 case atStart => exact ⟨0, Nat.zero_le _, rfl, by simpa [pwL] using hu, Below.refl _ _, fun h => by omega⟩
 case round =>
  obtain ⟨k, hk, rfl, hz, hb, HN⟩ := hrel;clear hu;by_cases hkn : k < l.length
  ·
   obtain ⟨-, -, -, hcell⟩ := (hv.below hb).at;obtain ⟨b, off, rfl, hcl⟩ := hcell k 0 hkn;have c0 := hcl k hkn;obtain ⟨n1, n2⟩ := HI.out k hkn;have S := hidden (PT.out k hkn);have Ln : (pwL (l.take k)).length ≤ 2 * l.length := by rw [pwL_len, List.length_take]; omega
   clear hcl hcell hv;generalize l.getD k 0 = x at *;generalize pwL (l.take k) = ys at *;have hkn' : (k : Int) < (l.length : Int) := by omega
   go_wp2_with fail
   refine (put_new _ (xs ++ ys) x _ ⟨n1, n2⟩ hz (by rw [List.length_append]; omega)).mono ?_;rintro e w2 ⟨v2, rfl, hr2, nw2, B2⟩;replace nw2 : Hid (0 < k + 1 → NwV w.heap.size v2) := fun _ => nw2.mono hb.size;replace B2 := below_then hb B2;go_wp2;go_roundw
   case rel =>
    refine ⟨k + 1, by omega, by go_num, ?_, B2, nw2⟩;rw [S.out, ← List.append_assoc];exact hr2
   case measure => simp [intOf]; omega
  ·
   obtain rfl : k = l.length := by omega
   rw [List.take_length] at hz;clear hkn;go_wp2;go_ret;exact ⟨_, rfl, hz, HN.out, hb⟩
set_option maxRecDepth 100000 in
set_option maxHeartbeats 2000000 in
theorem bytes_pdu_5_new (v : Value) (q : Rq) (w : World) (h : IsRq w v q) (hr : rightE q = 0) (hf : q.fn = 5) :
  Calls Tryz.prog 77 #[v] w fun e w' => ∃ v', e = .returned (.tuple #[v', .int .i64 0]) ∧ Row w' v' ((bytesQ q).map bV) ∧ NwV w.heap.size v' ∧ Below w.heap.size w w' := by
 obtain ⟨ab, capb, av, capv, rfl, -, -⟩ := h.slices;have W0 := hidden (fun o => (Below.refl w.heap.size w).alloc (Nat.le_refl _) o);have HQ := hidden (fun w' (hb : Below w.heap.size w w') => h.below hb);obtain ⟨vb, vv, hE, hb, hv⟩ := id h;obtain ⟨-, hform, ⟨n1, n2, n3, n4⟩, hlist⟩ := right_parts hr;have HR := hidden hr;obtain ⟨f, a, c, p, s, bs, vs, m, o⟩ := q;simp only [rqV, Value.agg.injEq, Array.mk.injEq, List.cons.injEq, and_true, true_and] at hE;obtain ⟨rfl, rfl⟩ := hE;simp only at hf n1 n2 n3 n4 HR HQ hb hv hlist ⊢;subst hf;obtain ⟨x, rfl⟩ := one_of_len (show bs.length = 1 by simpa [listB] using hlist);have EQ := hidden (show bytesQ ⟨5, a, c, p, s, [x], vs, m, o⟩ = [5] ++ pwL [a, if x then 65280 else 0] by simp [bytesQ, bodyQ, pwL]);clear hr h hform hlist;go_enter Tryz.func77, Tryz.ntmps77;go_wp2_with fail
 refine (right_pdu _ _ _ (HQ.out _ (W0.out _))).mono ?_;rintro e w1 ⟨rfl, B1⟩;rw [HR.out];have X := (Box.new w _ _ _ _ _ _ _ _ _ _).ext B1;replace B1 := below_then (W0.out _) B1;have X1 := hidden X;obtain ⟨lt, c0, c1, c2, c3, c4, c5, c6, c7, c8⟩ := X;go_wp2;refine wp_region_pi [(0, true), (1, true), (2, true), (3, true), (4, true), (5, true), (6, true), (7, false), (8, false), (9, false), (10, true)] (by kernel_rfl) (by kernel_rfl) (by kernel_rfl) (fun _ _ _ d _ h => by cases d <;> exact h) ?_;have B2 := (B1.alloc B1.size (.cells #[.int .u8 5] 5)).drew;have R2 := (row_byte w1 5 5 rfl).drew;have X2 := hidden (X1.out.below ((Below.refl w1.heap.size w1).alloc (Nat.le_refl _) (.cells #[.int .u8 5] 5)).drew lt);have x2 := Ext.refl (w1.alloc (.cells #[.int .u8 5] 5)).drew;clear c0 c1 c2 c3 c4 c5 c6 c7 c8 X1;generalize hw2 : (w1.alloc (.cells #[.int .u8 5] 5)).drew = w2 at *;have hb2 := hidden (hb.below B2);have hv2 := hidden (hv.below B2);obtain ⟨b, off, capx, hE, -⟩ := row_one hb2.out;simp only [List.length_cons, List.length_nil, Nat.zero_add, Value.slice.injEq] at hE;obtain ⟨rfl, -, rfl⟩ := hE;have Y2 : Hid (∀ w', Ext w2 w' → w'.cell? ⟨b, off, none⟩ = some (.bool x)) := fun w' hx => by
  obtain ⟨_, _, _, hE, h⟩ := row_one (hb2.out.below hx);simp at hE; obtain ⟨⟨rfl, rfl⟩, -⟩ := hE; exact h
 iterate 7 (first | (refine pi_P x2 rfl ?_) | (refine pi_R x2 rfl (fun w' hx => by obtain ⟨d, c0, c1, c2, c3, c4, c5, c6, c7, c8⟩ := X2.out.ext hx; have y := Y2.out w' hx; go_simp; with_reducible rfl) ?_))
 refine pi_move rfl (by kernel_rfl) (fun K hK => ?_);go_wp2_with fail
 refine (coil_pdu _ _).mono ?_;rintro e w3 ⟨rfl, rfl⟩;go_simp;refine hK.out _ _ x2 ?_;clear K hK;try simp only [Act.put, PuA, PuB, PuC]
 obtain ⟨n, hn⟩ : ∃ n : Int, (if x then 65280 else 0) = n := ⟨_, rfl⟩;have hn2 : numB n = true := by subst hn; cases x <;> decide
 simp only [hn] at EQ ⊢;refine pi_move rfl (by kernel_rfl) (fun K hK => ?_);go_simp;have B3 := B2.alloc B2.size (.cells #[.int .i64 a, .int .i64 n] 3);have E3 := (Below.refl w2.heap.size w2).alloc (Nat.le_refl _) (.cells #[.int .i64 a, .int .i64 n] 3);refine hK.out _ _ E3 ?_;clear K hK;try simp only [Act.put, PuA, PuB, PuC]
 refine pi_move rfl (by kernel_rfl) (fun K hK => ?_);go_wp2_with fail
 refine (put_pdu_new _ _ [5] [a, n] _ (R2.below E3) (row_ints w2 [a, n] 2 rfl (by decide) #[.int .i64 a, .int .i64 n] rfl) (all_in1 (numB_in n1) (numB_in hn2)) (by decide) (by simp)).mono ?_;rintro e w4 ⟨v4, rfl, hr2, nwv, B4⟩;replace nwv := nwv (by simp);have HNW : Hid (NwV w.heap.size v4) := nwv.mono B3.size;clear nwv;go_simp;have E4 := Ext.trans E3 B4;refine hK.out _ _ E4 ?_;clear K hK;try simp only [Act.put, PuA, PuB, PuC]
 replace B2 := below_then B3 B4;iterate 1 (refine pi_P E4 rfl ?_)
 refine pi_nil ?_;go_wp2;go_ret2
 rw [EQ.out];exact ⟨_, rfl, hr2, HNW.out, B2⟩
set_option maxRecDepth 100000 in
set_option maxHeartbeats 2000000 in
theorem bytes_pdu_6_new (v : Value) (q : Rq) (w : World) (h : IsRq w v q) (hr : rightE q = 0) (hf : q.fn = 6) :
  Calls Tryz.prog 77 #[v] w fun e w' => ∃ v', e = .returned (.tuple #[v', .int .i64 0]) ∧ Row w' v' ((bytesQ q).map bV) ∧ NwV w.heap.size v' ∧ Below w.heap.size w w' := by
 obtain ⟨ab, capb, av, capv, rfl, -, -⟩ := h.slices;have W0 := hidden (fun o => (Below.refl w.heap.size w).alloc (Nat.le_refl _) o);have HQ := hidden (fun w' (hb : Below w.heap.size w w') => h.below hb);obtain ⟨vb, vv, hE, hb, hv⟩ := id h;obtain ⟨-, hform, ⟨n1, n2, n3, n4⟩, hlist⟩ := right_parts hr;have HR := hidden hr;obtain ⟨f, a, c, p, s, bs, vs, m, o⟩ := q;simp only [rqV, Value.agg.injEq, Array.mk.injEq, List.cons.injEq, and_true, true_and] at hE;obtain ⟨rfl, rfl⟩ := hE;simp only at hf n1 n2 n3 n4 HR HQ hb hv hlist ⊢;subst hf;obtain ⟨x, rfl⟩ := one_of_len (show vs.length = 1 by simpa [listB] using hlist);have EQ := hidden (show bytesQ ⟨6, a, c, p, s, bs, [x], m, o⟩ = [6] ++ pwL [a, (x.toNat : Int)] by simp [bytesQ, bodyQ, pwL]);have hxl := x.toNat_lt;have WX := hidden (show IntKind.i64.wrap (x.toNat : Int) = x.toNat by rw [IntKind.wrap_i64]; omega);clear hr h hform hlist;go_enter Tryz.func77, Tryz.ntmps77;go_wp2_with fail
 refine (right_pdu _ _ _ (HQ.out _ (W0.out _))).mono ?_;rintro e w1 ⟨rfl, B1⟩;rw [HR.out];have X := (Box.new w _ _ _ _ _ _ _ _ _ _).ext B1;replace B1 := below_then (W0.out _) B1;have X1 := hidden X;obtain ⟨lt, c0, c1, c2, c3, c4, c5, c6, c7, c8⟩ := X;go_wp2;refine wp_region_pi [(0, true), (1, true), (2, true), (3, true), (4, true), (5, true), (6, true), (7, true), (8, false), (9, false), (10, true)] (by kernel_rfl) (by kernel_rfl) (by kernel_rfl) (fun _ _ _ d _ h => by cases d <;> exact h) ?_;have B2 := (B1.alloc B1.size (.cells #[.int .u8 6] 5)).drew;have R2 := (row_byte w1 6 6 rfl).drew;have X2 := hidden (X1.out.below ((Below.refl w1.heap.size w1).alloc (Nat.le_refl _) (.cells #[.int .u8 6] 5)).drew lt);have x2 := Ext.refl (w1.alloc (.cells #[.int .u8 6] 5)).drew;clear c0 c1 c2 c3 c4 c5 c6 c7 c8 X1;generalize hw2 : (w1.alloc (.cells #[.int .u8 6] 5)).drew = w2 at *;have hb2 := hidden (hb.below B2);have hv2 := hidden (hv.below B2);obtain ⟨b, off, capx, hE, -⟩ := row_one hv2.out;simp only [List.length_cons, List.length_nil, Nat.zero_add, Value.slice.injEq] at hE;obtain ⟨rfl, -, rfl⟩ := hE;have Y2 : Hid (∀ w', Ext w2 w' → w'.cell? ⟨b, off, none⟩ = some (wV x)) := fun w' hx => by
  obtain ⟨_, _, _, hE, h⟩ := row_one (hv2.out.below hx);simp at hE; obtain ⟨⟨rfl, rfl⟩, -⟩ := hE; exact h
 iterate 8 (first | (refine pi_pure x2 rfl (by kernel_rfl) (fun w' => by have wx := WX.out; go_simp; with_reducible rfl) ?_; try simp only [Act.put, PuA, PuB, PuC]) | (refine pi_R x2 rfl (fun w' hx => by obtain ⟨d, c0, c1, c2, c3, c4, c5, c6, c7, c8⟩ := X2.out.ext hx; have y := Y2.out w' hx; have wx := WX.out; go_simp; with_reducible rfl) ?_))
 refine pi_move rfl (by kernel_rfl) (fun K hK => ?_);go_simp;have B3 := B2.alloc B2.size (.cells #[.int .i64 a, .int .i64 x.toNat] 3);have E3 := (Below.refl w2.heap.size w2).alloc (Nat.le_refl _) (.cells #[.int .i64 a, .int .i64 x.toNat] 3);refine hK.out _ _ E3 ?_;clear K hK;try simp only [Act.put, PuA, PuB, PuC]
 refine pi_move rfl (by kernel_rfl) (fun K hK => ?_);go_wp2_with fail
 refine (put_pdu_new _ _ [6] [a, (x.toNat : Int)] _ (R2.below E3) (row_ints w2 [a, (x.toNat : Int)] 2 rfl (by decide) #[.int .i64 a, .int .i64 x.toNat] rfl) (all_in1 (numB_in n1) (val_in x)) (by decide) (by simp)).mono ?_;rintro e w4 ⟨v4, rfl, hr2, nwv, B4⟩;replace nwv := nwv (by simp);have HNW : Hid (NwV w.heap.size v4) := nwv.mono B3.size;clear nwv;go_simp;have E4 := Ext.trans E3 B4;refine hK.out _ _ E4 ?_;clear K hK;try simp only [Act.put, PuA, PuB, PuC]
 replace B2 := below_then B3 B4;iterate 1 (refine pi_P E4 rfl ?_)
 refine pi_nil ?_;go_wp2;go_ret2
 rw [EQ.out];exact ⟨_, rfl, hr2, HNW.out, B2⟩
set_option maxRecDepth 100000 in
set_option maxHeartbeats 2000000 in
theorem bytes_pdu_8_new (v : Value) (q : Rq) (w : World) (h : IsRq w v q) (hr : rightE q = 0) (hf : q.fn = 8) :
  Calls Tryz.prog 77 #[v] w fun e w' => ∃ v', e = .returned (.tuple #[v', .int .i64 0]) ∧ Row w' v' ((bytesQ q).map bV) ∧ NwV w.heap.size v' ∧ Below w.heap.size w w' := by
 obtain ⟨ab, capb, av, capv, rfl, -, -⟩ := h.slices;have W0 := hidden (fun o => (Below.refl w.heap.size w).alloc (Nat.le_refl _) o);have HQ := hidden (fun w' (hb : Below w.heap.size w w') => h.below hb);obtain ⟨vb, vv, hE, hb, hv⟩ := id h;obtain ⟨-, hform, ⟨n1, n2, n3, n4⟩, hlist⟩ := right_parts hr;have HR := hidden hr;obtain ⟨f, a, c, p, s, bs, vs, m, o⟩ := q;simp only [rqV, Value.agg.injEq, Array.mk.injEq, List.cons.injEq, and_true, true_and] at hE;obtain ⟨rfl, rfl⟩ := hE;simp only at hf n1 n2 n3 n4 HR HQ hb hv hlist ⊢;subst hf;obtain ⟨x, rfl⟩ := one_of_len (show vs.length = 1 by simpa [listB] using hlist);have EQ := hidden (show bytesQ ⟨8, a, c, p, s, bs, [x], m, o⟩ = [8] ++ pwL [s, (x.toNat : Int)] by simp [bytesQ, bodyQ, pwL]);have hxl := x.toNat_lt;have WX := hidden (show IntKind.i64.wrap (x.toNat : Int) = x.toNat by rw [IntKind.wrap_i64]; omega);clear hr h hform hlist;go_enter Tryz.func77, Tryz.ntmps77;go_wp2_with fail
 refine (right_pdu _ _ _ (HQ.out _ (W0.out _))).mono ?_;rintro e w1 ⟨rfl, B1⟩;rw [HR.out];have X := (Box.new w _ _ _ _ _ _ _ _ _ _).ext B1;replace B1 := below_then (W0.out _) B1;have X1 := hidden X;obtain ⟨lt, c0, c1, c2, c3, c4, c5, c6, c7, c8⟩ := X;go_wp2;refine wp_region_pi [(0, true), (1, true), (2, true), (3, true), (4, true), (5, true), (6, true), (7, true), (8, false), (9, false), (10, true)] (by kernel_rfl) (by kernel_rfl) (by kernel_rfl) (fun _ _ _ d _ h => by cases d <;> exact h) ?_;have B2 := (B1.alloc B1.size (.cells #[.int .u8 8] 5)).drew;have R2 := (row_byte w1 8 8 rfl).drew;have X2 := hidden (X1.out.below ((Below.refl w1.heap.size w1).alloc (Nat.le_refl _) (.cells #[.int .u8 8] 5)).drew lt);have x2 := Ext.refl (w1.alloc (.cells #[.int .u8 8] 5)).drew;clear c0 c1 c2 c3 c4 c5 c6 c7 c8 X1;generalize hw2 : (w1.alloc (.cells #[.int .u8 8] 5)).drew = w2 at *;have hb2 := hidden (hb.below B2);have hv2 := hidden (hv.below B2);obtain ⟨b, off, capx, hE, -⟩ := row_one hv2.out;simp only [List.length_cons, List.length_nil, Nat.zero_add, Value.slice.injEq] at hE;obtain ⟨rfl, -, rfl⟩ := hE;have Y2 : Hid (∀ w', Ext w2 w' → w'.cell? ⟨b, off, none⟩ = some (wV x)) := fun w' hx => by
  obtain ⟨_, _, _, hE, h⟩ := row_one (hv2.out.below hx);simp at hE; obtain ⟨⟨rfl, rfl⟩, -⟩ := hE; exact h
 iterate 8 (first | (refine pi_pure x2 rfl (by kernel_rfl) (fun w' => by have wx := WX.out; go_simp; with_reducible rfl) ?_; try simp only [Act.put, PuA, PuB, PuC]) | (refine pi_R x2 rfl (fun w' hx => by obtain ⟨d, c0, c1, c2, c3, c4, c5, c6, c7, c8⟩ := X2.out.ext hx; have y := Y2.out w' hx; have wx := WX.out; go_simp; with_reducible rfl) ?_))
 refine pi_move rfl (by kernel_rfl) (fun K hK => ?_);go_simp;have B3 := B2.alloc B2.size (.cells #[.int .i64 s, .int .i64 x.toNat] 3);have E3 := (Below.refl w2.heap.size w2).alloc (Nat.le_refl _) (.cells #[.int .i64 s, .int .i64 x.toNat] 3);refine hK.out _ _ E3 ?_;clear K hK;try simp only [Act.put, PuA, PuB, PuC]
 refine pi_move rfl (by kernel_rfl) (fun K hK => ?_);go_wp2_with fail
 refine (put_pdu_new _ _ [8] [s, (x.toNat : Int)] _ (R2.below E3) (row_ints w2 [s, (x.toNat : Int)] 2 rfl (by decide) #[.int .i64 s, .int .i64 x.toNat] rfl) (all_in1 (numB_in n3) (val_in x)) (by decide) (by simp)).mono ?_;rintro e w4 ⟨v4, rfl, hr2, nwv, B4⟩;replace nwv := nwv (by simp);have HNW : Hid (NwV w.heap.size v4) := nwv.mono B3.size;clear nwv;go_simp;have E4 := Ext.trans E3 B4;refine hK.out _ _ E4 ?_;clear K hK;try simp only [Act.put, PuA, PuB, PuC]
 replace B2 := below_then B3 B4;iterate 1 (refine pi_P E4 rfl ?_)
 refine pi_nil ?_;go_wp2;go_ret2
 rw [EQ.out];exact ⟨_, rfl, hr2, HNW.out, B2⟩
set_option maxRecDepth 100000 in
set_option maxHeartbeats 2000000 in
theorem bytes_pdu_22_new (v : Value) (q : Rq) (w : World) (h : IsRq w v q) (hr : rightE q = 0) (hf : q.fn = 22) :
  Calls Tryz.prog 77 #[v] w fun e w' => ∃ v', e = .returned (.tuple #[v', .int .i64 0]) ∧ Row w' v' ((bytesQ q).map bV) ∧ NwV w.heap.size v' ∧ Below w.heap.size w w' := by
 obtain ⟨ab, capb, av, capv, rfl, -, -⟩ := h.slices;have W0 := hidden (fun o => (Below.refl w.heap.size w).alloc (Nat.le_refl _) o);have HQ := hidden (fun w' (hb : Below w.heap.size w w') => h.below hb);obtain ⟨vb, vv, hE, hb, hv⟩ := id h;obtain ⟨-, hform, ⟨n1, n2, n3, n4⟩, hlist⟩ := right_parts hr;have HR := hidden hr;obtain ⟨f, a, c, p, s, bs, vs, m, o⟩ := q;simp only [rqV, Value.agg.injEq, Array.mk.injEq, List.cons.injEq, and_true, true_and] at hE;obtain ⟨rfl, rfl⟩ := hE;simp only at hf n1 n2 n3 n4 HR HQ hb hv hlist ⊢;subst hf;have EQ := hidden (show bytesQ ⟨22, a, c, p, s, bs, vs, m, o⟩ = [22] ++ pwL [a, (m.toNat : Int), (o.toNat : Int)] by simp [bytesQ, bodyQ, pwL]);have hm := m.toNat_lt;have ho := o.toNat_lt;clear hr h hform hlist;go_enter Tryz.func77, Tryz.ntmps77;go_wp2_with fail
 refine (right_pdu _ _ _ (HQ.out _ (W0.out _))).mono ?_;rintro e w1 ⟨rfl, B1⟩;rw [HR.out];have X := (Box.new w _ _ _ _ _ _ _ _ _ _).ext B1;replace B1 := below_then (W0.out _) B1;have X1 := hidden X;obtain ⟨lt, c0, c1, c2, c3, c4, c5, c6, c7, c8⟩ := X;go_wp2_with fail
 refine (put_pdu_new _ _ [22] [a, (m.toNat : Int), (o.toNat : Int)] _ ((row_byte w1 22 _ rfl).below ((Below.refl _ _).alloc (Nat.le_refl _) _)) (by simpa using row_ints (w1.alloc (.cells #[.int .u8 22] 5)) [a, (m.toNat : Int), (o.toNat : Int)] 3 rfl (by decide) _ rfl) (all_in3 (numB_in n1) (val_in m) (val_in o)) (by decide) (by simp)).mono ?_;rintro e w2 ⟨v2, rfl, hr2, nwv, B2⟩;replace nwv := nwv (by simp);have HNW : Hid (NwV w.heap.size v2) := nwv.mono (by have := B1.size; simp; omega);clear nwv;replace B2 := below_then ((B1.alloc B1.size _).alloc (by have := B1.size; simp; omega) _) B2;go_wp2;go_ret2
 rw [EQ.out];exact ⟨_, rfl, hr2, HNW.out, B2⟩
end Go.Proofs.YtdihcdphgiaepaaGreat
