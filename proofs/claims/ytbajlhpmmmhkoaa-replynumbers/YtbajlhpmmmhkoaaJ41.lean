/- Contracts of slices.Clone, reply.guess. -/
import Derived.Test.YtbajlhpmmmhkoaaJ29
import Derived.Test.YtbajlhpmmmhkoaaJ16
import Derived.Test.YtbajlhpmmmhkoaaJ10
namespace Go.Proofs.Ytbajlhpmmmhkoaa
open Go.RowKit
def NewR (base : Nat) (v : Value) : Prop := ∃ x0 x1 x2 x3 x4 vb vv x7 x8 vd, v = .agg #[x0, x1, x2, x3, x4, vb, vv, x7, x8, vd] ∧ NewV base vb ∧ NewV base vv ∧ NewV base vd
theorem NewP.raw {base : Nat} {v : Value} (h : NewP base v) : NewR base v := by
 obtain ⟨f, k, a, c, s, vb, vv, m, o, vd, e, h1, h2, h3⟩ := h
 exact ⟨_, _, _, _, _, vb, vv, _, _, vd, e, h1, h2, h3⟩
theorem NewR.le {base base' : Nat} {v : Value} (h : NewR base v) (hb : base' ≤ base) : NewR base' v := by
 obtain ⟨f, k, a, c, s, vb, vv, m, o, vd, e, h1, h2, h3⟩ := h
 exact ⟨f, k, a, c, s, vb, vv, m, o, vd, e, h1.le hb, h2.le hb, h3.le hb⟩
theorem NewR.parts {base : Nat} {x0 x1 x2 x3 x4 vb vv x7 x8 vd : Value} (h : NewR base (.agg #[x0, x1, x2, x3, x4, vb, vv, x7, x8, vd])) : NewV base vb ∧ NewV base vv ∧ NewV base vd := by
 obtain ⟨_, _, _, _, _, _, _, _, _, _, e, h1, h2, h3⟩ := h
 simp only [Value.agg.injEq, Array.mk.injEq, List.cons.injEq] at e
 obtain ⟨-, -, -, -, -, rfl, rfl, -, -, rfl, -⟩ := e
 exact ⟨h1, h2, h3⟩
theorem cell_set_ne {w : World} {g o b off : Nat} {v : Value} {u : Option Value} (hne : g ≠ b) (h : w.cell? ⟨b, off, none⟩ = u) : (w.setCell ⟨g, o, none⟩ v).cell? ⟨b, off, none⟩ = u := by
 rw [World.cell?_setCell_other _ _ _ _ (by intro h; simp only [Addr.mk.injEq] at h; omega)]; exact h
theorem owns_new0 (w : World) (e : TypeId) : (w.alloc (.cells #[] e)).ownsRow w.heap.size e 1 (.slice (some ⟨w.heap.size, 0, none⟩) 0 0) 0 [] :=
 ⟨rfl, .inr ⟨w.heap.size, 0, #[], rfl, Nat.le_refl _, heap_alloc_new w _, Nat.zero_le _, by unfold maxLen; omega, by simp, by simp⟩⟩
set_option maxRecDepth 100000 in
set_option maxHeartbeats 1000000 in
theorem clone_any (v : Value) (bs : List UInt8) (w : World) (hv : Row w v (bs.map bV)) (hl : bs.length ≤ 100000) :
  Calls Try.prog 73 #[v] w fun e w' => ∃ v', e = .returned v' ∧ Row w' v' (bs.map bV) ∧ Below w.heap.size w w' ∧ NewV w.heap.size v' := by
 obtain ⟨a, cap, rfl, -, -, hz, -⟩ := id hv
 obtain ⟨h1, h2, h3, h4⟩ := hv.at
 simp only [List.length_map] at hv h1 h4 ⊢
 cases a with
 | none =>
  obtain rfl := hz rfl
  have e : bs = [] := by
   cases bs with
   | nil => rfl
   | cons x r =>
    obtain ⟨b, off, he, -⟩ := h4 0 0 (by simp)
    cases he
  subst e
  simp only [List.length_nil] at hv ⊢
  clear hz h1 h2 h3 h4 hv
  have en : (binOp BinOp.eql 33 (.slice none 0 0) (.slice none 0 0)).run Try.prog w = .ok (.bool true) w := by kernel_rfl
  go_enter Try.func73, Try.ntmps73
  go_wp2
  go_ret
  exact ⟨_, rfl, Row.nil _, Below.refl _ _, NewV.none _ _ _⟩
 | some ad =>
  have R1 := hv.below ((Below.refl w.heap.size w).alloc (Nat.le_refl _) (.cells #[] 5))
  have O1 := owns_new0 w 5
  have en : (binOp BinOp.eql 33 (.slice (some ad) bs.length cap) (.slice none 0 0)).run Try.prog w = .ok (.bool false) w := by kernel_rfl
  go_enter Try.func73, Try.ntmps73
  go_wp2_with (at_builtin; refine wpList_app rfl (.tmp 5) (.tmp 6) 33 rfl w.heap.size 5 (.int .u8 0) 1 Try.underlying33 info_u8 rfl rfl O1 rfl R1 ?k0 ?k1 ?k2 ?k3 ?_)
  case k0 => exact one_bytes bs
  case k1 => simp [maxLen]; omega
  case k2 => simp; omega
  case k3 => simp
  intro v2 w2 ho2 hg2
  have q := ((Below.refl w.heap.size w).alloc (Nat.le_refl _) (.cells #[] 5)).grown hg2 (by simp) (fun k hk => (O1.lt k hk).1)
  go_wp2
  go_ret
  exact ⟨_, rfl, by simpa using Row.of_owns ho2, q, NewV.of_owns ho2⟩
set_option maxRecDepth 100000 in
set_option maxHeartbeats 1000000 in
theorem guess_rep_c (v : Value) (bs : List UInt8) (c : Int) (w : World) (hv : Row w v (bs.map bV)) (h0 : bs ≠ []) (_hcn : -9223372036854775808 ≤ c ∧ c ≤ 9223372036854775807) (hf : 128 ≤ fnOf bs) :
  Calls Try.prog 53 #[v, .int .i64 c] w fun e w' => ∃ v', e = .returned v' ∧ IsRp w' v' (gA bs c) ∧ Below w.heap.size w w' ∧ NewR w.heap.size v' := by
 obtain ⟨a, cap, rfl, -⟩ := id hv
 obtain ⟨hl, hc, hm, hcell⟩ := hv.at
 simp only [List.length_map] at hl hc hv hcell ⊢
 obtain ⟨b, off, rfl, hcl⟩ := hcell 0 0 (List.length_pos_iff.2 h0)
 have c0 := hcl 0 (List.length_pos_iff.2 h0)
 have hp : (0 : Int) < (bs.length : Int) := by have := List.length_pos_iff.2 h0; omega
 have hp' : 0 < bs.length := List.length_pos_iff.2 h0
 have EQ : Hid (gA bs c = refP (fnOf bs - 128) (codeL bs)) := by show _ = _; simp [gA, hf]
 have hlt := lt_of_cell c0
 have W0 := hidden (fun o1 o2 => ((Below.refl w.heap.size w).alloc (Nat.le_refl _) o1).alloc (by simp) o2)
 have C := hidden (fun w' (h : Row w' (.slice (some ⟨b, off, none⟩) bs.length cap) (bs.map bV)) => code_rep _ bs w' h)
 have hx := (bs.getD 0 0).toNat_lt
 have F : Hid (fnOf bs = ((bs.getD 0 0).toNat : Int)) := rfl
 rw [F.out] at hf EQ
 simp only [Nat.add_zero] at c0
 clear hcl hcell hc F
 generalize bs.getD 0 0 = x at *
 generalize codeL bs = K0 at *
 have hf' : (128 : Int) ≤ (x.toNat : Int) := hf
 have wx : IntKind.i64.wrap (x.toNat : Int) = x.toNat := by rw [IntKind.wrap_i64]; omega
 have wy : IntKind.i64.wrap ((x.toNat : Int) - 128) = x.toNat - 128 := by rw [IntKind.wrap_i64]; omega
 go_enter Try.func53, Try.ntmps53
 go_wp2
 refine h_begin 9 rfl (by kernel_rfl) ?_
 have X0 := (Blk.new w 35 [.int .i64 0, .int .i64 0, .int .i64 0, .int .i64 0, .int .i64 0, .slice none 0 0, .slice none 0 0, .int .u16 0, .int .u16 0, .slice none 0 0]).drew
 have B0 := ((Below.refl w.heap.size w).alloc (Nat.le_refl _) (.cells #[.int .i64 0, .int .i64 0, .int .i64 0, .int .i64 0, .int .i64 0, .slice none 0 0, .slice none 0 0, .int .u16 0, .int .u16 0, .slice none 0 0] 35)).drew
 have R0 := hv.below B0
 have d0 : (w.alloc (.cells #[.int .i64 0, .int .i64 0, .int .i64 0, .int .i64 0, .int .i64 0, .slice none 0 0, .slice none 0 0, .int .u16 0, .int .u16 0, .slice none 0 0] 35)).drew.cell? ⟨b, off, none⟩ = some (bV x) := (B0.cell (p := ⟨b, off, none⟩) hlt).trans c0
 have hne : w.heap.size ≠ b := by omega
 generalize (w.alloc (.cells #[.int .i64 0, .int .i64 0, .int .i64 0, .int .i64 0, .int .i64 0, .slice none 0 0, .slice none 0 0, .int .u16 0, .int .u16 0, .slice none 0 0] 35)).drew = w2 at *
 refine h_P trivial 0 rfl ?_
 refine h_P trivial 1 rfl ?_
 refine h_R (fun w' => w'.cell? ⟨b, off, none⟩ = some (bV x)) (fun _ _ => trivial) d0 2 rfl (fun w' hx => by go_simp; with_reducible rfl) ?_
 refine h_P d0 3 rfl ?_
 refine h_P d0 4 rfl ?_
 refine h_P d0 5 rfl ?_
 refine h_move 6 (by kernel_rfl) (h_op 6 rfl (by kernel_rfl) (fun K hK => ?_))
 go_wp2_with fail
 refine (C.out _ R0).mono ?_
 rintro e w3 ⟨rfl, rfl⟩
 go_simp
 refine hK.out _ _ d0 ?_
 clear K hK
 try simp only [Act.put, PuA, PuB, PuC]
 refine h_P d0 7 rfl ?_
 have q0 := X0.cell 0
 have q1 := X0.cell 1
 have q2 := X0.cell 2
 have q3 := X0.cell 3
 have q4 := X0.cell 4
 have q5 := X0.cell 5
 have q6 := X0.cell 6
 have q7 := X0.cell 7
 have q8 := X0.cell 8
 have q9 := X0.cell 9
 simp at q0 q1 q2 q3 q4 q5 q6 q7 q8 q9
 have fq := X0.frozen
 have gq := X0.lt
 refine h_move 8 (by kernel_rfl) (h_op 8 rfl (by kernel_rfl) (fun K hK => ?_))
 go_simp
 refine hK.out _ _ ?sc ?_
 case sc =>
  repeat refine cell_set_ne hne ?_
  exact d0
 clear K hK
 try simp only [Act.put, PuA, PuB, PuC]
 refine h_done (by kernel_rfl) ?_
 go_wp2
 refine bodyPost_ret (v := _) (by simp [results, Try.results53, go_sem, q0, q1, q2, q3, q4, q5, q6, q7, q8, q9]; with_reducible rfl) rfl ?_
 rw [EQ.out]
 refine ⟨_, rfl, ref_rp _ _ _, ?_, ⟨_, _, _, _, _, _, _, _, _, _, rfl, NewV.none _ _ _, NewV.none _ _ _, NewV.none _ _ _⟩⟩
 repeat' (refine Below.setCell ?_ (by simp) _)
 exact B0
set_option maxRecDepth 100000 in
set_option maxHeartbeats 1000000 in
theorem guess_rep_1 (v : Value) (bs : List UInt8) (c : Int) (w : World) (hv : Row w v (bs.map bV)) (h0 : bs ≠ []) (hcn : -9223372036854775808 ≤ c ∧ c ≤ 9223372036854775807) (hf : fnOf bs = 1) :
  Calls Try.prog 53 #[v, .int .i64 c] w fun e w' => ∃ v', e = .returned v' ∧ IsRp w' v' (gA bs c) ∧ Below w.heap.size w w' ∧ NewR w.heap.size v' := by
 obtain ⟨a, cap, rfl, -⟩ := id hv
 obtain ⟨hl, hc, hm, hcell⟩ := hv.at
 simp only [List.length_map] at hl hc hv hcell ⊢
 obtain ⟨b, off, rfl, hcl⟩ := hcell 0 0 (List.length_pos_iff.2 h0)
 have c0 := hcl 0 (List.length_pos_iff.2 h0)
 have hp : (0 : Int) < (bs.length : Int) := by have := List.length_pos_iff.2 h0; omega
 have hp' : 0 < bs.length := List.length_pos_iff.2 h0
 have EQ : Hid (gA bs c = ⟨1, 0, 0, 0, 0, openR (tailL bs 1) c, [], 0, 0, []⟩) := by show _ = _; simp [gA, hf]
 have hf2 : (bs.getD 0 0).toNat = 1 := by unfold fnOf at hf; omega
 simp only [bV, hf2, Nat.add_zero] at c0
 have hlt := lt_of_cell c0
 have W0 := hidden (fun o1 o2 => ((Below.refl w.heap.size w).alloc (Nat.le_refl _) o1).alloc (by simp) o2)
 have CT := hidden (fun w' (h : Row w' (.slice (some ⟨b, off, none⟩) bs.length cap) (bs.map bV)) => tail_rep _ bs w' h)
 have TL := tail_len bs 1
 clear hcl hcell hf hf2 hc
 have X1 := Blk.new_at (w.alloc (.cells #[.int .i64 0, .int .i64 0, .int .i64 0, .int .i64 0, .int .i64 0, .slice none 0 0, .slice none 0 0, .int .u16 0, .int .u16 0, .slice none 0 0] 35)) 35 [.int .i64 1, .int .i64 0, .int .i64 0, .int .i64 0, .int .i64 0, .slice none 0 0, .slice none 0 0, .int .u16 0, .int .u16 0, .slice none 0 0] (w.heap.size + 1) (by simp)
 have X0 := (Blk.new w 35 [.int .i64 0, .int .i64 0, .int .i64 0, .int .i64 0, .int .i64 0, .slice none 0 0, .slice none 0 0, .int .u16 0, .int .u16 0, .slice none 0 0]).alloc (.cells #[.int .i64 1, .int .i64 0, .int .i64 0, .int .i64 0, .int .i64 0, .slice none 0 0, .slice none 0 0, .int .u16 0, .int .u16 0, .slice none 0 0] 35)
 have B0 := W0.out (.cells #[.int .i64 0, .int .i64 0, .int .i64 0, .int .i64 0, .int .i64 0, .slice none 0 0, .slice none 0 0, .int .u16 0, .int .u16 0, .slice none 0 0] 35) (.cells #[.int .i64 1, .int .i64 0, .int .i64 0, .int .i64 0, .int .i64 0, .slice none 0 0, .slice none 0 0, .int .u16 0, .int .u16 0, .slice none 0 0] 35)
 go_enter Try.func53, Try.ntmps53
 go_wp2_with fail
 refine (CT.out _ (hv.below B0)).mono ?_
 rintro e w2 ⟨v2, rfl, hr2, rfl⟩
 go_wp2_with fail
 refine (open_any _ (tailL bs 1) c _ hcn hr2 (by omega)).mono ?_
 rintro e w3 ⟨v3, rfl, hr3, B3, nv3⟩
 replace X1 := X1.below B3 (by simp)
 replace X0 := X0.below B3 (by simp; omega)
 replace B3 := below_then B0 B3
 simp at nv3
 clear hr2 B0
 obtain ⟨a3, cap3, rfl, -⟩ := id hr3
 simp only [List.length_map] at hr3 nv3 ⊢
 generalize openOk (tailL bs 1) c = ok at *
 have p0 := X1.cell 0
 have p1 := X1.cell 1
 have p2 := X1.cell 2
 have p3 := X1.cell 3
 have p4 := X1.cell 4
 have p5 := X1.cell 5
 have p6 := X1.cell 6
 have p7 := X1.cell 7
 have p8 := X1.cell 8
 have p9 := X1.cell 9
 simp at p0 p1 p2 p3 p4 p5 p6 p7 p8 p9
 have fp := X1.frozen
 have gp := X1.lt
 have q0 := X0.cell 0
 have q1 := X0.cell 1
 have q2 := X0.cell 2
 have q3 := X0.cell 3
 have q4 := X0.cell 4
 have q5 := X0.cell 5
 have q6 := X0.cell 6
 have q7 := X0.cell 7
 have q8 := X0.cell 8
 have q9 := X0.cell 9
 simp at q0 q1 q2 q3 q4 q5 q6 q7 q8 q9
 have fq := X0.frozen
 have gq := X0.lt
 clear X1 X0
 go_wp2
 refine bodyPost_ret (v := _) (by simp [results, Try.results53, go_sem, q0, q1, q2, q3, q4, q5, q6, q7, q8, q9]; with_reducible rfl) rfl ?_
 rw [EQ.out]
 refine ⟨_, rfl, ⟨_, _, _, rfl, ?_, Row.nil _, Row.nil _⟩, ?_, ⟨_, _, _, _, _, _, _, _, _, _, rfl, nv3.le (by omega), NewV.none _ _ _, NewV.none _ _ _⟩⟩
 ·
  repeat' (refine Row.setCell_new ?_ nv3 (by omega))
  exact hr3
 ·
  repeat' (refine Below.setCell ?_ (by simp) _)
  exact B3
set_option maxRecDepth 100000 in
set_option maxHeartbeats 1000000 in
theorem guess_rep_2 (v : Value) (bs : List UInt8) (c : Int) (w : World) (hv : Row w v (bs.map bV)) (h0 : bs ≠ []) (hcn : -9223372036854775808 ≤ c ∧ c ≤ 9223372036854775807) (hf : fnOf bs = 2) :
  Calls Try.prog 53 #[v, .int .i64 c] w fun e w' => ∃ v', e = .returned v' ∧ IsRp w' v' (gA bs c) ∧ Below w.heap.size w w' ∧ NewR w.heap.size v' := by
 obtain ⟨a, cap, rfl, -⟩ := id hv
 obtain ⟨hl, hc, hm, hcell⟩ := hv.at
 simp only [List.length_map] at hl hc hv hcell ⊢
 obtain ⟨b, off, rfl, hcl⟩ := hcell 0 0 (List.length_pos_iff.2 h0)
 have c0 := hcl 0 (List.length_pos_iff.2 h0)
 have hp : (0 : Int) < (bs.length : Int) := by have := List.length_pos_iff.2 h0; omega
 have hp' : 0 < bs.length := List.length_pos_iff.2 h0
 have EQ : Hid (gA bs c = ⟨2, 0, 0, 0, 0, openR (tailL bs 1) c, [], 0, 0, []⟩) := by show _ = _; simp [gA, hf]
 have hf2 : (bs.getD 0 0).toNat = 2 := by unfold fnOf at hf; omega
 simp only [bV, hf2, Nat.add_zero] at c0
 have hlt := lt_of_cell c0
 have W0 := hidden (fun o1 o2 => ((Below.refl w.heap.size w).alloc (Nat.le_refl _) o1).alloc (by simp) o2)
 have CT := hidden (fun w' (h : Row w' (.slice (some ⟨b, off, none⟩) bs.length cap) (bs.map bV)) => tail_rep _ bs w' h)
 have TL := tail_len bs 1
 clear hcl hcell hf hf2 hc
 have X1 := Blk.new_at (w.alloc (.cells #[.int .i64 0, .int .i64 0, .int .i64 0, .int .i64 0, .int .i64 0, .slice none 0 0, .slice none 0 0, .int .u16 0, .int .u16 0, .slice none 0 0] 35)) 35 [.int .i64 2, .int .i64 0, .int .i64 0, .int .i64 0, .int .i64 0, .slice none 0 0, .slice none 0 0, .int .u16 0, .int .u16 0, .slice none 0 0] (w.heap.size + 1) (by simp)
 have X0 := (Blk.new w 35 [.int .i64 0, .int .i64 0, .int .i64 0, .int .i64 0, .int .i64 0, .slice none 0 0, .slice none 0 0, .int .u16 0, .int .u16 0, .slice none 0 0]).alloc (.cells #[.int .i64 2, .int .i64 0, .int .i64 0, .int .i64 0, .int .i64 0, .slice none 0 0, .slice none 0 0, .int .u16 0, .int .u16 0, .slice none 0 0] 35)
 have B0 := W0.out (.cells #[.int .i64 0, .int .i64 0, .int .i64 0, .int .i64 0, .int .i64 0, .slice none 0 0, .slice none 0 0, .int .u16 0, .int .u16 0, .slice none 0 0] 35) (.cells #[.int .i64 2, .int .i64 0, .int .i64 0, .int .i64 0, .int .i64 0, .slice none 0 0, .slice none 0 0, .int .u16 0, .int .u16 0, .slice none 0 0] 35)
 go_enter Try.func53, Try.ntmps53
 go_wp2_with fail
 refine (CT.out _ (hv.below B0)).mono ?_
 rintro e w2 ⟨v2, rfl, hr2, rfl⟩
 go_wp2_with fail
 refine (open_any _ (tailL bs 1) c _ hcn hr2 (by omega)).mono ?_
 rintro e w3 ⟨v3, rfl, hr3, B3, nv3⟩
 replace X1 := X1.below B3 (by simp)
 replace X0 := X0.below B3 (by simp; omega)
 replace B3 := below_then B0 B3
 simp at nv3
 clear hr2 B0
 obtain ⟨a3, cap3, rfl, -⟩ := id hr3
 simp only [List.length_map] at hr3 nv3 ⊢
 generalize openOk (tailL bs 1) c = ok at *
 have p0 := X1.cell 0
 have p1 := X1.cell 1
 have p2 := X1.cell 2
 have p3 := X1.cell 3
 have p4 := X1.cell 4
 have p5 := X1.cell 5
 have p6 := X1.cell 6
 have p7 := X1.cell 7
 have p8 := X1.cell 8
 have p9 := X1.cell 9
 simp at p0 p1 p2 p3 p4 p5 p6 p7 p8 p9
 have fp := X1.frozen
 have gp := X1.lt
 have q0 := X0.cell 0
 have q1 := X0.cell 1
 have q2 := X0.cell 2
 have q3 := X0.cell 3
 have q4 := X0.cell 4
 have q5 := X0.cell 5
 have q6 := X0.cell 6
 have q7 := X0.cell 7
 have q8 := X0.cell 8
 have q9 := X0.cell 9
 simp at q0 q1 q2 q3 q4 q5 q6 q7 q8 q9
 have fq := X0.frozen
 have gq := X0.lt
 clear X1 X0
 go_wp2
 refine bodyPost_ret (v := _) (by simp [results, Try.results53, go_sem, q0, q1, q2, q3, q4, q5, q6, q7, q8, q9]; with_reducible rfl) rfl ?_
 rw [EQ.out]
 refine ⟨_, rfl, ⟨_, _, _, rfl, ?_, Row.nil _, Row.nil _⟩, ?_, ⟨_, _, _, _, _, _, _, _, _, _, rfl, nv3.le (by omega), NewV.none _ _ _, NewV.none _ _ _⟩⟩
 ·
  repeat' (refine Row.setCell_new ?_ nv3 (by omega))
  exact hr3
 ·
  repeat' (refine Below.setCell ?_ (by simp) _)
  exact B3
set_option maxRecDepth 100000 in
set_option maxHeartbeats 1000000 in
theorem guess_rep_3 (v : Value) (bs : List UInt8) (c : Int) (w : World) (hv : Row w v (bs.map bV)) (h0 : bs ≠ []) (_hcn : -9223372036854775808 ≤ c ∧ c ≤ 9223372036854775807) (hf : fnOf bs = 3) :
  Calls Try.prog 53 #[v, .int .i64 c] w fun e w' => ∃ v', e = .returned v' ∧ IsRp w' v' (gA bs c) ∧ Below w.heap.size w w' ∧ NewR w.heap.size v' := by
 obtain ⟨a, cap, rfl, -⟩ := id hv
 obtain ⟨hl, hc, hm, hcell⟩ := hv.at
 simp only [List.length_map] at hl hc hv hcell ⊢
 obtain ⟨b, off, rfl, hcl⟩ := hcell 0 0 (List.length_pos_iff.2 h0)
 have c0 := hcl 0 (List.length_pos_iff.2 h0)
 have hp : (0 : Int) < (bs.length : Int) := by have := List.length_pos_iff.2 h0; omega
 have hp' : 0 < bs.length := List.length_pos_iff.2 h0
 have EQ : Hid (gA bs c = ⟨3, 0, 0, 0, 0, [], wordsR (tailL bs 1), 0, 0, []⟩) := by show _ = _; simp [gA, hf]
 have hf2 : (bs.getD 0 0).toNat = 3 := by unfold fnOf at hf; omega
 simp only [bV, hf2, Nat.add_zero] at c0
 have hlt := lt_of_cell c0
 have W0 := hidden (fun o1 o2 => ((Below.refl w.heap.size w).alloc (Nat.le_refl _) o1).alloc (by simp) o2)
 have CT := hidden (fun w' (h : Row w' (.slice (some ⟨b, off, none⟩) bs.length cap) (bs.map bV)) => tail_rep _ bs w' h)
 have TL := tail_len bs 1
 clear hcl hcell hf hf2 hc
 have X1 := Blk.new_at (w.alloc (.cells #[.int .i64 0, .int .i64 0, .int .i64 0, .int .i64 0, .int .i64 0, .slice none 0 0, .slice none 0 0, .int .u16 0, .int .u16 0, .slice none 0 0] 35)) 35 [.int .i64 3, .int .i64 0, .int .i64 0, .int .i64 0, .int .i64 0, .slice none 0 0, .slice none 0 0, .int .u16 0, .int .u16 0, .slice none 0 0] (w.heap.size + 1) (by simp)
 have X0 := (Blk.new w 35 [.int .i64 0, .int .i64 0, .int .i64 0, .int .i64 0, .int .i64 0, .slice none 0 0, .slice none 0 0, .int .u16 0, .int .u16 0, .slice none 0 0]).alloc (.cells #[.int .i64 3, .int .i64 0, .int .i64 0, .int .i64 0, .int .i64 0, .slice none 0 0, .slice none 0 0, .int .u16 0, .int .u16 0, .slice none 0 0] 35)
 have B0 := W0.out (.cells #[.int .i64 0, .int .i64 0, .int .i64 0, .int .i64 0, .int .i64 0, .slice none 0 0, .slice none 0 0, .int .u16 0, .int .u16 0, .slice none 0 0] 35) (.cells #[.int .i64 3, .int .i64 0, .int .i64 0, .int .i64 0, .int .i64 0, .slice none 0 0, .slice none 0 0, .int .u16 0, .int .u16 0, .slice none 0 0] 35)
 go_enter Try.func53, Try.ntmps53
 go_wp2_with fail
 refine (CT.out _ (hv.below B0)).mono ?_
 rintro e w2 ⟨v2, rfl, hr2, rfl⟩
 go_wp2_with fail
 refine (words_any _ (tailL bs 1) _ hr2 (by omega)).mono ?_
 rintro e w3 ⟨v3, rfl, hr3, B3, nv3⟩
 replace X1 := X1.below B3 (by simp)
 replace X0 := X0.below B3 (by simp; omega)
 replace B3 := below_then B0 B3
 simp at nv3
 clear hr2 B0
 obtain ⟨a3, cap3, rfl, -⟩ := id hr3
 simp only [List.length_map] at hr3 nv3 ⊢
 have p0 := X1.cell 0
 have p1 := X1.cell 1
 have p2 := X1.cell 2
 have p3 := X1.cell 3
 have p4 := X1.cell 4
 have p5 := X1.cell 5
 have p6 := X1.cell 6
 have p7 := X1.cell 7
 have p8 := X1.cell 8
 have p9 := X1.cell 9
 simp at p0 p1 p2 p3 p4 p5 p6 p7 p8 p9
 have fp := X1.frozen
 have gp := X1.lt
 have q0 := X0.cell 0
 have q1 := X0.cell 1
 have q2 := X0.cell 2
 have q3 := X0.cell 3
 have q4 := X0.cell 4
 have q5 := X0.cell 5
 have q6 := X0.cell 6
 have q7 := X0.cell 7
 have q8 := X0.cell 8
 have q9 := X0.cell 9
 simp at q0 q1 q2 q3 q4 q5 q6 q7 q8 q9
 have fq := X0.frozen
 have gq := X0.lt
 clear X1 X0
 go_wp2
 refine bodyPost_ret (v := _) (by simp [results, Try.results53, go_sem, q0, q1, q2, q3, q4, q5, q6, q7, q8, q9]; with_reducible rfl) rfl ?_
 rw [EQ.out]
 refine ⟨_, rfl, ⟨_, _, _, rfl, Row.nil _, ?_, Row.nil _⟩, ?_, ⟨_, _, _, _, _, _, _, _, _, _, rfl, NewV.none _ _ _, nv3.le (by omega), NewV.none _ _ _⟩⟩
 ·
  repeat' (refine Row.setCell_new ?_ nv3 (by omega))
  exact hr3
 ·
  repeat' (refine Below.setCell ?_ (by simp) _)
  exact B3
set_option maxRecDepth 100000 in
set_option maxHeartbeats 1000000 in
theorem guess_rep_4 (v : Value) (bs : List UInt8) (c : Int) (w : World) (hv : Row w v (bs.map bV)) (h0 : bs ≠ []) (_hcn : -9223372036854775808 ≤ c ∧ c ≤ 9223372036854775807) (hf : fnOf bs = 4) :
  Calls Try.prog 53 #[v, .int .i64 c] w fun e w' => ∃ v', e = .returned v' ∧ IsRp w' v' (gA bs c) ∧ Below w.heap.size w w' ∧ NewR w.heap.size v' := by
 obtain ⟨a, cap, rfl, -⟩ := id hv
 obtain ⟨hl, hc, hm, hcell⟩ := hv.at
 simp only [List.length_map] at hl hc hv hcell ⊢
 obtain ⟨b, off, rfl, hcl⟩ := hcell 0 0 (List.length_pos_iff.2 h0)
 have c0 := hcl 0 (List.length_pos_iff.2 h0)
 have hp : (0 : Int) < (bs.length : Int) := by have := List.length_pos_iff.2 h0; omega
 have hp' : 0 < bs.length := List.length_pos_iff.2 h0
 have EQ : Hid (gA bs c = ⟨4, 0, 0, 0, 0, [], wordsR (tailL bs 1), 0, 0, []⟩) := by show _ = _; simp [gA, hf]
 have hf2 : (bs.getD 0 0).toNat = 4 := by unfold fnOf at hf; omega
 simp only [bV, hf2, Nat.add_zero] at c0
 have hlt := lt_of_cell c0
 have W0 := hidden (fun o1 o2 => ((Below.refl w.heap.size w).alloc (Nat.le_refl _) o1).alloc (by simp) o2)
 have CT := hidden (fun w' (h : Row w' (.slice (some ⟨b, off, none⟩) bs.length cap) (bs.map bV)) => tail_rep _ bs w' h)
 have TL := tail_len bs 1
 clear hcl hcell hf hf2 hc
 have X1 := Blk.new_at (w.alloc (.cells #[.int .i64 0, .int .i64 0, .int .i64 0, .int .i64 0, .int .i64 0, .slice none 0 0, .slice none 0 0, .int .u16 0, .int .u16 0, .slice none 0 0] 35)) 35 [.int .i64 4, .int .i64 0, .int .i64 0, .int .i64 0, .int .i64 0, .slice none 0 0, .slice none 0 0, .int .u16 0, .int .u16 0, .slice none 0 0] (w.heap.size + 1) (by simp)
 have X0 := (Blk.new w 35 [.int .i64 0, .int .i64 0, .int .i64 0, .int .i64 0, .int .i64 0, .slice none 0 0, .slice none 0 0, .int .u16 0, .int .u16 0, .slice none 0 0]).alloc (.cells #[.int .i64 4, .int .i64 0, .int .i64 0, .int .i64 0, .int .i64 0, .slice none 0 0, .slice none 0 0, .int .u16 0, .int .u16 0, .slice none 0 0] 35)
 have B0 := W0.out (.cells #[.int .i64 0, .int .i64 0, .int .i64 0, .int .i64 0, .int .i64 0, .slice none 0 0, .slice none 0 0, .int .u16 0, .int .u16 0, .slice none 0 0] 35) (.cells #[.int .i64 4, .int .i64 0, .int .i64 0, .int .i64 0, .int .i64 0, .slice none 0 0, .slice none 0 0, .int .u16 0, .int .u16 0, .slice none 0 0] 35)
 go_enter Try.func53, Try.ntmps53
 go_wp2_with fail
 refine (CT.out _ (hv.below B0)).mono ?_
 rintro e w2 ⟨v2, rfl, hr2, rfl⟩
 go_wp2_with fail
 refine (words_any _ (tailL bs 1) _ hr2 (by omega)).mono ?_
 rintro e w3 ⟨v3, rfl, hr3, B3, nv3⟩
 replace X1 := X1.below B3 (by simp)
 replace X0 := X0.below B3 (by simp; omega)
 replace B3 := below_then B0 B3
 simp at nv3
 clear hr2 B0
 obtain ⟨a3, cap3, rfl, -⟩ := id hr3
 simp only [List.length_map] at hr3 nv3 ⊢
 have p0 := X1.cell 0
 have p1 := X1.cell 1
 have p2 := X1.cell 2
 have p3 := X1.cell 3
 have p4 := X1.cell 4
 have p5 := X1.cell 5
 have p6 := X1.cell 6
 have p7 := X1.cell 7
 have p8 := X1.cell 8
 have p9 := X1.cell 9
 simp at p0 p1 p2 p3 p4 p5 p6 p7 p8 p9
 have fp := X1.frozen
 have gp := X1.lt
 have q0 := X0.cell 0
 have q1 := X0.cell 1
 have q2 := X0.cell 2
 have q3 := X0.cell 3
 have q4 := X0.cell 4
 have q5 := X0.cell 5
 have q6 := X0.cell 6
 have q7 := X0.cell 7
 have q8 := X0.cell 8
 have q9 := X0.cell 9
 simp at q0 q1 q2 q3 q4 q5 q6 q7 q8 q9
 have fq := X0.frozen
 have gq := X0.lt
 clear X1 X0
 go_wp2
 refine bodyPost_ret (v := _) (by simp [results, Try.results53, go_sem, q0, q1, q2, q3, q4, q5, q6, q7, q8, q9]; with_reducible rfl) rfl ?_
 rw [EQ.out]
 refine ⟨_, rfl, ⟨_, _, _, rfl, Row.nil _, ?_, Row.nil _⟩, ?_, ⟨_, _, _, _, _, _, _, _, _, _, rfl, NewV.none _ _ _, nv3.le (by omega), NewV.none _ _ _⟩⟩
 ·
  repeat' (refine Row.setCell_new ?_ nv3 (by omega))
  exact hr3
 ·
  repeat' (refine Below.setCell ?_ (by simp) _)
  exact B3
set_option maxRecDepth 100000 in
set_option maxHeartbeats 1000000 in
theorem guess_rep_23 (v : Value) (bs : List UInt8) (c : Int) (w : World) (hv : Row w v (bs.map bV)) (h0 : bs ≠ []) (_hcn : -9223372036854775808 ≤ c ∧ c ≤ 9223372036854775807) (hf : fnOf bs = 23) :
  Calls Try.prog 53 #[v, .int .i64 c] w fun e w' => ∃ v', e = .returned v' ∧ IsRp w' v' (gA bs c) ∧ Below w.heap.size w w' ∧ NewR w.heap.size v' := by
 obtain ⟨a, cap, rfl, -⟩ := id hv
 obtain ⟨hl, hc, hm, hcell⟩ := hv.at
 simp only [List.length_map] at hl hc hv hcell ⊢
 obtain ⟨b, off, rfl, hcl⟩ := hcell 0 0 (List.length_pos_iff.2 h0)
 have c0 := hcl 0 (List.length_pos_iff.2 h0)
 have hp : (0 : Int) < (bs.length : Int) := by have := List.length_pos_iff.2 h0; omega
 have hp' : 0 < bs.length := List.length_pos_iff.2 h0
 have EQ : Hid (gA bs c = ⟨23, 0, 0, 0, 0, [], wordsR (tailL bs 1), 0, 0, []⟩) := by show _ = _; simp [gA, hf]
 have hf2 : (bs.getD 0 0).toNat = 23 := by unfold fnOf at hf; omega
 simp only [bV, hf2, Nat.add_zero] at c0
 have hlt := lt_of_cell c0
 have W0 := hidden (fun o1 o2 => ((Below.refl w.heap.size w).alloc (Nat.le_refl _) o1).alloc (by simp) o2)
 have CT := hidden (fun w' (h : Row w' (.slice (some ⟨b, off, none⟩) bs.length cap) (bs.map bV)) => tail_rep _ bs w' h)
 have TL := tail_len bs 1
 clear hcl hcell hf hf2 hc
 have X1 := Blk.new_at (w.alloc (.cells #[.int .i64 0, .int .i64 0, .int .i64 0, .int .i64 0, .int .i64 0, .slice none 0 0, .slice none 0 0, .int .u16 0, .int .u16 0, .slice none 0 0] 35)) 35 [.int .i64 23, .int .i64 0, .int .i64 0, .int .i64 0, .int .i64 0, .slice none 0 0, .slice none 0 0, .int .u16 0, .int .u16 0, .slice none 0 0] (w.heap.size + 1) (by simp)
 have X0 := (Blk.new w 35 [.int .i64 0, .int .i64 0, .int .i64 0, .int .i64 0, .int .i64 0, .slice none 0 0, .slice none 0 0, .int .u16 0, .int .u16 0, .slice none 0 0]).alloc (.cells #[.int .i64 23, .int .i64 0, .int .i64 0, .int .i64 0, .int .i64 0, .slice none 0 0, .slice none 0 0, .int .u16 0, .int .u16 0, .slice none 0 0] 35)
 have B0 := W0.out (.cells #[.int .i64 0, .int .i64 0, .int .i64 0, .int .i64 0, .int .i64 0, .slice none 0 0, .slice none 0 0, .int .u16 0, .int .u16 0, .slice none 0 0] 35) (.cells #[.int .i64 23, .int .i64 0, .int .i64 0, .int .i64 0, .int .i64 0, .slice none 0 0, .slice none 0 0, .int .u16 0, .int .u16 0, .slice none 0 0] 35)
 go_enter Try.func53, Try.ntmps53
 go_wp2_with fail
 refine (CT.out _ (hv.below B0)).mono ?_
 rintro e w2 ⟨v2, rfl, hr2, rfl⟩
 go_wp2_with fail
 refine (words_any _ (tailL bs 1) _ hr2 (by omega)).mono ?_
 rintro e w3 ⟨v3, rfl, hr3, B3, nv3⟩
 replace X1 := X1.below B3 (by simp)
 replace X0 := X0.below B3 (by simp; omega)
 replace B3 := below_then B0 B3
 simp at nv3
 clear hr2 B0
 obtain ⟨a3, cap3, rfl, -⟩ := id hr3
 simp only [List.length_map] at hr3 nv3 ⊢
 have p0 := X1.cell 0
 have p1 := X1.cell 1
 have p2 := X1.cell 2
 have p3 := X1.cell 3
 have p4 := X1.cell 4
 have p5 := X1.cell 5
 have p6 := X1.cell 6
 have p7 := X1.cell 7
 have p8 := X1.cell 8
 have p9 := X1.cell 9
 simp at p0 p1 p2 p3 p4 p5 p6 p7 p8 p9
 have fp := X1.frozen
 have gp := X1.lt
 have q0 := X0.cell 0
 have q1 := X0.cell 1
 have q2 := X0.cell 2
 have q3 := X0.cell 3
 have q4 := X0.cell 4
 have q5 := X0.cell 5
 have q6 := X0.cell 6
 have q7 := X0.cell 7
 have q8 := X0.cell 8
 have q9 := X0.cell 9
 simp at q0 q1 q2 q3 q4 q5 q6 q7 q8 q9
 have fq := X0.frozen
 have gq := X0.lt
 clear X1 X0
 go_wp2
 refine bodyPost_ret (v := _) (by simp [results, Try.results53, go_sem, q0, q1, q2, q3, q4, q5, q6, q7, q8, q9]; with_reducible rfl) rfl ?_
 rw [EQ.out]
 refine ⟨_, rfl, ⟨_, _, _, rfl, Row.nil _, ?_, Row.nil _⟩, ?_, ⟨_, _, _, _, _, _, _, _, _, _, rfl, NewV.none _ _ _, nv3.le (by omega), NewV.none _ _ _⟩⟩
 ·
  repeat' (refine Row.setCell_new ?_ nv3 (by omega))
  exact hr3
 ·
  repeat' (refine Below.setCell ?_ (by simp) _)
  exact B3
set_option maxRecDepth 100000 in
set_option maxHeartbeats 1000000 in
theorem guess_rep_17 (v : Value) (bs : List UInt8) (c : Int) (w : World) (hv : Row w v (bs.map bV)) (h0 : bs ≠ []) (_hcn : -9223372036854775808 ≤ c ∧ c ≤ 9223372036854775807) (hf : fnOf bs = 17) :
  Calls Try.prog 53 #[v, .int .i64 c] w fun e w' => ∃ v', e = .returned v' ∧ IsRp w' v' (gA bs c) ∧ Below w.heap.size w w' ∧ NewR w.heap.size v' := by
 obtain ⟨a, cap, rfl, -⟩ := id hv
 obtain ⟨hl, hc, hm, hcell⟩ := hv.at
 simp only [List.length_map] at hl hc hv hcell ⊢
 obtain ⟨b, off, rfl, hcl⟩ := hcell 0 0 (List.length_pos_iff.2 h0)
 have c0 := hcl 0 (List.length_pos_iff.2 h0)
 have hp : (0 : Int) < (bs.length : Int) := by have := List.length_pos_iff.2 h0; omega
 have hp' : 0 < bs.length := List.length_pos_iff.2 h0
 have EQ : Hid (gA bs c = ⟨17, 0, 0, 0, 0, [], [], 0, 0, tailL bs 1⟩) := by show _ = _; simp [gA, hf]
 have hf2 : (bs.getD 0 0).toNat = 17 := by unfold fnOf at hf; omega
 simp only [bV, hf2, Nat.add_zero] at c0
 have hlt := lt_of_cell c0
 have W0 := hidden (fun o1 o2 => ((Below.refl w.heap.size w).alloc (Nat.le_refl _) o1).alloc (by simp) o2)
 have CT := hidden (fun w' (h : Row w' (.slice (some ⟨b, off, none⟩) bs.length cap) (bs.map bV)) => tail_rep _ bs w' h)
 have TL := tail_len bs 1
 clear hcl hcell hf hf2 hc
 have X1 := Blk.new_at (w.alloc (.cells #[.int .i64 0, .int .i64 0, .int .i64 0, .int .i64 0, .int .i64 0, .slice none 0 0, .slice none 0 0, .int .u16 0, .int .u16 0, .slice none 0 0] 35)) 35 [.int .i64 17, .int .i64 0, .int .i64 0, .int .i64 0, .int .i64 0, .slice none 0 0, .slice none 0 0, .int .u16 0, .int .u16 0, .slice none 0 0] (w.heap.size + 1) (by simp)
 have X0 := (Blk.new w 35 [.int .i64 0, .int .i64 0, .int .i64 0, .int .i64 0, .int .i64 0, .slice none 0 0, .slice none 0 0, .int .u16 0, .int .u16 0, .slice none 0 0]).alloc (.cells #[.int .i64 17, .int .i64 0, .int .i64 0, .int .i64 0, .int .i64 0, .slice none 0 0, .slice none 0 0, .int .u16 0, .int .u16 0, .slice none 0 0] 35)
 have B0 := W0.out (.cells #[.int .i64 0, .int .i64 0, .int .i64 0, .int .i64 0, .int .i64 0, .slice none 0 0, .slice none 0 0, .int .u16 0, .int .u16 0, .slice none 0 0] 35) (.cells #[.int .i64 17, .int .i64 0, .int .i64 0, .int .i64 0, .int .i64 0, .slice none 0 0, .slice none 0 0, .int .u16 0, .int .u16 0, .slice none 0 0] 35)
 go_enter Try.func53, Try.ntmps53
 go_wp2_with fail
 refine (CT.out _ (hv.below B0)).mono ?_
 rintro e w2 ⟨v2, rfl, hr2, rfl⟩
 go_wp2_with fail
 refine (clone_any _ (tailL bs 1) _ hr2 (by omega)).mono ?_
 rintro e w3 ⟨v3, rfl, hr3, B3, nv3⟩
 replace X1 := X1.below B3 (by simp)
 replace X0 := X0.below B3 (by simp; omega)
 replace B3 := below_then B0 B3
 simp at nv3
 clear hr2 B0
 obtain ⟨a3, cap3, rfl, -⟩ := id hr3
 simp only [List.length_map] at hr3 nv3 ⊢
 have p0 := X1.cell 0
 have p1 := X1.cell 1
 have p2 := X1.cell 2
 have p3 := X1.cell 3
 have p4 := X1.cell 4
 have p5 := X1.cell 5
 have p6 := X1.cell 6
 have p7 := X1.cell 7
 have p8 := X1.cell 8
 have p9 := X1.cell 9
 simp at p0 p1 p2 p3 p4 p5 p6 p7 p8 p9
 have fp := X1.frozen
 have gp := X1.lt
 have q0 := X0.cell 0
 have q1 := X0.cell 1
 have q2 := X0.cell 2
 have q3 := X0.cell 3
 have q4 := X0.cell 4
 have q5 := X0.cell 5
 have q6 := X0.cell 6
 have q7 := X0.cell 7
 have q8 := X0.cell 8
 have q9 := X0.cell 9
 simp at q0 q1 q2 q3 q4 q5 q6 q7 q8 q9
 have fq := X0.frozen
 have gq := X0.lt
 clear X1 X0
 go_wp2
 refine bodyPost_ret (v := _) (by simp [results, Try.results53, go_sem, q0, q1, q2, q3, q4, q5, q6, q7, q8, q9]; with_reducible rfl) rfl ?_
 rw [EQ.out]
 refine ⟨_, rfl, ⟨_, _, _, rfl, Row.nil _, Row.nil _, ?_⟩, ?_, ⟨_, _, _, _, _, _, _, _, _, _, rfl, NewV.none _ _ _, NewV.none _ _ _, nv3.le (by omega)⟩⟩
 ·
  repeat' (refine Row.setCell_new ?_ nv3 (by omega))
  exact hr3
 ·
  repeat' (refine Below.setCell ?_ (by simp) _)
  exact B3
set_option maxRecDepth 100000 in
set_option maxHeartbeats 1000000 in
theorem guess_rep_15 (v : Value) (bs : List UInt8) (c : Int) (w : World) (hv : Row w v (bs.map bV)) (h0 : bs ≠ []) (_hcn : -9223372036854775808 ≤ c ∧ c ≤ 9223372036854775807) (hf : fnOf bs = 15) :
  Calls Try.prog 53 #[v, .int .i64 c] w fun e w' => ∃ v', e = .returned v' ∧ IsRp w' v' (gA bs c) ∧ Below w.heap.size w w' ∧ NewR w.heap.size v' := by
 obtain ⟨a, cap, rfl, -⟩ := id hv
 obtain ⟨hl, hc, hm, hcell⟩ := hv.at
 simp only [List.length_map] at hl hc hv hcell ⊢
 obtain ⟨b, off, rfl, hcl⟩ := hcell 0 0 (List.length_pos_iff.2 h0)
 have c0 := hcl 0 (List.length_pos_iff.2 h0)
 have hp : (0 : Int) < (bs.length : Int) := by have := List.length_pos_iff.2 h0; omega
 have hp' : 0 < bs.length := List.length_pos_iff.2 h0
 have EQ : Hid (gA bs c = ⟨15, 0, getN bs 1, getN bs 3, 0, [], [], 0, 0, []⟩) := by show _ = _; simp [gA, hf]
 have hf2 : (bs.getD 0 0).toNat = 15 := by unfold fnOf at hf; omega
 simp only [bV, hf2, Nat.add_zero] at c0
 have hlt := lt_of_cell c0
 have C1 := hidden (fun w' (h : Row w' (.slice (some ⟨b, off, none⟩) bs.length cap) (bs.map bV)) => get_rep _ bs 1 w' (by omega) h)
 obtain ⟨i1, j1⟩ := getN_in bs 1
 generalize getN bs 1 = N1 at *
 have C3 := hidden (fun w' (h : Row w' (.slice (some ⟨b, off, none⟩) bs.length cap) (bs.map bV)) => get_rep _ bs 3 w' (by omega) h)
 obtain ⟨i3, j3⟩ := getN_in bs 3
 generalize getN bs 3 = N3 at *
 have W0 := hidden (fun o1 o2 => ((Below.refl w.heap.size w).alloc (Nat.le_refl _) o1).alloc (by simp) o2)
 clear hcl hcell hf hf2 hc
 go_enter Try.func53, Try.ntmps53
 go_wp2_with fail
 refine (C1.out _ (hv.below (W0.out _ _))).mono ?_
 rintro e w1 ⟨rfl, nq1, rfl⟩
 go_wp2_with fail
 refine (C3.out _ (hv.below (below_drewn (W0.out _ _) _))).mono ?_
 rintro e w1 ⟨rfl, nq3, rfl⟩
 go_wp2
 refine bodyPost_ret (v := _) (by simp [results, Try.results53, go_sem]; with_reducible rfl) rfl ?_
 rw [EQ.out]
 refine ⟨_, rfl, ⟨_, _, _, rfl, Row.nil _, Row.nil _, Row.nil _⟩, ?_, ⟨_, _, _, _, _, _, _, _, _, _, rfl, NewV.none _ _ _, NewV.none _ _ _, NewV.none _ _ _⟩⟩
 repeat' (refine Below.setCell ?_ (by simp) _)
 exact below_drewn (W0.out _ _) _
set_option maxRecDepth 100000 in
set_option maxHeartbeats 1000000 in
theorem guess_rep_16 (v : Value) (bs : List UInt8) (c : Int) (w : World) (hv : Row w v (bs.map bV)) (h0 : bs ≠ []) (_hcn : -9223372036854775808 ≤ c ∧ c ≤ 9223372036854775807) (hf : fnOf bs = 16) :
  Calls Try.prog 53 #[v, .int .i64 c] w fun e w' => ∃ v', e = .returned v' ∧ IsRp w' v' (gA bs c) ∧ Below w.heap.size w w' ∧ NewR w.heap.size v' := by
 obtain ⟨a, cap, rfl, -⟩ := id hv
 obtain ⟨hl, hc, hm, hcell⟩ := hv.at
 simp only [List.length_map] at hl hc hv hcell ⊢
 obtain ⟨b, off, rfl, hcl⟩ := hcell 0 0 (List.length_pos_iff.2 h0)
 have c0 := hcl 0 (List.length_pos_iff.2 h0)
 have hp : (0 : Int) < (bs.length : Int) := by have := List.length_pos_iff.2 h0; omega
 have hp' : 0 < bs.length := List.length_pos_iff.2 h0
 have EQ : Hid (gA bs c = ⟨16, 0, getN bs 1, getN bs 3, 0, [], [], 0, 0, []⟩) := by show _ = _; simp [gA, hf]
 have hf2 : (bs.getD 0 0).toNat = 16 := by unfold fnOf at hf; omega
 simp only [bV, hf2, Nat.add_zero] at c0
 have hlt := lt_of_cell c0
 have C1 := hidden (fun w' (h : Row w' (.slice (some ⟨b, off, none⟩) bs.length cap) (bs.map bV)) => get_rep _ bs 1 w' (by omega) h)
 obtain ⟨i1, j1⟩ := getN_in bs 1
 generalize getN bs 1 = N1 at *
 have C3 := hidden (fun w' (h : Row w' (.slice (some ⟨b, off, none⟩) bs.length cap) (bs.map bV)) => get_rep _ bs 3 w' (by omega) h)
 obtain ⟨i3, j3⟩ := getN_in bs 3
 generalize getN bs 3 = N3 at *
 have W0 := hidden (fun o1 o2 => ((Below.refl w.heap.size w).alloc (Nat.le_refl _) o1).alloc (by simp) o2)
 clear hcl hcell hf hf2 hc
 go_enter Try.func53, Try.ntmps53
 go_wp2_with fail
 refine (C1.out _ (hv.below (W0.out _ _))).mono ?_
 rintro e w1 ⟨rfl, nq1, rfl⟩
 go_wp2_with fail
 refine (C3.out _ (hv.below (below_drewn (W0.out _ _) _))).mono ?_
 rintro e w1 ⟨rfl, nq3, rfl⟩
 go_wp2
 refine bodyPost_ret (v := _) (by simp [results, Try.results53, go_sem]; with_reducible rfl) rfl ?_
 rw [EQ.out]
 refine ⟨_, rfl, ⟨_, _, _, rfl, Row.nil _, Row.nil _, Row.nil _⟩, ?_, ⟨_, _, _, _, _, _, _, _, _, _, rfl, NewV.none _ _ _, NewV.none _ _ _, NewV.none _ _ _⟩⟩
 repeat' (refine Below.setCell ?_ (by simp) _)
 exact below_drewn (W0.out _ _) _
set_option maxRecDepth 100000 in
set_option maxHeartbeats 1000000 in
theorem guess_rep_5 (v : Value) (bs : List UInt8) (c : Int) (w : World) (hv : Row w v (bs.map bV)) (h0 : bs ≠ []) (_hcn : -9223372036854775808 ≤ c ∧ c ≤ 9223372036854775807) (hf : fnOf bs = 5) :
  Calls Try.prog 53 #[v, .int .i64 c] w fun e w' => ∃ v', e = .returned v' ∧ IsRp w' v' (gA bs c) ∧ Below w.heap.size w w' ∧ NewR w.heap.size v' := by
 obtain ⟨a, cap, rfl, -⟩ := id hv
 obtain ⟨hl, hc, hm, hcell⟩ := hv.at
 simp only [List.length_map] at hl hc hv hcell ⊢
 obtain ⟨b, off, rfl, hcl⟩ := hcell 0 0 (List.length_pos_iff.2 h0)
 have c0 := hcl 0 (List.length_pos_iff.2 h0)
 have hp : (0 : Int) < (bs.length : Int) := by have := List.length_pos_iff.2 h0; omega
 have hp' : 0 < bs.length := List.length_pos_iff.2 h0
 have EQ : Hid (gA bs c = echoP (readQ bs)) := by show _ = _; simp [gA, hf]
 have hf2 : (bs.getD 0 0).toNat = 5 := by unfold fnOf at hf; omega
 simp only [bV, hf2, Nat.add_zero] at c0
 have hlt := lt_of_cell c0
 have W0 := hidden (fun o1 o2 => ((Below.refl w.heap.size w).alloc (Nat.le_refl _) o1).alloc (by simp) o2)
 have CR := hidden (fun w' (h : Row w' (.slice (some ⟨b, off, none⟩) bs.length cap) (bs.map bV)) => read_pdu_new _ bs w' h)
 clear hcl hcell hf hf2 hc
 have X1 := Blk.new_at (w.alloc (.cells #[.int .i64 0, .int .i64 0, .int .i64 0, .int .i64 0, .int .i64 0, .slice none 0 0, .slice none 0 0, .int .u16 0, .int .u16 0, .slice none 0 0] 35)) 35 [.int .i64 5, .int .i64 0, .int .i64 0, .int .i64 0, .int .i64 0, .slice none 0 0, .slice none 0 0, .int .u16 0, .int .u16 0, .slice none 0 0] (w.heap.size + 1) (by simp)
 have X0 := (Blk.new w 35 [.int .i64 0, .int .i64 0, .int .i64 0, .int .i64 0, .int .i64 0, .slice none 0 0, .slice none 0 0, .int .u16 0, .int .u16 0, .slice none 0 0]).alloc (.cells #[.int .i64 5, .int .i64 0, .int .i64 0, .int .i64 0, .int .i64 0, .slice none 0 0, .slice none 0 0, .int .u16 0, .int .u16 0, .slice none 0 0] 35)
 have B0 := W0.out (.cells #[.int .i64 0, .int .i64 0, .int .i64 0, .int .i64 0, .int .i64 0, .slice none 0 0, .slice none 0 0, .int .u16 0, .int .u16 0, .slice none 0 0] 35) (.cells #[.int .i64 5, .int .i64 0, .int .i64 0, .int .i64 0, .int .i64 0, .slice none 0 0, .slice none 0 0, .int .u16 0, .int .u16 0, .slice none 0 0] 35)
 generalize readQ bs = q at *
 generalize readE bs = E at *
 go_enter Try.func53, Try.ntmps53
 go_wp2_with fail
 refine (CR.out _ (hv.below B0)).mono ?_
 rintro e w2 ⟨v2, rfl, hr2, B2, nq2⟩
 replace X0 := X0.below B2 (by simp; omega)
 replace B2 := below_then B0 B2
 simp at nq2
 obtain ⟨ab, capb, av, capv, rfl, -, -⟩ := hr2.slices
 obtain ⟨f2, a2, c2, p2, s2, bs2, vs2, m2, o2⟩ := q
 simp only at nq2 hr2 EQ ⊢
 go_wp2_with fail
 have B3 := B2.alloc B2.size (.cells #[.int .i64 f2, .int .i64 a2, .int .i64 c2, .int .i64 p2, .int .i64 s2, .slice ab bs2.length capb, .slice av vs2.length capv, wV m2, wV o2] 26)
 replace hr2 := hr2.below ((Below.refl _ _).alloc (Nat.le_refl _) (.cells #[.int .i64 f2, .int .i64 a2, .int .i64 c2, .int .i64 p2, .int .i64 s2, .slice ab bs2.length capb, .slice av vs2.length capv, wV m2, wV o2] 26))
 replace X0 := X0.alloc (.cells #[.int .i64 f2, .int .i64 a2, .int .i64 c2, .int .i64 p2, .int .i64 s2, .slice ab bs2.length capb, .slice av vs2.length capv, wV m2, wV o2] 26)
 refine (echo_rep _ _ _ hr2).mono ?_
 rintro e w3 ⟨v3, rfl, hr3, B4, np3⟩
 replace X0 := X0.below B4 X0.lt
 replace B4 := below_then B3 B4
 have np := (np3 _ nq2).raw
 obtain ⟨vb3, vv3, vd3, rfl, hb3, hv3, hd3⟩ := hr3
 obtain ⟨n1, n2, n3⟩ := np.parts
 have E3 := hidden (B4.size)
 try simp only [echoP, List.map_nil] at hb3 hv3 hd3 n1 n2 n3 ⊢
 have m1 := n1.le (base' := w.heap.size) (by omega)
 have m2 := n2.le (base' := w.heap.size) (by omega)
 have m3 := n3.le (base' := w.heap.size) (by omega)
 try simp only at hb3 hv3 hd3 ⊢
 obtain ⟨a3, cap3, rfl, -⟩ := id hb3
 obtain ⟨a4, cap4, rfl, -⟩ := id hv3
 obtain ⟨a5, cap5, rfl, -⟩ := id hd3
 try simp only [List.length_map, List.length_nil] at hb3 hv3 hd3 n1 n2 n3 m1 m2 m3 ⊢
 clear np np3
 have q0 := X0.cell 0
 have q1 := X0.cell 1
 have q2 := X0.cell 2
 have q3 := X0.cell 3
 have q4 := X0.cell 4
 have q5 := X0.cell 5
 have q6 := X0.cell 6
 have q7 := X0.cell 7
 have q8 := X0.cell 8
 have q9 := X0.cell 9
 simp at q0 q1 q2 q3 q4 q5 q6 q7 q8 q9
 have fq := X0.frozen
 have gq := X0.lt
 clear X0
 go_wp2
 refine bodyPost_ret (v := _) (by simp [results, Try.results53, go_sem, q0, q1, q2, q3, q4, q5, q6, q7, q8, q9]; with_reducible rfl) rfl ?_
 rw [EQ.out]
 refine ⟨_, rfl, ⟨_, _, _, rfl, ?_, ?_, ?_⟩, ?_, ⟨_, _, _, _, _, _, _, _, _, _, rfl, m1, m2, m3⟩⟩
 ·
  repeat' (refine Row.setCell_new ?_ n1 (by omega))
  exact hb3
 ·
  repeat' (refine Row.setCell_new ?_ n2 (by omega))
  exact hv3
 ·
  repeat' (refine Row.setCell_new ?_ n3 (by omega))
  exact hd3
 ·
  repeat' (refine Below.setCell ?_ (by simp) _)
  exact B4
set_option maxRecDepth 100000 in
set_option maxHeartbeats 1000000 in
theorem guess_rep_6 (v : Value) (bs : List UInt8) (c : Int) (w : World) (hv : Row w v (bs.map bV)) (h0 : bs ≠ []) (_hcn : -9223372036854775808 ≤ c ∧ c ≤ 9223372036854775807) (hf : fnOf bs = 6) :
  Calls Try.prog 53 #[v, .int .i64 c] w fun e w' => ∃ v', e = .returned v' ∧ IsRp w' v' (gA bs c) ∧ Below w.heap.size w w' ∧ NewR w.heap.size v' := by
 obtain ⟨a, cap, rfl, -⟩ := id hv
 obtain ⟨hl, hc, hm, hcell⟩ := hv.at
 simp only [List.length_map] at hl hc hv hcell ⊢
 obtain ⟨b, off, rfl, hcl⟩ := hcell 0 0 (List.length_pos_iff.2 h0)
 have c0 := hcl 0 (List.length_pos_iff.2 h0)
 have hp : (0 : Int) < (bs.length : Int) := by have := List.length_pos_iff.2 h0; omega
 have hp' : 0 < bs.length := List.length_pos_iff.2 h0
 have EQ : Hid (gA bs c = echoP (readQ bs)) := by show _ = _; simp [gA, hf]
 have hf2 : (bs.getD 0 0).toNat = 6 := by unfold fnOf at hf; omega
 simp only [bV, hf2, Nat.add_zero] at c0
 have hlt := lt_of_cell c0
 have W0 := hidden (fun o1 o2 => ((Below.refl w.heap.size w).alloc (Nat.le_refl _) o1).alloc (by simp) o2)
 have CR := hidden (fun w' (h : Row w' (.slice (some ⟨b, off, none⟩) bs.length cap) (bs.map bV)) => read_pdu_new _ bs w' h)
 clear hcl hcell hf hf2 hc
 have X1 := Blk.new_at (w.alloc (.cells #[.int .i64 0, .int .i64 0, .int .i64 0, .int .i64 0, .int .i64 0, .slice none 0 0, .slice none 0 0, .int .u16 0, .int .u16 0, .slice none 0 0] 35)) 35 [.int .i64 6, .int .i64 0, .int .i64 0, .int .i64 0, .int .i64 0, .slice none 0 0, .slice none 0 0, .int .u16 0, .int .u16 0, .slice none 0 0] (w.heap.size + 1) (by simp)
 have X0 := (Blk.new w 35 [.int .i64 0, .int .i64 0, .int .i64 0, .int .i64 0, .int .i64 0, .slice none 0 0, .slice none 0 0, .int .u16 0, .int .u16 0, .slice none 0 0]).alloc (.cells #[.int .i64 6, .int .i64 0, .int .i64 0, .int .i64 0, .int .i64 0, .slice none 0 0, .slice none 0 0, .int .u16 0, .int .u16 0, .slice none 0 0] 35)
 have B0 := W0.out (.cells #[.int .i64 0, .int .i64 0, .int .i64 0, .int .i64 0, .int .i64 0, .slice none 0 0, .slice none 0 0, .int .u16 0, .int .u16 0, .slice none 0 0] 35) (.cells #[.int .i64 6, .int .i64 0, .int .i64 0, .int .i64 0, .int .i64 0, .slice none 0 0, .slice none 0 0, .int .u16 0, .int .u16 0, .slice none 0 0] 35)
 generalize readQ bs = q at *
 generalize readE bs = E at *
 go_enter Try.func53, Try.ntmps53
 go_wp2_with fail
 refine (CR.out _ (hv.below B0)).mono ?_
 rintro e w2 ⟨v2, rfl, hr2, B2, nq2⟩
 replace X0 := X0.below B2 (by simp; omega)
 replace B2 := below_then B0 B2
 simp at nq2
 obtain ⟨ab, capb, av, capv, rfl, -, -⟩ := hr2.slices
 obtain ⟨f2, a2, c2, p2, s2, bs2, vs2, m2, o2⟩ := q
 simp only at nq2 hr2 EQ ⊢
 go_wp2_with fail
 have B3 := B2.alloc B2.size (.cells #[.int .i64 f2, .int .i64 a2, .int .i64 c2, .int .i64 p2, .int .i64 s2, .slice ab bs2.length capb, .slice av vs2.length capv, wV m2, wV o2] 26)
 replace hr2 := hr2.below ((Below.refl _ _).alloc (Nat.le_refl _) (.cells #[.int .i64 f2, .int .i64 a2, .int .i64 c2, .int .i64 p2, .int .i64 s2, .slice ab bs2.length capb, .slice av vs2.length capv, wV m2, wV o2] 26))
 replace X0 := X0.alloc (.cells #[.int .i64 f2, .int .i64 a2, .int .i64 c2, .int .i64 p2, .int .i64 s2, .slice ab bs2.length capb, .slice av vs2.length capv, wV m2, wV o2] 26)
 refine (echo_rep _ _ _ hr2).mono ?_
 rintro e w3 ⟨v3, rfl, hr3, B4, np3⟩
 replace X0 := X0.below B4 X0.lt
 replace B4 := below_then B3 B4
 have np := (np3 _ nq2).raw
 obtain ⟨vb3, vv3, vd3, rfl, hb3, hv3, hd3⟩ := hr3
 obtain ⟨n1, n2, n3⟩ := np.parts
 have E3 := hidden (B4.size)
 try simp only [echoP, List.map_nil] at hb3 hv3 hd3 n1 n2 n3 ⊢
 have m1 := n1.le (base' := w.heap.size) (by omega)
 have m2 := n2.le (base' := w.heap.size) (by omega)
 have m3 := n3.le (base' := w.heap.size) (by omega)
 try simp only at hb3 hv3 hd3 ⊢
 obtain ⟨a3, cap3, rfl, -⟩ := id hb3
 obtain ⟨a4, cap4, rfl, -⟩ := id hv3
 obtain ⟨a5, cap5, rfl, -⟩ := id hd3
 try simp only [List.length_map, List.length_nil] at hb3 hv3 hd3 n1 n2 n3 m1 m2 m3 ⊢
 clear np np3
 have q0 := X0.cell 0
 have q1 := X0.cell 1
 have q2 := X0.cell 2
 have q3 := X0.cell 3
 have q4 := X0.cell 4
 have q5 := X0.cell 5
 have q6 := X0.cell 6
 have q7 := X0.cell 7
 have q8 := X0.cell 8
 have q9 := X0.cell 9
 simp at q0 q1 q2 q3 q4 q5 q6 q7 q8 q9
 have fq := X0.frozen
 have gq := X0.lt
 clear X0
 go_wp2
 refine bodyPost_ret (v := _) (by simp [results, Try.results53, go_sem, q0, q1, q2, q3, q4, q5, q6, q7, q8, q9]; with_reducible rfl) rfl ?_
 rw [EQ.out]
 refine ⟨_, rfl, ⟨_, _, _, rfl, ?_, ?_, ?_⟩, ?_, ⟨_, _, _, _, _, _, _, _, _, _, rfl, m1, m2, m3⟩⟩
 ·
  repeat' (refine Row.setCell_new ?_ n1 (by omega))
  exact hb3
 ·
  repeat' (refine Row.setCell_new ?_ n2 (by omega))
  exact hv3
 ·
  repeat' (refine Row.setCell_new ?_ n3 (by omega))
  exact hd3
 ·
  repeat' (refine Below.setCell ?_ (by simp) _)
  exact B4
set_option maxRecDepth 100000 in
set_option maxHeartbeats 1000000 in
theorem guess_rep_8 (v : Value) (bs : List UInt8) (c : Int) (w : World) (hv : Row w v (bs.map bV)) (h0 : bs ≠ []) (_hcn : -9223372036854775808 ≤ c ∧ c ≤ 9223372036854775807) (hf : fnOf bs = 8) :
  Calls Try.prog 53 #[v, .int .i64 c] w fun e w' => ∃ v', e = .returned v' ∧ IsRp w' v' (gA bs c) ∧ Below w.heap.size w w' ∧ NewR w.heap.size v' := by
 obtain ⟨a, cap, rfl, -⟩ := id hv
 obtain ⟨hl, hc, hm, hcell⟩ := hv.at
 simp only [List.length_map] at hl hc hv hcell ⊢
 obtain ⟨b, off, rfl, hcl⟩ := hcell 0 0 (List.length_pos_iff.2 h0)
 have c0 := hcl 0 (List.length_pos_iff.2 h0)
 have hp : (0 : Int) < (bs.length : Int) := by have := List.length_pos_iff.2 h0; omega
 have hp' : 0 < bs.length := List.length_pos_iff.2 h0
 have EQ : Hid (gA bs c = echoP (readQ bs)) := by show _ = _; simp [gA, hf]
 have hf2 : (bs.getD 0 0).toNat = 8 := by unfold fnOf at hf; omega
 simp only [bV, hf2, Nat.add_zero] at c0
 have hlt := lt_of_cell c0
 have W0 := hidden (fun o1 o2 => ((Below.refl w.heap.size w).alloc (Nat.le_refl _) o1).alloc (by simp) o2)
 have CR := hidden (fun w' (h : Row w' (.slice (some ⟨b, off, none⟩) bs.length cap) (bs.map bV)) => read_pdu_new _ bs w' h)
 clear hcl hcell hf hf2 hc
 have X1 := Blk.new_at (w.alloc (.cells #[.int .i64 0, .int .i64 0, .int .i64 0, .int .i64 0, .int .i64 0, .slice none 0 0, .slice none 0 0, .int .u16 0, .int .u16 0, .slice none 0 0] 35)) 35 [.int .i64 8, .int .i64 0, .int .i64 0, .int .i64 0, .int .i64 0, .slice none 0 0, .slice none 0 0, .int .u16 0, .int .u16 0, .slice none 0 0] (w.heap.size + 1) (by simp)
 have X0 := (Blk.new w 35 [.int .i64 0, .int .i64 0, .int .i64 0, .int .i64 0, .int .i64 0, .slice none 0 0, .slice none 0 0, .int .u16 0, .int .u16 0, .slice none 0 0]).alloc (.cells #[.int .i64 8, .int .i64 0, .int .i64 0, .int .i64 0, .int .i64 0, .slice none 0 0, .slice none 0 0, .int .u16 0, .int .u16 0, .slice none 0 0] 35)
 have B0 := W0.out (.cells #[.int .i64 0, .int .i64 0, .int .i64 0, .int .i64 0, .int .i64 0, .slice none 0 0, .slice none 0 0, .int .u16 0, .int .u16 0, .slice none 0 0] 35) (.cells #[.int .i64 8, .int .i64 0, .int .i64 0, .int .i64 0, .int .i64 0, .slice none 0 0, .slice none 0 0, .int .u16 0, .int .u16 0, .slice none 0 0] 35)
 generalize readQ bs = q at *
 generalize readE bs = E at *
 go_enter Try.func53, Try.ntmps53
 go_wp2_with fail
 refine (CR.out _ (hv.below B0)).mono ?_
 rintro e w2 ⟨v2, rfl, hr2, B2, nq2⟩
 replace X0 := X0.below B2 (by simp; omega)
 replace B2 := below_then B0 B2
 simp at nq2
 obtain ⟨ab, capb, av, capv, rfl, -, -⟩ := hr2.slices
 obtain ⟨f2, a2, c2, p2, s2, bs2, vs2, m2, o2⟩ := q
 simp only at nq2 hr2 EQ ⊢
 go_wp2_with fail
 have B3 := B2.alloc B2.size (.cells #[.int .i64 f2, .int .i64 a2, .int .i64 c2, .int .i64 p2, .int .i64 s2, .slice ab bs2.length capb, .slice av vs2.length capv, wV m2, wV o2] 26)
 replace hr2 := hr2.below ((Below.refl _ _).alloc (Nat.le_refl _) (.cells #[.int .i64 f2, .int .i64 a2, .int .i64 c2, .int .i64 p2, .int .i64 s2, .slice ab bs2.length capb, .slice av vs2.length capv, wV m2, wV o2] 26))
 replace X0 := X0.alloc (.cells #[.int .i64 f2, .int .i64 a2, .int .i64 c2, .int .i64 p2, .int .i64 s2, .slice ab bs2.length capb, .slice av vs2.length capv, wV m2, wV o2] 26)
 refine (echo_rep _ _ _ hr2).mono ?_
 rintro e w3 ⟨v3, rfl, hr3, B4, np3⟩
 replace X0 := X0.below B4 X0.lt
 replace B4 := below_then B3 B4
 have np := (np3 _ nq2).raw
 obtain ⟨vb3, vv3, vd3, rfl, hb3, hv3, hd3⟩ := hr3
 obtain ⟨n1, n2, n3⟩ := np.parts
 have E3 := hidden (B4.size)
 try simp only [echoP, List.map_nil] at hb3 hv3 hd3 n1 n2 n3 ⊢
 have m1 := n1.le (base' := w.heap.size) (by omega)
 have m2 := n2.le (base' := w.heap.size) (by omega)
 have m3 := n3.le (base' := w.heap.size) (by omega)
 try simp only at hb3 hv3 hd3 ⊢
 obtain ⟨a3, cap3, rfl, -⟩ := id hb3
 obtain ⟨a4, cap4, rfl, -⟩ := id hv3
 obtain ⟨a5, cap5, rfl, -⟩ := id hd3
 try simp only [List.length_map, List.length_nil] at hb3 hv3 hd3 n1 n2 n3 m1 m2 m3 ⊢
 clear np np3
 have q0 := X0.cell 0
 have q1 := X0.cell 1
 have q2 := X0.cell 2
 have q3 := X0.cell 3
 have q4 := X0.cell 4
 have q5 := X0.cell 5
 have q6 := X0.cell 6
 have q7 := X0.cell 7
 have q8 := X0.cell 8
 have q9 := X0.cell 9
 simp at q0 q1 q2 q3 q4 q5 q6 q7 q8 q9
 have fq := X0.frozen
 have gq := X0.lt
 clear X0
 go_wp2
 refine bodyPost_ret (v := _) (by simp [results, Try.results53, go_sem, q0, q1, q2, q3, q4, q5, q6, q7, q8, q9]; with_reducible rfl) rfl ?_
 rw [EQ.out]
 refine ⟨_, rfl, ⟨_, _, _, rfl, ?_, ?_, ?_⟩, ?_, ⟨_, _, _, _, _, _, _, _, _, _, rfl, m1, m2, m3⟩⟩
 ·
  repeat' (refine Row.setCell_new ?_ n1 (by omega))
  exact hb3
 ·
  repeat' (refine Row.setCell_new ?_ n2 (by omega))
  exact hv3
 ·
  repeat' (refine Row.setCell_new ?_ n3 (by omega))
  exact hd3
 ·
  repeat' (refine Below.setCell ?_ (by simp) _)
  exact B4
set_option maxRecDepth 100000 in
set_option maxHeartbeats 1000000 in
theorem guess_rep_22 (v : Value) (bs : List UInt8) (c : Int) (w : World) (hv : Row w v (bs.map bV)) (h0 : bs ≠ []) (_hcn : -9223372036854775808 ≤ c ∧ c ≤ 9223372036854775807) (hf : fnOf bs = 22) :
  Calls Try.prog 53 #[v, .int .i64 c] w fun e w' => ∃ v', e = .returned v' ∧ IsRp w' v' (gA bs c) ∧ Below w.heap.size w w' ∧ NewR w.heap.size v' := by
 obtain ⟨a, cap, rfl, -⟩ := id hv
 obtain ⟨hl, hc, hm, hcell⟩ := hv.at
 simp only [List.length_map] at hl hc hv hcell ⊢
 obtain ⟨b, off, rfl, hcl⟩ := hcell 0 0 (List.length_pos_iff.2 h0)
 have c0 := hcl 0 (List.length_pos_iff.2 h0)
 have hp : (0 : Int) < (bs.length : Int) := by have := List.length_pos_iff.2 h0; omega
 have hp' : 0 < bs.length := List.length_pos_iff.2 h0
 have EQ : Hid (gA bs c = echoP (readQ bs)) := by show _ = _; simp [gA, hf]
 have hf2 : (bs.getD 0 0).toNat = 22 := by unfold fnOf at hf; omega
 simp only [bV, hf2, Nat.add_zero] at c0
 have hlt := lt_of_cell c0
 have W0 := hidden (fun o1 o2 => ((Below.refl w.heap.size w).alloc (Nat.le_refl _) o1).alloc (by simp) o2)
 have CR := hidden (fun w' (h : Row w' (.slice (some ⟨b, off, none⟩) bs.length cap) (bs.map bV)) => read_pdu_new _ bs w' h)
 clear hcl hcell hf hf2 hc
 have X1 := Blk.new_at (w.alloc (.cells #[.int .i64 0, .int .i64 0, .int .i64 0, .int .i64 0, .int .i64 0, .slice none 0 0, .slice none 0 0, .int .u16 0, .int .u16 0, .slice none 0 0] 35)) 35 [.int .i64 22, .int .i64 0, .int .i64 0, .int .i64 0, .int .i64 0, .slice none 0 0, .slice none 0 0, .int .u16 0, .int .u16 0, .slice none 0 0] (w.heap.size + 1) (by simp)
 have X0 := (Blk.new w 35 [.int .i64 0, .int .i64 0, .int .i64 0, .int .i64 0, .int .i64 0, .slice none 0 0, .slice none 0 0, .int .u16 0, .int .u16 0, .slice none 0 0]).alloc (.cells #[.int .i64 22, .int .i64 0, .int .i64 0, .int .i64 0, .int .i64 0, .slice none 0 0, .slice none 0 0, .int .u16 0, .int .u16 0, .slice none 0 0] 35)
 have B0 := W0.out (.cells #[.int .i64 0, .int .i64 0, .int .i64 0, .int .i64 0, .int .i64 0, .slice none 0 0, .slice none 0 0, .int .u16 0, .int .u16 0, .slice none 0 0] 35) (.cells #[.int .i64 22, .int .i64 0, .int .i64 0, .int .i64 0, .int .i64 0, .slice none 0 0, .slice none 0 0, .int .u16 0, .int .u16 0, .slice none 0 0] 35)
 generalize readQ bs = q at *
 generalize readE bs = E at *
 go_enter Try.func53, Try.ntmps53
 go_wp2_with fail
 refine (CR.out _ (hv.below B0)).mono ?_
 rintro e w2 ⟨v2, rfl, hr2, B2, nq2⟩
 replace X0 := X0.below B2 (by simp; omega)
 replace B2 := below_then B0 B2
 simp at nq2
 obtain ⟨ab, capb, av, capv, rfl, -, -⟩ := hr2.slices
 obtain ⟨f2, a2, c2, p2, s2, bs2, vs2, m2, o2⟩ := q
 simp only at nq2 hr2 EQ ⊢
 go_wp2_with fail
 have B3 := B2.alloc B2.size (.cells #[.int .i64 f2, .int .i64 a2, .int .i64 c2, .int .i64 p2, .int .i64 s2, .slice ab bs2.length capb, .slice av vs2.length capv, wV m2, wV o2] 26)
 replace hr2 := hr2.below ((Below.refl _ _).alloc (Nat.le_refl _) (.cells #[.int .i64 f2, .int .i64 a2, .int .i64 c2, .int .i64 p2, .int .i64 s2, .slice ab bs2.length capb, .slice av vs2.length capv, wV m2, wV o2] 26))
 replace X0 := X0.alloc (.cells #[.int .i64 f2, .int .i64 a2, .int .i64 c2, .int .i64 p2, .int .i64 s2, .slice ab bs2.length capb, .slice av vs2.length capv, wV m2, wV o2] 26)
 refine (echo_rep _ _ _ hr2).mono ?_
 rintro e w3 ⟨v3, rfl, hr3, B4, np3⟩
 replace X0 := X0.below B4 X0.lt
 replace B4 := below_then B3 B4
 have np := (np3 _ nq2).raw
 obtain ⟨vb3, vv3, vd3, rfl, hb3, hv3, hd3⟩ := hr3
 obtain ⟨n1, n2, n3⟩ := np.parts
 have E3 := hidden (B4.size)
 try simp only [echoP, List.map_nil] at hb3 hv3 hd3 n1 n2 n3 ⊢
 have m1 := n1.le (base' := w.heap.size) (by omega)
 have m2 := n2.le (base' := w.heap.size) (by omega)
 have m3 := n3.le (base' := w.heap.size) (by omega)
 try simp only at hb3 hv3 hd3 ⊢
 obtain ⟨a3, cap3, rfl, -⟩ := id hb3
 obtain ⟨a4, cap4, rfl, -⟩ := id hv3
 obtain ⟨a5, cap5, rfl, -⟩ := id hd3
 try simp only [List.length_map, List.length_nil] at hb3 hv3 hd3 n1 n2 n3 m1 m2 m3 ⊢
 clear np np3
 have q0 := X0.cell 0
 have q1 := X0.cell 1
 have q2 := X0.cell 2
 have q3 := X0.cell 3
 have q4 := X0.cell 4
 have q5 := X0.cell 5
 have q6 := X0.cell 6
 have q7 := X0.cell 7
 have q8 := X0.cell 8
 have q9 := X0.cell 9
 simp at q0 q1 q2 q3 q4 q5 q6 q7 q8 q9
 have fq := X0.frozen
 have gq := X0.lt
 clear X0
 go_wp2
 refine bodyPost_ret (v := _) (by simp [results, Try.results53, go_sem, q0, q1, q2, q3, q4, q5, q6, q7, q8, q9]; with_reducible rfl) rfl ?_
 rw [EQ.out]
 refine ⟨_, rfl, ⟨_, _, _, rfl, ?_, ?_, ?_⟩, ?_, ⟨_, _, _, _, _, _, _, _, _, _, rfl, m1, m2, m3⟩⟩
 ·
  repeat' (refine Row.setCell_new ?_ n1 (by omega))
  exact hb3
 ·
  repeat' (refine Row.setCell_new ?_ n2 (by omega))
  exact hv3
 ·
  repeat' (refine Row.setCell_new ?_ n3 (by omega))
  exact hd3
 ·
  repeat' (refine Below.setCell ?_ (by simp) _)
  exact B4
set_option maxRecDepth 100000 in
set_option maxHeartbeats 1000000 in
theorem guess_rep_no (v : Value) (bs : List UInt8) (c : Int) (w : World) (hv : Row w v (bs.map bV)) (h0 : bs ≠ []) (_hcn : -9223372036854775808 ≤ c ∧ c ≤ 9223372036854775807) (hf : fnOf bs < 128) (hk : knownB (fnOf bs) = false) :
  Calls Try.prog 53 #[v, .int .i64 c] w fun e w' => ∃ v', e = .returned v' ∧ IsRp w' v' (gA bs c) ∧ Below w.heap.size w w' ∧ NewR w.heap.size v' := by
 obtain ⟨a, cap, rfl, -⟩ := id hv
 obtain ⟨hl, hc, hm, hcell⟩ := hv.at
 simp only [List.length_map] at hl hc hv hcell ⊢
 obtain ⟨b, off, rfl, hcl⟩ := hcell 0 0 (List.length_pos_iff.2 h0)
 have c0 := hcl 0 (List.length_pos_iff.2 h0)
 have hp : (0 : Int) < (bs.length : Int) := by have := List.length_pos_iff.2 h0; omega
 have hp' : 0 < bs.length := List.length_pos_iff.2 h0
 have EQ : Hid (gA bs c = ⟨fnOf bs, 0, 0, 0, 0, [], [], 0, 0, []⟩) := by show _ = _; obtain ⟨t1, t2, t3, t4, t5, t6, t8, t15, t16, t17, t22, t23⟩ := known_no hk; simp only [beq_eq_false_iff_ne] at *; simp only [gA]; rw [if_neg (by omega), if_neg (by omega), if_neg (by omega), if_neg (by omega), if_neg (by omega), if_neg (by omega)]
 have hlt := lt_of_cell c0
 have W0 := hidden (fun o1 o2 => ((Below.refl w.heap.size w).alloc (Nat.le_refl _) o1).alloc (by simp) o2)
 have F : Hid (fnOf bs = ((bs.getD 0 0).toNat : Int)) := rfl
 rw [F.out] at hf hk EQ
 obtain ⟨t1, t2, t3, t4, t5, t6, t8, t15, t16, t17, t22, t23⟩ := known_no hk
 have hx := (bs.getD 0 0).toNat_lt
 simp only [Nat.add_zero] at c0
 clear hcl hcell hc hk F
 generalize bs.getD 0 0 = x at *
 have wx : IntKind.i64.wrap (x.toNat : Int) = x.toNat := by rw [IntKind.wrap_i64]; omega
 have hf' : ¬ (128 : Int) ≤ (x.toNat : Int) := by omega
 go_enter Try.func53, Try.ntmps53
 go_wp2
 refine bodyPost_ret (v := _) (by simp [results, Try.results53, go_sem]; with_reducible rfl) rfl ?_
 rw [EQ.out]
 refine ⟨_, rfl, ⟨_, _, _, rfl, Row.nil _, Row.nil _, Row.nil _⟩, ?_, ⟨_, _, _, _, _, _, _, _, _, _, rfl, NewV.none _ _ _, NewV.none _ _ _, NewV.none _ _ _⟩⟩
 repeat' (refine Below.setCell ?_ (by simp) _)
 exact W0.out _ _
theorem guess_rep (v : Value) (bs : List UInt8) (c : Int) (w : World) (hv : Row w v (bs.map bV)) (h0 : bs ≠ []) (hcn : -9223372036854775808 ≤ c ∧ c ≤ 9223372036854775807) :
  Calls Try.prog 53 #[v, .int .i64 c] w fun e w' => ∃ v', e = .returned v' ∧ IsRp w' v' (gA bs c) ∧ Below w.heap.size w w' ∧ NewR w.heap.size v' := by
 by_cases hf : 128 ≤ fnOf bs
 ·
  exact guess_rep_c v bs c w hv h0 hcn hf
 ·
  cases hk : knownB (fnOf bs)
  ·
   exact guess_rep_no v bs c w hv h0 hcn (by omega) hk
  ·
   rcases known_cases hk with e | e | e | e | e | e | e | e | e | e | e | e
   ·
    exact guess_rep_1 v bs c w hv h0 hcn e
   ·
    exact guess_rep_2 v bs c w hv h0 hcn e
   ·
    exact guess_rep_3 v bs c w hv h0 hcn e
   ·
    exact guess_rep_4 v bs c w hv h0 hcn e
   ·
    exact guess_rep_5 v bs c w hv h0 hcn e
   ·
    exact guess_rep_6 v bs c w hv h0 hcn e
   ·
    exact guess_rep_8 v bs c w hv h0 hcn e
   ·
    exact guess_rep_15 v bs c w hv h0 hcn e
   ·
    exact guess_rep_16 v bs c w hv h0 hcn e
   ·
    exact guess_rep_17 v bs c w hv h0 hcn e
   ·
    exact guess_rep_22 v bs c w hv h0 hcn e
   ·
    exact guess_rep_23 v bs c w hv h0 hcn e
end Go.Proofs.Ytbajlhpmmmhkoaa
