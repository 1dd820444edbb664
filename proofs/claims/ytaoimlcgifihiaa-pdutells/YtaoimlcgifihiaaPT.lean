/- PduTells: requests are judged, written, read as the document says, for any, any bytes. The walk. -/
import Derived.Test.YtaoimlcgifihiaaPN
import Derived.Test.YtaoimlcgifihiaaOQ
import Derived.Test.YtaoimlcgifihiaaK4
namespace Go.Proofs.Ytaoimlcgifihiaa
open Go.RowKit

/-- append where it is wanted -/
theorem wpList_app3 {P : Program} {w : World} {ops : Array Oper} {rest : List Oper} {o : Oper} {a : Act} {Q : Exit → Act → World → Prop} (hgd : Region.wanted o (yielded ops a.tmps) = true) (s x : Operand) (t : TypeId)
    (ho : o.op = .call { callee := .builtin .append, args := #[s, x], argTypes := #[t, t] })
    (base : Nat) (e : TypeId) (z : Value) (bytes : Nat) (ht : P.underlying t = some (.slice e)) (hi : (P.info? e).map (fun i => (i.zero, i.size, i.bytes)) = some (some z, 1, bytes)) (hzs : z.cells.size = 1)
    {v : Value} {n : Nat} {xs : List Value} (hsv : a.eval s = v) (hown : w.ownsRow base e 1 v n xs) {sv : Value} {news : List Value} (hxv : a.eval x = sv) (hs : Row w sv news) (h1 : ∀ u ∈ news, u.oneCell' = true)
    (h63 : n + news.length ≤ maxLen) (hbytes : (n + news.length) * bytes ≤ 140737488355328) (hbase : base ≤ w.heap.size)
    (h : ∀ v' w', w'.ownsRow base e 1 v' (n + news.length) (xs ++ news) → w.grownBy w' v.ownBlock → wpList P ops Q rest (a.put o.dst v') w') : wpList P ops Q (o :: rest) a w := by
  unfold wpList
  rw [if_pos hgd]
  exact .inl (wp_app s x t ho base e z bytes ht hi hzs hsv hown hxv hs h1 h63 hbytes hbase h)

theorem xor_any3 (x : UInt8) (T : Nat) (h : T < 256) : ∃ y : UInt8, bits BinOp.xor IntKind.u8 (x.toNat : Int) (T : Int) = (y.toNat : Int) := by
  have hz : x.toNat ^^^ T < 256 := Nat.xor_lt_two_pow (n := 8) x.toNat_lt h
  have hy : (UInt8.ofNat (x.toNat ^^^ T)).toNat = x.toNat ^^^ T := by rw [UInt8.toNat_ofNat']; omega
  exact ⟨UInt8.ofNat (x.toNat ^^^ T), by rw [hy, u8_xor_nat _ _ x.toNat_lt h]⟩
theorem bytes_pos3 (q : Rq) : 0 < (bytesQ q).length := by simp [bytesQ]

set_option maxRecDepth 100000 in
set_option maxHeartbeats 1000000 in
theorem ptells_walk (vt vr vb : Value) (x : List Int) (r : Rq) (bs : List UInt8) (what n at' t : Int) (w : World) (hwh : -9223372036854775808 ≤ what ∧ what ≤ 9223372036854775807) (hn : -9223372036854775808 ≤ n ∧ n ≤ 9223372036854775807) (ha : -9223372036854775808 ≤ at' ∧ at' ≤ 9223372036854775807) (htt : 0 ≤ t ∧ t ≤ 255)
    (ht : Row w vt (x.map iV)) (bx : ∀ n ∈ x, -9223372036854775808 ≤ n ∧ n ≤ 9223372036854775807) (hraw : IsRq w vr r) (hb0 : Row w vb (bs.map bV)) (sb : bs.length ≤ 140737488351232) :
    Calls Try.prog 4 #[vt, .int .i64 what, .int .i64 n, .int .i64 at', vr, vb, .int .u8 t] w fun e w' => e = .returned (.bool true) ∧ Below w.heap.size w w' := by
  obtain ⟨ta, tc, rfl, -⟩ := id ht
  obtain ⟨ba, bc, rfl, -⟩ := id hb0
  obtain ⟨rb, rcb, rv, rcv, rfl, -, -⟩ := hraw.slices
  simp only [List.length_map] at ht hb0 ⊢
  obtain ⟨A, hA, hAl⟩ := and_mask n 11 2047 (by decide) (by decide)
  obtain ⟨T, rfl⟩ : ∃ T : Nat, t = (T : Int) := ⟨t.toNat, by omega⟩
  have hT : T < 256 := by omega
  have HB := hidden hb0
  have HRQ := hidden req_ok
  have HRW := hidden hraw
  have XR := Blk.new w 26 [.int .i64 r.fn, .int .i64 r.loc, .int .i64 r.cnt, .int .i64 r.wat, .int .i64 r.sub, .slice rb r.bits.length rcb, .slice rv r.vals.length rcv, .int .u16 r.land.toNat, .int .u16 r.lor.toNat]
  have B1 := (Below.refl w.heap.size w).alloc (Nat.le_refl _) (.cells #[.int .i64 r.fn, .int .i64 r.loc, .int .i64 r.cnt, .int .i64 r.wat, .int .i64 r.sub, .slice rb r.bits.length rcb, .slice rv r.vals.length rcv, .int .u16 r.land.toNat, .int .u16 r.lor.toNat] 26)
  obtain ⟨w1, hw1⟩ : ∃ w1, w.alloc (.cells #[.int .i64 r.fn, .int .i64 r.loc, .int .i64 r.cnt, .int .i64 r.wat, .int .i64 r.sub, .slice rb r.bits.length rcb, .slice rv r.vals.length rcv, .int .u16 r.land.toNat, .int .u16 r.lor.toNat] 26) = w1 := ⟨_, rfl⟩
  have hs1 : w1.heap.size = w.heap.size + 1 := by rw [← hw1]; simp
  have hw1' : w.alloc (.cells #[.int .i64 r.fn, .int .i64 r.loc, .int .i64 r.cnt, .int .i64 r.wat, .int .i64 r.sub, .slice rb r.bits.length rcb, .slice rv r.vals.length rcv, wV r.land, wV r.lor] 26) = w1 := hw1
  rw [hw1] at XR B1
  have lR : w.heap.size < w1.heap.size := by omega
  have T1 := tap_new w1 ta x.length tc x (ht.below B1) bx
  clear hw1 hs1 ht hb0 bx hraw
  go_enter Try.func4, Try.ntmps4
  go_wp2_with fail
  clear hw1'
  refine (HRQ.out _ _ x _ T1 (by simp)).mono ?_
  rintro e w2 ⟨v2, rfl, q, q2, rq, -, -, -, D2⟩
  have E2 : Below w1.heap.size w1 w2 := (((Below.refl w1.heap.size w1).alloc (Nat.le_refl _) (.cells #[.slice ta x.length tc, .int .i64 0] 31))).trans (D2.below (by omega) (Nat.le_refl _))
  replace B1 := below_then B1 E2
  replace XR := XR.below E2 lR
  have S2 : w.heap.size ≤ w2.heap.size := B1.size
  clear D2 T1 E2 lR HRQ
  obtain ⟨qb, qcb, qv, qcv, rfl, -, -⟩ := q2.slices
  have XQ := Blk.new w2 26 [.int .i64 q.fn, .int .i64 q.loc, .int .i64 q.cnt, .int .i64 q.wat, .int .i64 q.sub, .slice qb q.bits.length qcb, .slice qv q.vals.length qcv, .int .u16 q.land.toNat, .int .u16 q.lor.toNat]
  have E3 := (Below.refl w2.heap.size w2).alloc (Nat.le_refl _) (.cells #[.int .i64 q.fn, .int .i64 q.loc, .int .i64 q.cnt, .int .i64 q.wat, .int .i64 q.sub, .slice qb q.bits.length qcb, .slice qv q.vals.length qcv, .int .u16 q.land.toNat, .int .u16 q.lor.toNat] 26)
  replace B1 := below_then B1 E3
  replace XR := XR.below E3 XR.lt
  replace q2 := q2.below E3
  have CB := hidden (bytes_ref _ q _ q2)
  rw [bytesR_0 rq, rq] at CB
  have LB := bytesR_short q
  rw [bytesR_0 rq] at LB
  have PB := bytes_pos3 q
  clear rq E3
  generalize bytesQ q = X at *
  go_wp2_with fail
  refine CB.out.mono ?_
  rintro e w3 ⟨v3, rfl, o3, b3⟩
  replace B1 := below_then B1 b3
  replace XR := XR.below b3 XR.lt
  replace XQ := XQ.below b3 XQ.lt
  replace q2 := q2.below b3
  clear CB b3
  obtain ⟨N, hN⟩ : ∃ N, X.length = N := ⟨_, rfl⟩
  have HN := hidden hN
  rw [hN] at o3 LB PB
  clear hN
  have hz3 := B1.size
  replace o3 := owns_base o3 (base' := w.heap.size) (by rw [World.size_alloc]; omega)
  obtain ⟨gx, cx, rfl, hgx⟩ := owns_some o3 PB
  go_wp2_with fail
  refine (within_any at' 0 ((N : Int) - 1) _ ha (by omega) (by omega) (by omega)).mono ?_
  rintro e wx ⟨⟨mk, rfl, hm0, hm2⟩, rfl⟩
  obtain ⟨k, rfl⟩ : ∃ k : Nat, mk = (k : Int) := ⟨mk.toNat, by omega⟩
  have hk : k < N := by omega
  have ho0 := World.ownsRow_made (base := w3.heap.size) (e := 5) (size := 1) w3 #[] 0 (Nat.le_refl _) (Nat.zero_le _) (by simp)
  have hb0 : Below w3.heap.size w3 (w3.alloc (.cells #[] 5)) := (Below.refl _ _).alloc (Nat.le_refl _) _
  have hv0 := (Row.of_owns o3).below hb0
  go_wp2_with (at_builtin; refine wpList_app rfl (.tmp 36) (.tmp 37) 34 rfl w3.heap.size 5 (.int .u8 0) 1 Try.underlying34 info_u8 rfl rfl ho0 rfl hv0 (one_bytes X) (by have := HN.out; simp [maxLen]; omega) (by have := HN.out; simp; omega) (by simp) ?_)
  intro v4 w4 ho4 hg4
  simp only [HN.out] at ho4
  have q4 : Below w3.heap.size w3 w4 := hb0.grown hg4 (by simp) (fun k hk => (ho0.lt k hk).1)
  obtain ⟨g, cap4, rfl, hgb⟩ := owns_some ho4 (by omega)
  clear hb0 hv0 hg4 ho0
  have hkX : k < X.length := by rw [HN.out]; exact hk
  have c0 : w4.cell? ⟨g, k, none⟩ = some (bV (X.getD k 0)) := by rw [ho4.cellAt _ (by omega)]; simp [hkX]
  have f0 := ho4.frozenAt k
  generalize X.getD k 0 = z at *
  obtain ⟨y, hy⟩ := xor_any3 z T hT
  have HY := hidden hy
  have hki : (k : Int) < (N : Int) := by omega
  have st := ho4.stored k (.int .u8 (y.toNat : Int))
  rw [← List.map_set (f := bV) (a := y)] at st
  have q5 := q4.grown st.2 q4.size (fun k hk => by cases hk; exact hgb)
  have R9 := Row.of_owns st.1
  have hZ : (X.set k y).length ≤ 1000 := by simp [HN.out]; omega
  generalize X.set k y = Z at *
  obtain ⟨w5, hw5⟩ : ∃ w5, w4.setCell ⟨g, k, none⟩ (.int .u8 (y.toNat : Int)) = w5 := ⟨_, rfl⟩
  rw [hw5] at R9 q5
  have hw5' : w4.setCell ⟨g, k, none⟩ (.int .u8 (bits BinOp.xor IntKind.u8 (z.toNat : Int) (T : Int))) = w5 := by rw [HY.out]; exact hw5
  replace B1 := below_then B1 q5
  replace XR := XR.below q5 XR.lt
  replace XQ := XQ.below q5 XQ.lt
  replace q2 := q2.below q5
  replace o3 := owns_below o3 q5
  clear st q4 q5 ho4 hw5 HY hy hkX
  have lR := XR.lt
  have lQ := XQ.lt
  have d0 := XR.cell 0
  have d1 := XR.cell 1
  have d2 := XR.cell 2
  have d3 := XR.cell 3
  have d4 := XR.cell 4
  have d5 := XR.cell 5
  have d6 := XR.cell 6
  have d7 := XR.cell 7
  have d8 := XR.cell 8
  simp at d0 d1 d2 d3 d4 d5 d6 d7 d8
  have XF := Blk.new w5 26 [.int .i64 r.fn, .int .i64 r.loc, .int .i64 r.cnt, .int .i64 r.wat, .int .i64 r.sub, .slice rb r.bits.length rcb, .slice rv r.vals.length rcv, .int .u16 r.land.toNat, .int .u16 r.lor.toNat]
  have B6 := (Below.refl w5.heap.size w5).alloc (Nat.le_refl _) (.cells #[.int .i64 r.fn, .int .i64 r.loc, .int .i64 r.cnt, .int .i64 r.wat, .int .i64 r.sub, .slice rb r.bits.length rcb, .slice rv r.vals.length rcv, .int .u16 r.land.toNat, .int .u16 r.lor.toNat] 26)
  go_wp2
  clear c0 f0 hw5'
  clear d0 d1 d2 d3 d4 d5 d6 d7 d8
  have hg5 : w.heap.size < w5.heap.size := lR
  have E := B6
  clear B6
  have hrb := HRW.out
  obtain ⟨vb', vv', hE', rb1, rv1⟩ := hrb
  simp only [rqV, Value.agg.injEq, Array.mk.injEq, List.cons.injEq, and_true, true_and] at hE'
  obtain ⟨rfl, rfl⟩ := hE'
  obtain ⟨-, kb1, kb2, -⟩ := rb1.at
  obtain ⟨-, kv1, kv2, -⟩ := rv1.at
  obtain ⟨nb, hnb⟩ : ∃ nb, min r.bits.length 30 = nb := ⟨_, rfl⟩
  obtain ⟨nv, hnv⟩ : ∃ nv, min r.vals.length 30 = nv := ⟨_, rfl⟩
  have hm1 : (if (30 : Int) < (r.bits.length : Int) then (30 : Int) else (r.bits.length : Int)) = (nb : Int) := by split <;> omega
  have hm2 : (if (30 : Int) < (r.vals.length : Int) then (30 : Int) else (r.vals.length : Int)) = (nv : Int) := by split <;> omega
  have tb := rb1.take nb (by omega)
  have tv := rv1.take nv (by omega)
  rw [← List.map_take] at tb tv
  have hnb2 : nb ≤ rcb := by omega
  have hnv2 : nv ≤ rcv := by omega
  have ebl : (r.bits.take nb).length = nb := by simp; omega
  have evl : (r.vals.take nv).length = nv := by simp; omega
  have EBL := hidden ebl
  have EVL := hidden evl
  clear hnb hnv ebl evl rb1 rv1 kb1 kv1 HRW
  generalize w5.alloc (.cells #[.int .i64 r.fn, .int .i64 r.loc, .int .i64 r.cnt, .int .i64 r.wat, .int .i64 r.sub, .slice rb r.bits.length rcb, .slice rv r.vals.length rcv, .int .u16 r.land.toNat, .int .u16 r.lor.toNat] 26) = w6 at *
  refine c_begin 18 rfl (by kernel_rfl) ?_
  replace E := E.drew
  replace XF := XF.drew
  generalize w6.drew = w7 at *
  have c5 : w7.cell? ⟨w.heap.size, 5, none⟩ = some (.slice rb r.bits.length rcb) := (XR.below E lR).cell 5
  have c6 : w7.cell? ⟨w.heap.size, 6, none⟩ = some (.slice rv r.vals.length rcv) := (XR.below E lR).cell 6
  refine c_pure trivial (by kernel_rfl) (fun _ _ _ d _ h => by cases d <;> exact h) 0 rfl (by kernel_rfl) (by kernel_rfl) (fun w' => by go_simp; with_reducible rfl) ?_; try simp only [Act.put, List.setIfInBounds_toArray, List.set_cons_zero, List.set_cons_succ]
  refine c_read (fun w' => w'.cell? ⟨w.heap.size, 5, none⟩ = some (.slice rb r.bits.length rcb)) c5 trivial (by kernel_rfl) (fun _ _ _ d _ h => by cases d <;> exact h) 1 rfl (by kernel_rfl) (by kernel_rfl) (fun w' hx => by go_simp; with_reducible rfl) ?_; try simp only [Act.put, List.setIfInBounds_toArray, List.set_cons_zero, List.set_cons_succ]
  refine c_pure ⟨c5, trivial⟩ (by kernel_rfl) (fun _ _ _ d _ h => by cases d <;> exact h) 2 rfl (by kernel_rfl) (by kernel_rfl) (fun w' => by go_simp; with_reducible rfl) ?_; try simp only [Act.put, List.setIfInBounds_toArray, List.set_cons_zero, List.set_cons_succ]
  refine c_read (fun w' => w'.cell? ⟨w.heap.size, 5, none⟩ = some (.slice rb r.bits.length rcb)) c5 ⟨c5, trivial⟩ (by kernel_rfl) (fun _ _ _ d _ h => by cases d <;> exact h) 3 rfl (by kernel_rfl) (by kernel_rfl) (fun w' hx => by go_simp; with_reducible rfl) ?_; try simp only [Act.put, List.setIfInBounds_toArray, List.set_cons_zero, List.set_cons_succ]
  refine c_pure ⟨c5, c5, trivial⟩ (by kernel_rfl) (fun _ _ _ d _ h => by cases d <;> exact h) 4 rfl (by kernel_rfl) (by kernel_rfl) (fun w' => by go_simp; with_reducible rfl) ?_; try simp only [Act.put, List.setIfInBounds_toArray, List.set_cons_zero, List.set_cons_succ]
  refine c_pure ⟨c5, c5, trivial⟩ (by kernel_rfl) (fun _ _ _ d _ h => by cases d <;> exact h) 5 rfl (by kernel_rfl) (by kernel_rfl) (fun w' => by go_simp; with_reducible rfl) ?_; try simp only [Act.put, List.setIfInBounds_toArray, List.set_cons_zero, List.set_cons_succ]
  refine c_pure ⟨c5, c5, trivial⟩ (by kernel_rfl) (fun _ _ _ d _ h => by cases d <;> exact h) 6 rfl (by kernel_rfl) (by kernel_rfl) (fun w' => by go_simp; with_reducible rfl) ?_; try simp only [Act.put, List.setIfInBounds_toArray, List.set_cons_zero, List.set_cons_succ]
  refine c_pure ⟨c5, c5, trivial⟩ (by kernel_rfl) (fun _ _ _ d _ h => by cases d <;> exact h) 7 rfl (by kernel_rfl) (by kernel_rfl) (fun w' => by go_simp; with_reducible rfl) ?_; try simp only [Act.put, List.setIfInBounds_toArray, List.set_cons_zero, List.set_cons_succ]
  refine c_read (fun w' => w'.cell? ⟨w.heap.size, 6, none⟩ = some (.slice rv r.vals.length rcv)) c6 ⟨c5, c5, trivial⟩ (by kernel_rfl) (fun _ _ _ d _ h => by cases d <;> exact h) 8 rfl (by kernel_rfl) (by kernel_rfl) (fun w' hx => by go_simp; with_reducible rfl) ?_; try simp only [Act.put, List.setIfInBounds_toArray, List.set_cons_zero, List.set_cons_succ]
  refine c_pure ⟨c6, c5, c5, trivial⟩ (by kernel_rfl) (fun _ _ _ d _ h => by cases d <;> exact h) 9 rfl (by kernel_rfl) (by kernel_rfl) (fun w' => by go_simp; with_reducible rfl) ?_; try simp only [Act.put, List.setIfInBounds_toArray, List.set_cons_zero, List.set_cons_succ]
  refine c_read (fun w' => w'.cell? ⟨w.heap.size, 6, none⟩ = some (.slice rv r.vals.length rcv)) c6 ⟨c6, c5, c5, trivial⟩ (by kernel_rfl) (fun _ _ _ d _ h => by cases d <;> exact h) 10 rfl (by kernel_rfl) (by kernel_rfl) (fun w' hx => by go_simp; with_reducible rfl) ?_; try simp only [Act.put, List.setIfInBounds_toArray, List.set_cons_zero, List.set_cons_succ]
  refine c_pure ⟨c6, c6, c5, c5, trivial⟩ (by kernel_rfl) (fun _ _ _ d _ h => by cases d <;> exact h) 11 rfl (by kernel_rfl) (by kernel_rfl) (fun w' => by go_simp; with_reducible rfl) ?_; try simp only [Act.put, List.setIfInBounds_toArray, List.set_cons_zero, List.set_cons_succ]
  refine c_pure ⟨c6, c6, c5, c5, trivial⟩ (by kernel_rfl) (fun _ _ _ d _ h => by cases d <;> exact h) 12 rfl (by kernel_rfl) (by kernel_rfl) (fun w' => by go_simp; with_reducible rfl) ?_; try simp only [Act.put, List.setIfInBounds_toArray, List.set_cons_zero, List.set_cons_succ]
  refine c_pure ⟨c6, c6, c5, c5, trivial⟩ (by kernel_rfl) (fun _ _ _ d _ h => by cases d <;> exact h) 13 rfl (by kernel_rfl) (by kernel_rfl) (fun w' => by go_simp; with_reducible rfl) ?_; try simp only [Act.put, List.setIfInBounds_toArray, List.set_cons_zero, List.set_cons_succ]
  refine c_pure ⟨c6, c6, c5, c5, trivial⟩ (by kernel_rfl) (fun _ _ _ d _ h => by cases d <;> exact h) 14 rfl (by kernel_rfl) (by kernel_rfl) (fun w' => by go_simp; with_reducible rfl) ?_; try simp only [Act.put, List.setIfInBounds_toArray, List.set_cons_zero, List.set_cons_succ]
  have e5 := XF.cell 5
  simp at e5
  have f5 := XF.frozen
  have l5 := XF.lt
  refine c_move 15 (by kernel_rfl) (c_op 15 [(10, fun w' => w'.cell? ⟨w.heap.size, 6, none⟩ = some (.slice rv r.vals.length rcv)), (8, fun w' => w'.cell? ⟨w.heap.size, 6, none⟩ = some (.slice rv r.vals.length rcv))] (by kernel_rfl) rfl (by kernel_rfl) (fun K hK => ?_))
  go_simp
  clear e5 f5 l5 c5
  replace E := E.setCell (p := ⟨w5.heap.size, 5, none⟩) (Nat.le_refl _) (.slice rb nb rcb)
  replace XF := XF.set 5 (.slice rb nb rcb)
  simp at XF
  have c6' : (w7.setCell ⟨w5.heap.size, 5, none⟩ (.slice rb nb rcb)).cell? ⟨w.heap.size, 6, none⟩ = some (.slice rv r.vals.length rcv) := (XR.below E lR).cell 6
  refine hK.out _ _ ⟨c6', c6', trivial⟩ ?_
  clear K hK c6
  try simp only [Act.put, List.setIfInBounds_toArray, List.set_cons_zero, List.set_cons_succ]
  generalize w7.setCell ⟨w5.heap.size, 5, none⟩ (.slice rb nb rcb) = w8 at *
  refine c_pure ⟨c6', c6', trivial⟩ (by kernel_rfl) (fun _ _ _ d _ h => by cases d <;> exact h) 16 rfl (by kernel_rfl) (by kernel_rfl) (fun w' => by go_simp; with_reducible rfl) ?_; try simp only [Act.put, List.setIfInBounds_toArray, List.set_cons_zero, List.set_cons_succ]
  have e5 := XF.cell 6
  simp at e5
  have f5 := XF.frozen
  have l5 := XF.lt
  refine c_move 17 (by kernel_rfl) (c_op 17 [] (by kernel_rfl) rfl (by kernel_rfl) (fun K hK => ?_))
  go_simp
  clear e5 f5 l5 c6'
  replace E := E.setCell (p := ⟨w5.heap.size, 6, none⟩) (Nat.le_refl _) (.slice rv nv rcv)
  replace XF := XF.set 6 (.slice rv nv rcv)
  simp at XF
  refine hK.out _ _ trivial ?_
  clear K hK
  try simp only [Act.put, List.setIfInBounds_toArray, List.set_cons_zero, List.set_cons_succ]
  generalize w8.setCell ⟨w5.heap.size, 6, none⟩ (.slice rv nv rcv) = w9 at *
  refine c_done (by kernel_rfl) ?_
  clear hm1 hm2
  replace B1 := below_then B1 E
  replace XR := XR.below E lR
  replace XQ := XQ.below E lQ
  replace q2 := q2.below E
  replace o3 := owns_below o3 E
  replace R9 := R9.below E
  have lF := XF.lt
  have qf : IsRq w9 (rqV r.fn r.loc r.cnt r.wat r.sub (.slice rb nb rcb) (.slice rv nv rcv) r.land r.lor) ⟨r.fn, r.loc, r.cnt, r.wat, r.sub, r.bits.take nb, r.vals.take nv, r.land, r.lor⟩ := ⟨_, _, rfl, tb.below B1, tv.below B1⟩
  clear tb tv E lR lQ XR hg5
  generalize w5.heap.size = gf at *
  have d0 := XF.cell 0
  have d1 := XF.cell 1
  have d2 := XF.cell 2
  have d3 := XF.cell 3
  have d4 := XF.cell 4
  have d5 := XF.cell 5
  have d6 := XF.cell 6
  have d7 := XF.cell 7
  have d8 := XF.cell 8
  simp at d0 d1 d2 d3 d4 d5 d6 d7 d8
  have XN := Blk.new w9 26 [.int .i64 r.fn, .int .i64 r.loc, .int .i64 r.cnt, .int .i64 r.wat, .int .i64 r.sub, .slice rb nb rcb, .slice rv nv rcv, .int .u16 r.land.toNat, .int .u16 r.lor.toNat]
  have E9 := (Below.refl w9.heap.size w9).alloc (Nat.le_refl _) (.cells #[.int .i64 r.fn, .int .i64 r.loc, .int .i64 r.cnt, .int .i64 r.wat, .int .i64 r.sub, .slice rb nb rcb, .slice rv nv rcv, .int .u16 r.land.toNat, .int .u16 r.lor.toNat] 26)
  go_wp2_with fail
  refine (functions_any _).mono ?_
  rintro e w10 ⟨rfl, hw10⟩
  clear d0 d1 d2 d3 d4 d5 d6 d7 d8
  have EA := E9.alloc (by simp) (.cells #[.int .i64 1, .int .i64 2, .int .i64 3, .int .i64 4, .int .i64 5, .int .i64 6, .int .i64 8, .int .i64 15, .int .i64 16, .int .i64 17, .int .i64 22, .int .i64 23] 3)
  replace XN := XN.alloc (.cells #[.int .i64 1, .int .i64 2, .int .i64 3, .int .i64 4, .int .i64 5, .int .i64 6, .int .i64 8, .int .i64 15, .int .i64 16, .int .i64 17, .int .i64 22, .int .i64 23] 3)
  have FF := fun j => fun12 (w9.alloc (.cells #[.int .i64 r.fn, .int .i64 r.loc, .int .i64 r.cnt, .int .i64 r.wat, .int .i64 r.sub, .slice rb nb rcb, .slice rv nv rcv, .int .u16 r.land.toNat, .int .u16 r.lor.toNat] 26)) j
  rw [hw10] at EA XN FF
  simp only [World.size_alloc] at FF ⊢
  clear E9 hw10
  go_wp2_with fail
  refine (within_any n 0 11 _ hn (by omega) (by omega) (by omega)).mono ?_
  rintro e wx ⟨⟨mj, rfl, hj0, hj2⟩, rfl⟩
  obtain ⟨j, rfl⟩ : ∃ j : Nat, mj = (j : Int) := ⟨mj.toNat, by omega⟩
  obtain ⟨F, cF⟩ := FF j
  rw [Nat.mod_eq_of_lt (by omega)] at cF
  have f0 := XN.frozen
  have c0 := XN.cell 0
  simp at c0
  have lN := XN.lt
  have EB := EA.setCell (p := ⟨w9.heap.size, 0, none⟩) (Nat.le_refl _) (.int .i64 F)
  replace XN := XN.set 0 (.int .i64 F)
  simp at XN
  obtain ⟨w11, hw11⟩ : ∃ w11, w10.setCell ⟨w9.heap.size, 0, none⟩ (.int .i64 F) = w11 := ⟨_, rfl⟩
  rw [hw11] at XN EB
  replace B1 := below_then B1 EB
  replace XQ := XQ.below EB XQ.lt
  replace XF := XF.below EB lF
  replace q2 := q2.below EB
  replace qf := qf.below EB
  replace o3 := owns_below o3 EB
  replace R9 := R9.below EB
  have qn : IsRq w11 (rqV F r.loc r.cnt r.wat r.sub (.slice rb nb rcb) (.slice rv nv rcv) r.land r.lor) ⟨F, r.loc, r.cnt, r.wat, r.sub, r.bits.take nb, r.vals.take nv, r.land, r.lor⟩ := by
    obtain ⟨vb, vv, hE, h1, h2⟩ := id qf
    simp only [rqV, Value.agg.injEq, Array.mk.injEq, List.cons.injEq, and_true, true_and] at hE
    obtain ⟨rfl, rfl⟩ := hE
    exact ⟨_, _, rfl, h1, h2⟩
  clear EA EB FF
  have lQ := XQ.lt
  have d0 := XQ.cell 0
  have d1 := XQ.cell 1
  have d2 := XQ.cell 2
  have d3 := XQ.cell 3
  have d4 := XQ.cell 4
  have d5 := XQ.cell 5
  have d6 := XQ.cell 6
  have d7 := XQ.cell 7
  have d8 := XQ.cell 8
  simp at d0 d1 d2 d3 d4 d5 d6 d7 d8
  generalize w2.heap.size = gq at *
  go_wp2_with fail
  clear hw11 cF c0 f0 lN lF
  refine (same_law3 _ q _ q2).mono ?_
  rintro e wn ⟨rfl, bb⟩
  replace XQ := XQ.below bb XQ.lt
  replace XF := XF.below bb XF.lt
  replace XN := XN.below bb XN.lt
  replace q2 := q2.below bb
  replace qf := qf.below bb
  replace qn := qn.below bb
  replace o3 := owns_below o3 bb
  replace R9 := R9.below bb
  replace B1 := below_then B1 bb
  clear bb d0 d1 d2 d3 d4 d5 d6 d7 d8 lQ
  have d0 := XQ.cell 0
  have d1 := XQ.cell 1
  have d2 := XQ.cell 2
  have d3 := XQ.cell 3
  have d4 := XQ.cell 4
  have d5 := XQ.cell 5
  have d6 := XQ.cell 6
  have d7 := XQ.cell 7
  have d8 := XQ.cell 8
  simp at d0 d1 d2 d3 d4 d5 d6 d7 d8
  have lQ := XQ.lt
  go_wp2_with fail
  refine (odd_law3 _ q what n _ q2 hwh hn).mono ?_
  rintro e wn ⟨vo, rfl, ⟨qo, io⟩, bb⟩
  replace XQ := XQ.below bb XQ.lt
  replace XF := XF.below bb XF.lt
  replace XN := XN.below bb XN.lt
  replace q2 := q2.below bb
  replace qf := qf.below bb
  replace qn := qn.below bb
  replace o3 := owns_below o3 bb
  replace R9 := R9.below bb
  replace B1 := below_then B1 bb
  clear bb d0 d1 d2 d3 d4 d5 d6 d7 d8 lQ
  go_wp2_with fail
  refine (same_law3 _ qo _ io).mono ?_
  rintro e wn ⟨rfl, bb⟩
  replace XQ := XQ.below bb XQ.lt
  replace XF := XF.below bb XF.lt
  replace XN := XN.below bb XN.lt
  replace q2 := q2.below bb
  replace qf := qf.below bb
  replace qn := qn.below bb
  replace o3 := owns_below o3 bb
  replace R9 := R9.below bb
  replace B1 := below_then B1 bb
  clear bb io
  have d0 := XQ.cell 0
  have d1 := XQ.cell 1
  have d2 := XQ.cell 2
  have d3 := XQ.cell 3
  have d4 := XQ.cell 4
  have d5 := XQ.cell 5
  have d6 := XQ.cell 6
  have d7 := XQ.cell 7
  have d8 := XQ.cell 8
  simp at d0 d1 d2 d3 d4 d5 d6 d7 d8
  have lQ := XQ.lt
  go_wp2_with fail
  refine (odd_law3 _ q what (A : Int) _ q2 hwh (by omega)).mono ?_
  rintro e wn ⟨vo, rfl, ⟨qo, io⟩, bb⟩
  replace XF := XF.below bb XF.lt
  replace XN := XN.below bb XN.lt
  replace qf := qf.below bb
  replace qn := qn.below bb
  replace o3 := owns_below o3 bb
  replace R9 := R9.below bb
  replace B1 := below_then B1 bb
  clear bb d0 d1 d2 d3 d4 d5 d6 d7 d8 lQ XQ q2
  go_wp2_with fail
  refine (same_law3 _ qo _ io).mono ?_
  rintro e wn ⟨rfl, bb⟩
  replace XF := XF.below bb XF.lt
  replace XN := XN.below bb XN.lt
  replace qf := qf.below bb
  replace qn := qn.below bb
  replace o3 := owns_below o3 bb
  replace R9 := R9.below bb
  replace B1 := below_then B1 bb
  clear bb io
  have d0 := XF.cell 0
  have d1 := XF.cell 1
  have d2 := XF.cell 2
  have d3 := XF.cell 3
  have d4 := XF.cell 4
  have d5 := XF.cell 5
  have d6 := XF.cell 6
  have d7 := XF.cell 7
  have d8 := XF.cell 8
  simp at d0 d1 d2 d3 d4 d5 d6 d7 d8
  have lF := XF.lt
  go_wp2_with fail
  refine (same_law3 _ _ _ qf).mono ?_
  rintro e wn ⟨rfl, bb⟩
  replace XN := XN.below bb XN.lt
  replace qn := qn.below bb
  replace o3 := owns_below o3 bb
  replace R9 := R9.below bb
  replace B1 := below_then B1 bb
  clear bb d0 d1 d2 d3 d4 d5 d6 d7 d8 lF XF qf
  have d0 := XN.cell 0
  have d1 := XN.cell 1
  have d2 := XN.cell 2
  have d3 := XN.cell 3
  have d4 := XN.cell 4
  have d5 := XN.cell 5
  have d6 := XN.cell 6
  have d7 := XN.cell 7
  have d8 := XN.cell 8
  simp at d0 d1 d2 d3 d4 d5 d6 d7 d8
  have lN := XN.lt
  go_wp2_with fail
  refine (same_law3 _ _ _ qn).mono ?_
  rintro e wn ⟨rfl, bb⟩
  replace o3 := owns_below o3 bb
  replace R9 := R9.below bb
  replace B1 := below_then B1 bb
  clear bb d0 d1 d2 d3 d4 d5 d6 d7 d8 lN XN qn
  have RT := (Row.of_owns o3).take k (by omega)
  rw [← List.map_take] at RT
  have hBT : (X.take k).length ≤ 1000 := by simp [HN.out]; omega
  generalize X.take k = BT at *
  have hkc : (k : Int) ≤ (cx : Int) := by obtain ⟨-, h, -⟩ := (Row.of_owns o3).at; omega
  have hLX : X.length ≤ 1000 := by rw [HN.out]; exact LB
  go_wp2_with fail
  refine (reads_law3 _ X _ (Row.of_owns o3) (by omega)).mono ?_
  rintro e wn ⟨rfl, bb⟩
  replace o3 := owns_below o3 bb
  replace R9 := R9.below bb
  replace RT := RT.below bb
  replace B1 := below_then B1 bb
  clear bb
  go_wp2_with fail
  refine (reads_law3 _ Z _ R9 (by omega)).mono ?_
  rintro e wn ⟨rfl, bb⟩
  replace o3 := owns_below o3 bb
  replace RT := RT.below bb
  replace B1 := below_then B1 bb
  clear bb R9
  go_wp2_with fail
  refine (reads_law3 _ BT _ RT (by omega)).mono ?_
  rintro e wn ⟨rfl, bb⟩
  replace o3 := owns_below o3 bb
  replace B1 := below_then B1 bb
  clear bb RT
  have hz := B1.size
  have e8 : ((UInt8.ofNat T).toNat : Int) = (T : Int) := by rw [UInt8.toNat_ofNat']; omega
  have RN := row_new wn [.int .u8 (T : Int)] 5 1 rfl (by decide)
  go_wp2_with (at_builtin; refine wpList_app3 (by kernel_rfl) (.tmp 110) (.tmp 112) 34 rfl w.heap.size 5 (.int .u8 0) 1 Try.underlying34 info_u8 rfl rfl (o3.alloc _) rfl RN (by intro u hu; simp at hu; subst hu; rfl) (by simp [maxLen]; omega) (by simp; omega) (by simp; omega) ?_)
  intro v8 w12 ho8 hg8
  have R8 : Row w12 v8 ((X ++ [UInt8.ofNat T]).map bV) := by rw [List.map_append]; simp only [List.map_cons, List.map_nil, bV, e8]; exact Row.of_owns ho8
  have h8 : (X ++ [UInt8.ofNat T]).length ≤ 1001 := by simp; omega
  replace B1 := (B1.alloc hz (.cells #[.int .u8 (T : Int)] 5)).grown hg8 (by simp; omega) (fun k hk => (o3.lt k hk).1)
  clear RN hg8 ho8 o3 e8
  generalize X ++ [UInt8.ofNat T] = X8 at *
  go_wp2_with fail
  refine (reads_law3 _ X8 _ R8 (by omega)).mono ?_
  rintro e wn ⟨rfl, bb⟩
  replace B1 := below_then B1 bb
  clear bb R8
  go_wp2_with fail
  refine (reads_law3 _ bs _ (HB.out.below B1) (by omega)).mono ?_
  rintro e wn ⟨rfl, bb⟩
  replace B1 := below_then B1 bb
  clear bb
  go_wp2_with fail
  refine (known_law _).mono ?_
  rintro e wn ⟨rfl, bb⟩
  replace B1 := below_then B1 bb
  clear bb
  go_wp2
  go_ret
  exact ⟨rfl, B1⟩

end Go.Proofs.Ytaoimlcgifihiaa
