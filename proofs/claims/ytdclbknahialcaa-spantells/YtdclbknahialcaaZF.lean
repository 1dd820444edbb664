/- The walk of burgagelaw7.SpanTells. -/
import Derived.Test.YtdclbknahialcaaZE
namespace Go.Proofs.Ytdclbknahialcaa
open Go.RowKit

/-- append of one span that has just been laid, in a region that draws -/
theorem wp_pushS {w : World} {o : Oper} {a : Act} {K : Act → World → Prop} {Q : Exit → Act → World → Prop} (s x : Operand) (T t : TypeId)
    (ho : o.op = .call { callee := .builtin .append, args := #[s, x], argTypes := #[T, T] })
    (base : Nat) (ht : Try.prog.underlying T = some (.slice t)) (hi : (Try.prog.info? t).map (fun i => (i.zero, i.size, i.bytes)) = some (some (spV 0 0), 2, 16))
    {v : Value} {l : SL} (hsv : a.eval s = v) (hown : w.ownsRow base t 2 v l.length (scs l)) (g c : Nat) (p q : Int) (hxv : a.eval x = .slice (some ⟨g, 0, none⟩) 1 c) (hs : Bx w g t p q)
    (h63 : l.length ≤ 1000000000000) (hbase : base ≤ w.heap.size)
    (h : ∀ v' w', w'.ownsRow base t 2 v' (l ++ [(p, q)]).length (scs (l ++ [(p, q)])) → w.grownBy w' v.ownBlock → (v'.ownBlock = v.ownBlock ∨ v'.ownBlock = some w.heap.size) → K (a.put o.dst v') w') : o.wp Try.prog a w K Q := by
  obtain ⟨i, hi, hz, hsz, hby⟩ := info_parts hi
  obtain ⟨v', w', hr, q1, q2, _, q4⟩ := run_append_own_at (P := Try.prog) w base T o.type t i _ 2 16 ht hi hz hsz hby rfl (by decide) v l.length _ hown ⟨g, 0, none⟩ 1 c [.int .i64 p, .int .i64 q] rfl (fun j y hj => by
    obtain ⟨r1, r2⟩ := hs.cells2
    have hadd : ∀ j, (⟨g, 0, none⟩ : Addr).add j = ⟨g, j, none⟩ := fun j => by unfold Addr.add; split <;> simp_all
    rw [hadd]
    match j with
    | 0 => simp at hj; subst hj; exact r1
    | 1 => simp at hj; subst hj; exact r2
    | j + 2 => simp at hj) (by simp [Value.oneCell']) (by unfold maxLen; omega) (by omega) hbase
  unfold Oper.wp execOp
  simp only [ho, resolve, invoke, builtin, Sem.run_bind, Sem.run_pure, Result.andThen_ok, List.map_toArray, List.map_cons, List.map_nil, hsv, hxv, hr]
  refine h v' w' ?_ q2 q4
  rw [List.length_append, scs_app]
  exact q1

theorem three_at {w w0 : World} {t : TypeId} {a n b m c k : Int} (h : w0 = ((w.alloc (.cells #[.int .i64 a, .int .i64 n] t)).alloc (.cells #[.int .i64 b, .int .i64 m] t)).alloc (.cells #[.int .i64 c, .int .i64 k] t)) : w0.heap.size = w.heap.size + 3 := by subst h; simp

set_option maxHeartbeats 8000000 in
theorem tells_law (a n b m c k t : Int) (v : Value) (l : SL) (w : World) (hn : i64 n) (hm : i64 m) (hk : i64 k) (ht : i64 t) (hv : Sps w v l) (ho : OkL l) :
    Calls Try.prog 4 #[spV a n, spV b m, spV c k, .int .i64 t, v] w fun e w' => e = .returned (.bool true) ∧ Below w.heap.size w w' := by
  obtain ⟨av, cap, rfl, -⟩ := id hv
  obtain ⟨-, hc, hmx, -⟩ := hv.at
  unfold maxLen at hmx
  have CS := hidden (fun a n b m t w hn hm ht => same_any a n b m t w hn hm ht)
  have CC := hidden (fun v l a n w hv ho hn hl => covers_any v l a n w hv ho hn hl)
  have XB := hidden (three' w 24 a n b m c k)
  have HO := hidden ho
  clear ho
  go_enter Try.func4, Try.ntmps4
  go_wp2
  go_loopw [11, 12] (fun z11 z12 wr => ∃ (k0 : Nat) (fl : SL) (vo : Value), vo = z11 ∧ k0 ≤ 12 ∧ z12 = .int .i64 k0 ∧ fl.length = k0 ∧ OkL fl ∧ wr.ownsRow (w.heap.size + 1 + 1 + 1) 24 2 vo fl.length (scs fl) ∧ Bx wr w.heap.size 24 a n ∧ Bx wr (w.heap.size + 1) 24 b m ∧ Bx wr (w.heap.size + 1 + 1) 24 c k ∧ Below w.heap.size w wr) (fun _ z _ => (12 - intOf z).toNat)
  case atStart =>
    obtain ⟨x1, x2, x3, B0⟩ := XB.out
    exact ⟨0, [], _, rfl, by omega, rfl, rfl, okl_nil, owns_nilS _ _ _, x1, x2, x3, B0⟩
  case round =>
    clear XB
    obtain ⟨k0, fl, vo, hvo, k1, rfl, hfl, ol, own, x1, x2, x3, hb⟩ := hrel
    subst hvo
    have HFL := hidden hfl
    have HOL := hidden ol
    have lfl : fl.length ≤ 12 := by omega
    clear hfl ol
    by_cases hlt : k0 < l.length
    · by_cases h12 : k0 < 12
      · have hlt' : (k0 : Int) < (l.length : Int) := by omega
        have h12' : (k0 : Int) < 12 := by omega
        have CE : Hid (∃ b off, av = some ⟨b, off, none⟩ ∧ ∀ w', Below w.heap.size w w' → w'.cell? ⟨b, off + k0 * 2, none⟩ = some (.int .i64 (l.getD k0 (0, 0)).1) ∧ w'.cell? ⟨b, off + k0 * 2 + 1, none⟩ = some (.int .i64 (l.getD k0 (0, 0)).2)) := by
          obtain ⟨-, -, -, hcell⟩ := hv.at
          obtain ⟨b, off, e, -⟩ := hcell k0 hlt
          refine ⟨b, off, e, fun w' hw' => ?_⟩
          obtain ⟨-, -, -, hcell⟩ := (hv.ext hw').at
          obtain ⟨b', off', e', hcl⟩ := hcell k0 hlt
          rw [e] at e'
          cases e'
          exact hcl k0 hlt
        obtain ⟨bl, off, rfl, CF⟩ := CE.out
        clear CE
        have CE := hidden CF
        clear CF
        generalize (l.getD k0 (0, 0)).1 = ea at *
        generalize (l.getD k0 (0, 0)).2 = en at *
        obtain ⟨p, P1, p0, p1⟩ := mask_any ea 5 (by decide) 31 rfl
        obtain ⟨y, Y1, y0, y1⟩ := mask_any en 4 (by decide) 15 rfl
        have k1 : -9223372036854775808 ≤ 1 + y ∧ 1 + y ≤ 9223372036854775807 := by omega
        go_wp2
        refine c_begin 18 rfl (by kernel_rfl) ?_
        replace hb := hb.drew
        replace own := owns_belowS own (Below.refl _ _).drew
        replace x1 := x1.drew
        replace x2 := x2.drew
        replace x3 := x3.drew
        generalize wr.drew = wq at *
        refine c_pure trivial (by kernel_rfl) (fun _ _ _ d _ h => by cases d <;> exact h) 0 rfl (by kernel_rfl) (by kernel_rfl) (fun w' => by go_simp; with_reducible rfl) ?_; try simp only [Act.put, List.setIfInBounds_toArray, List.set_cons_zero, List.set_cons_succ]
        refine c_pure trivial (by kernel_rfl) (fun _ _ _ d _ h => by cases d <;> exact h) 1 rfl (by kernel_rfl) (by kernel_rfl) (fun w' => by go_simp; with_reducible rfl) ?_; try simp only [Act.put, List.setIfInBounds_toArray, List.set_cons_zero, List.set_cons_succ]
        refine c_pure trivial (by kernel_rfl) (fun _ _ _ d _ h => by cases d <;> exact h) 2 rfl (by kernel_rfl) (by kernel_rfl) (fun w' => by go_simp; with_reducible rfl) ?_; try simp only [Act.put, List.setIfInBounds_toArray, List.set_cons_zero, List.set_cons_succ]
        refine c_pure trivial (by kernel_rfl) (fun _ _ _ d _ h => by cases d <;> exact h) 3 rfl (by kernel_rfl) (by kernel_rfl) (fun w' => by go_simp; with_reducible rfl) ?_; try simp only [Act.put, List.setIfInBounds_toArray, List.set_cons_zero, List.set_cons_succ]
        refine c_pure trivial (by kernel_rfl) (fun _ _ _ d _ h => by cases d <;> exact h) 4 rfl (by kernel_rfl) (by kernel_rfl) (fun w' => by go_simp; with_reducible rfl) ?_; try simp only [Act.put, List.setIfInBounds_toArray, List.set_cons_zero, List.set_cons_succ]
        refine c_read (fun w' => Below w.heap.size w w') hb trivial (by kernel_rfl) (fun _ _ _ d _ h => by cases d <;> exact h) 5 rfl (by kernel_rfl) (by kernel_rfl) (fun w' hx => by obtain ⟨q1, q2⟩ := CE.out w' hx; go_simp; with_reducible rfl) ?_; try simp only [Act.put, List.setIfInBounds_toArray, List.set_cons_zero, List.set_cons_succ]
        refine c_pure (v := .int .i64 p) ⟨hb, trivial⟩ (by kernel_rfl) (fun _ _ _ d _ h => by cases d <;> exact h) 6 rfl (by kernel_rfl) (by kernel_rfl) (fun w' => by go_simp; rw [P1.out]) ?_; try simp only [Act.put, List.setIfInBounds_toArray, List.set_cons_zero, List.set_cons_succ]
        refine c_pure ⟨hb, trivial⟩ (by kernel_rfl) (fun _ _ _ d _ h => by cases d <;> exact h) 7 rfl (by kernel_rfl) (by kernel_rfl) (fun w' => by go_simp; with_reducible rfl) ?_; try simp only [Act.put, List.setIfInBounds_toArray, List.set_cons_zero, List.set_cons_succ]
        refine c_pure ⟨hb, trivial⟩ (by kernel_rfl) (fun _ _ _ d _ h => by cases d <;> exact h) 8 rfl (by kernel_rfl) (by kernel_rfl) (fun w' => by go_simp; with_reducible rfl) ?_; try simp only [Act.put, List.setIfInBounds_toArray, List.set_cons_zero, List.set_cons_succ]
        refine c_pure ⟨hb, trivial⟩ (by kernel_rfl) (fun _ _ _ d _ h => by cases d <;> exact h) 9 rfl (by kernel_rfl) (by kernel_rfl) (fun w' => by go_simp; with_reducible rfl) ?_; try simp only [Act.put, List.setIfInBounds_toArray, List.set_cons_zero, List.set_cons_succ]
        refine c_pure ⟨hb, trivial⟩ (by kernel_rfl) (fun _ _ _ d _ h => by cases d <;> exact h) 10 rfl (by kernel_rfl) (by kernel_rfl) (fun w' => by go_simp; with_reducible rfl) ?_; try simp only [Act.put, List.setIfInBounds_toArray, List.set_cons_zero, List.set_cons_succ]
        refine c_read (fun w' => Below w.heap.size w w') hb ⟨hb, trivial⟩ (by kernel_rfl) (fun _ _ _ d _ h => by cases d <;> exact h) 11 rfl (by kernel_rfl) (by kernel_rfl) (fun w' hx => by obtain ⟨q1, q2⟩ := CE.out w' hx; go_simp; with_reducible rfl) ?_; try simp only [Act.put, List.setIfInBounds_toArray, List.set_cons_zero, List.set_cons_succ]
        refine c_pure (v := .int .i64 y) ⟨hb, hb, trivial⟩ (by kernel_rfl) (fun _ _ _ d _ h => by cases d <;> exact h) 12 rfl (by kernel_rfl) (by kernel_rfl) (fun w' => by go_simp; rw [Y1.out]) ?_; try simp only [Act.put, List.setIfInBounds_toArray, List.set_cons_zero, List.set_cons_succ]
        refine c_pure (v := .int .i64 (1 + y)) ⟨hb, hb, trivial⟩ (by kernel_rfl) (fun _ _ _ d _ h => by cases d <;> exact h) 13 rfl (by kernel_rfl) (by kernel_rfl) (fun w' => by go_simp; rw [IntWalk.i64_in _ k1]) ?_; try simp only [Act.put, List.setIfInBounds_toArray, List.set_cons_zero, List.set_cons_succ]
        refine c_pure ⟨hb, hb, trivial⟩ (by kernel_rfl) (fun _ _ _ d _ h => by cases d <;> exact h) 14 rfl (by kernel_rfl) (by kernel_rfl) (fun w' => by go_simp; with_reducible rfl) ?_; try simp only [Act.put, List.setIfInBounds_toArray, List.set_cons_zero, List.set_cons_succ]
        refine c_move 15 (by kernel_rfl) (c_op 15 [(11, fun w' => Below w.heap.size w w'), (5, fun w' => Below w.heap.size w w')] (by kernel_rfl) rfl (by kernel_rfl) (fun K hK => ?_))
        go_simp
        have E1 := (Below.refl wq.heap.size wq).alloc (Nat.le_refl _) (.cells #[.int .i64 p, .int .i64 (1 + y)] 24)
        replace own := owns_belowS own E1
        have hs := hb.size
        replace hb := below_then hb E1
        have bz := Bx.new wq 24 p (1 + y)
        refine hK.out _ _ ⟨hb, hb, trivial⟩ ?_
        clear K hK
        try simp only [Act.put, List.setIfInBounds_toArray, List.set_cons_zero, List.set_cons_succ]
        have hz := bz.lt
        replace x1 := x1.ext E1
        replace x2 := x2.ext E1
        replace x3 := x3.ext E1
        clear E1
        generalize wq.alloc (.cells #[.int .i64 p, .int .i64 (1 + y)] 24) = wz at *
        generalize wq.heap.size = g0 at *
        refine c_move 16 (by kernel_rfl) (c_op 16 [(11, fun w' => Below w.heap.size w w'), (5, fun w' => Below w.heap.size w w')] (by kernel_rfl) rfl (by kernel_rfl) (fun K hK => ?_))
        refine wp_pushS (l := fl) (v := vo) (.tmp 25) (.tmp 40) 27 24 rfl (w.heap.size + 1 + 1 + 1) Try.underlying27 info_sp rfl own g0 1 p (1 + y) rfl bz (by omega) (by have := x3.lt; omega) ?_
        intro v' w8 own8 gr8 ob8
        have wn : ∀ g, g < w.heap.size + 1 + 1 + 1 → vo.ownBlock ≠ some g := fun g hg e => absurd (own.lt _ e).1 (by omega)
        replace x1 := x1.grown gr8 (wn _ (by omega))
        replace x2 := x2.grown gr8 (wn _ (by omega))
        replace x3 := x3.grown gr8 (wn _ (by omega))
        have B8 := hb.grown gr8 (by omega) (fun k hk => by have := (own.lt k hk).1; omega)
        refine hK.out _ _ ⟨B8, B8, trivial⟩ ?_
        clear K hK wn gr8 ob8
        try simp only [Act.put, List.setIfInBounds_toArray, List.set_cons_zero, List.set_cons_succ]
        refine c_pure ⟨B8, B8, trivial⟩ (by kernel_rfl) (fun _ _ _ d _ h => by cases d <;> exact h) 17 rfl (by kernel_rfl) (by kernel_rfl) (fun w' => by go_simp; with_reducible rfl) ?_; try simp only [Act.put, List.setIfInBounds_toArray, List.set_cons_zero, List.set_cons_succ]
        refine c_done (by kernel_rfl) ?_
        have HL2 : Hid ((fl ++ [(p, 1 + y)]).length = k0 + 1) := by show _ = _; rw [List.length_append, HFL.out]; rfl
        have HO2 : Hid (OkL (fl ++ [(p, 1 + y)])) := by
          intro z hz
          rcases List.mem_append.1 hz with h | h
          · exact HOL.out z h
          · simp only [List.mem_singleton] at h
            subst h
            unfold i64
            simp only
            omega
        generalize fl ++ [(p, 1 + y)] = f2 at *
        clear own hb bz
        go_wp2
        go_roundw
        case rel => exact ⟨k0 + 1, f2, _, rfl, by omega, by go_num, HL2.out, HO2.out, own8, x1, x2, x3, B8⟩
        case measure => simp [intOf]; omega
      · have h12' : ¬ (k0 : Int) < 12 := by omega
        have hlt' : (k0 : Int) < (l.length : Int) := by omega
        have sp := Sps.of_owns own
        clear own
        obtain ⟨p1, P1, r1, s1⟩ := mask_any a 5 (by decide) 31 rfl
        obtain ⟨y1, Y1, r2, s2⟩ := mask_any n 5 (by decide) 31 rfl
        obtain ⟨p2, P2, r3, s3⟩ := mask_any b 5 (by decide) 31 rfl
        obtain ⟨y2, Y2, r4, s4⟩ := mask_any m 5 (by decide) 31 rfl
        obtain ⟨p3, P3, r5, s5⟩ := mask_any t 6 (by decide) 63 rfl
        obtain ⟨p4, P4, r6, s6⟩ := mask_any c 5 (by decide) 31 rfl
        obtain ⟨y4, Y4, r7, s7⟩ := mask_any k 5 (by decide) 31 rfl
        have k4 : -9223372036854775808 ≤ 1 + y4 ∧ 1 + y4 ≤ 9223372036854775807 := by omega
        have hy1 : i64 y1 := by unfold i64; omega
        have hy2 : i64 y2 := by unfold i64; omega
        have hp3 : i64 p3 := by unfold i64; omega
        obtain ⟨q, hq, q20, ql⟩ : ∃ q : Nat, (if (20 : Int) < (l.length : Int) then (20 : Int) else (l.length : Int)) = (q : Int) ∧ q ≤ 20 ∧ q ≤ l.length := by
          by_cases h : (20 : Int) < (l.length : Int)
          · exact ⟨20, by rw [if_pos h]; rfl, Nat.le_refl _, by omega⟩
          · exact ⟨l.length, by rw [if_neg h], by omega, Nat.le_refl _⟩
        have HQ := hidden hq
        have qc : q ≤ cap := by omega
        have SQ : Hid (∀ w', Below w.heap.size w w' → Sps w' (.slice av q cap) (l.take q)) := fun w' h => (hv.ext h).take q ql
        have OQ := hidden (HO.out.take q)
        have lq : (l.take q).length ≤ 1000000 := by simp; omega
        have lf : fl.length ≤ 1000000 := by omega
        have OF := HOL
        clear hq HOL HFL HO hv r1 r2 r3 r4 r5 r6 r7 s1 s2 s3 s4 s5 s6 s7
        go_upto_region 6 with fail
        go_cut [13, 14] from 42 to 55 (fun s13 s14 wx => ∃ (b1 b2 : Nat), s13 = .pointer (some ⟨b1, 0, none⟩) ∧ s14 = .pointer (some ⟨b2, 0, none⟩) ∧ Bx wx b1 24 p1 y1 ∧ Bx wx b2 24 p2 y2 ∧ Bx wx w.heap.size 24 a n ∧ Bx wx (w.heap.size + 1) 24 b m ∧ Bx wx (w.heap.size + 1 + 1) 24 c k ∧ Sps wx vo fl ∧ Below w.heap.size w wx)
        case first =>
          refine c_begin 18 rfl (by kernel_rfl) ?_
          replace x1 := x1.drew
          replace x2 := x2.drew
          replace x3 := x3.drew
          replace sp := sp.drew
          replace hb := hb.drew
          have xx := Ext.refl wr.drew
          generalize wr.drew = w0 at *
          refine c_pure trivial (by kernel_rfl) (fun _ _ _ d _ h => by cases d <;> exact h) 0 rfl (by kernel_rfl) (by kernel_rfl) (fun w' => by go_simp; with_reducible rfl) ?_; try simp only [Act.put, List.setIfInBounds_toArray, List.set_cons_zero, List.set_cons_succ]
          refine c_read (fun w' => Ext w0 w') xx trivial (by kernel_rfl) (fun _ _ _ d _ h => by cases d <;> exact h) 1 rfl (by kernel_rfl) (by kernel_rfl) (fun w' hx => by obtain ⟨q1, q2⟩ := (x1.ext hx).cells2; go_simp; with_reducible rfl) ?_; try simp only [Act.put, List.setIfInBounds_toArray, List.set_cons_zero, List.set_cons_succ]
          refine c_pure (v := .int .i64 p1) ⟨xx, trivial⟩ (by kernel_rfl) (fun _ _ _ d _ h => by cases d <;> exact h) 2 rfl (by kernel_rfl) (by kernel_rfl) (fun w' => by go_simp; rw [P1.out]) ?_; try simp only [Act.put, List.setIfInBounds_toArray, List.set_cons_zero, List.set_cons_succ]
          refine c_pure ⟨xx, trivial⟩ (by kernel_rfl) (fun _ _ _ d _ h => by cases d <;> exact h) 3 rfl (by kernel_rfl) (by kernel_rfl) (fun w' => by go_simp; with_reducible rfl) ?_; try simp only [Act.put, List.setIfInBounds_toArray, List.set_cons_zero, List.set_cons_succ]
          refine c_read (fun w' => Ext w0 w') xx ⟨xx, trivial⟩ (by kernel_rfl) (fun _ _ _ d _ h => by cases d <;> exact h) 4 rfl (by kernel_rfl) (by kernel_rfl) (fun w' hx => by obtain ⟨q1, q2⟩ := (x1.ext hx).cells2; go_simp; with_reducible rfl) ?_; try simp only [Act.put, List.setIfInBounds_toArray, List.set_cons_zero, List.set_cons_succ]
          refine c_pure (v := .int .i64 y1) ⟨xx, xx, trivial⟩ (by kernel_rfl) (fun _ _ _ d _ h => by cases d <;> exact h) 5 rfl (by kernel_rfl) (by kernel_rfl) (fun w' => by go_simp; rw [Y1.out]) ?_; try simp only [Act.put, List.setIfInBounds_toArray, List.set_cons_zero, List.set_cons_succ]
          refine c_pure ⟨xx, xx, trivial⟩ (by kernel_rfl) (fun _ _ _ d _ h => by cases d <;> exact h) 6 rfl (by kernel_rfl) (by kernel_rfl) (fun w' => by go_simp; with_reducible rfl) ?_; try simp only [Act.put, List.setIfInBounds_toArray, List.set_cons_zero, List.set_cons_succ]
          refine c_pure ⟨xx, xx, trivial⟩ (by kernel_rfl) (fun _ _ _ d _ h => by cases d <;> exact h) 7 rfl (by kernel_rfl) (by kernel_rfl) (fun w' => by go_simp; with_reducible rfl) ?_; try simp only [Act.put, List.setIfInBounds_toArray, List.set_cons_zero, List.set_cons_succ]
          refine c_read (fun w' => Ext w0 w') xx ⟨xx, xx, trivial⟩ (by kernel_rfl) (fun _ _ _ d _ h => by cases d <;> exact h) 8 rfl (by kernel_rfl) (by kernel_rfl) (fun w' hx => by obtain ⟨q1, q2⟩ := (x2.ext hx).cells2; go_simp; with_reducible rfl) ?_; try simp only [Act.put, List.setIfInBounds_toArray, List.set_cons_zero, List.set_cons_succ]
          refine c_pure (v := .int .i64 p2) ⟨xx, xx, xx, trivial⟩ (by kernel_rfl) (fun _ _ _ d _ h => by cases d <;> exact h) 9 rfl (by kernel_rfl) (by kernel_rfl) (fun w' => by go_simp; rw [P2.out]) ?_; try simp only [Act.put, List.setIfInBounds_toArray, List.set_cons_zero, List.set_cons_succ]
          refine c_pure ⟨xx, xx, xx, trivial⟩ (by kernel_rfl) (fun _ _ _ d _ h => by cases d <;> exact h) 10 rfl (by kernel_rfl) (by kernel_rfl) (fun w' => by go_simp; with_reducible rfl) ?_; try simp only [Act.put, List.setIfInBounds_toArray, List.set_cons_zero, List.set_cons_succ]
          refine c_read (fun w' => Ext w0 w') xx ⟨xx, xx, xx, trivial⟩ (by kernel_rfl) (fun _ _ _ d _ h => by cases d <;> exact h) 11 rfl (by kernel_rfl) (by kernel_rfl) (fun w' hx => by obtain ⟨q1, q2⟩ := (x2.ext hx).cells2; go_simp; with_reducible rfl) ?_; try simp only [Act.put, List.setIfInBounds_toArray, List.set_cons_zero, List.set_cons_succ]
          refine c_pure (v := .int .i64 y2) ⟨xx, xx, xx, xx, trivial⟩ (by kernel_rfl) (fun _ _ _ d _ h => by cases d <;> exact h) 12 rfl (by kernel_rfl) (by kernel_rfl) (fun w' => by go_simp; rw [Y2.out]) ?_; try simp only [Act.put, List.setIfInBounds_toArray, List.set_cons_zero, List.set_cons_succ]
          refine c_pure ⟨xx, xx, xx, xx, trivial⟩ (by kernel_rfl) (fun _ _ _ d _ h => by cases d <;> exact h) 13 rfl (by kernel_rfl) (by kernel_rfl) (fun w' => by go_simp; with_reducible rfl) ?_; try simp only [Act.put, List.setIfInBounds_toArray, List.set_cons_zero, List.set_cons_succ]
          refine c_phase (n := 2) [14, 15] [(some 13, 14), (some 14, 15)] (PsB w0.heap.size 24) NeV NeV.symm (by kernel_rfl) (by kernel_rfl) ?mono ?hC ?hops ?hend
          case mono => exact fun i v w w' h hx => NewBx.ext h hx
          case hC => exact fun w' hx => ⟨hx, hx, hx, hx, trivial⟩
          case hops =>
            intro i hi vs w3 hx hd
            simp only [List.mem_cons, List.not_mem_nil, or_false] at hi
            rcases hi with rfl | rfl
            · refine phase_op 14 [] (by kernel_rfl) rfl (fun K hK => ?_)
              simp only [putsD]
              go_simp
              exact hK.out _ _ ((Below.refl _ _).alloc (Nat.le_refl _) _) (NewBx.mk w3 hx) (fun j _ _ u hu => NewBx.ne hu)
            · refine phase_op 15 [] (by kernel_rfl) rfl (fun K hK => ?_)
              simp only [putsD]
              go_simp
              exact hK.out _ _ ((Below.refl _ _).alloc (Nat.le_refl _) _) (NewBx.mk w3 hx) (fun j _ _ u hu => NewBx.ne hu)
          case hend =>
            intro vs w3 BZ hP hR
            obtain ⟨g0, e0, l0, z0⟩ := hP 14 (by simp)
            obtain ⟨g1, e1, l1, z1⟩ := hP 15 (by simp)
            have n01 : g0 ≠ g1 := fun e => hR 14 (by simp) 15 (by simp) (by decide) (by rw [e0, e1, e])
            simp only [putsD, e0, e1]
            try simp only [Act.put, List.setIfInBounds_toArray, List.set_cons_zero, List.set_cons_succ]
            clear hP hR e0 e1
            clear vs
            obtain ⟨c0, c1, f0, f1⟩ := z0.cells
            refine c_move 16 (by kernel_rfl) (c_op 16 [(11, fun w' => Ext w0 w'), (8, fun w' => Ext w0 w')] (by kernel_rfl) rfl (by kernel_rfl) (fun K hK => ?_))
            go_simp
            have zn := z0.set p1 y1
            have BN := (BZ.setCell (p := ⟨g0, 0, none⟩) l0 (.int .i64 p1)).setCell (p := ⟨g0, 1, none⟩) l0 (.int .i64 y1)
            replace z1 := (z1.set_ne (o := 0) (.int .i64 p1) n01).set_ne (o := 1) (.int .i64 y1) n01
            refine hK.out _ _ ⟨BN, BN, trivial⟩ ?_
            clear K hK c0 c1 f0 f1 BZ
            clear z0
            try simp only [Act.put, List.setIfInBounds_toArray, List.set_cons_zero, List.set_cons_succ]
            generalize (w3.setCell ⟨g0, 0, none⟩ (.int .i64 p1)).setCell ⟨g0, 1, none⟩ (.int .i64 y1) = w3a at *
            have BZ := BN
            have z0 := zn
            clear BN zn
            obtain ⟨c0, c1, f0, f1⟩ := z1.cells
            refine c_move 17 (by kernel_rfl) (c_op 17 [] (by kernel_rfl) rfl (by kernel_rfl) (fun K hK => ?_))
            go_simp
            have zn := z1.set p2 y2
            have BN := (BZ.setCell (p := ⟨g1, 0, none⟩) l1 (.int .i64 p2)).setCell (p := ⟨g1, 1, none⟩) l1 (.int .i64 y2)
            replace z0 := (z0.set_ne (o := 0) (.int .i64 p2) n01.symm).set_ne (o := 1) (.int .i64 y2) n01.symm
            refine hK.out _ _ trivial ?_
            clear K hK c0 c1 f0 f1 BZ
            clear z1
            try simp only [Act.put, List.setIfInBounds_toArray, List.set_cons_zero, List.set_cons_succ]
            generalize (w3a.setCell ⟨g1, 0, none⟩ (.int .i64 p2)).setCell ⟨g1, 1, none⟩ (.int .i64 y2) = w3b at *
            have BZ := BN
            have z1 := zn
            clear BN zn
            refine c_done (by kernel_rfl) ?_
            go_wp2
            go_meet
            exact ⟨_, _, rfl, rfl, z0, z1, x1.ext BZ, x2.ext BZ, x3.ext BZ, sp.ext BZ, below_then hb BZ⟩
        case rest =>
          clear x1 x2 x3 sp hb P1 P2 Y1 Y2
          obtain ⟨b1, b2, rfl, rfl, z1, z2, x1, x2, x3, sp, B0⟩ := hcut
          go_wp2
          refine wp_region_pi [(0, true), (1, true), (2, true), (3, false), (4, true), (5, true), (6, true), (7, true), (8, true), (9, false), (10, true), (11, true), (12, true), (13, true), (14, true), (15, true), (16, true), (17, true), (18, true), (19, true), (20, true), (21, false), (22, true), (23, true), (24, true), (25, true), (26, true), (27, true), (28, true), (29, true), (30, false), (31, true), (32, true), (33, true), (34, true), (35, false), (36, true), (37, true), (38, false), (39, true), (40, true)] (by kernel_rfl) (by kernel_rfl) (by kernel_rfl) (fun _ _ _ d _ h => by cases d <;> exact h) ?_
          replace z1 := z1.drew
          replace z2 := z2.drew
          replace x1 := x1.drew
          replace x2 := x2.drew
          replace x3 := x3.drew
          replace sp := sp.drew
          replace B0 := B0.drew
          have xx := Ext.refl wc.drew
          generalize wc.drew = w0 at *
          refine pi_read xx rfl (by kernel_rfl) (fun w' hw' => by obtain ⟨q0, q1⟩ := (x1.ext hw').cells2; go_simp; with_reducible rfl) ?_; try simp only [Act.put, List.setIfInBounds_toArray, List.set_cons_zero, List.set_cons_succ]
          refine pi_read xx rfl (by kernel_rfl) (fun w' hw' => by obtain ⟨q0, q1⟩ := (x2.ext hw').cells2; go_simp; with_reducible rfl) ?_; try simp only [Act.put, List.setIfInBounds_toArray, List.set_cons_zero, List.set_cons_succ]
          refine pi_pure xx rfl (by kernel_rfl) (fun w' => by go_simp; with_reducible rfl) ?_; try simp only [Act.put, List.setIfInBounds_toArray, List.set_cons_zero, List.set_cons_succ]
          refine pi_move rfl (by kernel_rfl) (fun K hK => ?_)
          go_wp2_with fail
          refine (CS.out a n b m t _ hn hm ht).mono ?_
          rintro e w1 ⟨rfl, BE⟩
          have xn := xx.trans BE
          go_simp
          refine hK.out _ _ xn ?_
          try simp only [Act.put, List.setIfInBounds_toArray, List.set_cons_zero, List.set_cons_succ]
          clear hK K
          clear xx
          have xx := xn
          clear xn
          replace z1 := z1.ext BE
          replace z2 := z2.ext BE
          replace x1 := x1.ext BE
          replace x2 := x2.ext BE
          replace x3 := x3.ext BE
          replace sp := sp.ext BE
          replace B0 := below_then B0 BE
          clear BE
          refine pi_pure xx rfl (by kernel_rfl) (fun w' => by go_simp; with_reducible rfl) ?_; try simp only [Act.put, List.setIfInBounds_toArray, List.set_cons_zero, List.set_cons_succ]
          refine pi_read xx rfl (by kernel_rfl) (fun w' hw' => by obtain ⟨q0, q1⟩ := (z1.ext hw').cells2; go_simp; with_reducible rfl) ?_; try simp only [Act.put, List.setIfInBounds_toArray, List.set_cons_zero, List.set_cons_succ]
          clear xx
          have xx := Ext.refl w1
          refine pi_read xx rfl (by kernel_rfl) (fun w' hw' => by obtain ⟨q0, q1⟩ := (z2.ext hw').cells2; go_simp; with_reducible rfl) ?_; try simp only [Act.put, List.setIfInBounds_toArray, List.set_cons_zero, List.set_cons_succ]
          refine pi_pure xx rfl (by kernel_rfl) (fun w' => by go_simp; with_reducible rfl) ?_; try simp only [Act.put, List.setIfInBounds_toArray, List.set_cons_zero, List.set_cons_succ]
          refine pi_pure (v := .int .i64 p3) xx rfl (by kernel_rfl) (fun w' => by go_simp; rw [P3.out]) ?_; try simp only [Act.put, List.setIfInBounds_toArray, List.set_cons_zero, List.set_cons_succ]
          refine pi_move rfl (by kernel_rfl) (fun K hK => ?_)
          go_wp2_with fail
          refine (CS.out p1 y1 p2 y2 p3 _ hy1 hy2 hp3).mono ?_
          rintro e w2 ⟨rfl, BE⟩
          have xn := xx.trans BE
          go_simp
          refine hK.out _ _ xn ?_
          try simp only [Act.put, List.setIfInBounds_toArray, List.set_cons_zero, List.set_cons_succ]
          clear hK K
          clear xx
          have xx := xn
          clear xn
          replace z1 := z1.ext BE
          replace z2 := z2.ext BE
          replace x1 := x1.ext BE
          replace x2 := x2.ext BE
          replace x3 := x3.ext BE
          replace sp := sp.ext BE
          replace B0 := below_then B0 BE
          clear BE
          refine pi_pure xx rfl (by kernel_rfl) (fun w' => by go_simp; with_reducible rfl) ?_; try simp only [Act.put, List.setIfInBounds_toArray, List.set_cons_zero, List.set_cons_succ]
          refine pi_pure xx rfl (by kernel_rfl) (fun w' => by go_simp; with_reducible rfl) ?_; try simp only [Act.put, List.setIfInBounds_toArray, List.set_cons_zero, List.set_cons_succ]
          refine pi_pure xx rfl (by kernel_rfl) (fun w' => by go_simp; with_reducible rfl) ?_; try simp only [Act.put, List.setIfInBounds_toArray, List.set_cons_zero, List.set_cons_succ]
          refine pi_pure xx rfl (by kernel_rfl) (fun w' => by go_simp; with_reducible rfl) ?_; try simp only [Act.put, List.setIfInBounds_toArray, List.set_cons_zero, List.set_cons_succ]
          refine pi_read xx rfl (by kernel_rfl) (fun w' hw' => by obtain ⟨q0, q1⟩ := (x3.ext hw').cells2; go_simp; with_reducible rfl) ?_; try simp only [Act.put, List.setIfInBounds_toArray, List.set_cons_zero, List.set_cons_succ]
          clear xx
          have xx := Ext.refl w2
          refine pi_pure (v := .int .i64 p4) xx rfl (by kernel_rfl) (fun w' => by go_simp; rw [P4.out]) ?_; try simp only [Act.put, List.setIfInBounds_toArray, List.set_cons_zero, List.set_cons_succ]
          refine pi_pure xx rfl (by kernel_rfl) (fun w' => by go_simp; with_reducible rfl) ?_; try simp only [Act.put, List.setIfInBounds_toArray, List.set_cons_zero, List.set_cons_succ]
          refine pi_read xx rfl (by kernel_rfl) (fun w' hw' => by obtain ⟨q0, q1⟩ := (x3.ext hw').cells2; go_simp; with_reducible rfl) ?_; try simp only [Act.put, List.setIfInBounds_toArray, List.set_cons_zero, List.set_cons_succ]
          refine pi_pure (v := .int .i64 y4) xx rfl (by kernel_rfl) (fun w' => by go_simp; rw [Y4.out]) ?_; try simp only [Act.put, List.setIfInBounds_toArray, List.set_cons_zero, List.set_cons_succ]
          refine pi_pure (v := .int .i64 (1 + y4)) xx rfl (by kernel_rfl) (fun w' => by go_simp; rw [IntWalk.i64_in _ k4]) ?_; try simp only [Act.put, List.setIfInBounds_toArray, List.set_cons_zero, List.set_cons_succ]
          refine pi_pure xx rfl (by kernel_rfl) (fun w' => by go_simp; with_reducible rfl) ?_; try simp only [Act.put, List.setIfInBounds_toArray, List.set_cons_zero, List.set_cons_succ]
          refine pi_move rfl (by kernel_rfl) (fun K hK => ?_)
          go_wp2_with fail
          refine (CC.out _ fl p4 (1 + y4) _ sp OF.out k4 lf).mono ?_
          rintro e w3 ⟨rfl, BE⟩
          have xn := xx.trans BE
          go_simp
          refine hK.out _ _ xn ?_
          try simp only [Act.put, List.setIfInBounds_toArray, List.set_cons_zero, List.set_cons_succ]
          clear hK K
          clear xx
          have xx := xn
          clear xn
          replace z1 := z1.ext BE
          replace z2 := z2.ext BE
          replace x1 := x1.ext BE
          replace x2 := x2.ext BE
          replace x3 := x3.ext BE
          replace sp := sp.ext BE
          replace B0 := below_then B0 BE
          clear BE
          refine pi_pure xx rfl (by kernel_rfl) (fun w' => by go_simp; with_reducible rfl) ?_; try simp only [Act.put, List.setIfInBounds_toArray, List.set_cons_zero, List.set_cons_succ]
          refine pi_pure xx rfl (by kernel_rfl) (fun w' => by go_simp; with_reducible rfl) ?_; try simp only [Act.put, List.setIfInBounds_toArray, List.set_cons_zero, List.set_cons_succ]
          refine pi_pure xx rfl (by kernel_rfl) (fun w' => by go_simp; with_reducible rfl) ?_; try simp only [Act.put, List.setIfInBounds_toArray, List.set_cons_zero, List.set_cons_succ]
          refine pi_pure xx rfl (by kernel_rfl) (fun w' => by go_simp; with_reducible rfl) ?_; try simp only [Act.put, List.setIfInBounds_toArray, List.set_cons_zero, List.set_cons_succ]
          refine pi_pure xx rfl (by kernel_rfl) (fun w' => by go_simp; with_reducible rfl) ?_; try simp only [Act.put, List.setIfInBounds_toArray, List.set_cons_zero, List.set_cons_succ]
          refine pi_pure (v := .int .i64 (q : Int)) xx rfl (by kernel_rfl) (fun w' => by go_simp; rw [HQ.out]) ?_; try simp only [Act.put, List.setIfInBounds_toArray, List.set_cons_zero, List.set_cons_succ]
          refine pi_pure (v := .slice av q cap) xx rfl (by kernel_rfl) (fun w' => by go_simp) ?_; try simp only [Act.put, List.setIfInBounds_toArray, List.set_cons_zero, List.set_cons_succ]
          refine pi_read xx rfl (by kernel_rfl) (fun w' hw' => by obtain ⟨q0, q1⟩ := (x3.ext hw').cells2; go_simp; with_reducible rfl) ?_; try simp only [Act.put, List.setIfInBounds_toArray, List.set_cons_zero, List.set_cons_succ]
          clear xx
          have xx := Ext.refl w3
          refine pi_move rfl (by kernel_rfl) (fun K hK => ?_)
          go_wp2_with fail
          refine (CC.out _ (l.take q) c k _ (SQ.out _ B0) OQ.out hk lq).mono ?_
          rintro e w4 ⟨rfl, BE⟩
          have xn := xx.trans BE
          go_simp
          refine hK.out _ _ xn ?_
          try simp only [Act.put, List.setIfInBounds_toArray, List.set_cons_zero, List.set_cons_succ]
          clear hK K
          clear xx
          have xx := xn
          clear xn
          replace z1 := z1.ext BE
          replace z2 := z2.ext BE
          replace x1 := x1.ext BE
          replace x2 := x2.ext BE
          replace x3 := x3.ext BE
          replace sp := sp.ext BE
          replace B0 := below_then B0 BE
          clear BE
          refine pi_pure xx rfl (by kernel_rfl) (fun w' => by go_simp; with_reducible rfl) ?_; try simp only [Act.put, List.setIfInBounds_toArray, List.set_cons_zero, List.set_cons_succ]
          refine pi_pure xx rfl (by kernel_rfl) (fun w' => by go_simp; with_reducible rfl) ?_; try simp only [Act.put, List.setIfInBounds_toArray, List.set_cons_zero, List.set_cons_succ]
          refine pi_pure xx rfl (by kernel_rfl) (fun w' => by go_simp; with_reducible rfl) ?_; try simp only [Act.put, List.setIfInBounds_toArray, List.set_cons_zero, List.set_cons_succ]
          refine pi_read xx rfl (by kernel_rfl) (fun w' hw' => by obtain ⟨q0, q1⟩ := (x3.ext hw').cells2; go_simp; with_reducible rfl) ?_; try simp only [Act.put, List.setIfInBounds_toArray, List.set_cons_zero, List.set_cons_succ]
          clear xx
          have xx := Ext.refl w4
          refine pi_move rfl (by kernel_rfl) (fun K hK => ?_)
          go_wp2_with fail
          refine (CC.out _ fl c k _ sp OF.out hk lf).mono ?_
          rintro e w5 ⟨rfl, BE⟩
          have xn := xx.trans BE
          go_simp
          refine hK.out _ _ xn ?_
          try simp only [Act.put, List.setIfInBounds_toArray, List.set_cons_zero, List.set_cons_succ]
          clear hK K
          clear xx
          have xx := xn
          clear xn
          replace z1 := z1.ext BE
          replace z2 := z2.ext BE
          replace x1 := x1.ext BE
          replace x2 := x2.ext BE
          replace x3 := x3.ext BE
          replace sp := sp.ext BE
          replace B0 := below_then B0 BE
          clear BE
          refine pi_pure xx rfl (by kernel_rfl) (fun w' => by go_simp; with_reducible rfl) ?_; try simp only [Act.put, List.setIfInBounds_toArray, List.set_cons_zero, List.set_cons_succ]
          refine pi_pure xx rfl (by kernel_rfl) (fun w' => by go_simp; with_reducible rfl) ?_; try simp only [Act.put, List.setIfInBounds_toArray, List.set_cons_zero, List.set_cons_succ]
          refine pi_move rfl (by kernel_rfl) (fun K hK => ?_)
          go_wp2_with fail
          refine (known_any _).mono ?_
          rintro e w6 ⟨rfl, BE⟩
          have xn := xx.trans BE
          go_simp
          refine hK.out _ _ xn ?_
          try simp only [Act.put, List.setIfInBounds_toArray, List.set_cons_zero, List.set_cons_succ]
          clear hK K
          clear xx
          have xx := xn
          clear xn
          replace z1 := z1.ext BE
          replace z2 := z2.ext BE
          replace x1 := x1.ext BE
          replace x2 := x2.ext BE
          replace x3 := x3.ext BE
          replace sp := sp.ext BE
          replace B0 := below_then B0 BE
          clear BE
          refine pi_pure xx rfl (by kernel_rfl) (fun w' => by go_simp; with_reducible rfl) ?_; try simp only [Act.put, List.setIfInBounds_toArray, List.set_cons_zero, List.set_cons_succ]
          refine pi_pure xx rfl (by kernel_rfl) (fun w' => by go_simp; with_reducible rfl) ?_; try simp only [Act.put, List.setIfInBounds_toArray, List.set_cons_zero, List.set_cons_succ]
          refine pi_nil ?_
          go_wp2
          go_ret
          exact ⟨rfl, B0⟩

    · have hlt' : ¬ (k0 : Int) < (l.length : Int) := by omega
      have sp := Sps.of_owns own
      clear own
      obtain ⟨p1, P1, r1, s1⟩ := mask_any a 5 (by decide) 31 rfl
      obtain ⟨y1, Y1, r2, s2⟩ := mask_any n 5 (by decide) 31 rfl
      obtain ⟨p2, P2, r3, s3⟩ := mask_any b 5 (by decide) 31 rfl
      obtain ⟨y2, Y2, r4, s4⟩ := mask_any m 5 (by decide) 31 rfl
      obtain ⟨p3, P3, r5, s5⟩ := mask_any t 6 (by decide) 63 rfl
      obtain ⟨p4, P4, r6, s6⟩ := mask_any c 5 (by decide) 31 rfl
      obtain ⟨y4, Y4, r7, s7⟩ := mask_any k 5 (by decide) 31 rfl
      have k4 : -9223372036854775808 ≤ 1 + y4 ∧ 1 + y4 ≤ 9223372036854775807 := by omega
      have hy1 : i64 y1 := by unfold i64; omega
      have hy2 : i64 y2 := by unfold i64; omega
      have hp3 : i64 p3 := by unfold i64; omega
      obtain ⟨q, hq, q20, ql⟩ : ∃ q : Nat, (if (20 : Int) < (l.length : Int) then (20 : Int) else (l.length : Int)) = (q : Int) ∧ q ≤ 20 ∧ q ≤ l.length := by
        by_cases h : (20 : Int) < (l.length : Int)
        · exact ⟨20, by rw [if_pos h]; rfl, Nat.le_refl _, by omega⟩
        · exact ⟨l.length, by rw [if_neg h], by omega, Nat.le_refl _⟩
      have HQ := hidden hq
      have qc : q ≤ cap := by omega
      have SQ : Hid (∀ w', Below w.heap.size w w' → Sps w' (.slice av q cap) (l.take q)) := fun w' h => (hv.ext h).take q ql
      have OQ := hidden (HO.out.take q)
      have lq : (l.take q).length ≤ 1000000 := by simp; omega
      have lf : fl.length ≤ 1000000 := by omega
      have OF := HOL
      clear hq HOL HFL HO hv r1 r2 r3 r4 r5 r6 r7 s1 s2 s3 s4 s5 s6 s7
      go_upto_region 6 with fail
      go_cut [13, 14] from 42 to 55 (fun s13 s14 wx => ∃ (b1 b2 : Nat), s13 = .pointer (some ⟨b1, 0, none⟩) ∧ s14 = .pointer (some ⟨b2, 0, none⟩) ∧ Bx wx b1 24 p1 y1 ∧ Bx wx b2 24 p2 y2 ∧ Bx wx w.heap.size 24 a n ∧ Bx wx (w.heap.size + 1) 24 b m ∧ Bx wx (w.heap.size + 1 + 1) 24 c k ∧ Sps wx vo fl ∧ Below w.heap.size w wx)
      case first =>
        refine c_begin 18 rfl (by kernel_rfl) ?_
        replace x1 := x1.drew
        replace x2 := x2.drew
        replace x3 := x3.drew
        replace sp := sp.drew
        replace hb := hb.drew
        have xx := Ext.refl wr.drew
        generalize wr.drew = w0 at *
        refine c_pure trivial (by kernel_rfl) (fun _ _ _ d _ h => by cases d <;> exact h) 0 rfl (by kernel_rfl) (by kernel_rfl) (fun w' => by go_simp; with_reducible rfl) ?_; try simp only [Act.put, List.setIfInBounds_toArray, List.set_cons_zero, List.set_cons_succ]
        refine c_read (fun w' => Ext w0 w') xx trivial (by kernel_rfl) (fun _ _ _ d _ h => by cases d <;> exact h) 1 rfl (by kernel_rfl) (by kernel_rfl) (fun w' hx => by obtain ⟨q1, q2⟩ := (x1.ext hx).cells2; go_simp; with_reducible rfl) ?_; try simp only [Act.put, List.setIfInBounds_toArray, List.set_cons_zero, List.set_cons_succ]
        refine c_pure (v := .int .i64 p1) ⟨xx, trivial⟩ (by kernel_rfl) (fun _ _ _ d _ h => by cases d <;> exact h) 2 rfl (by kernel_rfl) (by kernel_rfl) (fun w' => by go_simp; rw [P1.out]) ?_; try simp only [Act.put, List.setIfInBounds_toArray, List.set_cons_zero, List.set_cons_succ]
        refine c_pure ⟨xx, trivial⟩ (by kernel_rfl) (fun _ _ _ d _ h => by cases d <;> exact h) 3 rfl (by kernel_rfl) (by kernel_rfl) (fun w' => by go_simp; with_reducible rfl) ?_; try simp only [Act.put, List.setIfInBounds_toArray, List.set_cons_zero, List.set_cons_succ]
        refine c_read (fun w' => Ext w0 w') xx ⟨xx, trivial⟩ (by kernel_rfl) (fun _ _ _ d _ h => by cases d <;> exact h) 4 rfl (by kernel_rfl) (by kernel_rfl) (fun w' hx => by obtain ⟨q1, q2⟩ := (x1.ext hx).cells2; go_simp; with_reducible rfl) ?_; try simp only [Act.put, List.setIfInBounds_toArray, List.set_cons_zero, List.set_cons_succ]
        refine c_pure (v := .int .i64 y1) ⟨xx, xx, trivial⟩ (by kernel_rfl) (fun _ _ _ d _ h => by cases d <;> exact h) 5 rfl (by kernel_rfl) (by kernel_rfl) (fun w' => by go_simp; rw [Y1.out]) ?_; try simp only [Act.put, List.setIfInBounds_toArray, List.set_cons_zero, List.set_cons_succ]
        refine c_pure ⟨xx, xx, trivial⟩ (by kernel_rfl) (fun _ _ _ d _ h => by cases d <;> exact h) 6 rfl (by kernel_rfl) (by kernel_rfl) (fun w' => by go_simp; with_reducible rfl) ?_; try simp only [Act.put, List.setIfInBounds_toArray, List.set_cons_zero, List.set_cons_succ]
        refine c_pure ⟨xx, xx, trivial⟩ (by kernel_rfl) (fun _ _ _ d _ h => by cases d <;> exact h) 7 rfl (by kernel_rfl) (by kernel_rfl) (fun w' => by go_simp; with_reducible rfl) ?_; try simp only [Act.put, List.setIfInBounds_toArray, List.set_cons_zero, List.set_cons_succ]
        refine c_read (fun w' => Ext w0 w') xx ⟨xx, xx, trivial⟩ (by kernel_rfl) (fun _ _ _ d _ h => by cases d <;> exact h) 8 rfl (by kernel_rfl) (by kernel_rfl) (fun w' hx => by obtain ⟨q1, q2⟩ := (x2.ext hx).cells2; go_simp; with_reducible rfl) ?_; try simp only [Act.put, List.setIfInBounds_toArray, List.set_cons_zero, List.set_cons_succ]
        refine c_pure (v := .int .i64 p2) ⟨xx, xx, xx, trivial⟩ (by kernel_rfl) (fun _ _ _ d _ h => by cases d <;> exact h) 9 rfl (by kernel_rfl) (by kernel_rfl) (fun w' => by go_simp; rw [P2.out]) ?_; try simp only [Act.put, List.setIfInBounds_toArray, List.set_cons_zero, List.set_cons_succ]
        refine c_pure ⟨xx, xx, xx, trivial⟩ (by kernel_rfl) (fun _ _ _ d _ h => by cases d <;> exact h) 10 rfl (by kernel_rfl) (by kernel_rfl) (fun w' => by go_simp; with_reducible rfl) ?_; try simp only [Act.put, List.setIfInBounds_toArray, List.set_cons_zero, List.set_cons_succ]
        refine c_read (fun w' => Ext w0 w') xx ⟨xx, xx, xx, trivial⟩ (by kernel_rfl) (fun _ _ _ d _ h => by cases d <;> exact h) 11 rfl (by kernel_rfl) (by kernel_rfl) (fun w' hx => by obtain ⟨q1, q2⟩ := (x2.ext hx).cells2; go_simp; with_reducible rfl) ?_; try simp only [Act.put, List.setIfInBounds_toArray, List.set_cons_zero, List.set_cons_succ]
        refine c_pure (v := .int .i64 y2) ⟨xx, xx, xx, xx, trivial⟩ (by kernel_rfl) (fun _ _ _ d _ h => by cases d <;> exact h) 12 rfl (by kernel_rfl) (by kernel_rfl) (fun w' => by go_simp; rw [Y2.out]) ?_; try simp only [Act.put, List.setIfInBounds_toArray, List.set_cons_zero, List.set_cons_succ]
        refine c_pure ⟨xx, xx, xx, xx, trivial⟩ (by kernel_rfl) (fun _ _ _ d _ h => by cases d <;> exact h) 13 rfl (by kernel_rfl) (by kernel_rfl) (fun w' => by go_simp; with_reducible rfl) ?_; try simp only [Act.put, List.setIfInBounds_toArray, List.set_cons_zero, List.set_cons_succ]
        refine c_phase (n := 2) [14, 15] [(some 13, 14), (some 14, 15)] (PsB w0.heap.size 24) NeV NeV.symm (by kernel_rfl) (by kernel_rfl) ?mono ?hC ?hops ?hend
        case mono => exact fun i v w w' h hx => NewBx.ext h hx
        case hC => exact fun w' hx => ⟨hx, hx, hx, hx, trivial⟩
        case hops =>
          intro i hi vs w3 hx hd
          simp only [List.mem_cons, List.not_mem_nil, or_false] at hi
          rcases hi with rfl | rfl
          · refine phase_op 14 [] (by kernel_rfl) rfl (fun K hK => ?_)
            simp only [putsD]
            go_simp
            exact hK.out _ _ ((Below.refl _ _).alloc (Nat.le_refl _) _) (NewBx.mk w3 hx) (fun j _ _ u hu => NewBx.ne hu)
          · refine phase_op 15 [] (by kernel_rfl) rfl (fun K hK => ?_)
            simp only [putsD]
            go_simp
            exact hK.out _ _ ((Below.refl _ _).alloc (Nat.le_refl _) _) (NewBx.mk w3 hx) (fun j _ _ u hu => NewBx.ne hu)
        case hend =>
          intro vs w3 BZ hP hR
          obtain ⟨g0, e0, l0, z0⟩ := hP 14 (by simp)
          obtain ⟨g1, e1, l1, z1⟩ := hP 15 (by simp)
          have n01 : g0 ≠ g1 := fun e => hR 14 (by simp) 15 (by simp) (by decide) (by rw [e0, e1, e])
          simp only [putsD, e0, e1]
          try simp only [Act.put, List.setIfInBounds_toArray, List.set_cons_zero, List.set_cons_succ]
          clear hP hR e0 e1
          clear vs
          obtain ⟨c0, c1, f0, f1⟩ := z0.cells
          refine c_move 16 (by kernel_rfl) (c_op 16 [(11, fun w' => Ext w0 w'), (8, fun w' => Ext w0 w')] (by kernel_rfl) rfl (by kernel_rfl) (fun K hK => ?_))
          go_simp
          have zn := z0.set p1 y1
          have BN := (BZ.setCell (p := ⟨g0, 0, none⟩) l0 (.int .i64 p1)).setCell (p := ⟨g0, 1, none⟩) l0 (.int .i64 y1)
          replace z1 := (z1.set_ne (o := 0) (.int .i64 p1) n01).set_ne (o := 1) (.int .i64 y1) n01
          refine hK.out _ _ ⟨BN, BN, trivial⟩ ?_
          clear K hK c0 c1 f0 f1 BZ
          clear z0
          try simp only [Act.put, List.setIfInBounds_toArray, List.set_cons_zero, List.set_cons_succ]
          generalize (w3.setCell ⟨g0, 0, none⟩ (.int .i64 p1)).setCell ⟨g0, 1, none⟩ (.int .i64 y1) = w3a at *
          have BZ := BN
          have z0 := zn
          clear BN zn
          obtain ⟨c0, c1, f0, f1⟩ := z1.cells
          refine c_move 17 (by kernel_rfl) (c_op 17 [] (by kernel_rfl) rfl (by kernel_rfl) (fun K hK => ?_))
          go_simp
          have zn := z1.set p2 y2
          have BN := (BZ.setCell (p := ⟨g1, 0, none⟩) l1 (.int .i64 p2)).setCell (p := ⟨g1, 1, none⟩) l1 (.int .i64 y2)
          replace z0 := (z0.set_ne (o := 0) (.int .i64 p2) n01.symm).set_ne (o := 1) (.int .i64 y2) n01.symm
          refine hK.out _ _ trivial ?_
          clear K hK c0 c1 f0 f1 BZ
          clear z1
          try simp only [Act.put, List.setIfInBounds_toArray, List.set_cons_zero, List.set_cons_succ]
          generalize (w3a.setCell ⟨g1, 0, none⟩ (.int .i64 p2)).setCell ⟨g1, 1, none⟩ (.int .i64 y2) = w3b at *
          have BZ := BN
          have z1 := zn
          clear BN zn
          refine c_done (by kernel_rfl) ?_
          go_wp2
          go_meet
          exact ⟨_, _, rfl, rfl, z0, z1, x1.ext BZ, x2.ext BZ, x3.ext BZ, sp.ext BZ, below_then hb BZ⟩
      case rest =>
        clear x1 x2 x3 sp hb P1 P2 Y1 Y2
        obtain ⟨b1, b2, rfl, rfl, z1, z2, x1, x2, x3, sp, B0⟩ := hcut
        go_wp2
        refine wp_region_pi [(0, true), (1, true), (2, true), (3, false), (4, true), (5, true), (6, true), (7, true), (8, true), (9, false), (10, true), (11, true), (12, true), (13, true), (14, true), (15, true), (16, true), (17, true), (18, true), (19, true), (20, true), (21, false), (22, true), (23, true), (24, true), (25, true), (26, true), (27, true), (28, true), (29, true), (30, false), (31, true), (32, true), (33, true), (34, true), (35, false), (36, true), (37, true), (38, false), (39, true), (40, true)] (by kernel_rfl) (by kernel_rfl) (by kernel_rfl) (fun _ _ _ d _ h => by cases d <;> exact h) ?_
        replace z1 := z1.drew
        replace z2 := z2.drew
        replace x1 := x1.drew
        replace x2 := x2.drew
        replace x3 := x3.drew
        replace sp := sp.drew
        replace B0 := B0.drew
        have xx := Ext.refl wc.drew
        generalize wc.drew = w0 at *
        refine pi_read xx rfl (by kernel_rfl) (fun w' hw' => by obtain ⟨q0, q1⟩ := (x1.ext hw').cells2; go_simp; with_reducible rfl) ?_; try simp only [Act.put, List.setIfInBounds_toArray, List.set_cons_zero, List.set_cons_succ]
        refine pi_read xx rfl (by kernel_rfl) (fun w' hw' => by obtain ⟨q0, q1⟩ := (x2.ext hw').cells2; go_simp; with_reducible rfl) ?_; try simp only [Act.put, List.setIfInBounds_toArray, List.set_cons_zero, List.set_cons_succ]
        refine pi_pure xx rfl (by kernel_rfl) (fun w' => by go_simp; with_reducible rfl) ?_; try simp only [Act.put, List.setIfInBounds_toArray, List.set_cons_zero, List.set_cons_succ]
        refine pi_move rfl (by kernel_rfl) (fun K hK => ?_)
        go_wp2_with fail
        refine (CS.out a n b m t _ hn hm ht).mono ?_
        rintro e w1 ⟨rfl, BE⟩
        have xn := xx.trans BE
        go_simp
        refine hK.out _ _ xn ?_
        try simp only [Act.put, List.setIfInBounds_toArray, List.set_cons_zero, List.set_cons_succ]
        clear hK K
        clear xx
        have xx := xn
        clear xn
        replace z1 := z1.ext BE
        replace z2 := z2.ext BE
        replace x1 := x1.ext BE
        replace x2 := x2.ext BE
        replace x3 := x3.ext BE
        replace sp := sp.ext BE
        replace B0 := below_then B0 BE
        clear BE
        refine pi_pure xx rfl (by kernel_rfl) (fun w' => by go_simp; with_reducible rfl) ?_; try simp only [Act.put, List.setIfInBounds_toArray, List.set_cons_zero, List.set_cons_succ]
        refine pi_read xx rfl (by kernel_rfl) (fun w' hw' => by obtain ⟨q0, q1⟩ := (z1.ext hw').cells2; go_simp; with_reducible rfl) ?_; try simp only [Act.put, List.setIfInBounds_toArray, List.set_cons_zero, List.set_cons_succ]
        clear xx
        have xx := Ext.refl w1
        refine pi_read xx rfl (by kernel_rfl) (fun w' hw' => by obtain ⟨q0, q1⟩ := (z2.ext hw').cells2; go_simp; with_reducible rfl) ?_; try simp only [Act.put, List.setIfInBounds_toArray, List.set_cons_zero, List.set_cons_succ]
        refine pi_pure xx rfl (by kernel_rfl) (fun w' => by go_simp; with_reducible rfl) ?_; try simp only [Act.put, List.setIfInBounds_toArray, List.set_cons_zero, List.set_cons_succ]
        refine pi_pure (v := .int .i64 p3) xx rfl (by kernel_rfl) (fun w' => by go_simp; rw [P3.out]) ?_; try simp only [Act.put, List.setIfInBounds_toArray, List.set_cons_zero, List.set_cons_succ]
        refine pi_move rfl (by kernel_rfl) (fun K hK => ?_)
        go_wp2_with fail
        refine (CS.out p1 y1 p2 y2 p3 _ hy1 hy2 hp3).mono ?_
        rintro e w2 ⟨rfl, BE⟩
        have xn := xx.trans BE
        go_simp
        refine hK.out _ _ xn ?_
        try simp only [Act.put, List.setIfInBounds_toArray, List.set_cons_zero, List.set_cons_succ]
        clear hK K
        clear xx
        have xx := xn
        clear xn
        replace z1 := z1.ext BE
        replace z2 := z2.ext BE
        replace x1 := x1.ext BE
        replace x2 := x2.ext BE
        replace x3 := x3.ext BE
        replace sp := sp.ext BE
        replace B0 := below_then B0 BE
        clear BE
        refine pi_pure xx rfl (by kernel_rfl) (fun w' => by go_simp; with_reducible rfl) ?_; try simp only [Act.put, List.setIfInBounds_toArray, List.set_cons_zero, List.set_cons_succ]
        refine pi_pure xx rfl (by kernel_rfl) (fun w' => by go_simp; with_reducible rfl) ?_; try simp only [Act.put, List.setIfInBounds_toArray, List.set_cons_zero, List.set_cons_succ]
        refine pi_pure xx rfl (by kernel_rfl) (fun w' => by go_simp; with_reducible rfl) ?_; try simp only [Act.put, List.setIfInBounds_toArray, List.set_cons_zero, List.set_cons_succ]
        refine pi_pure xx rfl (by kernel_rfl) (fun w' => by go_simp; with_reducible rfl) ?_; try simp only [Act.put, List.setIfInBounds_toArray, List.set_cons_zero, List.set_cons_succ]
        refine pi_read xx rfl (by kernel_rfl) (fun w' hw' => by obtain ⟨q0, q1⟩ := (x3.ext hw').cells2; go_simp; with_reducible rfl) ?_; try simp only [Act.put, List.setIfInBounds_toArray, List.set_cons_zero, List.set_cons_succ]
        clear xx
        have xx := Ext.refl w2
        refine pi_pure (v := .int .i64 p4) xx rfl (by kernel_rfl) (fun w' => by go_simp; rw [P4.out]) ?_; try simp only [Act.put, List.setIfInBounds_toArray, List.set_cons_zero, List.set_cons_succ]
        refine pi_pure xx rfl (by kernel_rfl) (fun w' => by go_simp; with_reducible rfl) ?_; try simp only [Act.put, List.setIfInBounds_toArray, List.set_cons_zero, List.set_cons_succ]
        refine pi_read xx rfl (by kernel_rfl) (fun w' hw' => by obtain ⟨q0, q1⟩ := (x3.ext hw').cells2; go_simp; with_reducible rfl) ?_; try simp only [Act.put, List.setIfInBounds_toArray, List.set_cons_zero, List.set_cons_succ]
        refine pi_pure (v := .int .i64 y4) xx rfl (by kernel_rfl) (fun w' => by go_simp; rw [Y4.out]) ?_; try simp only [Act.put, List.setIfInBounds_toArray, List.set_cons_zero, List.set_cons_succ]
        refine pi_pure (v := .int .i64 (1 + y4)) xx rfl (by kernel_rfl) (fun w' => by go_simp; rw [IntWalk.i64_in _ k4]) ?_; try simp only [Act.put, List.setIfInBounds_toArray, List.set_cons_zero, List.set_cons_succ]
        refine pi_pure xx rfl (by kernel_rfl) (fun w' => by go_simp; with_reducible rfl) ?_; try simp only [Act.put, List.setIfInBounds_toArray, List.set_cons_zero, List.set_cons_succ]
        refine pi_move rfl (by kernel_rfl) (fun K hK => ?_)
        go_wp2_with fail
        refine (CC.out _ fl p4 (1 + y4) _ sp OF.out k4 lf).mono ?_
        rintro e w3 ⟨rfl, BE⟩
        have xn := xx.trans BE
        go_simp
        refine hK.out _ _ xn ?_
        try simp only [Act.put, List.setIfInBounds_toArray, List.set_cons_zero, List.set_cons_succ]
        clear hK K
        clear xx
        have xx := xn
        clear xn
        replace z1 := z1.ext BE
        replace z2 := z2.ext BE
        replace x1 := x1.ext BE
        replace x2 := x2.ext BE
        replace x3 := x3.ext BE
        replace sp := sp.ext BE
        replace B0 := below_then B0 BE
        clear BE
        refine pi_pure xx rfl (by kernel_rfl) (fun w' => by go_simp; with_reducible rfl) ?_; try simp only [Act.put, List.setIfInBounds_toArray, List.set_cons_zero, List.set_cons_succ]
        refine pi_pure xx rfl (by kernel_rfl) (fun w' => by go_simp; with_reducible rfl) ?_; try simp only [Act.put, List.setIfInBounds_toArray, List.set_cons_zero, List.set_cons_succ]
        refine pi_pure xx rfl (by kernel_rfl) (fun w' => by go_simp; with_reducible rfl) ?_; try simp only [Act.put, List.setIfInBounds_toArray, List.set_cons_zero, List.set_cons_succ]
        refine pi_pure xx rfl (by kernel_rfl) (fun w' => by go_simp; with_reducible rfl) ?_; try simp only [Act.put, List.setIfInBounds_toArray, List.set_cons_zero, List.set_cons_succ]
        refine pi_pure xx rfl (by kernel_rfl) (fun w' => by go_simp; with_reducible rfl) ?_; try simp only [Act.put, List.setIfInBounds_toArray, List.set_cons_zero, List.set_cons_succ]
        refine pi_pure (v := .int .i64 (q : Int)) xx rfl (by kernel_rfl) (fun w' => by go_simp; rw [HQ.out]) ?_; try simp only [Act.put, List.setIfInBounds_toArray, List.set_cons_zero, List.set_cons_succ]
        refine pi_pure (v := .slice av q cap) xx rfl (by kernel_rfl) (fun w' => by go_simp) ?_; try simp only [Act.put, List.setIfInBounds_toArray, List.set_cons_zero, List.set_cons_succ]
        refine pi_read xx rfl (by kernel_rfl) (fun w' hw' => by obtain ⟨q0, q1⟩ := (x3.ext hw').cells2; go_simp; with_reducible rfl) ?_; try simp only [Act.put, List.setIfInBounds_toArray, List.set_cons_zero, List.set_cons_succ]
        clear xx
        have xx := Ext.refl w3
        refine pi_move rfl (by kernel_rfl) (fun K hK => ?_)
        go_wp2_with fail
        refine (CC.out _ (l.take q) c k _ (SQ.out _ B0) OQ.out hk lq).mono ?_
        rintro e w4 ⟨rfl, BE⟩
        have xn := xx.trans BE
        go_simp
        refine hK.out _ _ xn ?_
        try simp only [Act.put, List.setIfInBounds_toArray, List.set_cons_zero, List.set_cons_succ]
        clear hK K
        clear xx
        have xx := xn
        clear xn
        replace z1 := z1.ext BE
        replace z2 := z2.ext BE
        replace x1 := x1.ext BE
        replace x2 := x2.ext BE
        replace x3 := x3.ext BE
        replace sp := sp.ext BE
        replace B0 := below_then B0 BE
        clear BE
        refine pi_pure xx rfl (by kernel_rfl) (fun w' => by go_simp; with_reducible rfl) ?_; try simp only [Act.put, List.setIfInBounds_toArray, List.set_cons_zero, List.set_cons_succ]
        refine pi_pure xx rfl (by kernel_rfl) (fun w' => by go_simp; with_reducible rfl) ?_; try simp only [Act.put, List.setIfInBounds_toArray, List.set_cons_zero, List.set_cons_succ]
        refine pi_pure xx rfl (by kernel_rfl) (fun w' => by go_simp; with_reducible rfl) ?_; try simp only [Act.put, List.setIfInBounds_toArray, List.set_cons_zero, List.set_cons_succ]
        refine pi_read xx rfl (by kernel_rfl) (fun w' hw' => by obtain ⟨q0, q1⟩ := (x3.ext hw').cells2; go_simp; with_reducible rfl) ?_; try simp only [Act.put, List.setIfInBounds_toArray, List.set_cons_zero, List.set_cons_succ]
        clear xx
        have xx := Ext.refl w4
        refine pi_move rfl (by kernel_rfl) (fun K hK => ?_)
        go_wp2_with fail
        refine (CC.out _ fl c k _ sp OF.out hk lf).mono ?_
        rintro e w5 ⟨rfl, BE⟩
        have xn := xx.trans BE
        go_simp
        refine hK.out _ _ xn ?_
        try simp only [Act.put, List.setIfInBounds_toArray, List.set_cons_zero, List.set_cons_succ]
        clear hK K
        clear xx
        have xx := xn
        clear xn
        replace z1 := z1.ext BE
        replace z2 := z2.ext BE
        replace x1 := x1.ext BE
        replace x2 := x2.ext BE
        replace x3 := x3.ext BE
        replace sp := sp.ext BE
        replace B0 := below_then B0 BE
        clear BE
        refine pi_pure xx rfl (by kernel_rfl) (fun w' => by go_simp; with_reducible rfl) ?_; try simp only [Act.put, List.setIfInBounds_toArray, List.set_cons_zero, List.set_cons_succ]
        refine pi_pure xx rfl (by kernel_rfl) (fun w' => by go_simp; with_reducible rfl) ?_; try simp only [Act.put, List.setIfInBounds_toArray, List.set_cons_zero, List.set_cons_succ]
        refine pi_move rfl (by kernel_rfl) (fun K hK => ?_)
        go_wp2_with fail
        refine (known_any _).mono ?_
        rintro e w6 ⟨rfl, BE⟩
        have xn := xx.trans BE
        go_simp
        refine hK.out _ _ xn ?_
        try simp only [Act.put, List.setIfInBounds_toArray, List.set_cons_zero, List.set_cons_succ]
        clear hK K
        clear xx
        have xx := xn
        clear xn
        replace z1 := z1.ext BE
        replace z2 := z2.ext BE
        replace x1 := x1.ext BE
        replace x2 := x2.ext BE
        replace x3 := x3.ext BE
        replace sp := sp.ext BE
        replace B0 := below_then B0 BE
        clear BE
        refine pi_pure xx rfl (by kernel_rfl) (fun w' => by go_simp; with_reducible rfl) ?_; try simp only [Act.put, List.setIfInBounds_toArray, List.set_cons_zero, List.set_cons_succ]
        refine pi_pure xx rfl (by kernel_rfl) (fun w' => by go_simp; with_reducible rfl) ?_; try simp only [Act.put, List.setIfInBounds_toArray, List.set_cons_zero, List.set_cons_succ]
        refine pi_nil ?_
        go_wp2
        go_ret
        exact ⟨rfl, B0⟩

end Go.Proofs.Ytdclbknahialcaa
