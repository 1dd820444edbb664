/- Contract of span.Cover. -/
import Derived.Test.YtpahipoooiaoeaaZ6
namespace Go.Proofs.Ytpahipoooiaoeaa
open Go.RowKit

theorem Bx.grown {w w' : World} {g : Nat} {t : TypeId} {a n : Int} {row : Option Nat} (h : Bx w g t a n) (hg : w.grownBy w' row) (hne : row ≠ some g) : Bx w' g t a n :=
  (hg.block g h.lt (fun e => hne e.symm)).trans h
theorem owns_set2 {w : World} {base s : Nat} {e : TypeId} {v u : Value} {n : Nat} {xs : List Value} (h : w.ownsRow base e s v n xs) (g o : Nat) (hg : v.ownBlock ≠ some g) : (w.setCell ⟨g, o, none⟩ u).ownsRow base e s v n xs := by
  refine h.kept (w' := w.setCell ⟨g, o, none⟩ u) (row := some g) ⟨rfl, rfl, rfl, by simp, fun k hk hne => ?_⟩ (.inr hg)
  simp only [World.setCell, Array.getElem?_modify]
  rw [if_neg (fun e => hne (by rw [e]))]
theorem owns_belowS {w w' : World} {base s : Nat} {e : TypeId} {v : Value} {n : Nat} {xs : List Value} (h : w.ownsRow base e s v n xs) (hb : Below w.heap.size w w') : w'.ownsRow base e s v n xs :=
  h.kept (w' := w') (row := none) ⟨hb.os, hb.tape, hb.output, hb.size, fun k hk _ => hb.block k hk⟩ (by cases v.ownBlock <;> simp)
theorem owns_nilS (w : World) (base : Nat) (t : TypeId) : w.ownsRow base t 2 (.slice none 0 0) 0 (scs []) := ⟨rfl, .inl ⟨rfl, rfl⟩⟩
theorem info_sp : (Try.prog.info? 67).map (fun i => (i.zero, i.size, i.bytes)) = some (some (spV 0 0), 2, 16) := by kernel_rfl
theorem info_rsp : (Try.prog.info? 78).map (fun i => (i.zero, i.size, i.bytes)) = some (some (spV 0 0), 2, 16) := by kernel_rfl
/-- append of one span that has just been laid -/
theorem wpList_pushS {w : World} {ops : Array Oper} {rest : List Oper} {o : Oper} {a : Act} {Q : Exit → Act → World → Prop} (hgd : o.guard = none) (s x : Operand) (T t : TypeId)
    (ho : o.op = .call { callee := .builtin .append, args := #[s, x], argTypes := #[T, T] })
    (base : Nat) (ht : Try.prog.underlying T = some (.slice t)) (hi : (Try.prog.info? t).map (fun i => (i.zero, i.size, i.bytes)) = some (some (spV 0 0), 2, 16))
    {v : Value} {l : SL} (hsv : a.eval s = v) (hown : w.ownsRow base t 2 v l.length (scs l)) (g c : Nat) (p q : Int) (hxv : a.eval x = .slice (some ⟨g, 0, none⟩) 1 c) (hs : Bx w g t p q)
    (h63 : l.length ≤ 1000000000000) (hbase : base ≤ w.heap.size)
    (h : ∀ v' w', w'.ownsRow base t 2 v' (l ++ [(p, q)]).length (scs (l ++ [(p, q)])) → w.grownBy w' v.ownBlock → (v'.ownBlock = v.ownBlock ∨ v'.ownBlock = some w.heap.size) → wpList Try.prog ops Q rest (a.put o.dst v') w') : wpList Try.prog ops Q (o :: rest) a w := by
  obtain ⟨i, hi, hz, hsz, hby⟩ := info_parts hi
  refine wpList_append_own_at (P := Try.prog) w hgd s x T ho base t i _ 2 16 ht hi hz hsz hby rfl (by decide) v l.length _ hsv hown ⟨g, 0, none⟩ 1 c [.int .i64 p, .int .i64 q] hxv rfl (fun j y hj => ?_) (by simp [Value.oneCell']) (by unfold maxLen; omega) (by omega) hbase (fun v' w' q1 q2 _ q4 => h v' w' ?_ q2 q4)
  · obtain ⟨r1, r2⟩ := hs.cells2
    have hadd : ∀ j, (⟨g, 0, none⟩ : Addr).add j = ⟨g, j, none⟩ := fun j => by unfold Addr.add; split <;> simp_all
    rw [hadd]
    match j with
    | 0 => simp at hj; subst hj; exact r1
    | 1 => simp at hj; subst hj; exact r2
    | j + 2 => simp at hj
  · rw [List.length_append, scs_app]
    exact q1
def cntP (w : World) : Value → Nat
  | .pointer (some p) => match w.cell? ⟨p.block, 1, none⟩ with
    | some (.int _ n) => n.toNat
    | _ => 0
  | _ => 0
theorem cntP_of {w : World} {g : Nat} {t : TypeId} {a n : Int} (h : Bx w g t a n) : cntP w (.pointer (some ⟨g, 0, none⟩)) = n.toNat := by
  unfold cntP
  simp only [h.cells2.2]

set_option maxHeartbeats 2000000 in
theorem cover_any (v : Value) (l : SL) (a n : Int) (w : World) (hv : Sps w v l) (ho : OkL l) (hn : i64 n) :
    Calls Try.prog 25 #[v, spV a n] w fun e w' => ∃ v', e = .returned (.tuple #[v', .bool (covR l a n).isSome]) ∧ w'.ownsRow w.heap.size 67 2 v' ((covR l a n).getD []).length (scs ((covR l a n).getD [])) ∧ Below w.heap.size w w' := by
  obtain ⟨av, cap, rfl, -⟩ := id hv
  have C1 := hidden (fun w => taken_any a n w hn)
  have C2 := hidden (fun w' (h : Sps w' (.slice av l.length cap) l) => all_any _ l w' h ho)
  have B1 := hidden (Bx.new w 67 a n)
  have W1 := hidden (fun o => (Below.refl w.heap.size w).alloc (Nat.le_refl _) o)
  cases t1 : tk a n
  · rw [t1] at C1
    have e : covR l a n = none := by simp [covR, t1]
    simp only [e]
    clear C2
    go_enter Try.func25, Try.ntmps25
    go_wp2_with fail
    refine (C1.out _).mono ?_
    rintro e w1 ⟨rfl, Ba⟩
    replace Ba := below_then (W1.out _) Ba
    go_wp2
    refine bodyPost_ret (v := _) (by simp [results, Try.results25, go_sem]; with_reducible rfl) rfl ?_
    exact ⟨_, rfl, owns_nilS _ _ _, Ba⟩
  · rw [t1] at C1
    cases t2 : allB l
    · rw [t2] at C2
      have e : covR l a n = none := by simp [covR, t2]
      simp only [e]
      go_enter Try.func25, Try.ntmps25
      go_wp2_with fail
      refine (C1.out _).mono ?_
      rintro e w1 ⟨rfl, Ba⟩
      replace Ba := below_then (W1.out _) Ba
      go_wp2_with fail
      refine (C2.out _ (hv.ext Ba)).mono ?_
      rintro e w2 ⟨rfl, Bb⟩
      replace Bb := below_then Ba Bb
      go_wp2
      refine bodyPost_ret (v := _) (by simp [results, Try.results25, go_sem]; with_reducible rfl) rfl ?_
      exact ⟨_, rfl, owns_nilS _ _ _, Bb⟩
    · rw [t2] at C2
      obtain ⟨Z, hZ⟩ : ∃ Z, covR l a n = Z := ⟨_, rfl⟩
      rw [hZ]
      have HZ : Hid (Z = (cov l a n).map (([] : SL) ++ ·)) := by
        show _ = _
        rw [← hZ]; simp [covR, t1, t2]
      clear hZ
      obtain ⟨g1, g2, g3⟩ := tk_iff.1 t1
      have HA := hidden t2
      clear t1 t2
      go_enter Try.func25, Try.ntmps25
      go_wp2_with fail
      refine (C1.out _).mono ?_
      rintro e w1 ⟨rfl, Ba⟩
      have x1 := B1.out.ext Ba
      replace Ba := below_then (W1.out _) Ba
      go_wp2_with fail
      refine (C2.out _ (hv.ext Ba)).mono ?_
      rintro e w2 ⟨rfl, Bb⟩
      replace x1 := x1.ext Bb
      replace Bb := below_then Ba Bb
      obtain ⟨c1, c2⟩ := x1.cells2
      have lt1 := x1.lt
      clear Ba C1 C2 B1 W1
      go_wp2
      go_loopw [6, 7] (fun z6 z7 wr => ∃ (o : SL) (b m : Int) (g : Nat), z7 = .pointer (some ⟨g, 0, none⟩) ∧ Bx wr g 67 b m ∧ w.heap.size ≤ g ∧ 0 ≤ m ∧ 0 ≤ b ∧ b + m ≤ 2147483648 ∧ (o.length : Int) + m ≤ 2147483648 ∧ wr.ownsRow w.heap.size 67 2 z6 o.length (scs o) ∧ z6.ownBlock ≠ some g ∧ Hid (Z = (cov l b m).map (o ++ ·)) ∧ Below w.heap.size w wr) (fun _ z7 wr => cntP wr z7)
      case atStart =>
        refine ⟨[], a, n, w2.heap.size, rfl, Bx.new w2 67 a n, Bb.size, by omega, by omega, by omega, by simp; omega, owns_nilS _ _ _, by simp [Value.ownBlock], HZ, Bb.alloc Bb.size _⟩
      case round =>
        clear c1 c2 lt1 x1
        obtain ⟨o, b, m, g, rfl, bx, hg, m0, b0, bm, om, own, nb, HC, hb⟩ := hrel
        obtain ⟨c1, c2⟩ := bx.cells2
        have glt := bx.lt
        have Mcnt := hidden (cntP_of bx)
        by_cases hm : 0 < m
        · have tb : tk b m = true := tk_iff.2 ⟨b0, by omega, bm⟩
          have C := hidden (piece_any _ l b m wr (hv.ext hb) HA.out tb)
          have d1 : decide (0 < m) = true := by simpa using hm
          cases hf : fnd l b with
          | none =>
            simp only [pieceV, hf] at C
            have e : Hid (Z = none) := by
              show _ = _
              rw [HC.out, cov_none hm hf]; rfl
            obtain rfl := e.out
            clear hf tb
            go_wp2_with fail
            refine C.out.mono ?_
            rintro e w3 ⟨rfl, Bc⟩
            replace Bc := below_then hb Bc
            go_wp2
            refine bodyPost_ret (v := _) (by simp [results, Try.results25, go_sem]; with_reducible rfl) rfl ?_
            exact ⟨_, rfl, owns_nilS _ _ _, Bc.alloc Bc.size _⟩
          | some x =>
            simp only [pieceV, hf] at C
            have pp := pcN_pos (fnd_has hf).1 hm
            have HC2 : Hid (Z = (cov l (b + pcN x b m) (m - pcN x b m)).map ((o ++ [(b, pcN x b m)]) ++ ·)) := by
              show _ = _
              rw [HC.out, cov_some hm hf]
              cases cov l (b + pcN x b m) (m - pcN x b m) <;> simp
            clear hf tb HC
            generalize pcN x b m = k at *
            obtain ⟨p1, p2⟩ := pp
            have k1 : -9223372036854775808 ≤ m - k ∧ m - k ≤ 9223372036854775807 := by omega
            go_wp2_with fail
            refine C.out.mono ?_
            rintro e w3 ⟨rfl, Bc⟩
            have sz3 := Bc.size
            replace bx := bx.ext Bc
            replace own := owns_belowS own Bc
            replace Bc := below_then hb Bc
            clear C hb c1 c2
            have by8 := Bx.new w3 67 b k
            have bx4 := bx.alloc (.cells #[.int .i64 b, .int .i64 k] 67)
            have own4 := owns_belowS own ((Below.refl w3.heap.size w3).alloc (Nat.le_refl _) (.cells #[.int .i64 b, .int .i64 k] 67))
            have Bd := Bc.alloc Bc.size (.cells #[.int .i64 b, .int .i64 k] 67)
            have olt := own.lt
            go_wp2_with (at_builtin; refine wpList_pushS rfl (.tmp 30) (.tmp 32) 62 67 rfl w.heap.size Try.underlying62 info_sp rfl (owns_belowS own4 ((Below.refl _ _).alloc (Nat.le_refl _) (.cells #[.int .i64 b, .int .i64 k] 67))) (w3.heap.size + 1) 1 b k rfl ?q1 ?q2 ?q3 ?q4)
            case q1 =>
              have := Bx.new (w3.alloc (.cells #[.int .i64 b, .int .i64 k] 67)) 67 b k
              simpa using this
            case q2 => omega
            case q3 => simp; have := Bc.size; omega
            case q4 =>
              intro v' w5 own5 gr5 ob5
              have ne8 : Value.ownBlock _ ≠ some w3.heap.size := fun e => absurd (olt _ e).2 (by omega)
              have b7 := (bx4.alloc (.cells #[.int .i64 b, .int .i64 k] 67)).grown gr5 nb
              have b8 := (by8.alloc (.cells #[.int .i64 b, .int .i64 k] 67)).grown gr5 ne8
              have Be := (Bd.alloc Bd.size (.cells #[.int .i64 b, .int .i64 k] 67)).grown gr5 (by have := Bc.size; simp; omega) (fun k hk => (olt k hk).1)
              have nb5 : v'.ownBlock ≠ some g := by
                rcases ob5 with h | h
                · rw [h]; exact nb
                · rw [h]; simp; omega
              clear gr5 ob5 own4 by8 bx4 Bd own olt nb bx
              go_wp2
              refine c_begin 9 rfl (by kernel_rfl) ?_
              replace b7 := b7.drew
              replace b8 := b8.drew
              replace Be := Be.drew
              replace own5 := owns_belowS own5 (Below.refl w5.heap.size w5).drew
              have E0 := Ext.refl w5.drew
              generalize w5.drew = c0 at *
              generalize w3.heap.size = g8 at *
              refine c_read (fun w' => Ext c0 w') E0 trivial (by kernel_rfl) (fun _ _ _ d _ h => by cases d <;> exact h) 0 rfl (by kernel_rfl) (by kernel_rfl) (fun w' hx => by obtain ⟨q1, q2⟩ := (b8.ext hx).cells2; go_simp; with_reducible rfl) ?_; try simp only [Act.put, List.setIfInBounds_toArray, List.set_cons_zero, List.set_cons_succ]
              refine c_pure ⟨E0, trivial⟩ (by kernel_rfl) (fun _ _ _ d _ h => by cases d <;> exact h) 2 rfl (by kernel_rfl) (by kernel_rfl) (fun w' => by go_simp; with_reducible rfl) ?_; try simp only [Act.put, List.setIfInBounds_toArray, List.set_cons_zero, List.set_cons_succ]
              refine c_read (fun w' => Ext c0 w') E0 ⟨E0, trivial⟩ (by kernel_rfl) (fun _ _ _ d _ h => by cases d <;> exact h) 3 rfl (by kernel_rfl) (by kernel_rfl) (fun w' hx => by obtain ⟨q1, q2⟩ := (b7.ext hx).cells2; go_simp; with_reducible rfl) ?_; try simp only [Act.put, List.setIfInBounds_toArray, List.set_cons_zero, List.set_cons_succ]
              refine c_pure ⟨E0, E0, trivial⟩ (by kernel_rfl) (fun _ _ _ d _ h => by cases d <;> exact h) 4 rfl (by kernel_rfl) (by kernel_rfl) (fun w' => by go_simp; with_reducible rfl) ?_; try simp only [Act.put, List.setIfInBounds_toArray, List.set_cons_zero, List.set_cons_succ]
              refine c_read (fun w' => Ext c0 w') E0 ⟨E0, E0, trivial⟩ (by kernel_rfl) (fun _ _ _ d _ h => by cases d <;> exact h) 5 rfl (by kernel_rfl) (by kernel_rfl) (fun w' hx => by obtain ⟨q1, q2⟩ := (b8.ext hx).cells2; go_simp; with_reducible rfl) ?_; try simp only [Act.put, List.setIfInBounds_toArray, List.set_cons_zero, List.set_cons_succ]
              refine c_pure (v := .int .i64 (m - k)) ⟨E0, E0, E0, trivial⟩ (by kernel_rfl) (fun _ _ _ d _ h => by cases d <;> exact h) 6 rfl (by kernel_rfl) (by kernel_rfl) (fun w' => by go_simp; first | done | exact IntWalk.i64_in _ k1) ?_; try simp only [Act.put, List.setIfInBounds_toArray, List.set_cons_zero, List.set_cons_succ]
              refine c_move 1 (by kernel_rfl) (c_op 1 [(5, (fun w' => Ext c0 w')), (3, (fun w' => Ext c0 w'))] (by kernel_rfl) rfl (by kernel_rfl) (fun K hK => ?_))
              go_wp2_with fail
              refine (end_any b k _ (by unfold i64; omega)).mono ?_
              rintro e w6 ⟨rfl, Bf⟩
              have E1 : Ext c0 w6 := Bf
              go_simp
              refine hK.out _ _ ⟨E1, E1, trivial⟩ ?_
              try simp only [Act.put, List.setIfInBounds_toArray, List.set_cons_zero, List.set_cons_succ]
              clear hK K
              refine c_pure ⟨E1, E1, trivial⟩ (by kernel_rfl) (fun _ _ _ d _ h => by cases d <;> exact h) 7 rfl (by kernel_rfl) (by kernel_rfl) (fun w' => by go_simp; with_reducible rfl) ?_; try simp only [Act.put, List.setIfInBounds_toArray, List.set_cons_zero, List.set_cons_succ]
              replace b7 := b7.ext Bf
              replace own5 := owns_belowS own5 Bf
              replace Be := below_then Be Bf
              obtain ⟨r1, r2, r3, r4⟩ := b7.cells
              refine c_move 8 (by kernel_rfl) (c_op 8 [] (by kernel_rfl) rfl (by kernel_rfl) (fun K hK => ?_))
              go_wp2_with fail
              go_simp
              refine hK.out _ _ trivial ?_
              try simp only [Act.put, List.setIfInBounds_toArray, List.set_cons_zero, List.set_cons_succ]
              clear hK K
              refine c_done (by kernel_rfl) ?_
              replace b7 := b7.set (b + k) (m - k)
              replace own5 := owns_set2 (u := .int .i64 (m - k)) (owns_set2 (u := .int .i64 (b + k)) own5 g 0 nb5) g 1 nb5
              replace Be := (Be.setCell (p := ⟨g, 0, none⟩) (by simpa using hg) (.int .i64 (b + k))).setCell (p := ⟨g, 1, none⟩) (by simpa using hg) (.int .i64 (m - k))
              generalize (w6.setCell ⟨g, 0, none⟩ (.int .i64 (b + k))).setCell ⟨g, 1, none⟩ (.int .i64 (m - k)) = w7 at *
              clear r1 r2 r3 r4 b8 E0 E1 Bf
              obtain ⟨r1, r2⟩ := b7.cells2
              have g7 := b7.lt
              go_wp2
              go_roundw
              case rel =>
                refine ⟨o ++ [(b, k)], b + k, m - k, w7.heap.size, rfl, Bx.new w7 67 (b + k) (m - k), Be.size, by omega, by omega, by omega, by simp; omega, (by rw [List.length_append]; exact owns_belowS own5 ((Below.refl _ _).alloc (Nat.le_refl _) _)), ?_, HC2, Be.alloc Be.size _⟩
                intro e
                have := (own5.lt _ e).2
                omega
              case measure =>
                rw [cntP_of (Bx.new w7 67 (b + k) (m - k)), Mcnt.out]
                omega
        · have d1 : decide (0 < m) = false := by simpa using hm
          have e : Hid (Z = some o) := by
            show _ = _
            rw [HC.out, cov_zero (by omega)]; simp
          obtain rfl := e.out
          go_wp2
          refine bodyPost_ret (v := _) (by simp [results, Try.results25, go_sem]; with_reducible rfl) rfl ?_
          exact ⟨_, rfl, own, hb⟩

end Go.Proofs.Ytpahipoooiaoeaa
