/- Contracts of window.Map and Back. -/
import Derived.Test.YtpahipoooiaoeaaWC
namespace Go.Proofs.Ytpahipoooiaoeaa
open Go.RowKit

theorem covF_len (l : SL) : ∀ (f : Nat) (a n : Int) (c : SL), covF l f a n = some c → c.length ≤ f
  | 0, a, n, c, h => by
    unfold covF at h
    cases h
    simp
  | f + 1, a, n, c, h => by
    unfold covF at h
    split at h
    · cases h; simp
    · split at h
      · cases h
      · rename_i x _
        cases e : covF l f (a + pcN x a n) (n - pcN x a n) with
        | none => rw [e] at h; cases h
        | some d =>
          rw [e] at h
          cases h
          have := covF_len l f _ _ d e
          simp; omega
theorem covR_len {l c : SL} {a n : Int} (h : covR l a n = some c) : c.length ≤ 2147483648 := by
  unfold covR at h
  split at h
  · rename_i t
    simp only [Bool.and_eq_true] at t
    have := (tk_iff.1 t.1).2.2
    have h0 := (tk_iff.1 t.1).1
    have := covF_len _ _ _ _ _ h
    omega
  · cases h
theorem sel_ok (s : Int) (l : WL) : ∀ x ∈ sel s l, wR x = true := fun _x hx => (sel_mem hx).2.1
theorem info_pc : (Try.prog.info? 36).map (fun i => (i.zero, i.size, i.bytes)) = some (some (.agg #[.int .i64 0, .int .i64 0, .int .i64 0]), 3, 24) := by kernel_rfl
theorem lay_get {l : WL} {c : SL} {k : Nat} {p q : Int} (h : c[k]? = some (p, q)) : (lay l c)[k]? = some (p, liesI l p, q) := by simp [lay, h]
theorem lay_len (l : WL) (c : SL) : (lay l c).length = c.length := by simp [lay]
theorem Sps.get {w : World} {a : Option Addr} {n cap : Nat} {l : SL} (h : Sps w (.slice a n cap) l) {i : Nat} {p q : Int} (hx : l[i]? = some (p, q)) : ∃ b off, a = some ⟨b, off, none⟩ ∧ w.cell? ⟨b, off + i * 2, none⟩ = some (.int .i64 p) ∧ w.cell? ⟨b, off + i * 2 + 1, none⟩ = some (.int .i64 q) := by
  obtain ⟨e, -, -, hc⟩ := h.at
  have hi : i < n := by rw [e]; exact lt_of_get hx
  obtain ⟨b, off, rfl, hd⟩ := hc i hi
  have := hd i hi
  have e2 : l.getD i (0, 0) = (p, q) := by simp [List.getD_eq_getElem?_getD, hx]
  rw [e2] at this
  exact ⟨b, off, rfl, this⟩

set_option maxHeartbeats 2000000 in
theorem map_any (v : Value) (l : WL) (sp a n : Int) (w : World) (hv : Wns w v l) (ho : OkW l) (hn : i64 n) (hlen : l.length ≤ 1000000) :
    Calls Try.prog 11 #[v, .int .i64 sp, .int .i64 a, .int .i64 n] w fun e w' => ∃ v', e = .returned (.tuple #[v', .bool (mapE l sp a n).isSome]) ∧ Pcs w' v' ((mapE l sp a n).getD []) ∧ ((mapE l sp a n).getD []).length ≤ 2147483648 ∧ Below w.heap.size w w' := by
  have HV := hidden hv
  obtain ⟨av, cap, rfl, -⟩ := id hv
  have C1 := hidden (fun w' (h : Wns w' (.slice av l.length cap) l) => wrights_any _ l w' h ho hlen)
  have C2 := hidden (fun v w' (h : Wns w' v (l.filter wR)) => wof_any v _ sp w' h (ho.filter _) (Nat.le_trans (List.length_filter_le _ _) hlen))
  have hsl : (sel sp l).length ≤ 1000000 := Nat.le_trans (List.length_filter_le _ _) (Nat.le_trans (List.length_filter_le _ _) hlen)
  have C3 := hidden (fun v w' (h : Wns w' v (sel sp l)) => vspans_any v _ w' h hsl)
  have C4 := hidden (fun v w' (h : Sps w' v (virt (sel sp l))) => cover_any v _ a n w' h (virt_ok (sel_ok sp l)).1 hn)
  have CL := hidden (fun v a w' (h : Wns w' v (sel sp l)) => lies_any v _ a w' h (sel_ok sp l))
  obtain ⟨R, hR⟩ : ∃ R, covR (virt (sel sp l)) a n = R := ⟨_, rfl⟩
  have RL : Hid (∀ c, R = some c → c.length ≤ 2147483648) := fun c h => covR_len (hR.trans h)
  have E : mapE l sp a n = R.map (lay (sel sp l)) := by rw [← hR]; rfl
  rw [E]
  rw [hR] at C4
  clear E hR ho hlen hsl
  have FS : Hid ((l.filter wR).filter (fun x => decide (x.1 = sp)) = sel sp l) := rfl
  go_enter Try.func11, Try.ntmps11
  go_wp2_with fail
  refine (C1.out _ HV.out).mono ?_
  rintro e w1 ⟨v1, rfl, o1, B1⟩
  have W1 := Lsf.of_owns wf_len (by decide) o1
  clear o1
  go_wp2_with fail
  refine (C2.out _ _ W1).mono ?_
  rintro e w2 ⟨v2, rfl, o2, B2⟩
  replace B2 := below_then B1 B2
  rw [FS.out] at o2
  have W2 := Lsf.of_owns wf_len (by decide) o2
  clear o2 W1 B1 FS C1 C2
  go_wp2_with fail
  refine (C3.out _ _ W2).mono ?_
  rintro e w3 ⟨v3, rfl, S3, B3⟩
  replace W2 := W2.ext B3
  replace B3 := below_then B2 B3
  clear B2 C3
  go_wp2_with fail
  refine (C4.out _ _ S3).mono ?_
  rintro e w4 ⟨v4, rfl, o4, B4⟩
  have S4 := Sps.of_owns o4
  replace W2 := W2.ext B4
  replace B4 := below_then B3 B4
  clear o4 S3 B3 C4
  cases R with
  | none =>
    go_wp2
    refine bodyPost_ret (v := _) (by simp [results, Try.results11, go_sem]; with_reducible rfl) rfl ?_
    exact ⟨_, rfl, Lsf.nil _, by simp, B4⟩
  | some c =>
    simp only [Option.isSome_some, Option.getD_some] at S4 ⊢
    have hcl := RL.out c rfl
    clear RL
    obtain ⟨ac, capc, rfl, -⟩ := id S4
    obtain ⟨-, hc4, hm4, -⟩ := S4.at
    unfold maxLen at hm4
    have hmk := fun u => mk_rec 32 36 (.agg #[.int .i64 0, .int .i64 0, .int .i64 0]) 3 24 Try.underlying32 info_pc (c.length : Int) c.length rfl (by omega) (by omega) u
    obtain ⟨xs, hxl, hb0⟩ := madS_blk w4 (.agg #[.int .i64 0, .int .i64 0, .int .i64 0]) (c.length * 3) 36
    have M4 := (Below.refl w4.heap.size w4).alloc (Nat.le_refl _) (.cells (madS (.agg #[.int .i64 0, .int .i64 0, .int .i64 0]) (c.length * 3)) 36)
    have HW := hidden W2
    have HS := hidden S4
    have HB := hidden B4
    clear B4 W2 S4
    go_wp2
    clear hmk
    generalize w4.alloc (.cells (madS (.agg #[.int .i64 0, .int .i64 0, .int .i64 0]) (c.length * 3)) 36) = w5 at *
    go_loopw [36] (fun i wr => ∃ (k : Nat) (xs : List Value), k ≤ c.length ∧ i = .int .i64 k ∧ xs.length = c.length * 3 ∧ Blk wr w4.heap.size 36 xs ∧ Head 3 pf xs (lay (sel sp l) c) k ∧ Below w4.heap.size w4 wr) (fun i _ => c.length - (intOf i).toNat)
    case atStart => exact ⟨0, xs, Nat.zero_le _, rfl, hxl, hb0, Head.zero, M4⟩
    case round =>
      clear hxl hb0 M4 xs
      obtain ⟨k, xs, hk, rfl, hxl, hbk, hd, hb⟩ := hrel
      by_cases hlt : k < c.length
      · obtain ⟨⟨p, q⟩, hx⟩ := getx hlt
        obtain ⟨b, off, rfl, c0, c1⟩ := (HS.out.ext hb).get hx
        have hlt' : (k : Int) < (c.length : Int) := by omega
        have C := hidden (fun w' h => CL.out v2 p w' h)
        have HD := hidden (hd.set3 (lay_get (l := sel sp l) hx) (by omega))
        generalize liesI (sel sp l) p = P at *
        have b0 := Bx.new wr 67 p q
        have hb0 := hb.alloc hb.size (.cells #[.int .i64 p, .int .i64 q] 67)
        replace hbk := hbk.alloc (.cells #[.int .i64 p, .int .i64 q] 67)
        clear hd hb
        go_wp2
        refine c_begin 13 rfl (by kernel_rfl) ?_
        replace b0 := b0.drew
        replace hb0 := hb0.drew
        replace hbk := hbk.drew
        clear c0 c1
        generalize wr.heap.size = g5 at *
        generalize (wr.alloc (.cells #[.int .i64 p, .int .i64 q] 67)).drew = w6 at *
        refine c_P trivial 0 rfl ?_
        refine c_P trivial 1 rfl ?_
        refine c_P trivial 2 rfl ?_
        refine c_R (fun w' => Bx w' g5 67 p q) b0 trivial 3 rfl (fun w' hx => by obtain ⟨q1, q2⟩ := hx.cells2; go_simp; with_reducible rfl) ?_
        refine c_P ⟨b0, trivial⟩ 4 rfl ?_
        refine c_P ⟨b0, trivial⟩ 5 rfl ?_
        refine c_R (fun w' => Bx w' g5 67 p q) b0 ⟨b0, trivial⟩ 6 rfl (fun w' hx => by obtain ⟨q1, q2⟩ := hx.cells2; go_simp; with_reducible rfl) ?_
        refine c_P ⟨b0, b0, trivial⟩ 8 rfl ?_
        refine c_R (fun w' => Bx w' g5 67 p q) b0 ⟨b0, b0, trivial⟩ 9 rfl (fun w' hx => by obtain ⟨q1, q2⟩ := hx.cells2; go_simp; with_reducible rfl) ?_
        refine c_move 7 (by kernel_rfl) (c_op 7 [(9, fun w' => Bx w' g5 67 p q), (3, fun w' => Bx w' g5 67 p q)] (by kernel_rfl) rfl (by kernel_rfl) (fun K hK => ?_))
        go_wp2_with fail
        refine (C.out _ (HW.out.ext hb0)).mono ?_
        rintro e w7 ⟨rfl, B7⟩
        go_simp
        replace b0 := b0.ext B7
        replace hb0 := below_then hb0 B7
        replace hbk := hbk.below B7 hbk.lt
        refine hK.out _ _ ⟨b0, b0, trivial⟩ ?_
        try simp only [Act.put, List.setIfInBounds_toArray, List.set_cons_zero, List.set_cons_succ]
        clear hK K B7
        refine c_P ⟨b0, b0, trivial⟩ 10 rfl ?_
        refine c_P ⟨b0, b0, trivial⟩ 11 rfl ?_
        obtain ⟨u0, r0⟩ := hbk.some (k * 3) (by omega)
        obtain ⟨u1, r1⟩ := hbk.some (k * 3 + 1) (by omega)
        obtain ⟨u2, r2⟩ := hbk.some (k * 3 + 2) (by omega)
        have f0 := hbk.frozen (k * 3)
        have f1 := hbk.frozen (k * 3 + 1)
        have f2 := hbk.frozen (k * 3 + 2)
        refine c_move 12 (by kernel_rfl) (c_op 12 [] (by kernel_rfl) rfl (by kernel_rfl) (fun K hK => ?_))
        go_wp2_with fail
        go_simp
        refine hK.out _ _ trivial ?_
        try simp only [Act.put, List.setIfInBounds_toArray, List.set_cons_zero, List.set_cons_succ]
        clear hK K
        refine c_done (by kernel_rfl) ?_
        have bz := ((hbk.set (k * 3) (.int .i64 p)).set (k * 3 + 1) (.int .i64 P)).set (k * 3 + 2) (.int .i64 q)
        have Bz := ((hb0.setCell (p := ⟨w4.heap.size, k * 3, none⟩) (Nat.le_refl _) (.int .i64 p)).setCell (p := ⟨w4.heap.size, k * 3 + 1, none⟩) (Nat.le_refl _) (.int .i64 P)).setCell (p := ⟨w4.heap.size, k * 3 + 2, none⟩) (Nat.le_refl _) (.int .i64 q)
        go_wp2
        go_roundw
        case rel => exact ⟨k + 1, _, by omega, by go_num, by simp [hxl], bz, HD.out, Bz⟩
        case measure => simp [intOf]; omega
      · have e : k = c.length := by omega
        subst e
        go_wp2
        refine bodyPost_ret (v := _) (by simp [results, Try.results11, go_sem]; with_reducible rfl) rfl ?_
        refine ⟨_, rfl, Lsf.of_blk pf_len _ (lay_len _ _).symm (by unfold maxLen; omega) xs hbk ?_, by show (lay (sel sp l) c).length ≤ _; rw [lay_len]; exact hcl, below_then HB.out hb⟩
        intro i x hx
        exact hd i x (by rw [← lay_len (sel sp l)]; exact lt_of_get hx) hx

theorem find_sel {l : WL} {q : WN → Bool} {k : Nat} {x : WN} (hx : l[k]? = some x) (h0 : (l.take k).find? q = none) (h : q x = true) : l.find? q = some x := by
  have e : l = l.take (k + 1) ++ l.drop (k + 1) := (List.take_append_drop _ _).symm
  rw [e, List.find?_append, take_snoc hx, List.find?_append, h0]
  simp [h]
theorem find_snoc {l : WL} {q : WN → Bool} {k : Nat} {x : WN} (hx : l[k]? = some x) (h0 : (l.take k).find? q = none) (h : q x = false) : (l.take (k + 1)).find? q = none := by
  rw [take_snoc hx, List.find?_append, h0]
  simp [h]

set_option maxHeartbeats 2000000 in
theorem back_any (v : Value) (l : WL) (sp a : Int) (w : World) (hv : Wns w v l) (ho : OkW l) (hlen : l.length ≤ 1000000) :
    Calls Try.prog 12 #[v, .int .i64 sp, .int .i64 a] w fun e w' => e = .returned (.tuple #[.int .i64 ((backO l sp a).getD 0), .bool (backO l sp a).isSome]) ∧ Below w.heap.size w w' := by
  have HV := hidden hv
  obtain ⟨av, cap, rfl, -⟩ := id hv
  have C1 := hidden (fun w' (h : Wns w' (.slice av l.length cap) l) => wrights_any _ l w' h ho hlen)
  have C2 := hidden (fun v w' (h : Wns w' v (l.filter wR)) => wof_any v _ sp w' h (ho.filter _) (Nat.le_trans (List.length_filter_le _ _) hlen))
  have hsl : (sel sp l).length ≤ 1000000 := Nat.le_trans (List.length_filter_le _ _) (Nat.le_trans (List.length_filter_le _ _) hlen)
  obtain ⟨Z, hZ⟩ : ∃ Z, backO l sp a = Z := ⟨_, rfl⟩
  rw [hZ]
  have HZ : Hid (((sel sp l).find? fun x => hasB (pS x) a).map (fun x => x.2.1 + (a - x.2.2.1)) = Z) := hZ
  clear hZ ho hlen
  have FS : Hid ((l.filter wR).filter (fun x => decide (x.1 = sp)) = sel sp l) := rfl
  have SO := hidden (sel_ok sp l)
  go_enter Try.func12, Try.ntmps12
  go_wp2_with fail
  refine (C1.out _ HV.out).mono ?_
  rintro e w1 ⟨v1, rfl, o1, B1⟩
  have W1 := Lsf.of_owns wf_len (by decide) o1
  clear o1
  go_wp2_with fail
  refine (C2.out _ _ W1).mono ?_
  rintro e w2 ⟨v2, rfl, o2, B2⟩
  replace B2 := below_then B1 B2
  rw [FS.out] at o2
  have W2 := Lsf.of_owns wf_len (by decide) o2
  clear o2 W1 B1 FS C1 C2 HV hv
  generalize sel sp l = m at *
  obtain ⟨a2, cap2, rfl, -⟩ := id W2
  obtain ⟨-, hc2, hm2, -⟩ := W2.at
  unfold maxLen at hm2
  have HW := hidden W2
  have HB := hidden B2
  go_wp2
  go_loopw [15] (fun i wr => ∃ k : Nat, k ≤ m.length ∧ i = .int .i64 k ∧ Hid ((m.take k).find? (fun x => hasB (pS x) a) = none) ∧ Below w2.heap.size w2 wr) (fun i _ => m.length - (intOf i).toNat)
  case atStart => exact ⟨0, Nat.zero_le _, rfl, hidden rfl, Below.refl _ _⟩
  case round =>
    clear W2 B2
    obtain ⟨k, hk, rfl, HE, hb⟩ := hrel
    by_cases hlt : k < m.length
    · obtain ⟨⟨s, v, p, n⟩, hx⟩ := getx hlt
      obtain ⟨b, off, rfl, c0, c1, c2, c3⟩ := (HW.out.ext hb).wn hx
      have hlt' : (k : Int) < (m.length : Int) := by omega
      have hw := SO.out _ (List.mem_of_getElem? hx)
      have hr := wR_iff.1 hw
      have C := hidden (fun w => pspan_any s v p n w)
      have D := hidden (fun w => has_any p n a w (pS_tk hw) (by unfold i64; omega))
      have b0 := BxW.new wr s v p n
      have hb0 := hb.alloc hb.size (boxW s v p n)
      obtain ⟨q0, q1, q2, q3⟩ := b0.cells
      cases t : hasB (p, n) a
      · rw [t] at D
        have E2 := hidden (find_snoc (q := fun x => hasB (pS x) a) hx HE.out t)
        go_wp2_with fail
        refine (C.out _).mono ?_
        rintro e w3 ⟨rfl, B1⟩
        replace hb0 := below_then hb0 B1
        go_wp2_with fail
        refine (D.out _).mono ?_
        rintro e w4 ⟨rfl, B2⟩
        replace hb0 := below_then hb0 B2
        go_wp2
        go_roundw
        case rel => exact ⟨k + 1, by omega, by go_num, E2, hb0⟩
        case measure => simp [intOf]; omega
      · rw [t] at D
        have E2 : Z = some (v + (a - p)) := by
          rw [← HZ.out, find_sel (q := fun x => hasB (pS x) a) hx HE.out t]
          rfl
        subst E2
        have hh := hasB_iff.1 t
        simp only at hh
        go_wp2_with fail
        refine (C.out _).mono ?_
        rintro e w3 ⟨rfl, B1⟩
        replace hb0 := below_then hb0 B1
        replace b0 := b0.ext B1
        go_wp2_with fail
        refine (D.out _).mono ?_
        rintro e w4 ⟨rfl, B2⟩
        replace hb0 := below_then hb0 B2
        replace b0 := b0.ext B2
        clear q0 q1 q2 q3 c0 c1 c2 c3
        obtain ⟨q0, q1, q2, q3⟩ := b0.cells
        go_wp2
        refine bodyPost_ret (v := _) (by simp [results, Try.results12, go_sem]; with_reducible rfl) rfl ?_
        exact ⟨rfl, below_then HB.out hb0⟩
    · have e : m.take k = m := List.take_of_length_le (by omega)
      rw [e] at HE
      have E2 : Z = none := by
        rw [← HZ.out, HE.out]; rfl
      subst E2
      go_wp2
      refine bodyPost_ret (v := _) (by simp [results, Try.results12, go_sem]; with_reducible rfl) rfl ?_
      exact ⟨rfl, below_then HB.out hb⟩

end Go.Proofs.Ytpahipoooiaoeaa
