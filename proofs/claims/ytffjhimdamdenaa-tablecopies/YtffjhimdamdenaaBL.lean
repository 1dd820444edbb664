/- Contracts of burgageref11's Same and Equal. -/
import Derived.Test.YtffjhimdamdenaaBE
namespace Go.Proofs.Ytffjhimdamdenaa
open Go.RowKit

theorem cell_keep {w w' : World} {a : Addr} {v : Value} (h : Below w.heap.size w w') (hc : w.cell? a = some v) : w'.cell? a = some v := by
  rw [← hc]
  exact World.cell?_of_block (h.block _ (World.block_lt_of_cell? w a hc))
theorem cells5 {w w' : World} {a b c d e : Addr} {p q r s t : Value} (h : Below w.heap.size w w') (h0 : w.cell? a = some p) (h1 : w.cell? b = some q) (h2 : w.cell? c = some r) (h3 : w.cell? d = some s) (h4 : w.cell? e = some t) :
    w'.cell? a = some p ∧ w'.cell? b = some q ∧ w'.cell? c = some r ∧ w'.cell? d = some s ∧ w'.cell? e = some t := ⟨cell_keep h h0, cell_keep h h1, cell_keep h h2, cell_keep h h3, cell_keep h h4⟩
set_option maxHeartbeats 8000000 in
theorem rsame_any (x y : Tn) (vw vs uw us : Value) (w : World) (hw : Wns w vw x.ws) (hs : Sts w vs x.ss) (kw : Wns w uw y.ws) (ks : Sts w us y.ss) :
    Calls Try.prog 24 #[tnV x vw vs, tnV y uw us] w fun e w' => e = .returned (.bool (sameB x y)) ∧ Below w.heap.size w w' := by
  obtain ⟨a1, c1, rfl, -⟩ := id hw
  obtain ⟨a2, c2, rfl, -⟩ := id hs
  obtain ⟨a3, c3, rfl, -⟩ := id kw
  obtain ⟨a4, c4, rfl, -⟩ := id ks
  obtain ⟨-, b1, m1, -⟩ := hw.at
  obtain ⟨-, b2, m2, -⟩ := hs.at
  obtain ⟨-, b3, m3, -⟩ := kw.at
  obtain ⟨-, b4, m4, -⟩ := ks.at
  unfold maxLen at m1 m2 m3 m4
  obtain ⟨X, Y, B⟩ := twoT w x y (.slice a1 x.ws.length c1) (.slice a2 x.ss.length c2) (.slice a3 y.ws.length c3) (.slice a4 y.ss.length c4)
  have HW := hidden hw
  have HS := hidden hs
  have KW := hidden kw
  have KS := hidden ks
  obtain ⟨Z, hZ⟩ : ∃ Z, sameB x y = Z := ⟨_, rfl⟩
  rw [hZ]
  have HZ : Hid ((decide (x.u = y.u) && decide (x.f = y.f) && decide (x.q = y.q) && decide (x.ws = y.ws) && decide (x.ss = y.ss)) = Z) := hZ
  clear hZ hw hs kw ks
  obtain ⟨p0, p1, p2, p3, p4⟩ := X.cells
  obtain ⟨q0, q1, q2, q3, q4⟩ := Y.cells
  by_cases h0 : x.u = y.u
  rotate_left
  · have d : (x.u != y.u) = true := by simpa using h0
    have d' : (x.u == y.u) = false := by simpa using h0
    have E2 : Z = false := by rw [← HZ.out]; simp [h0]
    subst E2
    go_enter Try.func24, Try.ntmps24
    go_wp2
    go_ret
    exact ⟨rfl, B⟩
  have d0 : (x.u != y.u) = false := by simpa using h0
  have d0' : (x.u == y.u) = true := by simpa using h0
  have H0 := hidden h0
  clear h0
  by_cases h1 : x.f = y.f
  rotate_left
  · have d : (x.f != y.f) = true := by simpa using h1
    have d' : (x.f == y.f) = false := by simpa using h1
    have E2 : Z = false := by rw [← HZ.out]; simp [h1]
    subst E2
    go_enter Try.func24, Try.ntmps24
    go_wp2
    go_ret
    exact ⟨rfl, B⟩
  have d1 : (x.f != y.f) = false := by simpa using h1
  have d1' : (x.f == y.f) = true := by simpa using h1
  have H1 := hidden h1
  clear h1
  by_cases h2 : x.q = y.q
  rotate_left
  · have d : (x.q != y.q) = true := by simpa using h2
    have d' : (x.q == y.q) = false := by simpa using h2
    have E2 : Z = false := by rw [← HZ.out]; simp [h2]
    subst E2
    go_enter Try.func24, Try.ntmps24
    go_wp2
    go_ret
    exact ⟨rfl, B⟩
  have d2 : (x.q != y.q) = false := by simpa using h2
  have d2' : (x.q == y.q) = true := by simpa using h2
  have H2 := hidden h2
  clear h2
  by_cases h3 : x.ws.length = y.ws.length
  rotate_left
  · have d : ((x.ws.length : Int) != (y.ws.length : Int)) = true := bne_iff_ne.2 (by omega)
    have d' : ((x.ws.length : Int) == (y.ws.length : Int)) = false := by simp; omega
    have E2 : Z = false := by rw [← HZ.out, decF (fun h : x.ws = y.ws => h3 (by rw [h]))]; simp
    subst E2
    go_enter Try.func24, Try.ntmps24
    go_wp2
    go_ret
    exact ⟨rfl, B⟩
  have d3 : ((x.ws.length : Int) != (y.ws.length : Int)) = false := by simp; omega
  have d3' : ((x.ws.length : Int) == (y.ws.length : Int)) = true := by simp; omega
  have L3 := hidden h3
  clear h3
  by_cases h4 : x.ss.length = y.ss.length
  rotate_left
  · have d : ((x.ss.length : Int) != (y.ss.length : Int)) = true := bne_iff_ne.2 (by omega)
    have d' : ((x.ss.length : Int) == (y.ss.length : Int)) = false := by simp; omega
    have E2 : Z = false := by rw [← HZ.out, decF (fun h : x.ss = y.ss => h4 (by rw [h]))]; simp
    subst E2
    go_enter Try.func24, Try.ntmps24
    go_wp2
    go_ret
    exact ⟨rfl, B⟩
  have d4 : ((x.ss.length : Int) != (y.ss.length : Int)) = false := by simp; omega
  have d4' : ((x.ss.length : Int) == (y.ss.length : Int)) = true := by simp; omega
  have L4 := hidden h4
  clear h4
  have HZ2 : Hid ((decide (x.ws = y.ws) && decide (x.ss = y.ss)) = Z) := hidden (by
    have h := HZ.out
    rw [decide_eq_true H0.out, decide_eq_true H1.out, decide_eq_true H2.out] at h
    simpa using h)
  clear HZ
  go_enter Try.func24, Try.ntmps24
  go_wp2
  clear p0 p1 p2 p3 p4 q0 q1 q2 q3 q4 d0 d1 d2 d3 d4 d0' d1' d2' d3' d4' H0 H1 H2
  go_loopw [47] (fun i wr => ∃ k : Nat, k ≤ x.ws.length ∧ i = .int .i64 k ∧ Hid (x.ws.take k = y.ws.take k) ∧ BxT wr w.heap.size x (.slice a1 x.ws.length c1) (.slice a2 x.ss.length c2) ∧ BxT wr (w.heap.size + 1) y (.slice a3 y.ws.length c3) (.slice a4 y.ss.length c4) ∧ Below w.heap.size w wr) (fun i _ => x.ws.length - (intOf i).toNat)
  case atStart => exact ⟨0, Nat.zero_le _, rfl, hidden rfl, X, Y, B⟩
  case round =>
    clear X Y B
    obtain ⟨k, hk, rfl, HE, X, Y, hb⟩ := hrel
    by_cases hlt : k < x.ws.length
    · have hlt2 : k < y.ws.length := by have := L3.out; omega
      obtain ⟨⟨x0, x1, x2, x3⟩, hx⟩ := getx hlt
      obtain ⟨⟨y0, y1, y2, y3⟩, hy⟩ := getx hlt2
      obtain ⟨b, off, rfl, c00, c10, c20, c30⟩ := (HW.out.ext hb).wn hx
      obtain ⟨b', off', rfl, e00, e10, e20, e30⟩ := (KW.out.ext hb).wn hy
      have hlt' : (k : Int) < (x.ws.length : Int) := by omega
      have hlt2' : (k : Int) < (y.ws.length : Int) := by omega
      have HX := hidden hx
      have HY := hidden hy
      clear hx hy
      obtain ⟨p0, p1, p2, p3, p4⟩ := X.cells
      obtain ⟨q0, q1, q2, q3, q4⟩ := Y.cells
      by_cases hne : x0 = y0
      rotate_left
      · have E2 : Z = false := by have h := HZ2.out; rw [decF (ne_of_take HX.out HY.out (by simp [hne]))] at h; exact h.symm
        have d : (x0 == y0) = false := by simpa using hne
        subst E2
        clear hne
        go_wp2
        go_quiet (fail)
        go_wp2
        go_ret
        exact ⟨rfl, below_drewn hb _⟩
      subst hne
      by_cases hne : x1 = y1
      rotate_left
      · have E2 : Z = false := by have h := HZ2.out; rw [decF (ne_of_take HX.out HY.out (by simp [hne]))] at h; exact h.symm
        have d : (x1 == y1) = false := by simpa using hne
        subst E2
        clear hne
        go_wp2
        go_quiet (fail)
        go_wp2
        go_ret
        exact ⟨rfl, below_drewn hb _⟩
      subst hne
      by_cases hne : x2 = y2
      rotate_left
      · have E2 : Z = false := by have h := HZ2.out; rw [decF (ne_of_take HX.out HY.out (by simp [hne]))] at h; exact h.symm
        have d : (x2 == y2) = false := by simpa using hne
        subst E2
        clear hne
        go_wp2
        go_quiet (fail)
        go_wp2
        go_ret
        exact ⟨rfl, below_drewn hb _⟩
      subst hne
      by_cases hne : x3 = y3
      rotate_left
      · have E2 : Z = false := by have h := HZ2.out; rw [decF (ne_of_take HX.out HY.out (by simp [hne]))] at h; exact h.symm
        have d : (x3 == y3) = false := by simpa using hne
        subst E2
        clear hne
        go_wp2
        go_quiet (fail)
        go_wp2
        go_ret
        exact ⟨rfl, below_drewn hb _⟩
      subst hne
      have E2 := hidden (eq_take HX.out HY.out HE.out)
      go_wp2
      go_quiet (fail)
      go_wp2
      go_roundw
      case rel => exact ⟨k + 1, by omega, by go_num, E2, X.ext (drewN_blk wr _), Y.ext (drewN_blk wr _), below_drewn hb _⟩
      case measure => simp [intOf]; omega
    · have e : x.ws = y.ws := by
        have e := HE.out
        have hL := L3.out
        rw [List.take_of_length_le (by omega), List.take_of_length_le (by omega)] at e
        exact e
      have HZ3 : Hid (decide (x.ss = y.ss) = Z) := hidden (by
        have h := HZ2.out
        rw [decide_eq_true e, Bool.true_and] at h
        exact h)
      clear HZ2 e HE
      obtain ⟨wo, hwo⟩ : ∃ wo, wo = wr := ⟨_, rfl⟩
      subst hwo
      obtain ⟨p0, p1, p2, p3, p4⟩ := X.cells
      go_wp2
      clear p0 p1 p2 p3 p4
      go_loopw [65] (fun i wr => ∃ k : Nat, k ≤ x.ss.length ∧ i = .int .i64 k ∧ Hid (x.ss.take k = y.ss.take k) ∧ BxT wr w.heap.size x (.slice a1 x.ws.length c1) (.slice a2 x.ss.length c2) ∧ BxT wr (w.heap.size + 1) y (.slice a3 y.ws.length c3) (.slice a4 y.ss.length c4) ∧ Below w.heap.size w wr) (fun i _ => x.ss.length - (intOf i).toNat)
      case atStart => exact ⟨0, Nat.zero_le _, rfl, hidden rfl, X, Y, hb⟩
      case round =>
        clear X Y hb hk hlt
        obtain ⟨k, hk, rfl, HE, X, Y, hb⟩ := hrel
        by_cases hlt : k < x.ss.length
        · have hlt2 : k < y.ss.length := by have := L4.out; omega
          obtain ⟨⟨x0, x1⟩, hx⟩ := getx hlt
          obtain ⟨⟨y0, y1⟩, hy⟩ := getx hlt2
          obtain ⟨b, off, rfl, c00, c10⟩ := (HS.out.ext hb).st hx
          obtain ⟨b', off', rfl, e00, e10⟩ := (KS.out.ext hb).st hy
          have hlt' : (k : Int) < (x.ss.length : Int) := by omega
          have hlt2' : (k : Int) < (y.ss.length : Int) := by omega
          have HX := hidden hx
          have HY := hidden hy
          clear hx hy
          obtain ⟨p0, p1, p2, p3, p4⟩ := X.cells
          obtain ⟨q0, q1, q2, q3, q4⟩ := Y.cells
          by_cases hne : x0 = y0
          rotate_left
          · have E2 : Z = false := by have h := HZ3.out; rw [decF (ne_of_take HX.out HY.out (by simp [hne]))] at h; exact h.symm
            have d : (x0 == y0) = false := by simpa using hne
            subst E2
            clear hne
            go_wp2
            go_quiet (fail)
            go_wp2
            go_ret
            exact ⟨rfl, below_drewn hb _⟩
          subst hne
          by_cases hne : x1 = y1
          rotate_left
          · have E2 : Z = false := by have h := HZ3.out; rw [decF (ne_of_take HX.out HY.out (by simp [hne]))] at h; exact h.symm
            have d : (x1 == y1) = false := by simpa using hne
            subst E2
            clear hne
            go_wp2
            go_quiet (fail)
            go_wp2
            go_ret
            exact ⟨rfl, below_drewn hb _⟩
          subst hne
          have E2 := hidden (eq_take HX.out HY.out HE.out)
          go_wp2
          go_quiet (fail)
          go_wp2
          go_roundw
          case rel => exact ⟨k + 1, by omega, by go_num, E2, X.ext (drewN_blk wr _), Y.ext (drewN_blk wr _), below_drewn hb _⟩
          case measure => simp [intOf]; omega
        · have e : x.ss = y.ss := by
            have e := HE.out
            have hL := L4.out
            rw [List.take_of_length_le (by omega), List.take_of_length_le (by omega)] at e
            exact e
          have E2 : Z = true := by rw [← HZ3.out]; exact decide_eq_true e
          clear e
          subst E2
          go_wp2
          go_ret
          exact ⟨rfl, hb⟩

set_option maxHeartbeats 8000000 in
theorem requal_any (fr gr : Int) (u v : Value) (p q : List Tn) (w : World) (hu : Tns w u p) (hv : Tns w v q) :
    Calls Try.prog 15 #[taV fr u, taV gr v] w fun e w' => e = .returned (.bool (decide (fr = gr ∧ p = q))) ∧ Below w.heap.size w w' := by
  have HU := hidden hu
  have HV := hidden hv
  obtain ⟨a, cap, rfl, hc, hm⟩ := hu.sl
  obtain ⟨a2, cap2, rfl, hc2, hm2⟩ := hv.sl
  unfold maxLen at hm hm2
  obtain ⟨X, Y, B⟩ := twoA w fr gr (.slice a p.length cap) (.slice a2 q.length cap2)
  obtain ⟨Z, hZ⟩ : ∃ Z, decide (fr = gr ∧ p = q) = Z := ⟨_, rfl⟩
  rw [hZ]
  have HZ : Hid ((decide (fr = gr) && decide (p = q)) = Z) := hidden (by rw [← hZ]; simp)
  clear hu hv hZ
  obtain ⟨p0, p1⟩ := X.cells
  obtain ⟨q0, q1⟩ := Y.cells
  by_cases h1 : fr = gr
  rotate_left
  · have d : (fr != gr) = true := by simpa using h1
    have d' : (fr == gr) = false := by simpa using h1
    have E2 : Z = false := by rw [← HZ.out]; simp [h1]
    subst E2
    go_enter Try.func15, Try.ntmps15
    go_wp2
    go_ret
    exact ⟨rfl, B⟩
  have d1 : (fr != gr) = false := by simpa using h1
  have d1' : (fr == gr) = true := by simpa using h1
  have H1 := hidden h1
  clear h1
  by_cases hlen : p.length = q.length
  rotate_left
  · have d : ((p.length : Int) != (q.length : Int)) = true := by simp; omega
    have d' : ((p.length : Int) == (q.length : Int)) = false := by simp; omega
    have E2 : Z = false := by rw [← HZ.out, decF (fun h : p = q => hlen (by rw [h]))]; simp
    subst E2
    go_enter Try.func15, Try.ntmps15
    go_wp2
    go_ret
    exact ⟨rfl, B⟩
  have d2 : ((p.length : Int) != (q.length : Int)) = false := by simp; omega
  have d2' : ((p.length : Int) == (q.length : Int)) = true := by simp; omega
  have HL := hidden hlen
  clear hlen
  have HZ2 : Hid (decide (p = q) = Z) := hidden (by
    have h := HZ.out
    rw [decide_eq_true H1.out, Bool.true_and] at h
    exact h)
  clear HZ
  go_enter Try.func15, Try.ntmps15
  go_wp2
  clear p0 p1 q0 q1 d1 d1' d2 d2' H1
  go_loopw [23] (fun i wr => ∃ k : Nat, k ≤ p.length ∧ i = .int .i64 k ∧ Hid (p.take k = q.take k) ∧ BxA wr w.heap.size fr (.slice a p.length cap) ∧ BxA wr (w.heap.size + 1) gr (.slice a2 q.length cap2) ∧ Below w.heap.size w wr) (fun i _ => p.length - (intOf i).toNat)
  case atStart => exact ⟨0, Nat.zero_le _, rfl, hidden rfl, X, Y, B⟩
  case round =>
    clear X Y B
    obtain ⟨k, hk, rfl, HE, X, Y, hb⟩ := hrel
    by_cases hlt : k < p.length
    · have hlt2 : k < q.length := by have := HL.out; omega
      obtain ⟨x, hx⟩ := getx hlt
      obtain ⟨y, hy⟩ := getx hlt2
      have hb0 := (hb.drew)
      obtain ⟨b, off, vw, vs, rfl, c0, c1, c2, c3, c4, hw, hs⟩ := (HU.out.ext hb0).at hx
      obtain ⟨b', off', uw, us, rfl, e0, e1, e2, e3, e4, kw, ks⟩ := (HV.out.ext hb0).at hy
      obtain ⟨a1, k1, rfl, -⟩ := id hw
      obtain ⟨a3, k3, rfl, -⟩ := id hs
      obtain ⟨a4, k4, rfl, -⟩ := id kw
      obtain ⟨a5, k5, rfl, -⟩ := id ks
      have hlt' : (k : Int) < (p.length : Int) := by omega
      have hlt2' : (k : Int) < (q.length : Int) := by omega
      have M := hidden (fun w' (b : Below wr.drew.heap.size wr.drew w') => rsame_any x y _ _ _ _ w' (hw.ext b) (hs.ext b) (kw.ext b) (ks.ext b))
      have HT := hidden (fun h : sameB x y = true => eq_take (p := p) (q := q) hx (by rw [sameB_iff.1 h]; exact hy) HE.out)
      have HF := hidden (fun h : sameB x y = false => (by rw [← HZ2.out]; exact decF (ne_of_take hx hy (fun e => by rw [sameB_iff.2 e] at h; cases h)) : Z = false))
      generalize sameB x y = r at *
      clear hw hs kw ks hx hy
      replace X := X.drew
      replace Y := Y.drew
      have xx := Ext.refl wr.drew
      go_wp2
      refine c_begin 12 rfl (by kernel_rfl) ?_
      clear hb
      generalize wr.drew = w4 at *
      have C0 := hidden (fun w' (h : Ext w4 w') => cells5 h c0 c1 c2 c3 c4)
      have C1 := hidden (fun w' (h : Ext w4 w') => cells5 h e0 e1 e2 e3 e4)
      clear c0 c1 c2 c3 c4 e0 e1 e2 e3 e4
      refine c_P trivial 0 rfl ?_
      refine c_R (fun w' => Ext w4 w') xx trivial 1 rfl (fun w' hw' => by obtain ⟨q0, q1⟩ := (X.ext hw').cells; go_simp; with_reducible rfl) ?_
      refine c_P ⟨xx, trivial⟩ 2 rfl ?_
      refine c_R (fun _ => True) trivial ⟨xx, trivial⟩ 3 rfl (fun w' _ => by go_simp; first | with_reducible rfl | (rw [if_pos (by omega)])) ?_
      refine c_R (fun w' => Ext w4 w') xx ⟨trivial, xx, trivial⟩ 4 rfl (fun w' hw' => by obtain ⟨q0, q1, q2, q3, q4⟩ := C0.out w' hw'; go_simp; with_reducible rfl) ?_
      refine c_P ⟨xx, trivial, xx, trivial⟩ 5 rfl ?_
      refine c_R (fun w' => Ext w4 w') xx ⟨xx, trivial, xx, trivial⟩ 6 rfl (fun w' hw' => by obtain ⟨q0, q1⟩ := (Y.ext hw').cells; go_simp; with_reducible rfl) ?_
      refine c_P ⟨xx, xx, trivial, xx, trivial⟩ 7 rfl ?_
      refine c_R (fun _ => True) trivial ⟨xx, xx, trivial, xx, trivial⟩ 8 rfl (fun w' _ => by go_simp; first | with_reducible rfl | (rw [if_pos (by omega)])) ?_
      refine c_R (fun w' => Ext w4 w') xx ⟨trivial, xx, xx, trivial, xx, trivial⟩ 9 rfl (fun w' hw' => by obtain ⟨q0, q1, q2, q3, q4⟩ := C1.out w' hw'; go_simp; with_reducible rfl) ?_
      refine c_move 10 (by kernel_rfl) (c_op 10 [(8, fun _ => True), (6, fun w' => Ext w4 w'), (3, fun _ => True), (1, fun w' => Ext w4 w')] (by kernel_rfl) rfl (by kernel_rfl) (fun K hK => ?_))
      go_wp2_with fail
      refine (M.out w4 xx).mono ?_
      rintro e w5 ⟨rfl, B5⟩
      go_simp
      refine hK.out _ _ ⟨trivial, B5, trivial, B5, trivial⟩ ?_
      try simp only [Act.put, List.setIfInBounds_toArray, List.set_cons_zero, List.set_cons_succ]
      clear hK K
      refine c_P ⟨trivial, B5, trivial, B5, trivial⟩ 11 rfl ?_
      refine c_done (by kernel_rfl) ?_
      replace X := X.ext B5
      replace Y := Y.ext B5
      replace hb0 := below_then hb0 B5
      clear M C0 C1 xx B5
      cases r
      · have E2 : Z = false := HF.out rfl
        subst E2
        go_wp2
        go_ret
        exact ⟨rfl, hb0⟩
      · have E2 := hidden (HT.out rfl)
        go_wp2
        go_roundw
        case rel => exact ⟨k + 1, by omega, by go_num, E2, X, Y, hb0⟩
        case measure => simp [intOf]; omega
    · have E2 : Z = true := by
        have e := HE.out
        have hL := HL.out
        rw [List.take_of_length_le (by omega), List.take_of_length_le (by omega)] at e
        rw [← HZ2.out]
        exact decide_eq_true e
      subst E2
      go_wp2
      go_ret
      exact ⟨rfl, hb⟩

end Go.Proofs.Ytffjhimdamdenaa
