/- Contracts of table.Same, slices.EqualFunc, table.Equal. -/
import Derived.Test.YtffjhimdamdenaaBD
namespace Go.Proofs.Ytffjhimdamdenaa
open Go.RowKit

theorem twoT (w : World) (x y : Tn) (a b c d : Value) : BxT ((w.alloc (boxT x a b)).alloc (boxT y c d)) w.heap.size x a b ∧ BxT ((w.alloc (boxT x a b)).alloc (boxT y c d)) (w.heap.size + 1) y c d ∧ Below w.heap.size w ((w.alloc (boxT x a b)).alloc (boxT y c d)) := by
  refine ⟨(BxT.new w x a b).alloc _, ?_, ((Below.refl w.heap.size w).alloc (Nat.le_refl _) _).alloc (by simp) _⟩
  have := BxT.new (w.alloc (boxT x a b)) y c d
  simpa using this
theorem twoA (w : World) (p q : Int) (a b : Value) : BxA ((w.alloc (boxA p a)).alloc (boxA q b)) w.heap.size p a ∧ BxA ((w.alloc (boxA p a)).alloc (boxA q b)) (w.heap.size + 1) q b ∧ Below w.heap.size w ((w.alloc (boxA p a)).alloc (boxA q b)) := by
  refine ⟨(BxA.new w p a).alloc _, ?_, ((Below.refl w.heap.size w).alloc (Nat.le_refl _) _).alloc (by simp) _⟩
  have := BxA.new (w.alloc (boxA p a)) q b
  simpa using this
theorem drewN_blk (w : World) (n : Nat) : Below w.heap.size w (w.drewN n) := below_drewn0 _ _ _

set_option maxHeartbeats 4000000 in
theorem same_any (x y : Tn) (vw vs uw us : Value) (w : World) (hw : Wns w vw x.ws) (hs : Sts w vs x.ss) (kw : Wns w uw y.ws) (ks : Sts w us y.ss) :
    Calls Try.prog 18 #[tnV x vw vs, tnV y uw us] w fun e w' => e = .returned (.bool (sameB x y)) ∧ Below w.heap.size w w' := by
  obtain ⟨a1, c1, rfl, -⟩ := id hw
  obtain ⟨a2, c2, rfl, -⟩ := id hs
  obtain ⟨a3, c3, rfl, -⟩ := id kw
  obtain ⟨a4, c4, rfl, -⟩ := id ks
  obtain ⟨X, Y, B⟩ := twoT w x y (.slice a1 x.ws.length c1) (.slice a2 x.ss.length c2) (.slice a3 y.ws.length c3) (.slice a4 y.ss.length c4)
  have W1 := hidden (eqW _ _ x.ws y.ws _ (hw.ext B) (kw.ext B))
  have W2 := hidden (fun w' (b : Below w.heap.size w w') => eqS _ _ x.ss y.ss w' (hs.ext b) (ks.ext b))
  obtain ⟨Z, hZ⟩ : ∃ Z, sameB x y = Z := ⟨_, rfl⟩
  rw [hZ]
  have HZ : Hid ((decide (x.u = y.u) && decide (x.f = y.f) && decide (x.q = y.q) && decide (x.ws = y.ws) && decide (x.ss = y.ss)) = Z) := hZ
  generalize decide (x.ws = y.ws) = r4 at *
  generalize decide (x.ss = y.ss) = r5 at *
  clear hZ hw hs kw ks
  obtain ⟨p0, p1, p2, p3, p4⟩ := X.cells
  obtain ⟨q0, q1, q2, q3, q4⟩ := Y.cells
  have HX := hidden X
  have HY := hidden Y
  clear X Y
  obtain ⟨xu, xf, xq, xw, xs⟩ := x
  obtain ⟨yu, yf, yq, yw, ys⟩ := y
  simp only at *
  by_cases h1 : xu = yu
  rotate_left
  · have d : (xu == yu) = false := by simpa using h1
    have E2 : Z = false := by rw [← HZ.out]; simp [h1]
    subst E2
    clear h1
    go_enter Try.func18, Try.ntmps18
    go_wp2
    go_ret
    exact ⟨rfl, B⟩
  subst h1
  by_cases h2 : xf = yf
  rotate_left
  · have d : (xf == yf) = false := by simpa using h2
    have E2 : Z = false := by rw [← HZ.out]; simp [h2]
    subst E2
    clear h2
    go_enter Try.func18, Try.ntmps18
    go_wp2
    go_ret
    exact ⟨rfl, B⟩
  subst h2
  by_cases h3 : xq = yq
  rotate_left
  · have d : (xq == yq) = false := by simpa using h3
    have E2 : Z = false := by rw [← HZ.out]; simp [h3]
    subst E2
    clear h3
    go_enter Try.func18, Try.ntmps18
    go_wp2
    go_ret
    exact ⟨rfl, B⟩
  subst h3
  have HZ2 : Hid ((r4 && r5) = Z) := hidden (by have h := HZ.out; simpa using h)
  clear HZ
  go_enter Try.func18, Try.ntmps18
  go_wp2_with fail
  refine W1.out.mono ?_
  rintro e w1 ⟨rfl, nq, hw1⟩
  have B1 := drewN_blk ((w.alloc (boxT ⟨xu, xf, xq, xw, xs⟩ (.slice a1 xw.length c1) (.slice a2 xs.length c2))).alloc (boxT ⟨xu, xf, xq, yw, ys⟩ (.slice a3 yw.length c3) (.slice a4 ys.length c4))) nq
  rw [← hw1] at B1
  have X := HX.out.ext B1
  have Y := HY.out.ext B1
  have BB := below_then B B1
  clear p0 p1 p2 p3 p4 q0 q1 q2 q3 q4 hw1 B1 B HX HY W1
  obtain ⟨p0, p1, p2, p3, p4⟩ := X.cells
  obtain ⟨q0, q1, q2, q3, q4⟩ := Y.cells
  cases r4
  · have E2 : Z = false := by rw [← HZ2.out]; rfl
    subst E2
    go_wp2
    go_ret
    exact ⟨rfl, BB⟩
  have E2 : r5 = Z := by rw [← HZ2.out]; rfl
  subst E2
  go_wp2_with fail
  refine (W2.out _ BB).mono ?_
  rintro e w2 ⟨rfl, nq2, hw2⟩
  have B2 := drewN_blk w1 nq2
  rw [← hw2] at B2
  have BC := below_then BB B2
  clear hw2 B2
  cases r5
  all_goals
    go_wp2
    go_ret
    exact ⟨rfl, BC⟩

set_option maxHeartbeats 4000000 in
theorem eqF (u v : Value) (p q : List Tn) (w : World) (hu : Tns w u p) (hv : Tns w v q) :
    Calls Try.prog 23 #[u, v, .func (.func 18) #[] #[]] w fun e w' => e = .returned (.bool (decide (p = q))) ∧ Below w.heap.size w w' := by
  have HU := hidden hu
  have HV := hidden hv
  obtain ⟨a, cap, rfl, hc, hm⟩ := hu.sl
  obtain ⟨a2, cap2, rfl, hc2, hm2⟩ := hv.sl
  unfold maxLen at hm hm2
  obtain ⟨Z, hZ⟩ : ∃ Z, decide (p = q) = Z := ⟨_, rfl⟩
  rw [hZ]
  have HZ := hidden hZ
  clear hu hv hZ
  by_cases hlen : p.length = q.length
  · have ht : ((p.length : Int) != (q.length : Int)) = false := by simp; omega
    have HL := hidden hlen
    clear hlen
    go_enter Try.func23, Try.ntmps23
    go_wp2
    go_loopw [17] (fun i wr => ∃ k : Nat, k ≤ p.length ∧ i = .int .i64 k ∧ Hid (p.take k = q.take k) ∧ Below w.heap.size w wr) (fun i _ => p.length - (intOf i).toNat)
    case atStart => exact ⟨0, Nat.zero_le _, rfl, hidden rfl, Below.refl _ _⟩
    case round =>
      obtain ⟨k, hk, rfl, HE, hb⟩ := hrel
      by_cases hlt : k < p.length
      · have hlt2 : k < q.length := by have := HL.out; omega
        obtain ⟨x, hx⟩ := getx hlt
        obtain ⟨y, hy⟩ := getx hlt2
        obtain ⟨b, off, vw, vs, rfl, c0, c1, c2, c3, c4, hw, hs⟩ := (HU.out.ext hb).at hx
        obtain ⟨a1, k1, rfl, -⟩ := id hw
        obtain ⟨a3, k3, rfl, -⟩ := id hs
        have E9 := (Below.refl wr.heap.size wr).alloc (Nat.le_refl _) (boxT x (.slice a1 x.ws.length k1) (.slice a3 x.ss.length k3))
        obtain ⟨b2, off2, uw, us, rfl, e0, e1, e2, e3, e4, kw, ks⟩ := ((HV.out.ext hb).ext E9).at hy
        obtain ⟨a4, k4, rfl, -⟩ := id kw
        obtain ⟨a5, k5, rfl, -⟩ := id ks
        obtain ⟨X, Y, B⟩ := twoT wr x y (.slice a1 x.ws.length k1) (.slice a3 x.ss.length k3) (.slice a4 y.ws.length k4) (.slice a5 y.ss.length k5)
        have E10 := (Below.refl _ (wr.alloc (boxT x (.slice a1 x.ws.length k1) (.slice a3 x.ss.length k3)))).alloc (Nat.le_refl _) (boxT y (.slice a4 y.ws.length k4) (.slice a5 y.ss.length k5))
        have M := hidden (same_any x y _ _ _ _ _ (hw.ext B) (hs.ext B) (kw.ext E10) (ks.ext E10))
        have hlt' : (k : Int) < (p.length : Int) := by omega
        have hlt2' : (k : Int) < (q.length : Int) := by omega
        have HX := hidden hx
        have HY := hidden hy
        replace hb := below_then hb B
        clear hx hy hw hs kw ks E9 E10 B
        obtain ⟨p0, p1, p2, p3, p4⟩ := X.cells
        obtain ⟨q0, q1, q2, q3, q4⟩ := Y.cells
        clear X Y
        have HT := hidden (fun h : sameB x y = true => eq_take (p := p) (q := q) HX.out (by rw [sameB_iff.1 h]; exact HY.out) HE.out)
        have HF := hidden (fun h : sameB x y = false => (by rw [← HZ.out]; exact decF (ne_of_take HX.out HY.out (fun e => by rw [sameB_iff.2 e] at h; cases h)) : Z = false))
        generalize sameB x y = r at *
        clear HX HY
        go_wp2_with fail
        refine M.out.mono ?_
        rintro e w2 ⟨rfl, B2⟩
        replace hb := below_then hb B2
        clear p0 p1 p2 p3 p4 q0 q1 q2 q3 q4 c0 c1 c2 c3 c4 e0 e1 e2 e3 e4 M B2
        cases r
        · have E2 : Z = false := HF.out rfl
          subst E2
          go_wp2
          go_ret
          exact ⟨rfl, hb⟩
        · have E2 := hidden (HT.out rfl)
          go_wp2
          go_roundw
          case rel => exact ⟨k + 1, by omega, by go_num, E2, hb⟩
          case measure => simp [intOf]; omega
      · have E2 : Z = true := by
          have e := HE.out
          have hL := HL.out
          rw [List.take_of_length_le (by omega), List.take_of_length_le (by omega)] at e
          rw [← HZ.out]
          exact decide_eq_true e
        subst E2
        go_wp2
        go_ret
        exact ⟨rfl, hb⟩
  · have ht : ((p.length : Int) != (q.length : Int)) = true := by simp; omega
    have E2 : Z = false := by rw [← HZ.out]; exact decF (fun h => hlen (by rw [h]))
    subst E2
    clear hlen
    go_enter Try.func23, Try.ntmps23
    go_wp2
    go_ret
    exact ⟨rfl, Below.refl _ _⟩

set_option maxHeartbeats 4000000 in
theorem equal_any (fr gr : Int) (u v : Value) (p q : List Tn) (w : World) (hu : Tns w u p) (hv : Tns w v q) :
    Calls Try.prog 14 #[taV fr u, taV gr v] w fun e w' => e = .returned (.bool (decide (fr = gr ∧ p = q))) ∧ Below w.heap.size w w' := by
  obtain ⟨a, cap, rfl, -, -⟩ := hu.sl
  obtain ⟨a2, cap2, rfl, -, -⟩ := hv.sl
  obtain ⟨X, Y, B⟩ := twoA w fr gr (.slice a p.length cap) (.slice a2 q.length cap2)
  have M := hidden (eqF _ _ p q _ (hu.ext B) (hv.ext B))
  obtain ⟨Z, hZ⟩ : ∃ Z, decide (fr = gr ∧ p = q) = Z := ⟨_, rfl⟩
  rw [hZ]
  have HZ : Hid ((decide (fr = gr) && decide (p = q)) = Z) := hidden (by rw [← hZ]; simp)
  generalize decide (p = q) = r at *
  clear hu hv hZ
  obtain ⟨p0, p1⟩ := X.cells
  obtain ⟨q0, q1⟩ := Y.cells
  clear X Y
  by_cases h1 : fr = gr
  rotate_left
  · have d : (fr == gr) = false := by simpa using h1
    have E2 : Z = false := by rw [← HZ.out]; simp [h1]
    subst E2
    clear h1
    go_enter Try.func14, Try.ntmps14
    go_wp2
    go_ret
    exact ⟨rfl, B⟩
  subst h1
  have E2 : r = Z := by rw [← HZ.out]; simp
  subst E2
  clear HZ
  go_enter Try.func14, Try.ntmps14
  go_wp2_with fail
  refine M.out.mono ?_
  rintro e w1 ⟨rfl, B1⟩
  have BB := below_then B B1
  clear p0 p1 q0 q1 M B1
  cases r
  all_goals
    go_wp2
    go_ret
    exact ⟨rfl, BB⟩

end Go.Proofs.Ytffjhimdamdenaa
