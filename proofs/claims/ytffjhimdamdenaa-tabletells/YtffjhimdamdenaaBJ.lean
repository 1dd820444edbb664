/- Contracts of burgageref11's tenant and Where. -/
import Derived.Test.YtffjhimdamdenaaBI
namespace Go.Proofs.Ytffjhimdamdenaa
open Go.RowKit

theorem twoAT (w : World) (fr : Int) (v : Value) (x : Tn) (a b : Value) : BxA ((w.alloc (boxA fr v)).alloc (boxT x a b)) w.heap.size fr v ∧ BxT ((w.alloc (boxA fr v)).alloc (boxT x a b)) (w.heap.size + 1) x a b ∧ Below w.heap.size w ((w.alloc (boxA fr v)).alloc (boxT x a b)) := by
  refine ⟨Blk.alloc (BxA.new w fr v) _, ?_, ((Below.refl w.heap.size w).alloc (Nat.le_refl _) _).alloc (by simp) _⟩
  have := BxT.new (w.alloc (boxA fr v)) x a b
  simpa using this

theorem ten21 {x : Tn} {fr : Int} {ah : List Tn} (h : inB2 x.u 247 = false) : tenE fr ah x = 21 := by simp [tenE, aloneE, h]
theorem ten22 {x : Tn} {fr : Int} {ah : List Tn} (h1 : inB2 x.u 247 = true) (h2 : inB2 x.q 6 = false) : tenE fr ah x = 22 := by simp [tenE, aloneE, h1, h2]
theorem ten26 {x : Tn} {fr : Int} {ah : List Tn} (h1 : inB2 x.u 247 = true) (h2 : inB2 x.q 6 = true) (h3 : 6 < x.ws.length ∨ inB2 x.ss.length 3 = false) : tenE fr ah x = 26 := by
  have A : aloneE x fr = 26 := by
    unfold aloneE
    rw [h1, h2, if_neg (by simp), if_neg (by simp), if_pos h3]
  unfold tenE
  rw [A, if_neg (by decide)]
theorem alone_go {x : Tn} {fr : Int} (h1 : inB2 x.u 247 = true) (h2 : inB2 x.q 6 = true) (h3 : ¬ (6 < x.ws.length ∨ inB2 x.ss.length 3 = false)) : aloneE x fr = if wsB x.ws = false then 23 else if slB x.ss fr = false then 25 else 0 := by
  unfold aloneE
  rw [h1, h2, if_neg (by simp), if_neg (by simp), if_neg h3]
theorem inT {n m : Int} (h1 : 1 ≤ n) (h2 : n ≤ m) : inB2 n m = true := by simp [inB2, h1, h2]
theorem inF1 {n m : Int} (h1 : ¬ 1 ≤ n) : inB2 n m = false := by simp [inB2, h1]
theorem inF2 {n m : Int} (h1 : ¬ n ≤ m) : inB2 n m = false := by simp [inB2, h1]

set_option maxHeartbeats 8000000 in
theorem rtenant_any (fr : Int) (vt : Value) (l : List Tn) (i : Nat) (x : Tn) (w : World) (ht : Tns w vt l) (hf : i64 fr) (hok : OkTs l) (hi : l[i]? = some x) :
    Calls Try.prog 33 #[taV fr vt, .int .i64 i] w fun e w' => e = .returned (.int .i64 (tenE fr (l.take i) x)) ∧ Below w.heap.size w w' := by
  obtain ⟨aa, ca, rfl, hca, hma⟩ := ht.sl
  unfold maxLen at hma
  have ho := hok.at hi
  have hil := lt_of_get hi
  have E0 := (Below.refl w.heap.size w).alloc (Nat.le_refl _) (boxA fr (.slice aa l.length ca))
  obtain ⟨b, off, vw, vs, rfl, c0, c1, c2, c3, c4, hw, hs⟩ := (ht.ext E0).at hi
  obtain ⟨aw, cw, rfl, -⟩ := id hw
  obtain ⟨as', cs, rfl, -⟩ := id hs
  obtain ⟨-, hcw, hmw, -⟩ := hw.at
  obtain ⟨-, hcs, hms, -⟩ := hs.at
  unfold maxLen at hmw hms
  obtain ⟨X, Y, B⟩ := twoAT w fr (.slice (some ⟨b, off, none⟩) l.length ca) x (.slice aw x.ws.length cw) (.slice as' x.ss.length cs)
  have E1 := (Below.refl _ (w.alloc (boxA fr (.slice (some ⟨b, off, none⟩) l.length ca)))).alloc (Nat.le_refl _) (boxT x (.slice aw x.ws.length cw) (.slice as' x.ss.length cs))
  have HW := hidden (hw.ext E1)
  have HS := hidden (hs.ext E1)
  have HA := hidden (ht.ext B)
  have OX := hidden ho
  have OA := hidden (hok.take i)
  have HF := hidden hf
  have hic : (i : Int) < (l.length : Int) := by omega
  have hic2 : (i : Int) ≤ (ca : Int) := by omega
  have hic3 : i ≤ ca := by omega
  have HI := hidden (show (l.take i).length = i by simp; omega)
  have HAA : Hid (∀ w', Tns w' (.slice (some ⟨b, off, none⟩) l.length ca) l → Tns w' (.slice (some ⟨b, off, none⟩) i ca) (l.take i)) := fun w' h => h.take i (by omega)
  obtain ⟨Z, hZ⟩ : ∃ Z, tenE fr (l.take i) x = Z := ⟨_, rfl⟩
  rw [hZ]
  have HZ := hidden hZ
  generalize l.take i = ah at *
  have D := hidden (⟨X, Y, B⟩ : _ ∧ _ ∧ _)
  obtain ⟨p0, p1⟩ := X.cells
  obtain ⟨q0, q1, q2, q3, q4⟩ := Y.cells
  clear hw hs ht hok ho hi hf hZ E0 E1 X Y B
  by_cases h1 : 1 ≤ x.u
  rotate_left
  · have E2 : Z = 21 := by rw [← HZ.out]; exact ten21 (inF1 h1)
    subst E2
    have BB := D.out.2.2
    clear D
    go_enter Try.func33, Try.ntmps33
    go_wp2
    go_ret
    exact ⟨rfl, BB⟩
  by_cases h2 : x.u ≤ 247
  rotate_left
  · have E2 : Z = 21 := by rw [← HZ.out]; exact ten21 (inF2 h2)
    subst E2
    have BB := D.out.2.2
    clear D
    go_enter Try.func33, Try.ntmps33
    go_wp2
    go_ret
    exact ⟨rfl, BB⟩
  by_cases h3 : 1 ≤ x.q
  rotate_left
  · have E2 : Z = 22 := by rw [← HZ.out]; exact ten22 (inT h1 h2) (inF1 h3)
    subst E2
    have BB := D.out.2.2
    clear D
    go_enter Try.func33, Try.ntmps33
    go_wp2
    go_ret
    exact ⟨rfl, BB⟩
  by_cases h4 : x.q ≤ 6
  rotate_left
  · have E2 : Z = 22 := by rw [← HZ.out]; exact ten22 (inT h1 h2) (inF2 h4)
    subst E2
    have BB := D.out.2.2
    clear D
    go_enter Try.func33, Try.ntmps33
    go_wp2
    go_ret
    exact ⟨rfl, BB⟩
  by_cases h5 : x.ws.length ≤ 6
  rotate_left
  · have E2 : Z = 26 := by rw [← HZ.out]; exact ten26 (inT h1 h2) (inT h3 h4) (.inl (by omega))
    subst E2
    have BB := D.out.2.2
    clear D
    go_enter Try.func33, Try.ntmps33
    go_wp2
    go_ret
    exact ⟨rfl, BB⟩
  by_cases h6 : x.ss.length ≤ 3
  rotate_left
  · have E2 : Z = 26 := by rw [← HZ.out]; exact ten26 (inT h1 h2) (inT h3 h4) (.inr (inF2 (by omega)))
    subst E2
    have BB := D.out.2.2
    clear D
    go_enter Try.func33, Try.ntmps33
    go_wp2
    go_ret
    exact ⟨rfl, BB⟩
  by_cases h7 : 1 ≤ x.ss.length
  rotate_left
  · have E2 : Z = 26 := by rw [← HZ.out]; exact ten26 (inT h1 h2) (inT h3 h4) (.inr (inF1 (by omega)))
    subst E2
    have BB := D.out.2.2
    clear D
    have e0 : ((x.ss.length : Int) == 0) = true := beq_iff_eq.2 (by omega)
    go_enter Try.func33, Try.ntmps33
    go_wp2
    go_ret
    exact ⟨rfl, BB⟩
  have HZ2 : Hid ((if wsB x.ws = false then (23 : Int) else if slB x.ss fr = false then 25 else besideE x ah) = Z) := hidden (by
    have A := alone_go (fr := fr) (inT h1 h2) (inT h3 h4) (fun h => by
      rcases h with h | h
      · omega
      · rw [inT (by omega) (by omega)] at h; cases h)
    rw [← HZ.out]
    unfold tenE
    rw [A]
    cases wsB x.ws <;> cases slB x.ss fr <;> simp)
  clear HZ
  have C1 := hidden (rwindows_any _ x.ws _ HW.out OX.out.ws OX.out.wl)
  generalize wsB x.ws = r4 at *
  have h7' : ((x.ss.length : Int) == 0) = false := beq_eq_false_iff_ne.2 (by omega)
  go_enter Try.func33, Try.ntmps33
  go_wp2_with fail
  refine C1.out.mono ?_
  rintro e w1 ⟨rfl, B1⟩
  obtain ⟨X, Y, B⟩ := D.out
  replace X := X.ext B1
  replace Y := Y.ext B1
  replace HW := hidden (HW.out.ext B1)
  replace HS := hidden (HS.out.ext B1)
  replace HA := hidden (HA.out.ext B1)
  replace B := below_then B B1
  clear p0 p1 q0 q1 q2 q3 q4 c0 c1 c2 c3 c4 C1 D B1 h1 h2 h3 h4 h5 h6 h7 h7'
  cases r4
  · have E2 : Z = 23 := by rw [← HZ2.out]; rfl
    subst E2
    go_wp2
    go_ret
    exact ⟨rfl, B⟩
  obtain ⟨q, hq⟩ : ∃ q : Int × Int → Bool, q = fun s => decide (72 ≤ s.2) && okR s.1 s.2 fr := ⟨_, rfl⟩
  have HZ3 : Hid ((if x.ss.all q = false then (25 : Int) else besideE x ah) = Z) := hidden (by
    have h := HZ2.out
    unfold slB at h
    rw [hq]; simpa using h)
  have Hq : Hid (∀ c d, q (c, d) = (decide (72 ≤ d) && okR c d fr)) := fun c d => by rw [hq]
  clear hq HZ2
  obtain ⟨q0, q1, q2, q3, q4⟩ := Y.cells
  go_wp2
  clear q0 q1 q2 q3 q4
  have B0 := Below.refl w1.heap.size w1
  have BW := hidden B
  clear B
  go_loopw [66] (fun z wr => ∃ k : Nat, k ≤ x.ss.length ∧ z = .int .i64 k ∧ Hid ((x.ss.take k).all q = true) ∧ BxA wr w.heap.size fr (.slice (some ⟨b, off, none⟩) l.length ca) ∧ BxT wr (w.heap.size + 1) x (.slice aw x.ws.length cw) (.slice as' x.ss.length cs) ∧ Below w1.heap.size w1 wr) (fun z _ => x.ss.length - (intOf z).toNat)
  case atStart => exact ⟨0, Nat.zero_le _, rfl, hidden rfl, X, Y, B0⟩
  case round =>
    clear X Y B0
    obtain ⟨k, hk, rfl, HE, X, Y, hb⟩ := hrel
    by_cases hlt : k < x.ss.length
    · obtain ⟨⟨c, d⟩, hx⟩ := getx hlt
      obtain ⟨b3, off3, rfl, c0, c1⟩ := (HS.out.ext hb).st hx
      have hlt' : (k : Int) < (x.ss.length : Int) := by omega
      have HS2 := hidden (all_snoc hx q)
      have HT2 := hidden (all_miss hx q)
      rw [Hq.out] at HS2 HT2
      have R := hidden (fun w => rslot_any c d fr w (OX.out.ss.get hx).2 HF.out)
      generalize (decide (72 ≤ d) && okR c d fr) = ok at *
      have x2 := Bx.new wr 48 c d
      have E9 := (Below.refl wr.heap.size wr).alloc (Nat.le_refl _) (boxS c d)
      replace X := X.ext E9
      replace Y := Y.ext E9
      replace hb := below_then hb E9
      clear E9
      obtain ⟨q0, q1⟩ := x2.cells2
      obtain ⟨p0, p1⟩ := X.cells
      go_wp2_with fail
      refine (R.out _).mono ?_
      rintro e w2 ⟨rfl, B2⟩
      replace X := X.ext B2
      replace Y := Y.ext B2
      replace hb := below_then hb B2
      clear q0 q1 c0 c1 p0 p1 x2 B2 R
      cases ok
      · have E2 : Z = 25 := by rw [← HZ3.out, HT2.out rfl]; rfl
        subst E2
        have BB := below_then BW.out hb
        go_wp2
        go_ret
        exact ⟨rfl, BB⟩
      · have E2 : Hid ((x.ss.take (k + 1)).all q = true) := by
          show _ = _
          rw [HS2.out, HE.out]; rfl
        go_wp2
        go_roundw
        case rel => exact ⟨k + 1, by omega, by go_num, E2, X, Y, hb⟩
        case measure => simp [intOf]; omega
    · have e : x.ss.take k = x.ss := List.take_of_length_le (by omega)
      rw [e] at HE
      have HZ4 : Hid ((if ah.any (fun y => meetsB x.ws y.ws) then (24 : Int) else if hitsB x.ss ah x.ss.length then 25 else 0) = Z) := hidden (by
        have h := HZ3.out
        rw [HE.out] at h
        simpa [besideE] using h)
      clear HZ3 HE e Hq
      obtain ⟨wo, hwo⟩ : ∃ wo, wo = wr := ⟨_, rfl⟩
      subst hwo
      obtain ⟨p0, p1⟩ := X.cells
      go_wp2
      clear p0 p1 hlt hk
      go_loopw [81] (fun z wr => ∃ ka : Nat, ka ≤ i ∧ z = .int .i64 ka ∧ Hid ((ah.take ka).any (fun y => meetsB x.ws y.ws) = false) ∧ BxA wr w.heap.size fr (.slice (some ⟨b, off, none⟩) l.length ca) ∧ BxT wr (w.heap.size + 1) x (.slice aw x.ws.length cw) (.slice as' x.ss.length cs) ∧ Below w1.heap.size w1 wr) (fun z _ => i - (intOf z).toNat)
      case atStart => exact ⟨0, Nat.zero_le _, rfl, hidden rfl, X, Y, hb⟩
      case round =>
        clear X Y hb
        obtain ⟨ka, hk, rfl, HE, X, Y, hb⟩ := hrel
        by_cases hlt : ka < i
        · obtain ⟨y, hy⟩ := getx (l := ah) (i := ka) (by rw [HI.out]; exact hlt)
          obtain ⟨b3, off3, vwy, vsy, e3, c0, c1, c2, c3, c4, wy, sy⟩ := (HAA.out _ (HA.out.ext hb)).at hy
          simp only [Option.some.injEq, Addr.mk.injEq, and_true] at e3
          obtain ⟨rfl, rfl⟩ := e3
          have OY := hidden (OA.out.at hy)
          obtain ⟨ay, cy, rfl, -⟩ := id wy
          obtain ⟨ty, dy, rfl, -⟩ := id sy
          have hlt' : (ka : Int) < (i : Int) := by omega
          have HS1 := hidden (any_snoc hy (fun y => meetsB x.ws y.ws))
          have HT1 := hidden (any_hit hy (fun y => meetsB x.ws y.ws))
          have x2 := BxT.new wr y (.slice ay y.ws.length cy) (.slice ty y.ss.length dy)
          have E9 := (Below.refl wr.heap.size wr).alloc (Nat.le_refl _) (boxT y (.slice ay y.ws.length cy) (.slice ty y.ss.length dy))
          have M := hidden (rmeets_any _ _ x.ws y.ws _ ((HW.out.ext hb).ext E9) (wy.ext E9) OX.out.ws OY.out.ws)
          generalize meetsB x.ws y.ws = mb at *
          replace X := X.ext E9
          replace Y := Y.ext E9
          replace hb := below_then hb E9
          clear wy sy E9
          obtain ⟨p0, p1, p2, p3, p4⟩ := Y.cells
          obtain ⟨q0, q1, q2, q3, q4⟩ := x2.cells
          go_wp2_with fail
          refine M.out.mono ?_
          rintro e w2 ⟨rfl, B2⟩
          replace X := X.ext B2
          replace Y := Y.ext B2
          replace hb := below_then hb B2
          clear p0 p1 p2 p3 p4 q0 q1 q2 q3 q4 c0 c1 c2 c3 c4 x2 B2 M
          cases mb
          · have E2 : Hid ((ah.take (ka + 1)).any (fun y => meetsB x.ws y.ws) = false) := by
              show _ = _
              rw [HS1.out, HE.out]; rfl
            go_wp2
            go_roundw
            case rel => exact ⟨ka + 1, by omega, by go_num, E2, X, Y, hb⟩
            case measure => simp [intOf]; omega
          · have E2 : Z = 24 := by rw [← HZ4.out, HT1.out rfl]; rfl
            subst E2
            have BB := below_then BW.out hb
            go_wp2
            go_ret
            exact ⟨rfl, BB⟩
        · have e : ah.take ka = ah := List.take_of_length_le (by rw [HI.out]; omega)
          rw [e] at HE
          have HZ5 : Hid ((if hitsB x.ss ah x.ss.length then (25 : Int) else 0) = Z) := hidden (by
            have h := HZ4.out
            rw [HE.out] at h
            simpa using h)
          clear HZ4 HE e
          obtain ⟨wp, hwp⟩ : ∃ wp, wp = wr := ⟨_, rfl⟩
          subst hwp
          obtain ⟨p0, p1, p2, p3, p4⟩ := Y.cells
          go_wp2
          clear p0 p1 p2 p3 p4 hlt hk
          go_loopw [94] (fun z wr => ∃ kb : Nat, kb ≤ x.ss.length ∧ z = .int .i64 kb ∧ Hid (hitsB x.ss ah kb = false) ∧ BxA wr w.heap.size fr (.slice (some ⟨b, off, none⟩) l.length ca) ∧ BxT wr (w.heap.size + 1) x (.slice aw x.ws.length cw) (.slice as' x.ss.length cs) ∧ Below w1.heap.size w1 wr) (fun z _ => x.ss.length - (intOf z).toNat)
          case atStart => exact ⟨0, Nat.zero_le _, rfl, hidden rfl, X, Y, hb⟩
          case round =>
            clear X Y hb
            obtain ⟨kb, hk, rfl, HE, X, Y, hb⟩ := hrel
            by_cases hlt : kb < x.ss.length
            · obtain ⟨⟨p, n⟩, hx⟩ := getx hlt
              have HN := hidden (OX.out.ss.get hx).2
              have HS2 := hidden (hits_succ (ah := ah) hx)
              have HT2 := hidden (fun h => hits_le (ss := x.ss) (ah := ah) (k := kb + 1) (m := x.ss.length) (by omega) h)
              have HB : Hid (hitB x.ss ah kb (p, n) = ((x.ss.take kb).any (mE (p, n)) || ah.any fun y => y.ss.any (mE (p, n)))) := rfl
              obtain ⟨b3, off3, rfl, c0, c1⟩ := (HS.out.ext hb).st hx
              have hlt' : (kb : Int) < (x.ss.length : Int) := by omega
              have hkc : kb ≤ cs := by omega
              have hkc' : (kb : Int) ≤ (cs : Int) := by omega
              have x2 := Bx.new wr 48 p n
              have E9 := (Below.refl wr.heap.size wr).alloc (Nat.le_refl _) (boxS p n)
              replace X := X.ext E9
              replace Y := Y.ext E9
              replace hb := below_then hb E9
              clear E9
              obtain ⟨p0, p1, p2, p3, p4⟩ := Y.cells
              have z9 : wr.heap.size < (wr.alloc (boxS p n)).heap.size := by simp
              go_wp2
              clear p0 p1 p2 p3 p4 c0 c1
              generalize wr.heap.size = g9 at *
              generalize wr.alloc (boxS p n) = w3 at *
              have HT := hidden ((HS.out.ext hb).take kb (by omega))
              go_loopw [104] (fun z wr => ∃ kc : Nat, kc ≤ kb ∧ z = .int .i64 kc ∧ Hid (((x.ss.take kb).take kc).any (mE (p, n)) = false) ∧ BxA wr w.heap.size fr (.slice (some ⟨b, off, none⟩) l.length ca) ∧ BxT wr (w.heap.size + 1) x (.slice aw x.ws.length cw) (.slice (some ⟨b3, off3, none⟩) x.ss.length cs) ∧ Bx wr g9 48 p n ∧ Below w3.heap.size w3 wr ∧ Below w1.heap.size w1 wr) (fun z _ => kb - (intOf z).toNat)
              case atStart => exact ⟨0, Nat.zero_le _, rfl, hidden rfl, X, Y, x2, Below.refl _ _, hb⟩
              case round =>
                clear X Y x2 hb
                obtain ⟨kc, hkk, rfl, HE3, X, Y, x2, hb3, hb⟩ := hrel
                have HLL := hidden (show (x.ss.take kb).length = kb by simp; omega)
                by_cases hlt3 : kc < kb
                · obtain ⟨⟨c, d⟩, hx3⟩ := getx (l := x.ss.take kb) (i := kc) (by rw [HLL.out]; exact hlt3)
                  obtain ⟨b4, off4, e4, c0, c1⟩ := (HT.out.ext hb3).st hx3
                  simp only [Option.some.injEq, Addr.mk.injEq, and_true] at e4
                  obtain ⟨rfl, rfl⟩ := e4
                  have hlt3' : (kc : Int) < (kb : Int) := by omega
                  have HS3 := hidden (any_snoc hx3 (mE (p, n)))
                  have HT3 := hidden (any_hit hx3 (mE (p, n)))
                  have OC := (OX.out.ss _ (List.mem_of_mem_take (List.mem_of_getElem? hx3))).2
                  have M := hidden (fun w => rmeetS_any p n c d w HN.out OC)
                  generalize mE (p, n) (c, d) = mb at *
                  have x3 := Bx.new wr 48 c d
                  have E9 := (Below.refl wr.heap.size wr).alloc (Nat.le_refl _) (boxS c d)
                  replace X := X.ext E9
                  replace Y := Y.ext E9
                  replace x2 := x2.ext E9
                  replace hb := below_then hb E9
                  replace hb3 := below_then hb3 E9
                  clear E9 OC
                  obtain ⟨p0, p1⟩ := x2.cells2
                  obtain ⟨q0, q1⟩ := x3.cells2
                  go_wp2_with fail
                  refine (M.out _).mono ?_
                  rintro e w6 ⟨rfl, B6⟩
                  replace X := X.ext B6
                  replace Y := Y.ext B6
                  replace x2 := x2.ext B6
                  replace hb := below_then hb B6
                  replace hb3 := below_then hb3 B6
                  clear p0 p1 q0 q1 c0 c1 x3 B6 M
                  cases mb
                  · have E2 : Hid (((x.ss.take kb).take (kc + 1)).any (mE (p, n)) = false) := by
                      show _ = _
                      rw [HS3.out, HE3.out]; rfl
                    go_wp2
                    go_roundw
                    case rel => exact ⟨kc + 1, by omega, by go_num, E2, X, Y, x2, hb3, hb⟩
                    case measure => simp [intOf]; omega
                  · have E2 : Z = 25 := by
                      rw [← HZ5.out, HT2.out (by rw [HS2.out, HB.out, HT3.out rfl]; simp)]; rfl
                    subst E2
                    have BB := below_then BW.out hb
                    go_wp2
                    go_ret
                    exact ⟨rfl, BB⟩
                · have e : (x.ss.take kb).take kc = x.ss.take kb := List.take_of_length_le (by rw [HLL.out]; omega)
                  rw [e] at HE3
                  clear e hb3 HT
                  obtain ⟨wq, hwq⟩ : ∃ wq, wq = wr := ⟨_, rfl⟩
                  subst hwq
                  obtain ⟨p0, p1⟩ := X.cells
                  go_wp2
                  clear p0 p1
                  go_loopw [117] (fun z wr => ∃ m : Nat, m ≤ i ∧ z = .int .i64 m ∧ Hid ((ah.take m).any (fun y => y.ss.any (mE (p, n))) = false) ∧ BxA wr w.heap.size fr (.slice (some ⟨b, off, none⟩) l.length ca) ∧ BxT wr (w.heap.size + 1) x (.slice aw x.ws.length cw) (.slice (some ⟨b3, off3, none⟩) x.ss.length cs) ∧ Bx wr g9 48 p n ∧ Below w1.heap.size w1 wr) (fun z _ => i - (intOf z).toNat)
                  case atStart => exact ⟨0, Nat.zero_le _, rfl, hidden rfl, X, Y, x2, hb⟩
                  case round =>
                    clear X Y x2 hb
                    obtain ⟨m, hm, rfl, HE4, X, Y, x2, hb⟩ := hrel
                    by_cases hlt4 : m < i
                    · obtain ⟨y, hy⟩ := getx (l := ah) (i := m) (by rw [HI.out]; exact hlt4)
                      obtain ⟨b5, off5, vwy, vsy, e5, c0, c1, c2, c3, c4, wy, sy⟩ := (HAA.out _ (HA.out.ext hb)).at hy
                      simp only [Option.some.injEq, Addr.mk.injEq, and_true] at e5
                      obtain ⟨rfl, rfl⟩ := e5
                      have OY := hidden (OA.out.at hy)
                      obtain ⟨ay, cy, rfl, -⟩ := id wy
                      obtain ⟨ty, dy, rfl, -⟩ := id sy
                      have hlt4' : (m : Int) < (i : Int) := by omega
                      have HS4 := hidden (any_snoc hy (fun y => y.ss.any (mE (p, n))))
                      have HT4 := hidden (any_hit hy (fun y => y.ss.any (mE (p, n))))
                      have x3 := BxT.new wr y (.slice ay y.ws.length cy) (.slice ty y.ss.length dy)
                      have E9 := (Below.refl wr.heap.size wr).alloc (Nat.le_refl _) (boxT y (.slice ay y.ws.length cy) (.slice ty y.ss.length dy))
                      replace X := X.ext E9
                      replace Y := Y.ext E9
                      replace x2 := x2.ext E9
                      replace hb := below_then hb E9
                      have HSY := hidden (sy.ext E9)
                      have hcy := (sy.at).2.1
                      have hmy := (sy.at).2.2.1
                      unfold maxLen at hmy
                      clear wy sy E9
                      obtain ⟨q0, q1, q2, q3, q4⟩ := x3.cells
                      go_wp2
                      clear q0 q1 q2 q3 q4 c0 c1 c2 c3 c4 x3
                      generalize wr.alloc (boxT y (.slice ay y.ws.length cy) (.slice ty y.ss.length dy)) = w7 at *
                      go_loopw [124] (fun z wr => ∃ ms : Nat, ms ≤ y.ss.length ∧ z = .int .i64 ms ∧ Hid ((y.ss.take ms).any (mE (p, n)) = false) ∧ BxA wr w.heap.size fr (.slice (some ⟨b, off, none⟩) l.length ca) ∧ BxT wr (w.heap.size + 1) x (.slice aw x.ws.length cw) (.slice (some ⟨b3, off3, none⟩) x.ss.length cs) ∧ Bx wr g9 48 p n ∧ Below w7.heap.size w7 wr ∧ Below w1.heap.size w1 wr) (fun z _ => y.ss.length - (intOf z).toNat)
                      case atStart => exact ⟨0, Nat.zero_le _, rfl, hidden rfl, X, Y, x2, Below.refl _ _, hb⟩
                      case round =>
                        clear X Y x2 hb
                        obtain ⟨ms, hms5, rfl, HE5, X, Y, x2, hb7, hb⟩ := hrel
                        by_cases hlt5 : ms < y.ss.length
                        · obtain ⟨⟨c, d⟩, hx5⟩ := getx hlt5
                          obtain ⟨b6, off6, rfl, c0, c1⟩ := (HSY.out.ext hb7).st hx5
                          have hlt5' : (ms : Int) < (y.ss.length : Int) := by omega
                          have HS5 := hidden (any_snoc hx5 (mE (p, n)))
                          have HT5 := hidden (any_hit hx5 (mE (p, n)))
                          have OC := (OY.out.ss.get hx5).2
                          have M := hidden (fun w => rmeetS_any p n c d w HN.out OC)
                          generalize mE (p, n) (c, d) = mb at *
                          have x3 := Bx.new wr 48 c d
                          have E9 := (Below.refl wr.heap.size wr).alloc (Nat.le_refl _) (boxS c d)
                          replace X := X.ext E9
                          replace Y := Y.ext E9
                          replace x2 := x2.ext E9
                          replace hb := below_then hb E9
                          replace hb7 := below_then hb7 E9
                          clear E9 OC
                          obtain ⟨p0, p1⟩ := x2.cells2
                          obtain ⟨q0, q1⟩ := x3.cells2
                          go_wp2_with fail
                          refine (M.out _).mono ?_
                          rintro e w8 ⟨rfl, B8⟩
                          replace X := X.ext B8
                          replace Y := Y.ext B8
                          replace x2 := x2.ext B8
                          replace hb := below_then hb B8
                          replace hb7 := below_then hb7 B8
                          clear p0 p1 q0 q1 c0 c1 x3 B8 M
                          cases mb
                          · have E2 : Hid ((y.ss.take (ms + 1)).any (mE (p, n)) = false) := by
                              show _ = _
                              rw [HS5.out, HE5.out]; rfl
                            go_wp2
                            go_roundw
                            case rel => exact ⟨ms + 1, by omega, by go_num, E2, X, Y, x2, hb7, hb⟩
                            case measure => simp [intOf]; omega
                          · have E2 : Z = 25 := by
                              rw [← HZ5.out, HT2.out (by rw [HS2.out, HB.out, HT4.out (HT5.out rfl)]; simp)]; rfl
                            subst E2
                            have BB := below_then BW.out hb
                            go_wp2
                            go_ret
                            exact ⟨rfl, BB⟩
                        · have e : y.ss.take ms = y.ss := List.take_of_length_le (by omega)
                          rw [e] at HE5
                          have E2 : Hid ((ah.take (m + 1)).any (fun y => y.ss.any (mE (p, n))) = false) := by
                            show _ = _
                            rw [HS4.out, HE4.out, HE5.out]; rfl
                          go_wp2
                          go_roundw
                          case rel => exact ⟨m + 1, by omega, by go_num, E2, X, Y, x2, hb⟩
                          case measure => simp [intOf]; omega
                    · have e : ah.take m = ah := List.take_of_length_le (by rw [HI.out]; omega)
                      rw [e] at HE4
                      have E2 : Hid (hitsB x.ss ah (kb + 1) = false) := by
                        show _ = _
                        rw [HS2.out, HE.out, HB.out, HE3.out, HE4.out]; rfl
                      go_wp2
                      go_roundw
                      case rel => exact ⟨kb + 1, by omega, by go_num, E2, X, Y, hb⟩
                      case measure => simp [intOf]; omega
            · have e : kb = x.ss.length := by omega
              subst e
              have E2 : Z = 0 := by rw [← HZ5.out, HE.out]; rfl
              subst E2
              have BB := below_then BW.out hb
              go_wp2
              go_ret
              exact ⟨rfl, BB⟩

set_option maxHeartbeats 4000000 in
theorem rwhere_any (fr : Int) (vt : Value) (l : List Tn) (w : World) (ht : Tns w vt l) (hf : i64 fr) (ho : OkTs l) :
    Calls Try.prog 22 #[taV fr vt] w fun e w' => e = .returned (.tuple #[.int .i64 (whereE fr l).1, .int .i64 (whereE fr l).2]) ∧ Below w.heap.size w w' := by
  obtain ⟨aa, ca, rfl, hca, hma⟩ := ht.sl
  unfold maxLen at hma
  have HA := hidden ht
  have OA := hidden ho
  have HF := hidden hf
  have x1 := BxA.new w fr (.slice aa l.length ca)
  have hb := (Below.refl w.heap.size w).alloc (Nat.le_refl _) (boxA fr (.slice aa l.length ca))
  obtain ⟨Z, hZ⟩ : ∃ Z, whereE fr l = Z := ⟨_, rfl⟩
  rw [hZ]
  have HZ : Hid ((if inB2 fr 2000 = false then (20, -1) else if inB2 l.length 4 = false then (26, -1) else match firstE fr l l.length with | some i => (tenI fr l i, (i : Int)) | none => (0, -1)) = Z) := hZ
  clear ht ho hf hZ
  obtain ⟨c0, c1⟩ := x1.cells
  by_cases h1 : 1 ≤ fr
  rotate_left
  · have a1 : inB2 fr 2000 = false := by simp [inB2, h1]
    have E2 : Z = (20, -1) := by rw [← HZ.out, a1]; rfl
    subst E2
    go_enter Try.func22, Try.ntmps22
    go_wp2
    refine bodyPost_ret (v := _) (by simp [results, Try.results22, go_sem]; with_reducible rfl) rfl ?_
    exact ⟨rfl, hb⟩
  by_cases h2 : fr ≤ 2000
  rotate_left
  · have a1 : inB2 fr 2000 = false := by simp [inB2, h2]
    have E2 : Z = (20, -1) := by rw [← HZ.out, a1]; rfl
    subst E2
    go_enter Try.func22, Try.ntmps22
    go_wp2
    refine bodyPost_ret (v := _) (by simp [results, Try.results22, go_sem]; with_reducible rfl) rfl ?_
    exact ⟨rfl, hb⟩
  by_cases h3 : 1 ≤ (l.length : Int)
  rotate_left
  · have a2 : inB2 fr 2000 = true := by simp [inB2, h1, h2]
    have a1 : inB2 (l.length : Int) 4 = false := by simp only [inB2, decide_eq_false h3, Bool.false_and]
    have E2 : Z = (26, -1) := by rw [← HZ.out, a2, a1]; rfl
    subst E2
    go_enter Try.func22, Try.ntmps22
    go_wp2
    refine bodyPost_ret (v := _) (by simp [results, Try.results22, go_sem]; with_reducible rfl) rfl ?_
    exact ⟨rfl, hb⟩
  by_cases h4 : (l.length : Int) ≤ 4
  rotate_left
  · have a2 : inB2 fr 2000 = true := by simp [inB2, h1, h2]
    have a1 : inB2 (l.length : Int) 4 = false := by simp only [inB2, decide_eq_false h4, Bool.and_false]
    have E2 : Z = (26, -1) := by rw [← HZ.out, a2, a1]; rfl
    subst E2
    go_enter Try.func22, Try.ntmps22
    go_wp2
    refine bodyPost_ret (v := _) (by simp [results, Try.results22, go_sem]; with_reducible rfl) rfl ?_
    exact ⟨rfl, hb⟩
  have HZ2 : Hid ((match firstE fr l l.length with | some i => (tenI fr l i, (i : Int)) | none => (0, -1)) = Z) := hidden (by
    have a1 : inB2 fr 2000 = true := by simp [inB2, h1, h2]
    have a2 : inB2 (l.length : Int) 4 = true := by simp only [inB2, decide_eq_true h3, decide_eq_true h4, Bool.and_self]
    have h := HZ.out
    rw [a1, a2] at h
    exact h)
  clear HZ
  go_enter Try.func22, Try.ntmps22
  go_wp2
  clear c0 c1 h1 h2 h3 h4
  go_loopw [27] (fun i wr => ∃ k : Nat, k ≤ l.length ∧ i = .int .i64 k ∧ Hid (firstE fr l k = none) ∧ BxA wr w.heap.size fr (.slice aa l.length ca) ∧ Below w.heap.size w wr) (fun i _ => l.length - (intOf i).toNat)
  case atStart => exact ⟨0, Nat.zero_le _, rfl, hidden rfl, x1, hb⟩
  case round =>
    clear x1 hb
    obtain ⟨k, hk, rfl, HE, x1, hb⟩ := hrel
    by_cases hlt : k < l.length
    · obtain ⟨y, hy⟩ := getx hlt
      have hlt' : (k : Int) < (l.length : Int) := by omega
      have HT : Hid (tenI fr l k = tenE fr (l.take k) y) := by
        show tenI fr l k = _
        unfold tenI
        rw [hy]
      have HN := hidden (fun h => first_succ (fr := fr) (l := l) (k := k) HE.out h)
      have HH := hidden (fun h => first_hit (fr := fr) (l := l) (k := k) (m := l.length) hlt HE.out h)
      obtain ⟨tk9, htk⟩ : ∃ t, tenI fr l k = t := ⟨_, rfl⟩
      rw [htk] at HT HN HH
      have HK := hidden htk
      clear htk
      have M := hidden (rtenant_any fr _ l k y _ (HA.out.ext hb) HF.out OA.out hy)
      generalize tenE fr (l.take k) y = te at *
      obtain ⟨p0, p1⟩ := x1.cells
      clear hy
      go_wp2_with fail
      refine M.out.mono ?_
      rintro e w2 ⟨rfl, B2⟩
      replace x1 := x1.ext B2
      replace hb := below_then hb B2
      clear p0 p1 M B2
      by_cases hbe : te = 0
      · subst hbe
        have E2 : Hid (firstE fr l (k + 1) = none) := HN.out HT.out
        go_wp2
        go_roundw
        case rel => exact ⟨k + 1, by omega, by go_num, E2, x1, hb⟩
        case measure => simp [intOf]; omega
      · have d1 : (te == 0) = false := by simpa using hbe
        have d2 : (te != 0) = true := by simpa using hbe
        have E2 : Z = (te, (k : Int)) := by
          rw [← HZ2.out, HH.out (by rw [HT.out]; exact hbe)]
          show (tenI fr l k, (k : Int)) = _
          rw [HK.out, HT.out]
        subst E2
        go_wp2
        refine bodyPost_ret (v := _) (by simp [results, Try.results22, go_sem]; with_reducible rfl) rfl ?_
        exact ⟨rfl, hb⟩
    · have e : k = l.length := by omega
      subst e
      have E2 : Z = (0, -1) := by rw [← HZ2.out, HE.out]
      subst E2
      go_wp2
      refine bodyPost_ret (v := _) (by simp [results, Try.results22, go_sem]; with_reducible rfl) rfl ?_
      exact ⟨rfl, hb⟩

end Go.Proofs.Ytffjhimdamdenaa
