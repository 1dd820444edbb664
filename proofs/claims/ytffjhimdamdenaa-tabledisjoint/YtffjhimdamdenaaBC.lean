/- Contracts of table.beside, Where, Right. -/
import Derived.Test.YtffjhimdamdenaaBB
namespace Go.Proofs.Ytffjhimdamdenaa
open Go.RowKit

set_option maxHeartbeats 4000000 in
theorem beside_any (x : Tn) (vw vs va : Value) (ah : List Tn) (w : World) (hw : Wns w vw x.ws) (hs : Sts w vs x.ss) (ha : Tns w va ah) (ho : OkT x) (hok : OkTs ah) :
    Calls Try.prog 32 #[tnV x vw vs, va] w fun e w' => e = .returned (.int .i64 (besideE x ah)) ∧ Below w.heap.size w w' := by
  obtain ⟨aw, cw, rfl, -⟩ := id hw
  obtain ⟨as', cs, rfl, -⟩ := id hs
  obtain ⟨aa, ca, rfl, hca, hma⟩ := ha.sl
  obtain ⟨-, hcw, hmw, -⟩ := hw.at
  obtain ⟨-, hcs, hms, -⟩ := hs.at
  unfold maxLen at hmw hms hma
  have HW := hidden hw
  have HS := hidden hs
  have HA := hidden ha
  have OX := hidden ho
  have OA := hidden hok
  have b0 := BxT.new w x (.slice aw x.ws.length cw) (.slice as' x.ss.length cs)
  have B0 := (Below.refl w.heap.size w).alloc (Nat.le_refl _) (boxT x (.slice aw x.ws.length cw) (.slice as' x.ss.length cs))
  obtain ⟨Z, hZ⟩ : ∃ Z, besideE x ah = Z := ⟨_, rfl⟩
  rw [hZ]
  have HZ : Hid ((if ah.any (fun y => meetsB x.ws y.ws) then (24 : Int) else if hitsB x.ss ah x.ss.length then 25 else 0) = Z) := hZ
  clear hw hs ha ho hok hZ
  go_enter Try.func32, Try.ntmps32
  go_wp2
  go_loopw [13] (fun i wr => ∃ ka : Nat, ka ≤ ah.length ∧ i = .int .i64 ka ∧ Hid ((ah.take ka).any (fun y => meetsB x.ws y.ws) = false) ∧ BxT wr w.heap.size x (.slice aw x.ws.length cw) (.slice as' x.ss.length cs) ∧ Below w.heap.size w wr) (fun i _ => ah.length - (intOf i).toNat)
  case atStart => exact ⟨0, Nat.zero_le _, rfl, hidden rfl, b0, B0⟩
  case round =>
    clear b0 B0
    obtain ⟨ka, hk, rfl, HE, x1, hb⟩ := hrel
    by_cases hlt : ka < ah.length
    · obtain ⟨y, hy⟩ := getx hlt
      obtain ⟨b, off, vwy, vsy, rfl, c0, c1, c2, c3, c4, wy, sy⟩ := (HA.out.ext hb).at hy
      have OY := hidden (OA.out.at hy)
      obtain ⟨ay, cy, rfl, -⟩ := id wy
      obtain ⟨ty, dy, rfl, -⟩ := id sy
      have hlt' : (ka : Int) < (ah.length : Int) := by omega
      have HS1 := hidden (any_snoc hy (fun y => meetsB x.ws y.ws))
      have HT1 := hidden (any_hit hy (fun y => meetsB x.ws y.ws))
      have x2 := BxT.new wr y (.slice ay y.ws.length cy) (.slice ty y.ss.length dy)
      have E9 := (Below.refl wr.heap.size wr).alloc (Nat.le_refl _) (boxT y (.slice ay y.ws.length cy) (.slice ty y.ss.length dy))
      have M := hidden (meets_any _ _ x.ws y.ws _ ((HW.out.ext hb).ext E9) (wy.ext E9) OX.out.ws OY.out.ws (Nat.le_trans OX.out.wl (by decide)) (Nat.le_trans OY.out.wl (by decide)))
      generalize meetsB x.ws y.ws = mb at *
      replace x1 := x1.ext E9
      replace hb := below_then hb E9
      clear wy sy
      obtain ⟨p0, p1, p2, p3, p4⟩ := x1.cells
      obtain ⟨q0, q1, q2, q3, q4⟩ := x2.cells
      go_wp2_with fail
      refine M.out.mono ?_
      rintro e w2 ⟨rfl, B2⟩
      replace x1 := x1.ext B2
      replace hb := below_then hb B2
      clear p0 p1 p2 p3 p4 q0 q1 q2 q3 q4 c0 c1 c2 c3 c4 x2 E9
      cases mb
      · have E2 : Hid ((ah.take (ka + 1)).any (fun y => meetsB x.ws y.ws) = false) := by
          show _ = _
          rw [HS1.out, HE.out]; rfl
        go_wp2
        go_roundw
        case rel => exact ⟨ka + 1, by omega, by go_num, E2, x1, hb⟩
        case measure => simp [intOf]; omega
      · have E2 : Z = 24 := by rw [← HZ.out, HT1.out rfl]; rfl
        subst E2
        go_wp2
        go_ret
        exact ⟨rfl, hb⟩
    · have e : ah.take ka = ah := List.take_of_length_le (by omega)
      rw [e] at HE
      have HZ2 : Hid ((if hitsB x.ss ah x.ss.length then (25 : Int) else 0) = Z) := hidden (by
        have h := HZ.out
        rw [HE.out] at h
        simpa using h)
      clear HZ HE e
      obtain ⟨wo, hwo⟩ : ∃ wo, wo = wr := ⟨_, rfl⟩
      subst hwo
      obtain ⟨p0, p1, p2, p3, p4⟩ := x1.cells
      go_wp2
      clear p0 p1 p2 p3 p4
      go_loopw [26] (fun i wr => ∃ k : Nat, k ≤ x.ss.length ∧ i = .int .i64 k ∧ Hid (hitsB x.ss ah k = false) ∧ BxT wr w.heap.size x (.slice aw x.ws.length cw) (.slice as' x.ss.length cs) ∧ Below w.heap.size w wr) (fun i _ => x.ss.length - (intOf i).toNat)
      case atStart => exact ⟨0, Nat.zero_le _, rfl, hidden rfl, x1, hb⟩
      case round =>
        clear x1 hb
        obtain ⟨k, hk, rfl, HE, x1, hb⟩ := hrel
        by_cases hlt : k < x.ss.length
        · obtain ⟨⟨p, q⟩, hx⟩ := getx hlt
          obtain ⟨b, off, rfl, c0, c1⟩ := (HS.out.ext hb).st hx
          have hlt' : (k : Int) < (x.ss.length : Int) := by omega
          have HS2 := hidden (hits_succ (ah := ah) hx)
          have HT2 := hidden (fun h => hits_le (ss := x.ss) (ah := ah) (k := k + 1) (m := x.ss.length) (by omega) h)
          have HB : Hid (hitB x.ss ah k (p, q) = ((x.ss.take k).any (mE (p, q)) || ah.any fun y => y.ss.any (mE (p, q)))) := rfl
          have hq := (OX.out.ss.get hx).2
          have HQ := hidden hq
          clear hq
          have x2 := (Bx.new wr 48 p q).drew
          replace x1 := (x1.alloc (boxS p q)).drew
          replace hb := (hb.alloc hb.size (boxS p q)).drew
          have xx := Ext.refl (wr.alloc (boxS p q)).drew
          go_wp2
          refine c_begin 6 rfl (by kernel_rfl) ?_
          clear c0 c1
          generalize wr.heap.size = g9 at *
          generalize (wr.alloc (boxS p q)).drew = w4 at *
          refine c_R (fun w' => Ext w4 w') xx trivial 0 rfl (fun w' hw' => by obtain ⟨q0, q1⟩ := (x2.ext hw').cells2; go_simp; with_reducible rfl) ?_
          refine c_P ⟨xx, trivial⟩ 1 rfl ?_
          refine c_R (fun w' => Ext w4 w') xx ⟨xx, trivial⟩ 2 rfl (fun w' hw' => by obtain ⟨c0, c1, c2, c3, c4⟩ := (x1.ext hw').cells; go_simp; with_reducible rfl) ?_
          refine c_P ⟨xx, xx, trivial⟩ 3 rfl ?_
          refine c_R (fun _ => True) trivial ⟨xx, xx, trivial⟩ 4 rfl (fun w' _ => by go_simp; rw [if_pos (by omega)]) ?_
          refine c_move 5 (by kernel_rfl) (c_op 5 [(2, fun w' => Ext w4 w')] (by kernel_rfl) rfl (by kernel_rfl) (fun K hK => ?_))
          go_wp2_with fail
          refine (meetsOne_any p q _ (x.ss.take k) w4 ?hm HQ.out (fun z hz => OX.out.ss z (List.mem_of_mem_take hz))).mono ?_
          case hm =>
            have h := (HS.out.ext hb).take k (by omega)
            simpa using h
          rintro e w5 ⟨rfl, B5⟩
          go_simp
          refine hK.out _ _ ⟨B5, trivial⟩ ?_
          try simp only [Act.put, List.setIfInBounds_toArray, List.set_cons_zero, List.set_cons_succ]
          clear hK K
          refine c_done (by kernel_rfl) ?_
          replace x1 := x1.ext B5
          replace x2 := x2.ext B5
          replace hb := below_then hb B5
          clear xx B5
          generalize (x.ss.take k).any (mE (p, q)) = r1 at *
          cases r1
          rotate_left
          · have E2 : Z = 25 := by
              rw [← HZ2.out, HT2.out (by rw [HS2.out, HB.out]; simp)]; rfl
            subst E2
            go_wp2
            go_ret
            exact ⟨rfl, hb⟩
          obtain ⟨wp, hwp⟩ : ∃ wp, wp = w5 := ⟨_, rfl⟩
          subst hwp
          go_wp2
          go_loopw [39] (fun i wr => ∃ m : Nat, m ≤ ah.length ∧ i = .int .i64 m ∧ Hid ((ah.take m).any (fun y => y.ss.any (mE (p, q))) = false) ∧ BxT wr w.heap.size x (.slice aw x.ws.length cw) (.slice (some ⟨b, off, none⟩) x.ss.length cs) ∧ Bx wr g9 48 p q ∧ Below w.heap.size w wr) (fun i _ => ah.length - (intOf i).toNat)
          case atStart => exact ⟨0, Nat.zero_le _, rfl, hidden rfl, x1, x2, hb⟩
          case round =>
            clear x1 x2 hb
            obtain ⟨m, hm, rfl, HE3, x1, x2, hb⟩ := hrel
            by_cases hlt3 : m < ah.length
            · obtain ⟨y, hy⟩ := getx hlt3
              obtain ⟨b3, off3, vwy, vsy, rfl, c0, c1, c2, c3, c4, wy, sy⟩ := (HA.out.ext hb).at hy
              have OY := hidden (OA.out.at hy)
              obtain ⟨ay, cy, rfl, -⟩ := id wy
              obtain ⟨ty, dy, rfl, -⟩ := id sy
              have hlt' : (m : Int) < (ah.length : Int) := by omega
              have HS3 := hidden (any_snoc hy (fun y => y.ss.any (mE (p, q))))
              have HT3 := hidden (any_hit hy (fun y => y.ss.any (mE (p, q))))
              have x3 := BxT.new wr y (.slice ay y.ws.length cy) (.slice ty y.ss.length dy)
              have E9 := (Below.refl wr.heap.size wr).alloc (Nat.le_refl _) (boxT y (.slice ay y.ws.length cy) (.slice ty y.ss.length dy))
              have M := hidden (meetsOne_any p q _ y.ss _ (sy.ext E9) HQ.out OY.out.ss)
              generalize y.ss.any (mE (p, q)) = mb at *
              replace x1 := x1.ext E9
              replace x2 := x2.ext E9
              replace hb := below_then hb E9
              clear wy sy
              obtain ⟨p0, p1⟩ := x2.cells2
              obtain ⟨q0, q1, q2, q3, q4⟩ := x3.cells
              go_wp2_with fail
              refine M.out.mono ?_
              rintro e w6 ⟨rfl, B6⟩
              replace x1 := x1.ext B6
              replace x2 := x2.ext B6
              replace hb := below_then hb B6
              clear p0 p1 q0 q1 q2 q3 q4 c0 c1 c2 c3 c4 x3 E9
              cases mb
              · have E2 : Hid ((ah.take (m + 1)).any (fun y => y.ss.any (mE (p, q))) = false) := by
                  show _ = _
                  rw [HS3.out, HE3.out]; rfl
                go_wp2
                go_roundw
                case rel => exact ⟨m + 1, by omega, by go_num, E2, x1, x2, hb⟩
                case measure => simp [intOf]; omega
              · have E2 : Z = 25 := by
                  rw [← HZ2.out, HT2.out (by rw [HS2.out, HB.out, HT3.out rfl]; simp)]; rfl
                subst E2
                go_wp2
                go_ret
                exact ⟨rfl, hb⟩
            · have e : ah.take m = ah := List.take_of_length_le (by omega)
              rw [e] at HE3
              have E2 : Hid (hitsB x.ss ah (k + 1) = false) := by
                show _ = _
                rw [HS2.out, HE.out, HB.out, HE3.out]; rfl
              go_wp2
              go_roundw
              case rel => exact ⟨k + 1, by omega, by go_num, E2, x1, hb⟩
              case measure => simp [intOf]; omega
        · have e : k = x.ss.length := by omega
          subst e
          have E2 : Z = 0 := by rw [← HZ2.out, HE.out]; rfl
          subst E2
          go_wp2
          go_ret
          exact ⟨rfl, hb⟩

/-- a box with a table -/
abbrev taV (fr : Int) (v : Value) : Value := .agg #[.int .i64 fr, v]
abbrev boxA (fr : Int) (v : Value) : Obj := .cells #[.int .i64 fr, v] 24
def BxA (w : World) (g : Nat) (fr : Int) (v : Value) : Prop := Blk w g 24 [.int .i64 fr, v]
theorem BxA.cells {w : World} {g : Nat} {fr : Int} {v : Value} (h : BxA w g fr v) : w.cell? ⟨g, 0, none⟩ = some (.int .i64 fr) ∧ w.cell? ⟨g, 1, none⟩ = some v := ⟨Blk.cell h 0, Blk.cell h 1⟩
theorem BxA.lt {w : World} {g : Nat} {fr : Int} {v : Value} (h : BxA w g fr v) : g < w.heap.size := Blk.lt h
theorem BxA.new (w : World) (fr : Int) (v : Value) : BxA (w.alloc (boxA fr v)) w.heap.size fr v := Blk.new w _ [.int .i64 fr, v]
theorem BxA.ext {w w' : World} {g : Nat} {fr : Int} {v : Value} (h : BxA w g fr v) (hb : Below w.heap.size w w') : BxA w' g fr v := Blk.below h hb (Blk.lt h)
theorem BxA.alloc {w : World} {g : Nat} {fr : Int} {v : Value} (h : BxA w g fr v) (o : Obj) : BxA (w.alloc o) g fr v := Blk.alloc h o
theorem BxA.drew {w : World} {g : Nat} {fr : Int} {v : Value} (h : BxA w g fr v) : BxA w.drew g fr v := h

set_option maxHeartbeats 4000000 in
theorem where_any (fr : Int) (vt : Value) (l : List Tn) (w : World) (ht : Tns w vt l) (hf : i64 fr) (ho : OkTs l) :
    Calls Try.prog 21 #[taV fr vt] w fun e w' => e = .returned (.tuple #[.int .i64 (whereE fr l).1, .int .i64 (whereE fr l).2]) ∧ Below w.heap.size w w' := by
  obtain ⟨aa, ca, rfl, hca, hma⟩ := ht.sl
  unfold maxLen at hma
  have HA := hidden ht
  have OA := hidden ho
  have HF := hidden hf
  have x1 := BxA.new w fr (.slice aa l.length ca)
  have hb := (Below.refl w.heap.size w).alloc (Nat.le_refl _) (boxA fr (.slice aa l.length ca))
  have D1 := hidden (fun w => tin_any fr 2000 w)
  have D2 := hidden (fun w => tin_any l.length 4 w)
  obtain ⟨Z, hZ⟩ : ∃ Z, whereE fr l = Z := ⟨_, rfl⟩
  rw [hZ]
  have HZ : Hid ((if inB2 fr 2000 = false then (20, -1) else if inB2 l.length 4 = false then (26, -1) else match firstE fr l l.length with | some i => (tenI fr l i, (i : Int)) | none => (0, -1)) = Z) := hZ
  generalize inB2 fr 2000 = r1 at *
  generalize inB2 l.length 4 = r2 at *
  clear ht ho hf hZ
  obtain ⟨c0, c1⟩ := x1.cells
  go_enter Try.func21, Try.ntmps21
  go_wp2_with fail
  refine (D1.out _).mono ?_
  rintro e w1 ⟨rfl, B1⟩
  replace x1 := x1.ext B1
  replace hb := below_then hb B1
  clear c0 c1 B1
  obtain ⟨c0, c1⟩ := x1.cells
  cases r1
  · have E2 : Z = (20, -1) := by rw [← HZ.out]; rfl
    subst E2
    go_wp2
    refine bodyPost_ret (v := _) (by simp [results, Try.results21, go_sem]; with_reducible rfl) rfl ?_
    exact ⟨rfl, hb⟩
  go_wp2_with fail
  refine (D2.out _).mono ?_
  rintro e w2 ⟨rfl, B2⟩
  replace x1 := x1.ext B2
  replace hb := below_then hb B2
  clear c0 c1 B2
  obtain ⟨c0, c1⟩ := x1.cells
  cases r2
  · have E2 : Z = (26, -1) := by rw [← HZ.out]; rfl
    subst E2
    go_wp2
    refine bodyPost_ret (v := _) (by simp [results, Try.results21, go_sem]; with_reducible rfl) rfl ?_
    exact ⟨rfl, hb⟩
  have HZ2 : Hid ((match firstE fr l l.length with | some i => (tenI fr l i, (i : Int)) | none => (0, -1)) = Z) := HZ.out
  clear HZ
  go_wp2
  clear c0 c1
  go_loopw [19] (fun i wr => ∃ k : Nat, k ≤ l.length ∧ i = .int .i64 k ∧ Hid (firstE fr l k = none) ∧ BxA wr w.heap.size fr (.slice aa l.length ca) ∧ Below w.heap.size w wr) (fun i _ => l.length - (intOf i).toNat)
  case atStart => exact ⟨0, Nat.zero_le _, rfl, hidden rfl, x1, hb⟩
  case round =>
    clear x1 hb
    obtain ⟨k, hk, rfl, HE, x1, hb⟩ := hrel
    by_cases hlt : k < l.length
    · obtain ⟨y, hy⟩ := getx hlt
      obtain ⟨b, off, vwy, vsy, rfl, c0, c1, c2, c3, c4, wy, sy⟩ := (HA.out.ext hb).at hy
      have OY := hidden (OA.out.at hy)
      obtain ⟨ay, cy, rfl, -⟩ := id wy
      obtain ⟨ty, dy, rfl, -⟩ := id sy
      have hlt' : (k : Int) < (l.length : Int) := by omega
      have HT : Hid (tenI fr l k = if aloneE y fr = 0 then besideE y (l.take k) else aloneE y fr) := by
        show tenI fr l k = _
        unfold tenI
        rw [hy]
        rfl
      have HN := hidden (fun h => first_succ (fr := fr) (l := l) (k := k) HE.out h)
      have HH := hidden (fun h => first_hit (fr := fr) (l := l) (k := k) (m := l.length) hlt HE.out h)
      obtain ⟨tk9, htk⟩ : ∃ t, tenI fr l k = t := ⟨_, rfl⟩
      rw [htk] at HT HN HH
      have HK := hidden htk
      clear htk
      have x2 := BxT.new wr y (.slice ay y.ws.length cy) (.slice ty y.ss.length dy)
      have E9 := (Below.refl wr.heap.size wr).alloc (Nat.le_refl _) (boxT y (.slice ay y.ws.length cy) (.slice ty y.ss.length dy))
      have M := hidden (alone_any y _ _ fr _ (wy.ext E9) (sy.ext E9) OY.out HF.out)
      generalize aloneE y fr = al at *
      replace x1 := x1.ext E9
      replace hb := below_then hb E9
      replace wy := wy.ext E9
      replace sy := sy.ext E9
      obtain ⟨p0, p1⟩ := x1.cells
      obtain ⟨q0, q1, q2, q3, q4⟩ := x2.cells
      go_wp2_with fail
      refine M.out.mono ?_
      rintro e w2 ⟨rfl, B2⟩
      replace x1 := x1.ext B2
      replace x2 := x2.ext B2
      replace hb := below_then hb B2
      replace wy := wy.ext B2
      replace sy := sy.ext B2
      clear p0 p1 q0 q1 q2 q3 q4 c0 c1 c2 c3 c4 E9 M B2
      by_cases ha : al = 0
      · subst ha
        rw [if_pos rfl] at HT
        have N := hidden (fun w' (hw : Wns w' (.slice ay y.ws.length cy) y.ws) (hs : Sts w' (.slice ty y.ss.length dy) y.ss) (ht : Tns w' (.slice (some ⟨b, off, none⟩) k ca) (l.take k)) => beside_any y _ _ _ (l.take k) w' hw hs ht OY.out (OA.out.take k))
        generalize besideE y (l.take k) = be at *
        have WY := hidden (wy.ext (Below.refl _ _).drew)
        have SY := hidden (sy.ext (Below.refl _ _).drew)
        have xx := Ext.refl w2.drew
        replace x1 := x1.drew
        replace x2 := x2.drew
        replace hb := hb.drew
        clear wy sy
        generalize wr.heap.size = g9 at *
        go_wp2
        refine c_begin 7 rfl (by kernel_rfl) ?_
        generalize w2.drew = w4 at *
        refine c_R (fun w' => Ext w4 w') xx trivial 0 rfl (fun w' hw' => by obtain ⟨q0, q1, q2, q3, q4⟩ := (x2.ext hw').cells; go_simp; with_reducible rfl) ?_
        refine c_P ⟨xx, trivial⟩ 1 rfl ?_
        refine c_R (fun w' => Ext w4 w') xx ⟨xx, trivial⟩ 2 rfl (fun w' hw' => by obtain ⟨c0, c1⟩ := (x1.ext hw').cells; go_simp; with_reducible rfl) ?_
        refine c_P ⟨xx, xx, trivial⟩ 3 rfl ?_
        refine c_R (fun _ => True) trivial ⟨xx, xx, trivial⟩ 4 rfl (fun w' _ => by go_simp; rw [if_pos (by omega)]) ?_
        refine c_move 5 (by kernel_rfl) (c_op 5 [(2, fun w' => Ext w4 w')] (by kernel_rfl) rfl (by kernel_rfl) (fun K hK => ?_))
        go_wp2_with fail
        refine (N.out w4 WY.out SY.out ((HA.out.ext hb).take k (by omega))).mono ?_
        rintro e w5 ⟨rfl, B5⟩
        go_simp
        refine hK.out _ _ ⟨B5, trivial⟩ ?_
        try simp only [Act.put, List.setIfInBounds_toArray, List.set_cons_zero, List.set_cons_succ]
        clear hK K
        replace x1 := x1.ext B5
        replace hb := below_then hb B5
        refine c_P ⟨B5, trivial⟩ 6 rfl ?_
        refine c_done (by kernel_rfl) ?_
        clear xx B5 WY SY x2
        by_cases hbe : be = 0
        · subst hbe
          have E2 : Hid (firstE fr l (k + 1) = none) := HN.out HT.out
          go_wp2
          go_roundw
          case rel => exact ⟨k + 1, by omega, by go_num, E2, x1, hb⟩
          case measure => simp [intOf]; omega
        · have d1 : (be == 0) = false := by simpa using hbe
          have d2 : (be != 0) = true := by simpa using hbe
          have E2 : Z = (be, (k : Int)) := by
            rw [← HZ2.out, HH.out (by rw [HT.out]; exact hbe)]
            show (tenI fr l k, (k : Int)) = _
            rw [HK.out, HT.out]
          subst E2
          go_wp2
          refine bodyPost_ret (v := _) (by simp [results, Try.results21, go_sem]; with_reducible rfl) rfl ?_
          exact ⟨rfl, hb⟩
      · have d1 : (al == 0) = false := by simpa using ha
        have d2 : (al != 0) = true := by simpa using ha
        rw [if_neg ha] at HT
        have E2 : Z = (al, (k : Int)) := by
          rw [← HZ2.out, HH.out (by rw [HT.out]; exact ha)]
          show (tenI fr l k, (k : Int)) = _
          rw [HK.out, HT.out]
        subst E2
        go_wp2
        refine bodyPost_ret (v := _) (by simp [results, Try.results21, go_sem]; with_reducible rfl) rfl ?_
        exact ⟨rfl, hb⟩
    · have e : k = l.length := by omega
      subst e
      have E2 : Z = (0, -1) := by rw [← HZ2.out, HE.out]
      subst E2
      go_wp2
      refine bodyPost_ret (v := _) (by simp [results, Try.results21, go_sem]; with_reducible rfl) rfl ?_
      exact ⟨rfl, hb⟩

set_option maxHeartbeats 1000000 in
theorem right_tab (fr : Int) (vt : Value) (l : List Tn) (w : World) (ht : Tns w vt l) (hf : i64 fr) (ho : OkTs l) :
    Calls Try.prog 9 #[taV fr vt] w fun e w' => e = .returned (.bool ((whereE fr l).1 == 0)) ∧ Below w.heap.size w w' := by
  obtain ⟨aa, ca, rfl, -, -⟩ := ht.sl
  have x1 := BxA.new w fr (.slice aa l.length ca)
  have hb := (Below.refl w.heap.size w).alloc (Nat.le_refl _) (boxA fr (.slice aa l.length ca))
  have M := hidden (where_any fr _ l _ (ht.ext hb) hf ho)
  generalize whereE fr l = z at *
  obtain ⟨z1, z2⟩ := z
  clear ht ho hf
  obtain ⟨c0, c1⟩ := x1.cells
  go_enter Try.func9, Try.ntmps9
  go_wp2_with fail
  refine M.out.mono ?_
  rintro e w1 ⟨rfl, B1⟩
  replace hb := below_then hb B1
  clear c0 c1 B1
  go_wp2
  go_ret
  exact ⟨rfl, hb⟩

end Go.Proofs.Ytffjhimdamdenaa
