/- The walk of burgagelaw11.TableDisjoint. -/
import Derived.Test.YtffjhimdamdenaaBU0
namespace Go.Proofs.Ytffjhimdamdenaa
open Go.RowKit

theorem grown_of {w w' : World} (h : Below w.heap.size w w') : w.grownBy w' none := ⟨h.os, h.tape, h.output, h.size, fun k hk _ => h.block k hk⟩
theorem zero_int (w : World) : (zeroValue 3).run Try.prog w = .ok (.int .i64 0) w := by kernel_rfl
abbrev MC (w : World) (b n : Nat) (D : DataW Unit) : Prop := w.ownsMap Try.prog 46 (plainElem (H := Unit) Try.prog 3) b n D
abbrev MT (w : World) (b n : Nat) (D : DataW Unit) : Prop := w.ownsMap Try.prog 3 (plainElem (H := Unit) Try.prog 3) b n D

set_option maxRecDepth 100000 in
set_option maxHeartbeats 16000000 in
theorem disjoint_law (at' : Option Addr) (m cap : Nat) (lt : List Int) (what at_ n : Int) (w : World) (h : Row w (.slice at' m cap) (lt.map iV)) (hi : ∀ x ∈ lt, -9223372036854775808 ≤ x ∧ x ≤ 9223372036854775807) (h1 : i64 what) (_h2 : i64 at_) (_h3 : i64 n) :
    Calls Try.prog 5 #[.slice at' m cap, .int .i64 what, .int .i64 at_, .int .i64 n] w fun e w' => e = .returned (.bool true) ∧ Below w.heap.size w w' := by
  obtain ⟨m2, e2, b2⟩ := maskN at_ 5 (by omega) 31 rfl
  obtain ⟨m3, e3, b3⟩ := maskN n 8 (by omega) 255 rfl
  have I1 := hidden h1
  have T0 := hidden (tap_new w at' m cap lt h hi)
  have B0 := hidden ((Below.refl w.heap.size w).alloc (Nat.le_refl _) (.cells #[.slice at' m cap, .int .i64 0] 29))
  have S1 : Hid (w.heap.size + 1 ≤ (w.alloc (.cells #[.slice at' m cap, .int .i64 0] 29)).heap.size) := by show _ ≤ _; rw [World.size_alloc]; omega
  have hmm := @run_makeMap Try.prog
  clear h hi h1 _h2 _h3
  go_enter Try.func5, Try.ntmps5
  go_wp2_with fail
  refine (table_any _ _ lt _ T0.out S1.out).mono ?_
  rintro e w1 ⟨vt, frx, lx, rfl, T1, OX, D1⟩
  have B1 : Below w.heap.size w w1 := B0.out.trans (D1.below (by have := S1.out; omega) (Nat.le_refl _))
  have HB := hidden B1
  clear T0 B0 S1 B1 D1
  have OD := hidden (odd_any frx vt lx what m2 m3 10 w1 T1 OX.okTb (by decide) OX.i64 I1.out (i64_nat _ (by omega)) (i64_nat _ (by omega)))
  clear T1 OX
  go_wp2_with fail
  refine OD.out.mono ?_
  rintro e w2 ⟨fr, v, rfl, OR⟩
  obtain ⟨hf, B2, l, T2, OK⟩ := OR
  obtain ⟨tv, cv, rfl, -, -⟩ := T2.sl
  have E := (Below.refl w2.heap.size w2).alloc (Nat.le_refl _) (boxA fr (.slice tv l.length cv))
  have Y := BxA.new w2 fr (.slice tv l.length cv)
  replace T2 := T2.ext E
  replace HB := hidden (below_then (below_then HB.out B2) E)
  clear B2 E OD e2 e3
  have R := hidden (right_tab fr _ l _ T2 hf (OK.okTs (by decide)))
  have HT := hidden T2
  clear T2
  obtain ⟨c0, c1⟩ := Y.cells
  by_cases hR : (whereE fr l).1 = 0
  rotate_left
  · have d : ((whereE fr l).1 == 0) = false := by simpa using hR
    rw [d] at R
    clear d hR
    go_wp2_with fail
    refine R.out.mono ?_
    rintro e w3 ⟨rfl, B3⟩
    replace HB := hidden (below_then HB.out B3)
    clear c0 c1 B3
    go_wp2_with fail
    refine (known_law _).mono ?_
    rintro e w4 ⟨rfl, B4⟩
    replace HB := hidden (below_then HB.out B4)
    clear B4
    go_wp2
    go_ret
    exact ⟨rfl, HB.out⟩
  have RR := hidden (RT.of hR)
  rw [hR] at R
  clear hR hf OK
  go_wp2_with fail
  refine R.out.mono ?_
  rintro e w3 ⟨rfl, B3⟩
  replace Y := Y.ext B3
  replace HT := hidden (HT.out.ext B3)
  replace HB := hidden (below_then HB.out B3)
  generalize w2.heap.size = g9 at *
  clear c0 c1 B3 R
  have hg9 := Y.lt
  have OM1 : MC (w3.alloc (.map #[] 0)) w3.heap.size 0 (.map []) := World.ownsMap_made (H := Unit) w3 Try.prog 46 (plainElem (H := Unit) Try.prog 3)
  have OM2 : MT ((w3.alloc (.map #[] 0)).alloc (.map #[] 0)) (w3.alloc (.map #[] 0)).heap.size 0 (.map []) := World.ownsMap_made (H := Unit) (w3.alloc (.map #[] 0)) Try.prog 3 (plainElem (H := Unit) Try.prog 3)
  replace OM1 : MC _ _ _ _ := OM1.alloc (.map #[] 0)
  rw [World.size_alloc] at OM2
  have BM := ((Below.refl w3.heap.size w3).alloc (Nat.le_refl _) (.map #[] 0)).alloc (by simp) (.map #[] 0)
  replace Y := Y.ext BM
  obtain ⟨c0, c1⟩ := Y.cells
  go_wp2
  clear hmm c0 c1
  have hBM := hidden BM
  generalize (w3.alloc (.map #[] 0)).alloc (.map #[] 0) = w4 at *
  go_loopw [40] (fun z wr => ∃ (i n1 n2 : Nat) (D1 D2 : DataW Unit), i ≤ l.length ∧ z = .int .i64 i ∧ n1 ≤ i * 3072 ∧ n2 ≤ i * 6000 ∧ MC wr w3.heap.size n1 D1 ∧ MT wr (w3.heap.size + 1) n2 D2 ∧ Hid (ClW D1 ((l.drop i).flatMap (·.ws))) ∧ Hid (ClS D2 ((l.drop i).flatMap (·.ss))) ∧ BxA wr g9 fr (.slice tv l.length cv) ∧ Below w3.heap.size w3 wr) (fun z _ => l.length - (intOf z).toNat)
  case atStart => exact ⟨0, 0, 0, _, _, by omega, rfl, by omega, by omega, OM1, OM2, hidden (ClW.nil _), hidden (ClS.nil _), Y, hBM.out⟩
  case round =>
    clear OM1 OM2 Y BM hBM
    obtain ⟨i, n1, n2, D1, D2, hi, rfl, hn1, hn2, OM1, OM2, C1, C2, Y, bb⟩ := hrel
    by_cases hlt : i < l.length
    · have hlt' : (i : Int) < (l.length : Int) := by omega
      have hi4 := RR.out.len
      obtain ⟨x, hx⟩ := getx hlt
      obtain ⟨b, off, vw, vs, rfl, t0, t1, t2, t3, t4, hw, hs⟩ := HT.out.at hx
      have tb := fun {o : Nat} {u : Value} (h : w3.cell? ⟨b, o, none⟩ = some u) => (by rw [bb.cell (p := ⟨b, o, none⟩) (lt_of_cell h)]; exact h : wr.cell? ⟨b, o, none⟩ = some u)
      have u0 := tb t0
      have u1 := tb t1
      have u2 := tb t2
      have u3 := tb t3
      have u4 := tb t4
      clear tb t0 t1 t2 t3 t4
      obtain ⟨aw, cw, rfl, -⟩ := id hw
      obtain ⟨sa, cs, rfl, -⟩ := id hs
      obtain ⟨tw1, tw2, tw3, tw4⟩ := RR.out.ten x (List.mem_of_getElem? hx)
      have X := BxT.new wr x (.slice aw x.ws.length cw) (.slice sa x.ss.length cs)
      have E := (Below.refl wr.heap.size wr).alloc (Nat.le_refl _) (boxT x (.slice aw x.ws.length cw) (.slice sa x.ss.length cs))
      have l1 := OM1.lt
      have l2 := OM2.lt
      have l9 := Y.lt
      have hwr := bb.size
      replace OM1 : MC _ _ _ _ := OM1.alloc (boxT x (.slice aw x.ws.length cw) (.slice sa x.ss.length cs))
      replace OM2 : MT _ _ _ _ := OM2.alloc (boxT x (.slice aw x.ws.length cw) (.slice sa x.ss.length cs))
      replace Y := Y.ext E
      replace bb := below_then bb E
      have HX := hidden hx
      have HW := hidden hw
      have HS := hidden hs
      have W3 := hidden tw3
      have W4 := hidden tw4
      have eD : (l.drop i).flatMap (·.ws) = x.ws.drop 0 ++ (l.drop (i + 1)).flatMap (·.ws) := by rw [drop_get hx]; rfl
      have eS : (l.drop i).flatMap (·.ss) = x.ss.drop 0 ++ (l.drop (i + 1)).flatMap (·.ss) := by rw [drop_get hx]; rfl
      have C1' : Hid (ClW D1 (x.ws.drop 0 ++ (l.drop (i + 1)).flatMap (·.ws))) := by rw [eD] at C1; exact C1
      have C2' : Hid (ClS D2 (x.ss.drop 0 ++ (l.drop (i + 1)).flatMap (·.ss))) := by rw [eS] at C2; exact C2
      clear hx hw hs tw3 tw4 eD eS C1 C2 E
      obtain ⟨c0, c1⟩ := Y.cells
      obtain ⟨x0, x1, x2, x3, x4⟩ := X.cells
      obtain ⟨wo, hwo⟩ : ∃ wo, wo = wr := ⟨_, rfl⟩
      subst hwo
      go_wp2
      clear c0 c1 x0 x1 x2 x3 x4 u0 u1 u2 u3 u4
      generalize wo.heap.size = g13 at *
      generalize (wo.alloc (boxT x (.slice aw x.ws.length cw) (.slice sa x.ss.length cs))) = w5 at *
      go_loopw [48] (fun z wr => ∃ (j n1 : Nat) (D1 : DataW Unit), j ≤ x.ws.length ∧ z = .int .i64 j ∧ n1 ≤ i * 3072 + j * 512 ∧ MC wr w3.heap.size n1 D1 ∧ MT wr (w3.heap.size + 1) n2 D2 ∧ Hid (ClW D1 (x.ws.drop j ++ (l.drop (i + 1)).flatMap (·.ws))) ∧ BxA wr g9 fr (.slice (some ⟨b, off, none⟩) l.length cv) ∧ BxT wr g13 x (.slice aw x.ws.length cw) (.slice sa x.ss.length cs) ∧ Below w3.heap.size w3 wr) (fun z _ => x.ws.length - (intOf z).toNat)
      case atStart => exact ⟨0, n1, D1, by omega, rfl, by omega, OM1, OM2, C1', Y, X, bb⟩
      case round =>
        clear OM1 OM2 C1' Y X bb
        obtain ⟨j, n1, D1, hj, rfl, hn1, OM1, OM2, C1, Y, X, bb⟩ := hrel
        by_cases hjl : j < x.ws.length
        · have hjl' : (j : Int) < (x.ws.length : Int) := by omega
          obtain ⟨⟨s, v0, p, c⟩, hy⟩ := getx hjl
          obtain ⟨bw, ow, rfl, q0, q1, q2, q3⟩ := (HW.out.ext bb).wn hy
          have wq := wR_iff.1 (W3.out _ (List.mem_of_getElem? hy))
          have Z := BxW.new wr s v0 p c
          have E := (Below.refl wr.heap.size wr).alloc (Nat.le_refl _) (boxW s v0 p c)
          have lz := OM1.lt
          have lz2 := OM2.lt
          have lx := X.lt
          have ly := Y.lt
          have hwr2 := bb.size
          replace OM1 : MC _ _ _ _ := OM1.alloc (boxW s v0 p c)
          replace OM2 : MT _ _ _ _ := OM2.alloc (boxW s v0 p c)
          replace Y := Y.ext E
          replace X := X.ext E
          replace bb := below_then bb E
          have HY := hidden hy
          have hd : ClW D1 ((s, v0, p, c) :: (x.ws.drop (j + 1) ++ (l.drop (i + 1)).flatMap (·.ws))) := by
            have h := C1.out
            rw [drop_get HY.out, List.cons_append] at h
            exact h
          have C1a := hidden hd.head.1
          have C1b := hidden hd.head.2
          clear hd
          clear hy E C1
          obtain ⟨wo, hwo⟩ : ∃ wo, wo = wr := ⟨_, rfl⟩
          subst hwo
          go_wp2
          clear q0 q1 q2 q3
          generalize wo.heap.size = g15 at *
          generalize (wo.alloc (boxW s v0 p c)) = w6 at *
          go_loopw [16] (fun z wr => ∃ (k n1 : Nat) (D1 : DataW Unit), (k : Int) ≤ c ∧ z = .int .i64 k ∧ n1 ≤ i * 3072 + j * 512 + k ∧ MC wr w3.heap.size n1 D1 ∧ MT wr (w3.heap.size + 1) n2 D2 ∧ Hid (ClF D1 s (p + k) (p + c)) ∧ Hid (ClW D1 (x.ws.drop (j + 1) ++ (l.drop (i + 1)).flatMap (·.ws))) ∧ BxA wr g9 fr (.slice (some ⟨b, off, none⟩) l.length cv) ∧ BxT wr g13 x (.slice (some ⟨bw, ow, none⟩) x.ws.length cw) (.slice sa x.ss.length cs) ∧ BxW wr g15 s v0 p c ∧ Below w3.heap.size w3 wr) (fun z _ => (c - intOf z).toNat)
          case atStart => exact ⟨0, n1, D1, by omega, rfl, by omega, OM1, OM2, hidden (by show ClF D1 s (p + ((0 : Nat) : Int)) (p + c); rw [show p + ((0 : Nat) : Int) = p by omega]; exact C1a.out), C1b, Y, X, Z, bb⟩
          case round =>
            clear OM1 OM2 C1a C1b Y X Z bb
            obtain ⟨k, n1, D1, hk, rfl, hn1, OM1, OM2, C1a, C1b, Y, X, Z, bb⟩ := hrel
            obtain ⟨z0, z1, z2, z3⟩ := Z.cells
            by_cases hkl : (k : Int) < c
            · have lz3 := OM1.lt
              have lz4 := OM2.lt
              have lg := Z.lt
              have E := (Below.refl wr.heap.size wr).alloc (Nat.le_refl _) (.cells #[.int .i64 s, .int .i64 (p + k)] 46)
              replace OM1 : MC _ _ _ _ := OM1.alloc (.cells #[.int .i64 s, .int .i64 (p + k)] 46)
              replace OM2 : MT _ _ _ _ := OM2.alloc (.cells #[.int .i64 s, .int .i64 (p + k)] 46)
              replace Y := Y.ext E
              replace X := X.ext E
              have Z9 := BxW.ext Z E
              replace bb := below_then bb E
              have hkey := keyC (s := s) (p := p + k) (by omega) (by omega)
              obtain ⟨cc, hrun, hat, -⟩ := OM1.lookup_int keyedC Try.underlying37 Try.underlying3 (zero_int _) hkey
              rw [C1a.out (p + k) (Int.le_refl _) (by omega)] at hat
              cases hat
              have hst := hidden (ClF.step (y := (s, v0, p, c)) (a := p + k) C1a.out C1b.out rfl (show p ≤ p + (k : Int) by omega) rfl (show p + (k : Int) < p + c by omega) (W3.out _ (List.mem_of_getElem? HY.out)) (RR.out.restW HX.out (j + 1)) (RR.out.headW HX.out HY.out))
              have hp5 : decide ((512 : Int) ≤ p + (k : Int)) = false := decide_eq_false (by omega)
              have hwv : (Lit.int .i64 ((i : Int) + 1)).wf = true := wfI (by omega)
              have HOM := hidden OM1
              have HKEY := hidden hkey
              have HWV := hidden hwv
              clear OM1 Z E C1a C1b hkey hwv
              obtain ⟨y0, y1, y2, y3⟩ := Z9.cells
              go_wp2_with (at_mapUpdate; refine wpList_mapUpdate_own _ rfl _ _ _ 37 rfl 46 3 keyedC Try.underlying37 (plainElem (H := Unit) Try.prog 3) w3.heap.size n1 D1 rfl HOM.out (by unfold maxLen; omega) _ _ (kC s (p + k)) rfl rfl HKEY.out (.lit (.int .i64 ((i : Int) + 1))) [] (plainElem_int Try.underlying3 HWV.out) ?_)
              intro w7 own7 gr7
              have ne : ∀ g, g ≠ w3.heap.size → (some w3.heap.size : Option Nat) ≠ some g := fun g hg e => hg (by cases e; rfl)
              have OM2' : MT w7 (w3.heap.size + 1) n2 D2 := OM2.kept gr7 (by simp)
              have Y' : BxA w7 g9 fr _ := Blk.grownL Y gr7 (ne _ (by omega))
              have X' : BxT w7 g13 x _ _ := Blk.grownL X gr7 (ne _ (by omega))
              have Z' : BxW w7 g15 s v0 p c := Blk.grownL Z9 gr7 (ne _ (by omega))
              have bb' := bb.grown gr7 bb.size (fun q hq => by cases hq; exact Nat.le_refl _)
              clear y0 y1 y2 y3 z0 z1 z2 z3 hrun
              go_wp2
              go_roundw
              case rel => exact ⟨k + 1, n1 + 1, _, by omega, by go_num, by omega, own7, OM2', hidden (by have := (hst.out (.lit (.int .i64 ((i : Int) + 1)))).1; rw [show p + ((k + 1 : Nat) : Int) = p + k + 1 by omega]; exact this), hidden (hst.out _).2, Y', X', Z', bb'⟩
              case measure => simp only [intOf]; omega
            · go_wp2
              go_roundw
              case rel => exact ⟨j + 1, n1, D1, by omega, by go_num, by omega, OM1, OM2, C1b, Y, X, bb⟩
              case measure => simp [intOf]; omega
        · have ej : j = x.ws.length := by omega
          subst ej
          rw [List.drop_length, List.nil_append] at C1
          obtain ⟨x0, x1, x2, x3, x4⟩ := X.cells
          have HC1 := hidden C1
          have hn1' : n1 ≤ (i + 1) * 3072 := by omega
          obtain ⟨wo, hwo⟩ : ∃ wo, wo = wr := ⟨_, rfl⟩
          subst hwo
          clear hn1 hj
          go_wp2
          clear x0 x1 x2 x3 x4
          have HOM1 := hidden OM1
          go_loopw [84] (fun z wr => ∃ (j n2 : Nat) (D2 : DataW Unit), j ≤ x.ss.length ∧ z = .int .i64 j ∧ n2 ≤ i * 6000 + j * 2000 ∧ MC wr w3.heap.size n1 D1 ∧ MT wr (w3.heap.size + 1) n2 D2 ∧ Hid (ClS D2 (x.ss.drop j ++ (l.drop (i + 1)).flatMap (·.ss))) ∧ BxA wr g9 fr (.slice (some ⟨b, off, none⟩) l.length cv) ∧ Below w3.heap.size w3 wr) (fun z _ => x.ss.length - (intOf z).toNat)
          case atStart => exact ⟨0, n2, D2, by omega, rfl, by omega, OM1, OM2, C2', Y, bb⟩
          case round =>
            clear OM1 OM2 C2' Y X bb hn2 HOM1
            obtain ⟨j, n2, D2, hj, rfl, hn2, OM1, OM2, C2, Y, bb⟩ := hrel
            by_cases hjl : j < x.ss.length
            · have hjl' : (j : Int) < (x.ss.length : Int) := by omega
              obtain ⟨⟨sp, sn⟩, hy⟩ := getx hjl
              obtain ⟨bs, os, rfl, q0, q1⟩ := (HS.out.ext bb).st hy
              obtain ⟨wq1, wq2, wq3⟩ := W4.out _ (List.mem_of_getElem? hy)
              have frm := RR.out.frm
              simp only at wq1 wq2 wq3
              have Z := Bx.new wr 48 sp sn
              have E := (Below.refl wr.heap.size wr).alloc (Nat.le_refl _) (boxS sp sn)
              have lz := OM1.lt
              have lz2 := OM2.lt
              have ly := Y.lt
              have hwr2 := bb.size
              replace OM1 : MC _ _ _ _ := OM1.alloc (boxS sp sn)
              replace OM2 : MT _ _ _ _ := OM2.alloc (boxS sp sn)
              replace Y := Y.ext E
              replace bb := below_then bb E
              have HY := hidden hy
              have hd : ClS D2 ((sp, sn) :: (x.ss.drop (j + 1) ++ (l.drop (i + 1)).flatMap (·.ss))) := by
                have h := C2.out
                rw [drop_get HY.out, List.cons_append] at h
                exact h
              have C2a := hidden hd.head.1
              have C2b := hidden hd.head.2
              clear hd hy E C2
              obtain ⟨z0, z1⟩ := Z.cells2
              have d72 : decide (sn < 72) = false := decide_eq_false (by omega)
              obtain ⟨wo, hwo⟩ : ∃ wo, wo = wr := ⟨_, rfl⟩
              subst hwo
              go_wp2
              clear q0 q1 z0 z1
              generalize wo.heap.size = g19 at *
              generalize (wo.alloc (boxS sp sn)) = w6 at *
              go_loopw [20] (fun z wr => ∃ (t : Int) (n2 : Nat) (D2 : DataW Unit), sp ≤ t ∧ t ≤ sp + sn ∧ z = .int .i64 t ∧ (n2 : Int) ≤ i * 6000 + j * 2000 + (t - sp) ∧ MC wr w3.heap.size n1 D1 ∧ MT wr (w3.heap.size + 1) n2 D2 ∧ Hid (ClG D2 t (sp + sn)) ∧ Hid (ClS D2 (x.ss.drop (j + 1) ++ (l.drop (i + 1)).flatMap (·.ss))) ∧ BxA wr g9 fr (.slice (some ⟨b, off, none⟩) l.length cv) ∧ Bx wr g19 48 sp sn ∧ Below w3.heap.size w3 wr) (fun z _ => (sp + sn - intOf z).toNat)
              case atStart => exact ⟨sp, n2, D2, by omega, by omega, rfl, by omega, OM1, OM2, C2a, C2b, Y, Z, bb⟩
              case round =>
                clear OM1 OM2 C2a C2b Y Z bb
                obtain ⟨t, n2, D2, ht1, ht2, rfl, hn2, OM1, OM2, C2a, C2b, Y, Z, bb⟩ := hrel
                obtain ⟨z0, z1⟩ := Z.cells2
                by_cases hkl : t < sp + sn
                · have lz3 := OM1.lt
                  have lz4 := OM2.lt
                  have lg := Z.lt
                  have hkey : keyOf Try.prog 3 (.int .i64 t) = some (.int .i64 t) := Maps.keyOf_int_mk Try.underlying3 (wfI (by omega))
                  obtain ⟨cc, hrun, hat, -⟩ := OM2.lookup_int (Maps.int_keyed Try.underlying3) Try.underlying38 Try.underlying3 (zero_int _) hkey
                  rw [C2a.out t (Int.le_refl _) (by omega)] at hat
                  cases hat
                  have hst := hidden (ClG.step (y := (sp, sn)) (a := t) C2a.out C2b.out ht1 rfl hkl (RR.out.headS HX.out HY.out))
                  have hp5 : decide (fr ≤ t) = false := decide_eq_false (by omega)
                  have dk : decide (t < sp + sn) = true := decide_eq_true hkl
                  have HKEY := hidden hkey
                  have HWV := hidden (wfI (p := (i : Int) + 1) (by omega))
                  have HOM := hidden OM2
                  clear OM2 C2a C2b hkey
                  obtain ⟨c0, c1⟩ := Y.cells
                  go_wp2_with (at_mapUpdate; refine wpList_mapUpdate_own _ rfl _ _ _ 38 rfl 3 3 (Maps.int_keyed Try.underlying3) Try.underlying38 (plainElem (H := Unit) Try.prog 3) (w3.heap.size + 1) n2 D2 rfl HOM.out (by unfold maxLen; omega) _ _ (.int .i64 t) rfl rfl HKEY.out (.lit (.int .i64 ((i : Int) + 1))) [] (plainElem_int Try.underlying3 HWV.out) ?_)
                  intro w7 own7 gr7
                  have ne : ∀ g, g ≠ w3.heap.size + 1 → (some (w3.heap.size + 1) : Option Nat) ≠ some g := fun g hg e => hg (by cases e; rfl)
                  have OM1' : MC w7 w3.heap.size n1 D1 := OM1.kept gr7 (by simp)
                  have Y' : BxA w7 g9 fr _ := Blk.grownL Y gr7 (ne _ (by omega))
                  have Z' : Bx w7 g19 48 sp sn := Blk.grownL Z gr7 (ne _ (by omega))
                  have bb' := bb.grown gr7 bb.size (fun q hq => by cases hq; omega)
                  clear z0 z1 hrun c0 c1
                  go_wp2
                  go_roundw
                  case rel => exact ⟨t + 1, n2 + 1, _, by omega, by omega, by go_num, by omega, OM1', own7, hidden (hst.out _).1, hidden (hst.out _).2, Y', Z', bb'⟩
                  case measure => simp only [intOf]; omega
                · have dk : decide (t < sp + sn) = false := decide_eq_false hkl
                  go_wp2
                  go_roundw
                  case rel => exact ⟨j + 1, n2, D2, by omega, by go_num, by omega, OM1, OM2, C2b, Y, bb⟩
                  case measure => simp [intOf]; omega
            · have ej : j = x.ss.length := by omega
              subst ej
              rw [List.drop_length, List.nil_append] at C2
              go_wp2
              go_roundw
              case rel => exact ⟨i + 1, n1, n2, D1, D2, by omega, by go_num, by omega, by omega, OM1, OM2, HC1, C2, Y, bb⟩
              case measure => simp [intOf]; omega
    · have hlt' : ¬ (i : Int) < (l.length : Int) := by omega
      have HB2 := hidden (below_then HB.out bb)
      clear OM1 OM2 Y bb C1 C2
      go_wp2_with fail
      refine (known_law _).mono ?_
      rintro e w9 ⟨rfl, B9⟩
      have HB3 := hidden (below_then HB2.out B9)
      clear B9
      go_wp2
      go_ret
      exact ⟨rfl, HB3.out⟩

end Go.Proofs.Ytffjhimdamdenaa
