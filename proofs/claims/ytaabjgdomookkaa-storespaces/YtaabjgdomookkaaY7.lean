/- Contracts of burgageref8's there, Bits, Vals, SetBits, SetVals. -/
import Derived.Test.YtaabjgdomookkaaY6
namespace Go.Proofs.Ytaabjgdomookkaa
open Go.RowKit

set_option maxHeartbeats 1000000 in
theorem rthere_any (lo hi g n : Nat) (s : Cs) (a m : Int) (w : World) (h : SR n w lo hi g n s) (ha : i64 a) :
    Calls Try.prog 34 #[ptrG g, .int .i64 a, .int .i64 m] w fun e w' => e = .returned (.bool (fits n a m)) ∧ w = w' := by
  unfold i64 at ha
  obtain ⟨-, ⟨hp, hq⟩, -, -, -, g0, g1, g2, g3, c0, c1, c2, c3, hb, -⟩ := h
  have q0 : w.cell? ⟨g, 0, none⟩ = some (.int .i64 n) := hb.cell 0
  clear hb
  by_cases h1 : 0 ≤ a
  · by_cases h2 : 0 ≤ m
    · by_cases h3 : a ≤ (n : Int)
      · by_cases h4 : m ≤ (n : Int) - a
        · rw [fits_t (by omega)]
          go_enter Try.func34, Try.ntmps34
          go_wp2
          go_ret
          exact ⟨ret_bool (by first | rfl | (simp; done) | (simp; omega)), rfl⟩
        · rw [fits_f (by omega)]
          go_enter Try.func34, Try.ntmps34
          go_wp2
          go_ret
          exact ⟨ret_bool (by first | rfl | (simp; done) | (simp; omega)), rfl⟩
      · rw [fits_f (by omega)]
        go_enter Try.func34, Try.ntmps34
        go_wp2
        go_ret
        exact ⟨ret_bool (by first | rfl | (simp; done) | (simp; omega)), rfl⟩
    · rw [fits_f (by omega)]
      go_enter Try.func34, Try.ntmps34
      go_wp2
      go_ret
      exact ⟨ret_bool (by first | rfl | (simp; done) | (simp; omega)), rfl⟩
  · rw [fits_f (by omega)]
    go_enter Try.func34, Try.ntmps34
    go_wp2
    go_ret
    exact ⟨ret_bool (by first | rfl | (simp; done) | (simp; omega)), rfl⟩

set_option maxHeartbeats 2000000 in
theorem rsetB_any (lo hi g n : Nat) (s : Cs) (v : Value) (l : List Bool) (sp a : Int) (w : World) (h : SR n w lo hi g n s) (hv : Row w v (l.map Value.bool)) (ha : i64 a) (_ : i64 sp) :
    Calls Try.prog 20 #[ptrG g, .int .i64 sp, .int .i64 a, v] w fun e w' => e = .returned (.bool (okB n sp a l.length)) ∧ SR n w' lo hi g n (setB n s sp a l) ∧ Kp (In lo hi) w w' := by
  obtain ⟨av, cv, rfl, hv1, hv2, -⟩ := id hv
  unfold maxLen at hv2
  simp only [List.length_map] at hv hv1 ⊢
  have hpos := h.pos
  have C := hidden (rthere_any lo hi g n s a l.length w h ha)
  cases hs : isB sp
  · have h0 : (sp == 0) = false := by
      rw [beq_eq_false_iff_ne]; intro e; simp [isB, e] at hs
    have h1 : (sp == 1) = false := by
      rw [beq_eq_false_iff_ne]; intro e; simp [isB, e] at hs
    have e1 : okB n sp a l.length = false := by simp [okB, hs]
    have e2 : setB n s sp a l = s := by simp [setB, e1]
    rw [e1, e2]
    have H := hidden h
    have t0 : (sp != 0) = true := by simp [bne, h0]
    have t1 : (sp != 1) = true := by simp [bne, h1]
    clear hs e1 e2 hv h hpos ha C h0 h1
    go_enter Try.func20, Try.ntmps20
    go_wp2
    go_ret
    exact ⟨rfl, H.out, Kp.refl _ _⟩
  · obtain ⟨gr, c, xs, hb, hx, hin, hh, hl, hc, hput⟩ := h.atB hs
    have hsp : sp = 0 ∨ sp = 1 := by simpa [isB] using hs
    cases hf : fits n a l.length
    · have e1 : okB n sp a l.length = false := by simp [okB, hf]
      have e2 : setB n s sp a l = s := by simp [setB, e1]
      rw [e1, e2]
      rw [hf] at C
      have H := hidden h
      clear hs e1 e2 hv h hpos ha hb hx hin hh hl hc hput hf
      rcases hsp with rfl | rfl
      all_goals
        go_enter Try.func20, Try.ntmps20
        go_wp2_with fail
        refine C.out.mono ?_
        rintro e w1 ⟨rfl, rfl⟩
        go_wp2
        go_ret
        exact ⟨rfl, H.out, Kp.refl _ _⟩
    · have e1 : okB n sp a l.length = true := by simp [okB, hf, hs]
      have e2 : setB n s sp a l = putRB s sp (splice (rowB s sp) a.toNat l) := by simp [setB, e1]
      rw [e1, e2]
      rw [hf] at C
      obtain ⟨q1, q2, q3⟩ := fits_iff.1 hf
      obtain ⟨b', rfl⟩ : ∃ b' : Nat, a = (b' : Int) := ⟨a.toNat, by omega⟩
      obtain ⟨cur, hbk, p1, p2, hc2, p4⟩ := id hh
      have hmx := hc2
      unfold maxLen at hmx
      obtain ⟨of, hof⟩ : ∃ of, (if c = b' then 0 else b') = of := ⟨_, rfl⟩
      have HC : Hid (b' ≤ n ∧ n ≤ c) := ⟨by omega, hc⟩
      have had2 : (if (c : Int) = (b' : Int) then some (⟨gr, 0, none⟩ : Addr) else some ⟨gr, b', none⟩) = some ⟨gr, of, none⟩ := by
        rw [← hof]
        by_cases hcb : c = b'
        · rw [if_pos hcb, if_pos (by omega)]
        · rw [if_neg hcb, if_neg (by omega)]
      have had3 : (if c = b' then some (⟨gr, 0, none⟩ : Addr) else some ⟨gr, b', none⟩) = some ⟨gr, of, none⟩ := by
        rw [← hof]; split <;> rfl
      have hofl : of + (n - b') ≤ cur.length := by
        rw [← hof]; split <;> omega
      obtain ⟨w1, hrun, hg1, hb1⟩ := copy_runK (P := Try.prog) (w := w) 23 23 3 4 Try.underlying23 (by kernel_rfl) gr of (n - b') (c - b') av l.length cv _ _ hbk (l.map Value.bool) hv (one_bools _) hofl
      have K1 : Hd w1 gr 4 c ((splice (rowB s sp) b' l).map Value.bool) := by
        have et' : (l.map Value.bool).take (n - b') = l.map Value.bool := List.take_of_length_le (by simp; omega)
        rw [et'] at hg1
        have h5 : ((rowB s sp).map Value.bool).length = n := by simpa using hl
        rw [h5] at p4
        rw [splice_map]
        by_cases hcb : c = b'
        · have hy0 : l = [] := List.eq_nil_of_length_eq_zero (by omega)
          subst hy0
          simp only [List.map_nil, splice_nil] at hg1 ⊢
          exact ⟨cur, hg1, by omega, p2, hc2, by rw [h5]; exact p4⟩
        · rw [if_neg hcb] at hof
          subst hof
          exact Hd.spl hg1 (by omega) p2 hc2 (by rw [h5]; exact p4) (by simp; omega)
      obtain ⟨P1, P2⟩ := hput w1 _ (by rw [splice_len _ _ _ (by omega), hl]) hb1 K1
      have HP1 := hidden P1
      have HP2 := hidden P2
      have hcell : w.cell? ⟨g, 1 + sp.toNat, none⟩ = some (.slice (some ⟨gr, 0, none⟩) n c) := by rw [hb.cell]; exact hx
      simp only [List.length_map] at hrun
      clear hs e1 e2 hv h hpos hb hx hin hh hl hput hf p1 p2 hc2 p4 hg1 K1 P1 P2 hbk q1 q2 hb1
      rcases hsp with rfl | rfl
      · replace hcell : w.cell? ⟨g, 1, none⟩ = some (.slice (some ⟨gr, 0, none⟩) n c) := hcell
        go_enter Try.func20, Try.ntmps20
        go_wp2_with fail
        refine C.out.mono ?_
        rintro e w1' ⟨rfl, rfl⟩
        go_wp2
        go_ret
        exact ⟨rfl, by simpa using HP1.out, HP2.out⟩
      · replace hcell : w.cell? ⟨g, 2, none⟩ = some (.slice (some ⟨gr, 0, none⟩) n c) := hcell
        go_enter Try.func20, Try.ntmps20
        go_wp2_with fail
        refine C.out.mono ?_
        rintro e w1' ⟨rfl, rfl⟩
        go_wp2
        go_ret
        exact ⟨rfl, by simpa using HP1.out, HP2.out⟩

set_option maxHeartbeats 2000000 in
theorem rgetB_any (lo hi g n : Nat) (s : Cs) (sp a m : Int) (w : World) (h : SR n w lo hi g n s) (ha : i64 a) (_ : i64 sp) :
    Calls Try.prog 35 #[ptrG g, .int .i64 sp, .int .i64 a, .int .i64 m] w fun e w' => ∃ v', e = .returned (.tuple #[v', .bool (okB n sp a m)]) ∧ Row w' v' ((getB n s sp a m).map Value.bool) ∧ NwV w.heap.size v' ∧ Below w.heap.size w w' := by
  have hpos := h.pos
  have C := hidden (rthere_any lo hi g n s a m w h ha)
  cases hs : isB sp
  · have h0 : (sp == 0) = false := by
      rw [beq_eq_false_iff_ne]; intro e; simp [isB, e] at hs
    have h1 : (sp == 1) = false := by
      rw [beq_eq_false_iff_ne]; intro e; simp [isB, e] at hs
    have e1 : okB n sp a m = false := by simp [okB, hs]
    have e2 : getB n s sp a m = [] := by simp [getB, e1]
    rw [e1, e2]
    have t0 : (sp != 0) = true := by simp [bne, h0]
    have t1 : (sp != 1) = true := by simp [bne, h1]
    clear hs e1 e2 h hpos ha C h0 h1
    go_enter Try.func35, Try.ntmps35
    go_wp2
    go_ret2
    exact ⟨_, rfl, Row.nil _, NwV.nil _ _ _, Below.refl _ _⟩
  · obtain ⟨gr, c, xs, hb, hx, hin, hh, hl, hc, hput⟩ := h.atB hs
    have hsp : sp = 0 ∨ sp = 1 := by simpa [isB] using hs
    cases hf : fits n a m
    · have e1 : okB n sp a m = false := by simp [okB, hf]
      have e2 : getB n s sp a m = [] := by simp [getB, e1]
      rw [e1, e2]
      rw [hf] at C
      clear hs e1 e2 h hpos ha hb hx hin hh hl hc hput hf
      rcases hsp with rfl | rfl
      all_goals
        go_enter Try.func35, Try.ntmps35
        go_wp2_with fail
        refine C.out.mono ?_
        rintro e w1 ⟨rfl, rfl⟩
        go_wp2
        go_ret2
        exact ⟨_, rfl, Row.nil _, NwV.nil _ _ _, Below.refl _ _⟩
    · have e1 : okB n sp a m = true := by simp [okB, hf, hs]
      have e2 : getB n s sp a m = sub (rowB s sp) a m := by simp [getB, e1]
      rw [e1, e2]
      rw [hf] at C
      obtain ⟨q1, q2, q3⟩ := fits_iff.1 hf
      obtain ⟨b', rfl⟩ : ∃ b' : Nat, a = (b' : Int) := ⟨a.toNat, by omega⟩
      obtain ⟨m', rfl⟩ : ∃ m' : Nat, m = (m' : Int) := ⟨m.toNat, by omega⟩
      obtain ⟨-, -, -, -, hc2, -⟩ := id hh
      have hmx := hc2
      unfold maxLen at hmx
      have R0 := (hh.row (n := n) (by simpa using hl)).cut b' (by omega)
      obtain ⟨ad, had⟩ : ∃ ad, (if c = b' then some (⟨gr, 0, none⟩ : Addr) else some ⟨gr, 0 + b', none⟩) = ad := ⟨_, rfl⟩
      rw [had] at R0
      rw [Nat.zero_add] at had
      have had2 : (if (c : Int) = (b' : Int) then some (⟨gr, 0, none⟩ : Addr) else some ⟨gr, b', none⟩) = ad := by rw [← had]; split <;> split <;> first | rfl | omega
      have R := R0.take m' (by omega)
      have el : (sub (rowB s sp) (b' : Int) (m' : Int)).length = m' := by simp [sub]; omega
      have es : (((rowB s sp).map Value.bool).drop b').take m' = (sub (rowB s sp) (b' : Int) (m' : Int)).map Value.bool := by simp [sub]
      rw [es] at R
      have R1 := R.below ((Below.refl w.heap.size w).alloc (Nat.le_refl _) (.cells #[] 4))
      have O1 : (w.alloc (.cells #[] 4)).ownsRow w.heap.size 4 1 (.slice (some ⟨w.heap.size, 0, none⟩) 0 0) 0 [] :=
        ⟨rfl, .inr ⟨w.heap.size, 0, #[], rfl, Nat.le_refl _, heap_alloc_new w _, Nat.zero_le _, by unfold maxLen; omega, by simp, by simp⟩⟩
      have hcell : (w.alloc (.cells #[] 4)).cell? ⟨g, 1 + sp.toNat, none⟩ = some (.slice (some ⟨gr, 0, none⟩) n c) := by
        rw [(hb.alloc _).cell]; exact hx
      have HC : Hid (b' ≤ n ∧ n ≤ c) := ⟨by omega, hc⟩
      have HM : Hid (m' ≤ 65536) := by show _ ≤ _; omega
      have k1 : (b' : Int) ≤ (b' : Int) + (m' : Int) := by omega
      have k2 : (b' : Int) + (m' : Int) ≤ (c : Int) := by omega
      generalize sub (rowB s sp) (b' : Int) (m' : Int) = zs at *
      have em : m' = b' + m' - b' := by omega
      rw [em] at R1
      clear hs e1 e2 h hpos hb hx hin hh hl hput hf hc2 R0 R es em
      rcases hsp with rfl | rfl
      · replace hcell : (w.alloc (.cells #[] 4)).cell? ⟨g, 1, none⟩ = some (.slice (some ⟨gr, 0, none⟩) n c) := hcell
        go_enter Try.func35, Try.ntmps35
        go_wp2_with fail
        refine C.out.mono ?_
        rintro e w1' ⟨rfl, rfl⟩
        go_wp2_with (at_builtin; refine wpList_app rfl (.tmp 23) (.tmp 34) 23 rfl w.heap.size 4 (.bool false) 1 Try.underlying23 info_bool rfl rfl O1 rfl R1 (one_bools _) (by have := HM.out; simp [maxLen]; omega) (by have := HM.out; simp; omega) (by simp) ?_)
        intro v2 w2 ho2 hg2
        have q := ((Below.refl w.heap.size w).alloc (Nat.le_refl _) (.cells #[] 4)).grown hg2 (by simp) (fun k hk => (O1.lt k hk).1)
        go_wp2
        go_ret2
        exact ⟨_, rfl, by simpa using Row.of_owns ho2, fun k hk => (ho2.lt k hk).1, q⟩
      · replace hcell : (w.alloc (.cells #[] 4)).cell? ⟨g, 2, none⟩ = some (.slice (some ⟨gr, 0, none⟩) n c) := hcell
        go_enter Try.func35, Try.ntmps35
        go_wp2_with fail
        refine C.out.mono ?_
        rintro e w1' ⟨rfl, rfl⟩
        go_wp2_with (at_builtin; refine wpList_app rfl (.tmp 23) (.tmp 34) 23 rfl w.heap.size 4 (.bool false) 1 Try.underlying23 info_bool rfl rfl O1 rfl R1 (one_bools _) (by have := HM.out; simp [maxLen]; omega) (by have := HM.out; simp; omega) (by simp) ?_)
        intro v2 w2 ho2 hg2
        have q := ((Below.refl w.heap.size w).alloc (Nat.le_refl _) (.cells #[] 4)).grown hg2 (by simp) (fun k hk => (O1.lt k hk).1)
        go_wp2
        go_ret2
        exact ⟨_, rfl, by simpa using Row.of_owns ho2, fun k hk => (ho2.lt k hk).1, q⟩

set_option maxHeartbeats 2000000 in
theorem rsetV_any (lo hi g n : Nat) (s : Cs) (v : Value) (l : List UInt16) (sp a : Int) (w : World) (h : SR n w lo hi g n s) (hv : Row w v (l.map wV)) (ha : i64 a) (_ : i64 sp) :
    Calls Try.prog 21 #[ptrG g, .int .i64 sp, .int .i64 a, v] w fun e w' => e = .returned (.bool (okV n sp a l.length)) ∧ SR n w' lo hi g n (setV n s sp a l) ∧ Kp (In lo hi) w w' := by
  obtain ⟨av, cv, rfl, hv1, hv2, -⟩ := id hv
  unfold maxLen at hv2
  simp only [List.length_map] at hv hv1 ⊢
  have hpos := h.pos
  have C := hidden (rthere_any lo hi g n s a l.length w h ha)
  cases hs : isV sp
  · have h0 : (sp == 2) = false := by
      rw [beq_eq_false_iff_ne]; intro e; simp [isV, e] at hs
    have h1 : (sp == 3) = false := by
      rw [beq_eq_false_iff_ne]; intro e; simp [isV, e] at hs
    have e1 : okV n sp a l.length = false := by simp [okV, hs]
    have e2 : setV n s sp a l = s := by simp [setV, e1]
    rw [e1, e2]
    have H := hidden h
    have t0 : (sp != 2) = true := by simp [bne, h0]
    have t1 : (sp != 3) = true := by simp [bne, h1]
    clear hs e1 e2 hv h hpos ha C h0 h1
    go_enter Try.func21, Try.ntmps21
    go_wp2
    go_ret
    exact ⟨rfl, H.out, Kp.refl _ _⟩
  · obtain ⟨gr, c, xs, hb, hx, hin, hh, hl, hc, hput⟩ := h.atV hs
    have hsp : sp = 2 ∨ sp = 3 := by simpa [isV] using hs
    cases hf : fits n a l.length
    · have e1 : okV n sp a l.length = false := by simp [okV, hf]
      have e2 : setV n s sp a l = s := by simp [setV, e1]
      rw [e1, e2]
      rw [hf] at C
      have H := hidden h
      clear hs e1 e2 hv h hpos ha hb hx hin hh hl hc hput hf
      rcases hsp with rfl | rfl
      all_goals
        go_enter Try.func21, Try.ntmps21
        go_wp2_with fail
        refine C.out.mono ?_
        rintro e w1 ⟨rfl, rfl⟩
        go_wp2
        go_ret
        exact ⟨rfl, H.out, Kp.refl _ _⟩
    · have e1 : okV n sp a l.length = true := by simp [okV, hf, hs]
      have e2 : setV n s sp a l = putRV s sp (splice (rowV s sp) a.toNat l) := by simp [setV, e1]
      rw [e1, e2]
      rw [hf] at C
      obtain ⟨q1, q2, q3⟩ := fits_iff.1 hf
      obtain ⟨b', rfl⟩ : ∃ b' : Nat, a = (b' : Int) := ⟨a.toNat, by omega⟩
      obtain ⟨cur, hbk, p1, p2, hc2, p4⟩ := id hh
      have hmx := hc2
      unfold maxLen at hmx
      obtain ⟨of, hof⟩ : ∃ of, (if c = b' then 0 else b') = of := ⟨_, rfl⟩
      have HC : Hid (b' ≤ n ∧ n ≤ c) := ⟨by omega, hc⟩
      have had2 : (if (c : Int) = (b' : Int) then some (⟨gr, 0, none⟩ : Addr) else some ⟨gr, b', none⟩) = some ⟨gr, of, none⟩ := by
        rw [← hof]
        by_cases hcb : c = b'
        · rw [if_pos hcb, if_pos (by omega)]
        · rw [if_neg hcb, if_neg (by omega)]
      have had3 : (if c = b' then some (⟨gr, 0, none⟩ : Addr) else some ⟨gr, b', none⟩) = some ⟨gr, of, none⟩ := by
        rw [← hof]; split <;> rfl
      have hofl : of + (n - b') ≤ cur.length := by
        rw [← hof]; split <;> omega
      obtain ⟨w1, hrun, hg1, hb1⟩ := copy_runK (P := Try.prog) (w := w) 25 25 3 24 Try.underlying25 (by kernel_rfl) gr of (n - b') (c - b') av l.length cv _ _ hbk (l.map wV) hv (one_words _) hofl
      have K1 : Hd w1 gr 24 c ((splice (rowV s sp) b' l).map wV) := by
        have et' : (l.map wV).take (n - b') = l.map wV := List.take_of_length_le (by simp; omega)
        rw [et'] at hg1
        have h5 : ((rowV s sp).map wV).length = n := by simpa using hl
        rw [h5] at p4
        rw [splice_map]
        by_cases hcb : c = b'
        · have hy0 : l = [] := List.eq_nil_of_length_eq_zero (by omega)
          subst hy0
          simp only [List.map_nil, splice_nil] at hg1 ⊢
          exact ⟨cur, hg1, by omega, p2, hc2, by rw [h5]; exact p4⟩
        · rw [if_neg hcb] at hof
          subst hof
          exact Hd.spl hg1 (by omega) p2 hc2 (by rw [h5]; exact p4) (by simp; omega)
      obtain ⟨P1, P2⟩ := hput w1 _ (by rw [splice_len _ _ _ (by omega), hl]) hb1 K1
      have HP1 := hidden P1
      have HP2 := hidden P2
      have hcell : w.cell? ⟨g, 1 + sp.toNat, none⟩ = some (.slice (some ⟨gr, 0, none⟩) n c) := by rw [hb.cell]; exact hx
      simp only [List.length_map] at hrun
      clear hs e1 e2 hv h hpos hb hx hin hh hl hput hf p1 p2 hc2 p4 hg1 K1 P1 P2 hbk q1 q2 hb1
      rcases hsp with rfl | rfl
      · replace hcell : w.cell? ⟨g, 3, none⟩ = some (.slice (some ⟨gr, 0, none⟩) n c) := hcell
        go_enter Try.func21, Try.ntmps21
        go_wp2_with fail
        refine C.out.mono ?_
        rintro e w1' ⟨rfl, rfl⟩
        go_wp2
        go_ret
        exact ⟨rfl, by simpa using HP1.out, HP2.out⟩
      · replace hcell : w.cell? ⟨g, 4, none⟩ = some (.slice (some ⟨gr, 0, none⟩) n c) := hcell
        go_enter Try.func21, Try.ntmps21
        go_wp2_with fail
        refine C.out.mono ?_
        rintro e w1' ⟨rfl, rfl⟩
        go_wp2
        go_ret
        exact ⟨rfl, by simpa using HP1.out, HP2.out⟩

set_option maxHeartbeats 2000000 in
theorem rgetV_any (lo hi g n : Nat) (s : Cs) (sp a m : Int) (w : World) (h : SR n w lo hi g n s) (ha : i64 a) (_ : i64 sp) :
    Calls Try.prog 36 #[ptrG g, .int .i64 sp, .int .i64 a, .int .i64 m] w fun e w' => ∃ v', e = .returned (.tuple #[v', .bool (okV n sp a m)]) ∧ Row w' v' ((getV n s sp a m).map wV) ∧ NwV w.heap.size v' ∧ Below w.heap.size w w' := by
  have hpos := h.pos
  have C := hidden (rthere_any lo hi g n s a m w h ha)
  cases hs : isV sp
  · have h0 : (sp == 2) = false := by
      rw [beq_eq_false_iff_ne]; intro e; simp [isV, e] at hs
    have h1 : (sp == 3) = false := by
      rw [beq_eq_false_iff_ne]; intro e; simp [isV, e] at hs
    have e1 : okV n sp a m = false := by simp [okV, hs]
    have e2 : getV n s sp a m = [] := by simp [getV, e1]
    rw [e1, e2]
    have t0 : (sp != 2) = true := by simp [bne, h0]
    have t1 : (sp != 3) = true := by simp [bne, h1]
    clear hs e1 e2 h hpos ha C h0 h1
    go_enter Try.func36, Try.ntmps36
    go_wp2
    go_ret2
    exact ⟨_, rfl, Row.nil _, NwV.nil _ _ _, Below.refl _ _⟩
  · obtain ⟨gr, c, xs, hb, hx, hin, hh, hl, hc, hput⟩ := h.atV hs
    have hsp : sp = 2 ∨ sp = 3 := by simpa [isV] using hs
    cases hf : fits n a m
    · have e1 : okV n sp a m = false := by simp [okV, hf]
      have e2 : getV n s sp a m = [] := by simp [getV, e1]
      rw [e1, e2]
      rw [hf] at C
      clear hs e1 e2 h hpos ha hb hx hin hh hl hc hput hf
      rcases hsp with rfl | rfl
      all_goals
        go_enter Try.func36, Try.ntmps36
        go_wp2_with fail
        refine C.out.mono ?_
        rintro e w1 ⟨rfl, rfl⟩
        go_wp2
        go_ret2
        exact ⟨_, rfl, Row.nil _, NwV.nil _ _ _, Below.refl _ _⟩
    · have e1 : okV n sp a m = true := by simp [okV, hf, hs]
      have e2 : getV n s sp a m = sub (rowV s sp) a m := by simp [getV, e1]
      rw [e1, e2]
      rw [hf] at C
      obtain ⟨q1, q2, q3⟩ := fits_iff.1 hf
      obtain ⟨b', rfl⟩ : ∃ b' : Nat, a = (b' : Int) := ⟨a.toNat, by omega⟩
      obtain ⟨m', rfl⟩ : ∃ m' : Nat, m = (m' : Int) := ⟨m.toNat, by omega⟩
      obtain ⟨-, -, -, -, hc2, -⟩ := id hh
      have hmx := hc2
      unfold maxLen at hmx
      have R0 := (hh.row (n := n) (by simpa using hl)).cut b' (by omega)
      obtain ⟨ad, had⟩ : ∃ ad, (if c = b' then some (⟨gr, 0, none⟩ : Addr) else some ⟨gr, 0 + b', none⟩) = ad := ⟨_, rfl⟩
      rw [had] at R0
      rw [Nat.zero_add] at had
      have had2 : (if (c : Int) = (b' : Int) then some (⟨gr, 0, none⟩ : Addr) else some ⟨gr, b', none⟩) = ad := by rw [← had]; split <;> split <;> first | rfl | omega
      have R := R0.take m' (by omega)
      have el : (sub (rowV s sp) (b' : Int) (m' : Int)).length = m' := by simp [sub]; omega
      have es : (((rowV s sp).map wV).drop b').take m' = (sub (rowV s sp) (b' : Int) (m' : Int)).map wV := by simp [sub]
      rw [es] at R
      have R1 := R.below ((Below.refl w.heap.size w).alloc (Nat.le_refl _) (.cells #[] 24))
      have O1 : (w.alloc (.cells #[] 24)).ownsRow w.heap.size 24 1 (.slice (some ⟨w.heap.size, 0, none⟩) 0 0) 0 [] :=
        ⟨rfl, .inr ⟨w.heap.size, 0, #[], rfl, Nat.le_refl _, heap_alloc_new w _, Nat.zero_le _, by unfold maxLen; omega, by simp, by simp⟩⟩
      have hcell : (w.alloc (.cells #[] 24)).cell? ⟨g, 1 + sp.toNat, none⟩ = some (.slice (some ⟨gr, 0, none⟩) n c) := by
        rw [(hb.alloc _).cell]; exact hx
      have HC : Hid (b' ≤ n ∧ n ≤ c) := ⟨by omega, hc⟩
      have HM : Hid (m' ≤ 65536) := by show _ ≤ _; omega
      have k1 : (b' : Int) ≤ (b' : Int) + (m' : Int) := by omega
      have k2 : (b' : Int) + (m' : Int) ≤ (c : Int) := by omega
      generalize sub (rowV s sp) (b' : Int) (m' : Int) = zs at *
      have em : m' = b' + m' - b' := by omega
      rw [em] at R1
      clear hs e1 e2 h hpos hb hx hin hh hl hput hf hc2 R0 R es em
      rcases hsp with rfl | rfl
      · replace hcell : (w.alloc (.cells #[] 24)).cell? ⟨g, 3, none⟩ = some (.slice (some ⟨gr, 0, none⟩) n c) := hcell
        go_enter Try.func36, Try.ntmps36
        go_wp2_with fail
        refine C.out.mono ?_
        rintro e w1' ⟨rfl, rfl⟩
        go_wp2_with (at_builtin; refine wpList_app rfl (.tmp 23) (.tmp 35) 25 rfl w.heap.size 24 (.int .u16 0) 2 Try.underlying25 info_u16 rfl rfl O1 rfl R1 (one_words _) (by have := HM.out; simp [maxLen]; omega) (by have := HM.out; simp; omega) (by simp) ?_)
        intro v2 w2 ho2 hg2
        have q := ((Below.refl w.heap.size w).alloc (Nat.le_refl _) (.cells #[] 24)).grown hg2 (by simp) (fun k hk => (O1.lt k hk).1)
        go_wp2
        go_ret2
        exact ⟨_, rfl, by simpa using Row.of_owns ho2, fun k hk => (ho2.lt k hk).1, q⟩
      · replace hcell : (w.alloc (.cells #[] 24)).cell? ⟨g, 4, none⟩ = some (.slice (some ⟨gr, 0, none⟩) n c) := hcell
        go_enter Try.func36, Try.ntmps36
        go_wp2_with fail
        refine C.out.mono ?_
        rintro e w1' ⟨rfl, rfl⟩
        go_wp2_with (at_builtin; refine wpList_app rfl (.tmp 23) (.tmp 35) 25 rfl w.heap.size 24 (.int .u16 0) 2 Try.underlying25 info_u16 rfl rfl O1 rfl R1 (one_words _) (by have := HM.out; simp [maxLen]; omega) (by have := HM.out; simp; omega) (by simp) ?_)
        intro v2 w2 ho2 hg2
        have q := ((Below.refl w.heap.size w).alloc (Nat.le_refl _) (.cells #[] 24)).grown hg2 (by simp) (fun k hk => (O1.lt k hk).1)
        go_wp2
        go_ret2
        exact ⟨_, rfl, by simpa using Row.of_owns ho2, fun k hk => (ho2.lt k hk).1, q⟩

end Go.Proofs.Ytaabjgdomookkaa
