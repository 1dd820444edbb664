/- The developers' device in memory; its refuse. -/
import Derived.Test.YtdihcdphgiaepaaGreatZZ12
import Derived.Test.YtdihcdphgiaepaaGreatZZ11
set_option maxHeartbeats 2000000
namespace Go.Proofs.YtdihcdphgiaepaaGreat
open Go.RowKit
theorem rthere_any (lo hi g n : Nat) (s : Cs) (a m : Int) (w : World) (h : SR n w lo hi g n s) (ha : i64 a) :
  Calls Tryz.prog 52 #[ptrG g, J a, J m] w fun e w' => e = .returned (.bool (fits n a m)) ∧ w = w' := by
 unfold i64 at ha;obtain ⟨-, ⟨hp, hq⟩, -, -, -, g0, g1, g2, g3, c0, c1, c2, c3, hb, -⟩ := h;have q0 : w.cell? ⟨g, 0, none⟩ = some (J n) := hb.cell 0;clear hb;by_cases h1 : 0 ≤ a
 ·
  by_cases h2 : 0 ≤ m
  ·
   by_cases h3 : a ≤ (n : Int)
   ·
    by_cases h4 : m ≤ (n : Int) - a
    ·
     rw [fits_t (by omega)];go_enter Tryz.func52, Tryz.ntmps52;go_wp2;go_ret;exact ⟨ret_bool (by first | rfl | (simp; done) | (simp; omega)), rfl⟩
    ·
     rw [fits_f (by omega)];go_enter Tryz.func52, Tryz.ntmps52;go_wp2;go_ret;exact ⟨ret_bool (by first | rfl | (simp; done) | (simp; omega)), rfl⟩
   ·
    rw [fits_f (by omega)];go_enter Tryz.func52, Tryz.ntmps52;go_wp2;go_ret;exact ⟨ret_bool (by first | rfl | (simp; done) | (simp; omega)), rfl⟩
  ·
   rw [fits_f (by omega)];go_enter Tryz.func52, Tryz.ntmps52;go_wp2;go_ret;exact ⟨ret_bool (by first | rfl | (simp; done) | (simp; omega)), rfl⟩
 ·
  rw [fits_f (by omega)];go_enter Tryz.func52, Tryz.ntmps52;go_wp2;go_ret;exact ⟨ret_bool (by first | rfl | (simp; done) | (simp; omega)), rfl⟩
theorem rsetB_any (lo hi g n : Nat) (s : Cs) (v : Value) (l : List Bool) (sp a : Int) (w : World) (h : SR n w lo hi g n s) (hv : Row w v (l.map Value.bool)) (ha : i64 a) (_ : i64 sp) :
  Calls Tryz.prog 55 #[ptrG g, J sp, J a, v] w fun e w' => e = .returned (.bool (okB n sp a l.length)) ∧ SR n w' lo hi g n (setB n s sp a l) ∧ Kp (In lo hi) w w' := by
 obtain ⟨av, cv, rfl, hv1, hv2, -⟩ := id hv;unfold maxLen at hv2;simp only [List.length_map] at hv hv1 ⊢;have hpos := h.pos;have C := Hh (rthere_any lo hi g n s a l.length w h ha);cases hs : isB sp
 ·
  have h0 : (sp == 0) = false := by
   rw [beq_eq_false_iff_ne]; intro e; simp [isB, e] at hs
  have h1 : (sp == 1) = false := by
   rw [beq_eq_false_iff_ne]; intro e; simp [isB, e] at hs
  have e1 : okB n sp a l.length = false := by simp [okB, hs]
  have e2 : setB n s sp a l = s := by simp [setB, e1]
  rw [e1, e2];have H := Hh h;have t0 : (sp != 0) = true := by simp [bne, h0]
  have t1 : (sp != 1) = true := by simp [bne, h1]
  clear hs e1 e2 hv h hpos ha C h0 h1;go_enter Tryz.func55, Tryz.ntmps55;go_wp2;go_ret;exact ⟨rfl, H.out, Kp.refl _ _⟩
 ·
  obtain ⟨gr, c, xs, hb, hx, hin, hh, hl, hc, hput⟩ := h.atB hs;have hsp : sp = 0 ∨ sp = 1 := by simpa [isB] using hs
  cases hf : fits n a l.length
  ·
   have e1 : okB n sp a l.length = false := by simp [okB, hf]
   have e2 : setB n s sp a l = s := by simp [setB, e1]
   rw [e1, e2];rw [hf] at C;have H := Hh h;clear hs e1 e2 hv h hpos ha hb hx hin hh hl hc hput hf;rcases hsp with rfl | rfl
   all_goals
    go_enter Tryz.func55, Tryz.ntmps55;go_wp2_with fail
    refine C.out.mono ?_;rintro e w1 ⟨rfl, rfl⟩;go_wp2;go_ret;exact ⟨rfl, H.out, Kp.refl _ _⟩
  ·
   have e1 : okB n sp a l.length = true := by simp [okB, hf, hs]
   have e2 : setB n s sp a l = putRB s sp (splice (rowB s sp) a.toNat l) := by simp [setB, e1]
   rw [e1, e2];rw [hf] at C;obtain ⟨q1, q2, q3⟩ := fits_iff.1 hf;obtain ⟨b', rfl⟩ : ∃ b' : Nat, a = (b' : Int) := ⟨a.toNat, by omega⟩;obtain ⟨cur, hbk, p1, p2, hc2, p4⟩ := id hh;have hmx := hc2;unfold maxLen at hmx;obtain ⟨of, hof⟩ : ∃ of, (if c = b' then 0 else b') = of := ⟨_, rfl⟩;have HC : Hid (b' ≤ n ∧ n ≤ c) := ⟨by omega, hc⟩;have had2 : (if (c : Int) = (b' : Int) then some (⟨gr, 0, none⟩ : Addr) else some ⟨gr, b', none⟩) = some ⟨gr, of, none⟩ := by
    rw [← hof];by_cases hcb : c = b'
    ·
     rw [if_pos hcb, if_pos (by omega)]
    ·
     rw [if_neg hcb, if_neg (by omega)]
   have had3 : (if c = b' then some (⟨gr, 0, none⟩ : Addr) else some ⟨gr, b', none⟩) = some ⟨gr, of, none⟩ := by
    rw [← hof]; split <;> rfl
   have hofl : of + (n - b') ≤ cur.length := by
    rw [← hof]; split <;> omega
   obtain ⟨w1, hrun, hg1, hb1⟩ := copy_runK (P := Tryz.prog) (w := w) 29 29 3 4 Tryz.underlying29 (by kernel_rfl) gr of (n - b') (c - b') av l.length cv _ _ hbk (l.map Value.bool) hv (one_bools _) hofl;have K1 : Hd w1 gr 4 c ((splice (rowB s sp) b' l).map Value.bool) := by
    have et' : (l.map Value.bool).take (n - b') = l.map Value.bool := List.take_of_length_le (by simp; omega);rw [et'] at hg1;have h5 : ((rowB s sp).map Value.bool).length = n := by simpa using hl
    rw [h5] at p4;rw [splice_map];by_cases hcb : c = b'
    ·
     have hy0 : l = [] := List.eq_nil_of_length_eq_zero (by omega);subst hy0;simp only [List.map_nil, splice_nil] at hg1 ⊢;exact ⟨cur, hg1, by omega, p2, hc2, by rw [h5]; exact p4⟩
    ·
     rw [if_neg hcb] at hof;subst hof;exact Hd.spl hg1 (by omega) p2 hc2 (by rw [h5]; exact p4) (by simp; omega)
   obtain ⟨P1, P2⟩ := hput w1 _ (by rw [splice_len _ _ _ (by omega), hl]) hb1 K1;have HP1 := Hh P1;have HP2 := Hh P2;have hcell : w.cell? ⟨g, 1 + sp.toNat, none⟩ = some (.slice (some ⟨gr, 0, none⟩) n c) := by rw [hb.cell]; exact hx
   simp only [List.length_map] at hrun;clear hs e1 e2 hv h hpos hb hx hin hh hl hput hf p1 p2 hc2 p4 hg1 K1 P1 P2 hbk q1 q2 hb1;rcases hsp with rfl | rfl
   ·
    replace hcell : w.cell? ⟨g, 1, none⟩ = some (.slice (some ⟨gr, 0, none⟩) n c) := hcell;go_enter Tryz.func55, Tryz.ntmps55;go_wp2_with fail
    refine C.out.mono ?_;rintro e w1' ⟨rfl, rfl⟩;go_wp2;go_ret;exact ⟨rfl, by simpa using HP1.out, HP2.out⟩
   ·
    replace hcell : w.cell? ⟨g, 2, none⟩ = some (.slice (some ⟨gr, 0, none⟩) n c) := hcell;go_enter Tryz.func55, Tryz.ntmps55;go_wp2_with fail
    refine C.out.mono ?_;rintro e w1' ⟨rfl, rfl⟩;go_wp2;go_ret;exact ⟨rfl, by simpa using HP1.out, HP2.out⟩
theorem rgetB_any (lo hi g n : Nat) (s : Cs) (sp a m : Int) (w : World) (h : SR n w lo hi g n s) (ha : i64 a) (_ : i64 sp) :
  Calls Tryz.prog 53 #[ptrG g, J sp, J a, J m] w fun e w' => ∃ v', e = .returned (.tuple #[v', .bool (okB n sp a m)]) ∧ Row w' v' ((getB n s sp a m).map Value.bool) ∧ NwV w.heap.size v' ∧ Bo w w' := by
 have hpos := h.pos;have C := Hh (rthere_any lo hi g n s a m w h ha);cases hs : isB sp
 ·
  have h0 : (sp == 0) = false := by
   rw [beq_eq_false_iff_ne]; intro e; simp [isB, e] at hs
  have h1 : (sp == 1) = false := by
   rw [beq_eq_false_iff_ne]; intro e; simp [isB, e] at hs
  have e1 : okB n sp a m = false := by simp [okB, hs]
  have e2 : getB n s sp a m = [] := by simp [getB, e1]
  rw [e1, e2];have t0 : (sp != 0) = true := by simp [bne, h0]
  have t1 : (sp != 1) = true := by simp [bne, h1]
  clear hs e1 e2 h hpos ha C h0 h1;go_enter Tryz.func53, Tryz.ntmps53;go_wp2;go_ret2
  exact ⟨_, rfl, Row.nil _, NwV.nil _ _ _, Below.refl _ _⟩
 ·
  obtain ⟨gr, c, xs, hb, hx, hin, hh, hl, hc, hput⟩ := h.atB hs;have hsp : sp = 0 ∨ sp = 1 := by simpa [isB] using hs
  cases hf : fits n a m
  ·
   have e1 : okB n sp a m = false := by simp [okB, hf]
   have e2 : getB n s sp a m = [] := by simp [getB, e1]
   rw [e1, e2];rw [hf] at C;clear hs e1 e2 h hpos ha hb hx hin hh hl hc hput hf;rcases hsp with rfl | rfl
   all_goals
    go_enter Tryz.func53, Tryz.ntmps53;go_wp2_with fail
    refine C.out.mono ?_;rintro e w1 ⟨rfl, rfl⟩;go_wp2;go_ret2
    exact ⟨_, rfl, Row.nil _, NwV.nil _ _ _, Below.refl _ _⟩
  ·
   have e1 : okB n sp a m = true := by simp [okB, hf, hs]
   have e2 : getB n s sp a m = sub (rowB s sp) a m := by simp [getB, e1]
   rw [e1, e2];rw [hf] at C;obtain ⟨q1, q2, q3⟩ := fits_iff.1 hf;obtain ⟨b', rfl⟩ : ∃ b' : Nat, a = (b' : Int) := ⟨a.toNat, by omega⟩;obtain ⟨m', rfl⟩ : ∃ m' : Nat, m = (m' : Int) := ⟨m.toNat, by omega⟩;obtain ⟨-, -, -, -, hc2, -⟩ := id hh;have hmx := hc2;unfold maxLen at hmx;have R0 := (hh.row (n := n) (by simpa using hl)).cut b' (by omega);obtain ⟨ad, had⟩ : ∃ ad, (if c = b' then some (⟨gr, 0, none⟩ : Addr) else some ⟨gr, 0 + b', none⟩) = ad := ⟨_, rfl⟩;rw [had] at R0;rw [Nat.zero_add] at had;have had2 : (if (c : Int) = (b' : Int) then some (⟨gr, 0, none⟩ : Addr) else some ⟨gr, b', none⟩) = ad := by rw [← had]; split <;> split <;> first | rfl | omega
   have R := R0.take m' (by omega);have el : (sub (rowB s sp) (b' : Int) (m' : Int)).length = m' := by simp [sub]; omega
   have es : (((rowB s sp).map Value.bool).drop b').take m' = (sub (rowB s sp) (b' : Int) (m' : Int)).map Value.bool := by simp [sub]
   rw [es] at R;have R1 := R.below (aL w (.cells #[] 4));have O1 : (w.alloc (.cells #[] 4)).ownsRow w.heap.size 4 1 (.slice (some ⟨w.heap.size, 0, none⟩) 0 0) 0 [] :=
    ⟨rfl, .inr ⟨w.heap.size, 0, #[], rfl, Nat.le_refl _, heap_alloc_new w _, Nat.zero_le _, by unfold maxLen; omega, by simp, by simp⟩⟩
   have hcell : (w.alloc (.cells #[] 4)).cell? ⟨g, 1 + sp.toNat, none⟩ = some (.slice (some ⟨gr, 0, none⟩) n c) := by
    rw [(hb.alloc _).cell]; exact hx
   have HC : Hid (b' ≤ n ∧ n ≤ c) := ⟨by omega, hc⟩;have HM : Hid (m' ≤ 65536) := by show _ ≤ _; omega
   have k1 : (b' : Int) ≤ (b' : Int) + (m' : Int) := by omega
   have k2 : (b' : Int) + (m' : Int) ≤ (c : Int) := by omega
   generalize sub (rowB s sp) (b' : Int) (m' : Int) = zs at *;have em : m' = b' + m' - b' := by omega
   rw [em] at R1;clear hs e1 e2 h hpos hb hx hin hh hl hput hf hc2 R0 R es em;rcases hsp with rfl | rfl
   ·
    replace hcell : (w.alloc (.cells #[] 4)).cell? ⟨g, 1, none⟩ = some (.slice (some ⟨gr, 0, none⟩) n c) := hcell;go_enter Tryz.func53, Tryz.ntmps53;go_wp2_with fail
    refine C.out.mono ?_;rintro e w1' ⟨rfl, rfl⟩;go_wp2_with (at_builtin; refine wpList_app rfl (.tmp 23) (.tmp 34) 29 rfl w.heap.size 4 (.bool false) 1 Tryz.underlying29 info_bool rfl rfl O1 rfl R1 (one_bools _) (by have := HM.out; simp [maxLen]; omega) (by have := HM.out; simp; omega) (by simp) ?_)
    intro v2 w2 ho2 hg2;have q := (aL w (.cells #[] 4)).grown hg2 (by simp) (fun k hk => (O1.lt k hk).1);go_wp2;go_ret2
    exact ⟨_, rfl, by simpa using Row.of_owns ho2, fun k hk => (ho2.lt k hk).1, q⟩
   ·
    replace hcell : (w.alloc (.cells #[] 4)).cell? ⟨g, 2, none⟩ = some (.slice (some ⟨gr, 0, none⟩) n c) := hcell;go_enter Tryz.func53, Tryz.ntmps53;go_wp2_with fail
    refine C.out.mono ?_;rintro e w1' ⟨rfl, rfl⟩;go_wp2_with (at_builtin; refine wpList_app rfl (.tmp 23) (.tmp 34) 29 rfl w.heap.size 4 (.bool false) 1 Tryz.underlying29 info_bool rfl rfl O1 rfl R1 (one_bools _) (by have := HM.out; simp [maxLen]; omega) (by have := HM.out; simp; omega) (by simp) ?_)
    intro v2 w2 ho2 hg2;have q := (aL w (.cells #[] 4)).grown hg2 (by simp) (fun k hk => (O1.lt k hk).1);go_wp2;go_ret2
    exact ⟨_, rfl, by simpa using Row.of_owns ho2, fun k hk => (ho2.lt k hk).1, q⟩
theorem rsetV_any (lo hi g n : Nat) (s : Cs) (v : Value) (l : List UInt16) (sp a : Int) (w : World) (h : SR n w lo hi g n s) (hv : Row w v (l.map wV)) (ha : i64 a) (_ : i64 sp) :
  Calls Tryz.prog 56 #[ptrG g, J sp, J a, v] w fun e w' => e = .returned (.bool (okV n sp a l.length)) ∧ SR n w' lo hi g n (setV n s sp a l) ∧ Kp (In lo hi) w w' := by
 obtain ⟨av, cv, rfl, hv1, hv2, -⟩ := id hv;unfold maxLen at hv2;simp only [List.length_map] at hv hv1 ⊢;have hpos := h.pos;have C := Hh (rthere_any lo hi g n s a l.length w h ha);cases hs : isV sp
 ·
  have h0 : (sp == 2) = false := by
   rw [beq_eq_false_iff_ne]; intro e; simp [isV, e] at hs
  have h1 : (sp == 3) = false := by
   rw [beq_eq_false_iff_ne]; intro e; simp [isV, e] at hs
  have e1 : okV n sp a l.length = false := by simp [okV, hs]
  have e2 : setV n s sp a l = s := by simp [setV, e1]
  rw [e1, e2];have H := Hh h;have t0 : (sp != 2) = true := by simp [bne, h0]
  have t1 : (sp != 3) = true := by simp [bne, h1]
  clear hs e1 e2 hv h hpos ha C h0 h1;go_enter Tryz.func56, Tryz.ntmps56;go_wp2;go_ret;exact ⟨rfl, H.out, Kp.refl _ _⟩
 ·
  obtain ⟨gr, c, xs, hb, hx, hin, hh, hl, hc, hput⟩ := h.atV hs;have hsp : sp = 2 ∨ sp = 3 := by simpa [isV] using hs
  cases hf : fits n a l.length
  ·
   have e1 : okV n sp a l.length = false := by simp [okV, hf]
   have e2 : setV n s sp a l = s := by simp [setV, e1]
   rw [e1, e2];rw [hf] at C;have H := Hh h;clear hs e1 e2 hv h hpos ha hb hx hin hh hl hc hput hf;rcases hsp with rfl | rfl
   all_goals
    go_enter Tryz.func56, Tryz.ntmps56;go_wp2_with fail
    refine C.out.mono ?_;rintro e w1 ⟨rfl, rfl⟩;go_wp2;go_ret;exact ⟨rfl, H.out, Kp.refl _ _⟩
  ·
   have e1 : okV n sp a l.length = true := by simp [okV, hf, hs]
   have e2 : setV n s sp a l = putRV s sp (splice (rowV s sp) a.toNat l) := by simp [setV, e1]
   rw [e1, e2];rw [hf] at C;obtain ⟨q1, q2, q3⟩ := fits_iff.1 hf;obtain ⟨b', rfl⟩ : ∃ b' : Nat, a = (b' : Int) := ⟨a.toNat, by omega⟩;obtain ⟨cur, hbk, p1, p2, hc2, p4⟩ := id hh;have hmx := hc2;unfold maxLen at hmx;obtain ⟨of, hof⟩ : ∃ of, (if c = b' then 0 else b') = of := ⟨_, rfl⟩;have HC : Hid (b' ≤ n ∧ n ≤ c) := ⟨by omega, hc⟩;have had2 : (if (c : Int) = (b' : Int) then some (⟨gr, 0, none⟩ : Addr) else some ⟨gr, b', none⟩) = some ⟨gr, of, none⟩ := by
    rw [← hof];by_cases hcb : c = b'
    ·
     rw [if_pos hcb, if_pos (by omega)]
    ·
     rw [if_neg hcb, if_neg (by omega)]
   have had3 : (if c = b' then some (⟨gr, 0, none⟩ : Addr) else some ⟨gr, b', none⟩) = some ⟨gr, of, none⟩ := by
    rw [← hof]; split <;> rfl
   have hofl : of + (n - b') ≤ cur.length := by
    rw [← hof]; split <;> omega
   obtain ⟨w1, hrun, hg1, hb1⟩ := copy_runK (P := Tryz.prog) (w := w) 30 30 3 31 Tryz.underlying30 (by kernel_rfl) gr of (n - b') (c - b') av l.length cv _ _ hbk (l.map wV) hv (one_words _) hofl;have K1 : Hd w1 gr 31 c ((splice (rowV s sp) b' l).map wV) := by
    have et' : (l.map wV).take (n - b') = l.map wV := List.take_of_length_le (by simp; omega);rw [et'] at hg1;have h5 : ((rowV s sp).map wV).length = n := by simpa using hl
    rw [h5] at p4;rw [splice_map];by_cases hcb : c = b'
    ·
     have hy0 : l = [] := List.eq_nil_of_length_eq_zero (by omega);subst hy0;simp only [List.map_nil, splice_nil] at hg1 ⊢;exact ⟨cur, hg1, by omega, p2, hc2, by rw [h5]; exact p4⟩
    ·
     rw [if_neg hcb] at hof;subst hof;exact Hd.spl hg1 (by omega) p2 hc2 (by rw [h5]; exact p4) (by simp; omega)
   obtain ⟨P1, P2⟩ := hput w1 _ (by rw [splice_len _ _ _ (by omega), hl]) hb1 K1;have HP1 := Hh P1;have HP2 := Hh P2;have hcell : w.cell? ⟨g, 1 + sp.toNat, none⟩ = some (.slice (some ⟨gr, 0, none⟩) n c) := by rw [hb.cell]; exact hx
   simp only [List.length_map] at hrun;clear hs e1 e2 hv h hpos hb hx hin hh hl hput hf p1 p2 hc2 p4 hg1 K1 P1 P2 hbk q1 q2 hb1;rcases hsp with rfl | rfl
   ·
    replace hcell : w.cell? ⟨g, 3, none⟩ = some (.slice (some ⟨gr, 0, none⟩) n c) := hcell;go_enter Tryz.func56, Tryz.ntmps56;go_wp2_with fail
    refine C.out.mono ?_;rintro e w1' ⟨rfl, rfl⟩;go_wp2;go_ret;exact ⟨rfl, by simpa using HP1.out, HP2.out⟩
   ·
    replace hcell : w.cell? ⟨g, 4, none⟩ = some (.slice (some ⟨gr, 0, none⟩) n c) := hcell;go_enter Tryz.func56, Tryz.ntmps56;go_wp2_with fail
    refine C.out.mono ?_;rintro e w1' ⟨rfl, rfl⟩;go_wp2;go_ret;exact ⟨rfl, by simpa using HP1.out, HP2.out⟩
theorem rgetV_any (lo hi g n : Nat) (s : Cs) (sp a m : Int) (w : World) (h : SR n w lo hi g n s) (ha : i64 a) (_ : i64 sp) :
  Calls Tryz.prog 54 #[ptrG g, J sp, J a, J m] w fun e w' => ∃ v', e = .returned (.tuple #[v', .bool (okV n sp a m)]) ∧ Row w' v' ((getV n s sp a m).map wV) ∧ NwV w.heap.size v' ∧ Bo w w' := by
 have hpos := h.pos;have C := Hh (rthere_any lo hi g n s a m w h ha);cases hs : isV sp
 ·
  have h0 : (sp == 2) = false := by
   rw [beq_eq_false_iff_ne]; intro e; simp [isV, e] at hs
  have h1 : (sp == 3) = false := by
   rw [beq_eq_false_iff_ne]; intro e; simp [isV, e] at hs
  have e1 : okV n sp a m = false := by simp [okV, hs]
  have e2 : getV n s sp a m = [] := by simp [getV, e1]
  rw [e1, e2];have t0 : (sp != 2) = true := by simp [bne, h0]
  have t1 : (sp != 3) = true := by simp [bne, h1]
  clear hs e1 e2 h hpos ha C h0 h1;go_enter Tryz.func54, Tryz.ntmps54;go_wp2;go_ret2
  exact ⟨_, rfl, Row.nil _, NwV.nil _ _ _, Below.refl _ _⟩
 ·
  obtain ⟨gr, c, xs, hb, hx, hin, hh, hl, hc, hput⟩ := h.atV hs;have hsp : sp = 2 ∨ sp = 3 := by simpa [isV] using hs
  cases hf : fits n a m
  ·
   have e1 : okV n sp a m = false := by simp [okV, hf]
   have e2 : getV n s sp a m = [] := by simp [getV, e1]
   rw [e1, e2];rw [hf] at C;clear hs e1 e2 h hpos ha hb hx hin hh hl hc hput hf;rcases hsp with rfl | rfl
   all_goals
    go_enter Tryz.func54, Tryz.ntmps54;go_wp2_with fail
    refine C.out.mono ?_;rintro e w1 ⟨rfl, rfl⟩;go_wp2;go_ret2
    exact ⟨_, rfl, Row.nil _, NwV.nil _ _ _, Below.refl _ _⟩
  ·
   have e1 : okV n sp a m = true := by simp [okV, hf, hs]
   have e2 : getV n s sp a m = sub (rowV s sp) a m := by simp [getV, e1]
   rw [e1, e2];rw [hf] at C;obtain ⟨q1, q2, q3⟩ := fits_iff.1 hf;obtain ⟨b', rfl⟩ : ∃ b' : Nat, a = (b' : Int) := ⟨a.toNat, by omega⟩;obtain ⟨m', rfl⟩ : ∃ m' : Nat, m = (m' : Int) := ⟨m.toNat, by omega⟩;obtain ⟨-, -, -, -, hc2, -⟩ := id hh;have hmx := hc2;unfold maxLen at hmx;have R0 := (hh.row (n := n) (by simpa using hl)).cut b' (by omega);obtain ⟨ad, had⟩ : ∃ ad, (if c = b' then some (⟨gr, 0, none⟩ : Addr) else some ⟨gr, 0 + b', none⟩) = ad := ⟨_, rfl⟩;rw [had] at R0;rw [Nat.zero_add] at had;have had2 : (if (c : Int) = (b' : Int) then some (⟨gr, 0, none⟩ : Addr) else some ⟨gr, b', none⟩) = ad := by rw [← had]; split <;> split <;> first | rfl | omega
   have R := R0.take m' (by omega);have el : (sub (rowV s sp) (b' : Int) (m' : Int)).length = m' := by simp [sub]; omega
   have es : (((rowV s sp).map wV).drop b').take m' = (sub (rowV s sp) (b' : Int) (m' : Int)).map wV := by simp [sub]
   rw [es] at R;have R1 := R.below (aL w (.cells #[] 31));have O1 : (w.alloc (.cells #[] 31)).ownsRow w.heap.size 31 1 (.slice (some ⟨w.heap.size, 0, none⟩) 0 0) 0 [] :=
    ⟨rfl, .inr ⟨w.heap.size, 0, #[], rfl, Nat.le_refl _, heap_alloc_new w _, Nat.zero_le _, by unfold maxLen; omega, by simp, by simp⟩⟩
   have hcell : (w.alloc (.cells #[] 31)).cell? ⟨g, 1 + sp.toNat, none⟩ = some (.slice (some ⟨gr, 0, none⟩) n c) := by
    rw [(hb.alloc _).cell]; exact hx
   have HC : Hid (b' ≤ n ∧ n ≤ c) := ⟨by omega, hc⟩;have HM : Hid (m' ≤ 65536) := by show _ ≤ _; omega
   have k1 : (b' : Int) ≤ (b' : Int) + (m' : Int) := by omega
   have k2 : (b' : Int) + (m' : Int) ≤ (c : Int) := by omega
   generalize sub (rowV s sp) (b' : Int) (m' : Int) = zs at *;have em : m' = b' + m' - b' := by omega
   rw [em] at R1;clear hs e1 e2 h hpos hb hx hin hh hl hput hf hc2 R0 R es em;rcases hsp with rfl | rfl
   ·
    replace hcell : (w.alloc (.cells #[] 31)).cell? ⟨g, 3, none⟩ = some (.slice (some ⟨gr, 0, none⟩) n c) := hcell;go_enter Tryz.func54, Tryz.ntmps54;go_wp2_with fail
    refine C.out.mono ?_;rintro e w1' ⟨rfl, rfl⟩;go_wp2_with (at_builtin; refine wpList_app rfl (.tmp 23) (.tmp 35) 30 rfl w.heap.size 31 (U 0) 2 Tryz.underlying30 info_w16 rfl rfl O1 rfl R1 (one_words _) (by have := HM.out; simp [maxLen]; omega) (by have := HM.out; simp; omega) (by simp) ?_)
    intro v2 w2 ho2 hg2;have q := (aL w (.cells #[] 31)).grown hg2 (by simp) (fun k hk => (O1.lt k hk).1);go_wp2;go_ret2
    exact ⟨_, rfl, by simpa using Row.of_owns ho2, fun k hk => (ho2.lt k hk).1, q⟩
   ·
    replace hcell : (w.alloc (.cells #[] 31)).cell? ⟨g, 4, none⟩ = some (.slice (some ⟨gr, 0, none⟩) n c) := hcell;go_enter Tryz.func54, Tryz.ntmps54;go_wp2_with fail
    refine C.out.mono ?_;rintro e w1' ⟨rfl, rfl⟩;go_wp2_with (at_builtin; refine wpList_app rfl (.tmp 23) (.tmp 35) 30 rfl w.heap.size 31 (U 0) 2 Tryz.underlying30 info_w16 rfl rfl O1 rfl R1 (one_words _) (by have := HM.out; simp [maxLen]; omega) (by have := HM.out; simp; omega) (by simp) ?_)
    intro v2 w2 ho2 hg2;have q := (aL w (.cells #[] 31)).grown hg2 (by simp) (fun k hk => (O1.lt k hk).1);go_wp2;go_ret2
    exact ⟨_, rfl, by simpa using Row.of_owns ho2, fun k hk => (ho2.lt k hk).1, q⟩
theorem In.apart {lo hi lo' hi' : Nat} (h : hi ≤ lo') : ∀ i, In lo hi i → ¬ In lo' hi' i := fun i h1 h2 => by have := h1.2; have := h2.1; omega
structure RowI (lo hi : Nat) (w : World) (v : Value) (xs : List Value) : Prop where
 row : Row w v xs
 top : hi ≤ w.heap.size
 own : xs ≠ [] → ∀ k, v.ownBlock = some k → In lo hi k
theorem RowI.kp {F : Nat → Prop} {lo hi : Nat} {w w' : World} {v : Value} {xs : List Value} (h : RowI lo hi w v xs) (k : Kp F w w') (hF : ∀ i, In lo hi i → ¬ F i) : RowI lo hi w' v xs := by
 refine ⟨?_, Nat.le_trans h.top k.size, h.own⟩;by_cases h0 : xs = []
 ·
  subst h0;obtain ⟨a, cap, e, h1, h2, h3, -⟩ := h.row;exact ⟨a, cap, e, h1, h2, h3, .inl rfl⟩
 ·
  exact h.row.kp k (fun i hi' => hF i (h.own h0 i hi'))
theorem RowI.ext {lo hi : Nat} {w w' : World} {v : Value} {xs : List Value} (h : RowI lo hi w v xs) (k : Bo w w') : RowI lo hi w' v xs := h.kp (F := fun _ => False) (Kp.of_below k) (fun _ _ h => h)
theorem RowI.new {B : Nat} {w' : World} {v : Value} {xs : List Value} (h : Row w' v xs) (hn : NwV B v) : ∃ lo hi, RowI lo hi w' v xs ∧ B ≤ lo := by
 refine ⟨B, w'.heap.size, ⟨h, Nat.le_refl _, fun h0 k hk => ⟨hn k hk, ?_⟩⟩, Nat.le_refl _⟩;obtain ⟨a, cap, rfl, -, -, -, h3⟩ := h;rcases h3 with h3 | ⟨b, off, rfl, hc⟩
 ·
  exact absurd h3 h0
 ·
  simp only [Value.ownBlock, Option.some.injEq] at hk;subst hk;have hp : 0 < xs.length := lpi.2 h0;have := hc 0 hp;rw [List.getElem?_eq_getElem hp] at this;exact lt_of_cell this
theorem new_i (c : Int) (n : Nat) (w : World) (hc : c = (n : Int)) (hn : 1 ≤ n ∧ n ≤ 65536) :
  Calls Tryz.prog 26 #[J c] w fun e w' => ∃ g lo hi, e = .returned (ptrG g) ∧ SD w' lo hi g n (Cs.zero n) ∧ w.heap.size ≤ lo ∧ Bo w w' := by
 subst hc;exact (new_any n w hn).mono fun e w' ⟨g, e1, h1, h2⟩ => ⟨g, _, _, e1, h1, Nat.le_refl _, h2⟩
abbrev tV : TypeId := 66
structure DD (w : World) (g gs lo hi n : Nat) (d : Dv) : Prop where
 blk : Blk w g tV [ptrG gs, J d.msgs, J d.flts, .int .u8 d.unit]
 sto : SD w lo hi gs n d.s
 off : ¬ In lo hi g
theorem DD.ext {w w' : World} {g gs lo hi n : Nat} {d : Dv} (h : DD w g gs lo hi n d) (hb : Bo w w') : DD w' g gs lo hi n d := ⟨h.blk.below hb h.blk.lt, h.sto.ext hb, h.off⟩
def actD (n : Nat) (d : Dv) (q : Rq) : Rp × Dv := if allThere n q = false then refD d q.fn 2 else goD n d q
theorem doD_act {n : Nat} {d0 : Dv} {q : Rq} (hk : knownB q.fn = true) (hc : countsB q = true) : doD n d0 q = actD n { d0 with msgs := d0.msgs + 1 } q := by simp [doD, actD, hk, hc]
theorem vrefuse_any (g gs : Nat) (m f u fn k : Int) (w : World) (hb : Blk w g tV [ptrG gs, J m, J f, .int .u8 u]) (hf : 0 ≤ f ∧ f ≤ 1000000000000000000) :
  Calls Tryz.prog 40 #[ptrG g, J fn, J k] w fun e w' => e = .returned (rpV (fn % 128) (k % 256) 0 0 0 nS nS 0 0 nS) ∧ Blk w' g tV [ptrG gs, J m, J (f + 1), .int .u8 u] ∧ Kp (· = g) w w' := by
 obtain ⟨f1, f2⟩ := hf;have KA := Kp.of_below (F := (· = g)) (aL w (.cells zsP.toArray tP));have BD := hb.alloc (.cells zsP.toArray tP);have BZ := Blk.new w tP zsP;have ne : w.heap.size ≠ g := fun e => by have := hb.lt; omega
 have q2 := BD.cell 2;have p2 := BD.frozen 2;replace q2 : (w.alloc (.cells zsP.toArray tP)).cell? ⟨g, 2, none⟩ = some (J f) := q2;have KH := Hh (KA.set (p := ⟨g, 2, none⟩) (fun _ => rfl) (J (f + 1)));have DH := Hh (BD.set 2 (J (f + 1)));have ZH := Hh (BZ.setne (i := 2) (u := J (f + 1)) ne);have HL := Hh (hb.lt);clear KA BD BZ hb;go_enter Tryz.func40, Tryz.ntmps40;go_wp2_with fail
 clear q2 p2;generalize (w.alloc (.cells zsP.toArray tP)).setCell ⟨g, 2, none⟩ (J (f + 1)) = w1 at *;refine (refuse_rep fn k w1).mono ?_;rintro e w2 ⟨rfl, E⟩;have K2 := KH.out.ext E;have BZ := ZH.out.below E ZH.out.lt;have BD := DH.out.below E DH.out.lt;obtain ⟨b, hb⟩ := exb (w.heap.size);have HBW := Hh hb;rw [← hb] at BZ ne ⊢;clear E KH DH ZH w1 hb;obtain ⟨z0, z1, z2, z3, z4, z5, z6, z7, z8, z9⟩ := cells10 BZ;have y := fun i => BZ.frozen i;go_wp2;obtain ⟨w3, hw3, BF, PN, PK⟩ := put10 BZ rfl (J (fn % 128)) (J (k % 256)) (J 0) (J 0) (J 0) nS nS (U 0) (U 0) nS;rw [hw3];obtain ⟨c0, c1, c2, c3, c4, c5, c6, c7, c8, c9⟩ := cells10 BF;refine bodyPost_ret (v := _) (by simp [results, Tryz.results40, go_sem, c0, c1, c2, c3, c4, c5, c6, c7, c8, c9]; with_reducible rfl) rfl ?_;exact ⟨rfl, PN _ _ _ BD ne.symm, PK _ _ K2 (fun h => by have := HBW.out; omega)⟩
theorem vcounts_any (g gs : Nat) (m f u : Int) (w : World) (hb : Blk w g tV [ptrG gs, J m, J f, .int .u8 u]) :
  Calls Tryz.prog 23 #[ptrG g] w fun e w' => e = .returned (.tuple #[J m, J f]) ∧ Bo w w' := by
 have q1 : w.cell? ⟨g, 1, none⟩ = some (J m) := hb.cell 1;have q2 : w.cell? ⟨g, 2, none⟩ = some (J f) := hb.cell 2;clear hb;go_enter Tryz.func23, Tryz.ntmps23;go_wp2;go_quiet (fail)
 go_wp2;refine bodyPost_ret (v := _) (by simp [results, Tryz.results23, go_sem]; with_reducible rfl) rfl ?_;exact ⟨rfl, below_drewn0 _ _ _⟩
theorem vstore_any (g gs : Nat) (m f u : Int) (w : World) (hb : Blk w g tV [ptrG gs, J m, J f, .int .u8 u]) :
  Calls Tryz.prog 21 #[ptrG g] w fun e w' => e = .returned (ptrG gs) ∧ w = w' := by
 have q0 : w.cell? ⟨g, 0, none⟩ = some (ptrG gs) := hb.cell 0;clear hb;go_enter Tryz.func21, Tryz.ntmps21;go_wp2;go_ret;exact ⟨rfl, rfl⟩
theorem vunit_any (g gs : Nat) (m f u x : Int) (w : World) (hb : Blk w g tV [ptrG gs, J m, J f, .int .u8 u]) :
  Calls Tryz.prog 24 #[ptrG g, J x] w fun e w' => e = .returned (.tuple #[]) ∧ Blk w' g tV [ptrG gs, J m, J f, .int .u8 (x % 256)] ∧ Kp (· = g) w w' := by
 have q3 := hb.cell 3;have p3 := hb.frozen 3;replace q3 : w.cell? ⟨g, 3, none⟩ = some (.int .u8 u) := q3;have DH := Hh (hb.set 3 (.int .u8 (x % 256)));have KH := Hh (Kp.set (F := (· = g)) (Kp.refl _ w) (p := ⟨g, 3, none⟩) (fun _ => rfl) (.int .u8 (x % 256)));clear hb;go_enter Tryz.func24, Tryz.ntmps24;go_wp2;go_end0
 exact ⟨rfl, DH.out, KH.out⟩
theorem vnew_bad (c : Int) (w : World) (h : ¬ (1 ≤ c ∧ c ≤ 65536)) :
  Calls Tryz.prog 10 #[J c] w fun e w' => e = .returned (.pointer none) ∧ w = w' := by
 have C := Hh (new_bad c w h);go_enter Tryz.func10, Tryz.ntmps10;go_wp2_with fail
 refine C.out.mono ?_;rintro e w1 ⟨rfl, rfl⟩;clear C;go_wp2;go_ret;exact ⟨rfl, rfl⟩
theorem vnew_any (c : Int) (n : Nat) (w : World) (hc : c = (n : Int)) (hn : 1 ≤ n ∧ n ≤ 65536) :
  Calls Tryz.prog 10 #[J c] w fun e w' => ∃ g gs lo hi, e = .returned (ptrG g) ∧ DD w' g gs lo hi n ⟨Cs.zero n, 0, 0, 0⟩ ∧ w.heap.size ≤ lo ∧ hi ≤ g ∧ Bo w w' := by
 subst hc;have C := Hh (new_i n n w rfl hn);go_enter Tryz.func10, Tryz.ntmps10;go_wp2_with fail
 refine C.out.mono ?_;rintro e w1 ⟨g, lo, hi, rfl, S, hlo, B⟩;have E := aL w1 (.cells #[ptrG g, J 0, J 0, .int .u8 0] tV);have BN := Blk.new w1 tV [ptrG g, J 0, J 0, .int .u8 0];have hb := bT B E;have S2 := S.ext E;have ht := S.top;clear E B C S;go_wp2;go_ret;exact ⟨_, _, _, _, rfl, ⟨BN, S2, fun h => by have := h.2; omega⟩, hlo, ht, hb⟩
end Go.Proofs.YtdihcdphgiaepaaGreat
