/- Contracts of the methods of store's Store that read and set cells. -/
import Derived.Test.YtdihcdphgiaepaaZZ20
namespace Go.Proofs.Ytdihcdphgiaepaa
open Go.RowKit
abbrev SD := Sto 61 []
theorem rowB_out (v : Value) (sp : Int) (w : World) (hs : isB sp = false) :
  Calls Try.prog 68 #[v, .int .i64 sp] w fun e w' => e = .returned (.slice none 0 0) ∧ w = w' := by
 have h0 : (sp == 0) = false := by
  rw [beq_eq_false_iff_ne]; intro e; simp [isB, e] at hs
 have h1 : (sp == 1) = false := by
  rw [beq_eq_false_iff_ne]; intro e; simp [isB, e] at hs
 clear hs
 go_enter Try.func68, Try.ntmps68
 go_wp2
 go_ret
 exact ⟨rfl, rfl⟩
theorem rowB_in (g : Nat) (a : Option Addr) (n c : Nat) (sp : Int) (w : World) (hs : isB sp = true) (hc : w.cell? ⟨g, 0 + sp.toNat, none⟩ = some (.slice a n c)) :
  Calls Try.prog 68 #[ptrG g, .int .i64 sp] w fun e w' => e = .returned (.slice a n c) ∧ w = w' := by
 have hsp : sp = 0 ∨ sp = 1 := by simpa [isB] using hs
 clear hs
 rcases hsp with rfl | rfl
 ·
  replace hc : w.cell? ⟨g, 0, none⟩ = some (.slice a n c) := hc
  go_enter Try.func68, Try.ntmps68
  go_wp2
  go_ret
  exact ⟨rfl, rfl⟩
 ·
  replace hc : w.cell? ⟨g, 1, none⟩ = some (.slice a n c) := hc
  go_enter Try.func68, Try.ntmps68
  go_wp2
  go_ret
  exact ⟨rfl, rfl⟩
set_option maxHeartbeats 1000000 in
theorem setB_any (lo hi g n : Nat) (s : Cs) (v : Value) (l : List Bool) (sp a : Int) (w : World) (h : SD w lo hi g n s) (hv : Row w v (l.map Value.bool)) (ha : i64 a) :
  Calls Try.prog 52 #[ptrG g, .int .i64 sp, .int .i64 a, v] w fun e w' => e = .returned (.bool (okB n sp a l.length)) ∧ SD w' lo hi g n (setB n s sp a l) ∧ Kp (In lo hi) w w' := by
 obtain ⟨av, cv, rfl, hv1, hv2, -⟩ := id hv
 simp only [List.length_map] at hv hv1 ⊢
 have hpos := h.pos
 cases hs : isB sp
 ·
  have e1 : okB n sp a l.length = false := by simp [okB, hs]
  have e2 : setB n s sp a l = s := by simp [setB, e1]
  rw [e1, e2]
  have C1 := hidden (rowB_out (ptrG g) sp w hs)
  have C2 := hidden (writeB_no none av 0 0 l.length cv a w (by omega) ha hv1 hv2 (by simp [thB]))
  have H := hidden h
  clear hs e1 e2 hv h hpos ha hv1 hv2
  go_enter Try.func52, Try.ntmps52
  go_wp2_with fail
  refine C1.out.mono ?_
  rintro e w1 ⟨rfl, rfl⟩
  go_wp2_with fail
  refine C2.out.mono ?_
  rintro e w1 ⟨rfl, rfl⟩
  go_wp2
  go_ret
  exact ⟨rfl, H.out, Kp.refl _ _⟩
 ·
  obtain ⟨gr, c, xs, hb, hx, hin, hh, hl, hc, hput⟩ := h.atB hs
  have hcell : w.cell? ⟨g, 0 + sp.toNat, none⟩ = some (slG gr n c) := by rw [hb.cell]; exact hx
  have C1 := hidden (rowB_in g _ n c sp w hs hcell)
  cases hf : fits n a l.length
  ·
   have e1 : okB n sp a l.length = false := by simp [okB, hf]
   have e2 : setB n s sp a l = s := by simp [setB, e1]
   rw [e1, e2]
   have C2 := hidden (writeB_no (some ⟨gr, 0, none⟩) av n c l.length cv a w (by omega) ha hv1 hv2 (by simp [thB, hf]))
   have H := hidden h
   clear hs e1 e2 hv h hpos ha hv1 hv2 hb hx hin hh hl hc hput hcell hf
   go_enter Try.func52, Try.ntmps52
   go_wp2_with fail
   refine C1.out.mono ?_
   rintro e w1 ⟨rfl, rfl⟩
   go_wp2_with fail
   refine C2.out.mono ?_
   rintro e w1 ⟨rfl, rfl⟩
   go_wp2
   go_ret
   exact ⟨rfl, H.out, Kp.refl _ _⟩
  ·
   have e1 : okB n sp a l.length = true := by simp [okB, hf, hs]
   have e2 : setB n s sp a l = putRB s sp (splice (rowB s sp) a.toNat l) := by simp [setB, e1]
   rw [e1, e2]
   have C2 := hidden (writeB_yes gr n c _ (rowB s sp) l a w hh hv hl (by omega) ha (by omega) hf)
   have HP := hidden hput
   have q := fits_iff.1 hf
   have HL : Hid ((splice (rowB s sp) a.toNat l).length = n) := by
    show _ = _
    rw [splice_len _ _ _ (by omega), hl]
   clear hs e1 e2 hv h hpos ha hv1 hv2 hb hx hin hh hl hc hput hcell hf q
   go_enter Try.func52, Try.ntmps52
   go_wp2_with fail
   refine C1.out.mono ?_
   rintro e w1 ⟨rfl, rfl⟩
   go_wp2_with fail
   refine C2.out.mono ?_
   rintro e w1 ⟨rfl, D1, D2⟩
   go_wp2
   go_ret
   exact ⟨rfl, HP.out _ _ HL.out D2 D1⟩
set_option maxHeartbeats 1000000 in
theorem getB_any (lo hi g n : Nat) (s : Cs) (sp a m : Int) (w : World) (h : SD w lo hi g n s) (ha : i64 a) :
  Calls Try.prog 66 #[ptrG g, .int .i64 sp, .int .i64 a, .int .i64 m] w fun e w' => ∃ v', e = .returned (.tuple #[v', .bool (okB n sp a m)]) ∧ Row w' v' ((getB n s sp a m).map Value.bool) ∧ NwV w.heap.size v' ∧ Below w.heap.size w w' := by
 have hpos := h.pos
 cases hs : isB sp
 ·
  have e1 : okB n sp a m = false := by simp [okB, hs]
  have e2 : getB n s sp a m = [] := by simp [getB, e1]
  rw [e1, e2]
  have C1 := hidden (rowB_out (ptrG g) sp w hs)
  have C2 := hidden (readB_no none 0 0 a m w (by omega) ha (by simp [thB]))
  clear hs e1 e2 h hpos ha
  go_enter Try.func66, Try.ntmps66
  go_wp2_with fail
  refine C1.out.mono ?_
  rintro e w1 ⟨rfl, rfl⟩
  go_wp2_with fail
  refine C2.out.mono ?_
  rintro e w1 ⟨rfl, rfl⟩
  go_wp2
  go_ret2
  exact ⟨_, rfl, Row.nil _, NwV.nil _ _ _, Below.refl _ _⟩
 ·
  obtain ⟨gr, c, xs, hb, hx, hin, hh, hl, hc, hput⟩ := h.atB hs
  have hcell : w.cell? ⟨g, 0 + sp.toNat, none⟩ = some (slG gr n c) := by rw [hb.cell]; exact hx
  have C1 := hidden (rowB_in g _ n c sp w hs hcell)
  cases hf : fits n a m
  ·
   have e1 : okB n sp a m = false := by simp [okB, hf]
   have e2 : getB n s sp a m = [] := by simp [getB, e1]
   rw [e1, e2]
   have C2 := hidden (readB_no (some ⟨gr, 0, none⟩) n c a m w (by omega) ha (by simp [thB, hf]))
   clear hs e1 e2 h hpos ha hb hx hin hh hl hc hput hcell hf
   go_enter Try.func66, Try.ntmps66
   go_wp2_with fail
   refine C1.out.mono ?_
   rintro e w1 ⟨rfl, rfl⟩
   go_wp2_with fail
   refine C2.out.mono ?_
   rintro e w1 ⟨rfl, rfl⟩
   go_wp2
   go_ret2
   exact ⟨_, rfl, Row.nil _, NwV.nil _ _ _, Below.refl _ _⟩
  ·
   have e1 : okB n sp a m = true := by simp [okB, hf, hs]
   have e2 : getB n s sp a m = sub (rowB s sp) a m := by simp [getB, e1]
   rw [e1, e2]
   have C2 := hidden (readB_yes gr n c (rowB s sp) a m w hh hl (by omega) ha (by omega) hf)
   clear hs e1 e2 h hpos ha hb hx hin hh hl hc hput hcell hf
   go_enter Try.func66, Try.ntmps66
   go_wp2_with fail
   refine C1.out.mono ?_
   rintro e w1 ⟨rfl, rfl⟩
   go_wp2_with fail
   refine C2.out.mono ?_
   rintro e w1 ⟨v, rfl, R, N, B⟩
   go_wp2
   go_ret2
   exact ⟨_, rfl, R, N, B⟩
theorem rowV_out (v : Value) (sp : Int) (w : World) (hs : isV sp = false) :
  Calls Try.prog 43 #[v, .int .i64 sp] w fun e w' => e = .returned (.slice none 0 0) ∧ w = w' := by
 have h0 : (sp == 2) = false := by
  rw [beq_eq_false_iff_ne]; intro e; simp [isV, e] at hs
 have h1 : (sp == 3) = false := by
  rw [beq_eq_false_iff_ne]; intro e; simp [isV, e] at hs
 clear hs
 go_enter Try.func43, Try.ntmps43
 go_wp2
 go_ret
 exact ⟨rfl, rfl⟩
theorem rowV_in (g : Nat) (a : Option Addr) (n c : Nat) (sp : Int) (w : World) (hs : isV sp = true) (hc : w.cell? ⟨g, 0 + sp.toNat, none⟩ = some (.slice a n c)) :
  Calls Try.prog 43 #[ptrG g, .int .i64 sp] w fun e w' => e = .returned (.slice a n c) ∧ w = w' := by
 have hsp : sp = 2 ∨ sp = 3 := by simpa [isV] using hs
 clear hs
 rcases hsp with rfl | rfl
 ·
  replace hc : w.cell? ⟨g, 2, none⟩ = some (.slice a n c) := hc
  go_enter Try.func43, Try.ntmps43
  go_wp2
  go_ret
  exact ⟨rfl, rfl⟩
 ·
  replace hc : w.cell? ⟨g, 3, none⟩ = some (.slice a n c) := hc
  go_enter Try.func43, Try.ntmps43
  go_wp2
  go_ret
  exact ⟨rfl, rfl⟩
set_option maxHeartbeats 1000000 in
theorem setV_any (lo hi g n : Nat) (s : Cs) (v : Value) (l : List UInt16) (sp a : Int) (w : World) (h : SD w lo hi g n s) (hv : Row w v (l.map wV)) (ha : i64 a) :
  Calls Try.prog 54 #[ptrG g, .int .i64 sp, .int .i64 a, v] w fun e w' => e = .returned (.bool (okV n sp a l.length)) ∧ SD w' lo hi g n (setV n s sp a l) ∧ Kp (In lo hi) w w' := by
 obtain ⟨av, cv, rfl, hv1, hv2, -⟩ := id hv
 simp only [List.length_map] at hv hv1 ⊢
 have hpos := h.pos
 cases hs : isV sp
 ·
  have e1 : okV n sp a l.length = false := by simp [okV, hs]
  have e2 : setV n s sp a l = s := by simp [setV, e1]
  rw [e1, e2]
  have C1 := hidden (rowV_out (ptrG g) sp w hs)
  have C2 := hidden (writeV_no none av 0 0 l.length cv a w (by omega) ha hv1 hv2 (by simp [thB]))
  have H := hidden h
  clear hs e1 e2 hv h hpos ha hv1 hv2
  go_enter Try.func54, Try.ntmps54
  go_wp2_with fail
  refine C1.out.mono ?_
  rintro e w1 ⟨rfl, rfl⟩
  go_wp2_with fail
  refine C2.out.mono ?_
  rintro e w1 ⟨rfl, rfl⟩
  go_wp2
  go_ret
  exact ⟨rfl, H.out, Kp.refl _ _⟩
 ·
  obtain ⟨gr, c, xs, hb, hx, hin, hh, hl, hc, hput⟩ := h.atV hs
  have hcell : w.cell? ⟨g, 0 + sp.toNat, none⟩ = some (slG gr n c) := by rw [hb.cell]; exact hx
  have C1 := hidden (rowV_in g _ n c sp w hs hcell)
  cases hf : fits n a l.length
  ·
   have e1 : okV n sp a l.length = false := by simp [okV, hf]
   have e2 : setV n s sp a l = s := by simp [setV, e1]
   rw [e1, e2]
   have C2 := hidden (writeV_no (some ⟨gr, 0, none⟩) av n c l.length cv a w (by omega) ha hv1 hv2 (by simp [thB, hf]))
   have H := hidden h
   clear hs e1 e2 hv h hpos ha hv1 hv2 hb hx hin hh hl hc hput hcell hf
   go_enter Try.func54, Try.ntmps54
   go_wp2_with fail
   refine C1.out.mono ?_
   rintro e w1 ⟨rfl, rfl⟩
   go_wp2_with fail
   refine C2.out.mono ?_
   rintro e w1 ⟨rfl, rfl⟩
   go_wp2
   go_ret
   exact ⟨rfl, H.out, Kp.refl _ _⟩
  ·
   have e1 : okV n sp a l.length = true := by simp [okV, hf, hs]
   have e2 : setV n s sp a l = putRV s sp (splice (rowV s sp) a.toNat l) := by simp [setV, e1]
   rw [e1, e2]
   have C2 := hidden (writeV_yes gr n c _ (rowV s sp) l a w hh hv hl (by omega) ha (by omega) hf)
   have HP := hidden hput
   have q := fits_iff.1 hf
   have HL : Hid ((splice (rowV s sp) a.toNat l).length = n) := by
    show _ = _
    rw [splice_len _ _ _ (by omega), hl]
   clear hs e1 e2 hv h hpos ha hv1 hv2 hb hx hin hh hl hc hput hcell hf q
   go_enter Try.func54, Try.ntmps54
   go_wp2_with fail
   refine C1.out.mono ?_
   rintro e w1 ⟨rfl, rfl⟩
   go_wp2_with fail
   refine C2.out.mono ?_
   rintro e w1 ⟨rfl, D1, D2⟩
   go_wp2
   go_ret
   exact ⟨rfl, HP.out _ _ HL.out D2 D1⟩
set_option maxHeartbeats 1000000 in
theorem getV_any (lo hi g n : Nat) (s : Cs) (sp a m : Int) (w : World) (h : SD w lo hi g n s) (ha : i64 a) :
  Calls Try.prog 19 #[ptrG g, .int .i64 sp, .int .i64 a, .int .i64 m] w fun e w' => ∃ v', e = .returned (.tuple #[v', .bool (okV n sp a m)]) ∧ Row w' v' ((getV n s sp a m).map wV) ∧ NwV w.heap.size v' ∧ Below w.heap.size w w' := by
 have hpos := h.pos
 cases hs : isV sp
 ·
  have e1 : okV n sp a m = false := by simp [okV, hs]
  have e2 : getV n s sp a m = [] := by simp [getV, e1]
  rw [e1, e2]
  have C1 := hidden (rowV_out (ptrG g) sp w hs)
  have C2 := hidden (readV_no none 0 0 a m w (by omega) ha (by simp [thB]))
  clear hs e1 e2 h hpos ha
  go_enter Try.func19, Try.ntmps19
  go_wp2_with fail
  refine C1.out.mono ?_
  rintro e w1 ⟨rfl, rfl⟩
  go_wp2_with fail
  refine C2.out.mono ?_
  rintro e w1 ⟨rfl, rfl⟩
  go_wp2
  go_ret2
  exact ⟨_, rfl, Row.nil _, NwV.nil _ _ _, Below.refl _ _⟩
 ·
  obtain ⟨gr, c, xs, hb, hx, hin, hh, hl, hc, hput⟩ := h.atV hs
  have hcell : w.cell? ⟨g, 0 + sp.toNat, none⟩ = some (slG gr n c) := by rw [hb.cell]; exact hx
  have C1 := hidden (rowV_in g _ n c sp w hs hcell)
  cases hf : fits n a m
  ·
   have e1 : okV n sp a m = false := by simp [okV, hf]
   have e2 : getV n s sp a m = [] := by simp [getV, e1]
   rw [e1, e2]
   have C2 := hidden (readV_no (some ⟨gr, 0, none⟩) n c a m w (by omega) ha (by simp [thB, hf]))
   clear hs e1 e2 h hpos ha hb hx hin hh hl hc hput hcell hf
   go_enter Try.func19, Try.ntmps19
   go_wp2_with fail
   refine C1.out.mono ?_
   rintro e w1 ⟨rfl, rfl⟩
   go_wp2_with fail
   refine C2.out.mono ?_
   rintro e w1 ⟨rfl, rfl⟩
   go_wp2
   go_ret2
   exact ⟨_, rfl, Row.nil _, NwV.nil _ _ _, Below.refl _ _⟩
  ·
   have e1 : okV n sp a m = true := by simp [okV, hf, hs]
   have e2 : getV n s sp a m = sub (rowV s sp) a m := by simp [getV, e1]
   rw [e1, e2]
   have C2 := hidden (readV_yes gr n c (rowV s sp) a m w hh hl (by omega) ha (by omega) hf)
   clear hs e1 e2 h hpos ha hb hx hin hh hl hc hput hcell hf
   go_enter Try.func19, Try.ntmps19
   go_wp2_with fail
   refine C1.out.mono ?_
   rintro e w1 ⟨rfl, rfl⟩
   go_wp2_with fail
   refine C2.out.mono ?_
   rintro e w1 ⟨v, rfl, R, N, B⟩
   go_wp2
   go_ret2
   exact ⟨_, rfl, R, N, B⟩
end Go.Proofs.Ytdihcdphgiaepaa
