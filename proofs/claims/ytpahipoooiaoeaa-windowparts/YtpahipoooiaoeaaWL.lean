/- The statements' own same; Same of equal pieces. -/
import Derived.Test.YtpahipoooiaoeaaWK
namespace Go.Proofs.Ytpahipoooiaoeaa
open Go.RowKit

theorem ints_i64 {n : Int} (h : i64 n) : -9223372036854775808 ≤ n ∧ n ≤ 9223372036854775807 := h
set_option maxRecDepth 100000 in
set_option maxHeartbeats 8000000 in
theorem same_law (va vb : Value) (l m : WL) (sp a n : Int) (w : World) (ha : Wns w va l) (hb : Wns w vb m) (ol : OkW l) (om : OkW m) (hn : i64 n) (ll : l.length ≤ 1000000) (lm : m.length ≤ 1000000) :
    Calls Try.prog 9 #[va, vb, .int .i64 sp, .int .i64 a, .int .i64 n] w fun e w' => e = .returned (.bool true) ∧ Below w.heap.size w w' := by
  have HA := hidden ha
  have HB := hidden hb
  obtain ⟨aa, ca, rfl, -⟩ := id ha
  obtain ⟨ab, cb, rfl, -⟩ := id hb
  obtain ⟨-, hc, hm, -⟩ := ha.at
  unfold maxLen at hm
  have C1 := hidden (fun w' (h : Wns w' (.slice aa l.length ca) l) => map_any _ l sp a n w' h ol hn ll)
  have C2 := hidden (fun w' (h : Wns w' (.slice aa l.length ca) l) => rmap_any _ l sp a n w' h ol hn ll)
  have C3 := hidden (fun w' (h : Wns w' (.slice aa l.length ca) l) => back_any _ l sp n w' h ol ll)
  have C4 := hidden (fun w' (h : Wns w' (.slice aa l.length ca) l) => rback_any _ l sp n w' h ol hn)
  have C5 := hidden (fun w' (h : Wns w' (.slice aa l.length ca) l) (k : Wns w' (.slice ab m.length cb) m) => meets_any _ _ l m w' h k ol om ll lm)
  have C6 := hidden (fun w' (h : Wns w' (.slice aa l.length ca) l) (k : Wns w' (.slice ab m.length cb) m) => rmeets_any _ _ l m w' h k ol om)
  have C7 := hidden (fun w' (h : Wns w' (.slice aa l.length ca) l) => own_any _ l w' h ol ll)
  have C8 := hidden (fun w' (h : Wns w' (.slice aa l.length ca) l) => rown_any _ l w' h ol)
  have OL := hidden ol
  generalize mapE l sp a n = E at *
  generalize (backO l sp n).getD 0 = bk at *
  generalize (backO l sp n).isSome = bs at *
  generalize meetsB l m = mb at *
  generalize ownB l = ob at *
  clear ha hb om hn ll lm ol
  go_enter Try.func9, Try.ntmps9
  go_wp2_with fail
  refine (C1.out _ HA.out).mono ?_
  rintro e w1 ⟨v1, rfl, P1, q1, B1⟩
  go_wp2_with fail
  refine (C2.out _ (HA.out.ext B1)).mono ?_
  rintro e w2 ⟨v2, rfl, P2, B2⟩
  replace P1 := P1.ext B2
  replace B2 := below_then B1 B2
  clear B1 C1 C2
  generalize E.getD [] = ps at *
  generalize E.isSome = es at *
  obtain ⟨a1, c1, rfl, -⟩ := id P1
  obtain ⟨a2, c2, rfl, -⟩ := id P2
  obtain ⟨-, hc1, hm1, -⟩ := P1.at
  obtain ⟨-, hc2, hm2, -⟩ := P2.at
  unfold maxLen at hm1 hm2
  have H1 := hidden P1
  have H2 := hidden P2
  clear P1 P2
  go_wp2
  go_loopw [50] (fun i wr => ∃ k : Nat, k ≤ ps.length ∧ i = .int .i64 k ∧ Below w.heap.size w wr ∧ Below w2.heap.size w2 wr) (fun i _ => ps.length - (intOf i).toNat)
  case atStart => exact ⟨0, Nat.zero_le _, rfl, B2, Below.refl _ _⟩
  case round =>
    clear B2
    obtain ⟨k, hk, rfl, hb, hb2⟩ := hrel
    by_cases hlt : k < ps.length
    · obtain ⟨⟨p, f, q⟩, hx⟩ := getx hlt
      obtain ⟨b1, o1, rfl, x0, x1, x2⟩ := (H1.out.ext hb2).pn hx
      obtain ⟨b2, o2, rfl, y0, y1, y2⟩ := (H2.out.ext hb2).pn hx
      have hlt' : (k : Int) < (ps.length : Int) := by omega
      go_wp2
      go_quiet (fail)
      go_wp2
      go_roundw
      case rel => exact ⟨k + 1, by omega, by go_num, below_drewn hb _, below_drewn hb2 _⟩
      case measure => simp [intOf]; omega
    · go_wp2
      clear hb2 hlt hk
      go_loopw [93] (fun i wr => ∃ k : Nat, k ≤ l.length ∧ i = .int .i64 k ∧ Below w.heap.size w wr) (fun i _ => l.length - (intOf i).toNat)
      case atStart => exact ⟨0, Nat.zero_le _, rfl, hb⟩
      case round =>
        clear hb
        obtain ⟨k, hk, rfl, hb⟩ := hrel
        by_cases hlt : k < l.length
        · obtain ⟨⟨s, v, p, n⟩, hx⟩ := getx hlt
          obtain ⟨b, off, rfl, c0, c1, c2, c3⟩ := (HA.out.ext hb).wn hx
          have hlt' : (k : Int) < (l.length : Int) := by omega
          have R1 := hidden (fun w => wright_any s v p n w (OL.out.at hx).2.2.2)
          have R2 := hidden (fun w => rwindow_any s v p n w (OL.out.at hx).2.2.2)
          generalize wR (s, v, p, n) = r at *
          have x1 := (BxW.new wr s v p n).drew
          have hb0 := (hb.alloc hb.size (boxW s v p n)).drew
          have xx := Ext.refl (wr.alloc (boxW s v p n)).drew
          go_wp2
          refine wp_region_pi [(0, true), (2, true), (1, false), (3, false), (4, true)] (by kernel_rfl) (by kernel_rfl) (by kernel_rfl) (fun _ _ _ d _ h => by cases d <;> exact h) ?_
          clear c0 c1 c2 c3 hb
          generalize wr.heap.size = g9 at *
          generalize (wr.alloc (boxW s v p n)).drew = w4 at *
          iterate 2 (refine pi_read xx rfl (by kernel_rfl) (fun w' hw' => by obtain ⟨q0, q1, q2, q3⟩ := (x1.ext hw').cells; go_simp; with_reducible rfl) ?_; try simp only [Act.put, List.setIfInBounds_toArray, List.set_cons_zero, List.set_cons_succ])
          refine pi_move rfl (by kernel_rfl) (fun K hK => ?_)
          go_wp2_with fail
          refine (R1.out _).mono ?_
          rintro e wc ⟨rfl, Bc⟩
          replace x1 := x1.ext Bc
          replace hb0 := below_then hb0 Bc
          replace xx := xx.trans Bc
          go_simp
          refine hK.out _ _ xx ?_
          try simp only [Act.put, List.setIfInBounds_toArray, List.set_cons_zero, List.set_cons_succ]
          clear hK K
          refine pi_move rfl (by kernel_rfl) (fun K hK => ?_)
          go_wp2_with fail
          refine (R2.out _).mono ?_
          rintro e wc ⟨rfl, Bc⟩
          replace x1 := x1.ext Bc
          replace hb0 := below_then hb0 Bc
          replace xx := xx.trans Bc
          go_simp
          refine hK.out _ _ xx ?_
          try simp only [Act.put, List.setIfInBounds_toArray, List.set_cons_zero, List.set_cons_succ]
          clear hK K
          iterate 1 (refine pi_pure xx rfl (by kernel_rfl) (fun w' => by go_simp; with_reducible rfl) ?_; try simp only [Act.put, List.setIfInBounds_toArray, List.set_cons_zero, List.set_cons_succ])
          refine pi_nil ?_
          go_wp2
          go_roundw
          case rel => exact ⟨k + 1, by omega, by go_num, hb0⟩
          case measure => simp [intOf]; omega
        · go_wp2_with fail
          refine (C3.out _ (HA.out.ext hb)).mono ?_
          rintro e w3 ⟨rfl, B3⟩
          replace B3 := below_then hb B3
          clear hb
          go_wp2_with fail
          refine (C4.out _ (HA.out.ext B3)).mono ?_
          rintro e w4 ⟨rfl, B4⟩
          replace B4 := below_then B3 B4
          clear B3
          go_wp2_with fail
          refine (C5.out _ (HA.out.ext B4) (HB.out.ext B4)).mono ?_
          rintro e w5 ⟨rfl, B5⟩
          replace B5 := below_then B4 B5
          clear B4
          go_wp2_with fail
          refine (C6.out _ (HA.out.ext B5) (HB.out.ext B5)).mono ?_
          rintro e w6 ⟨rfl, B6⟩
          replace B6 := below_then B5 B6
          clear B5
          go_wp2_with fail
          refine (C7.out _ (HA.out.ext B6)).mono ?_
          rintro e w7 ⟨rfl, B7⟩
          replace B7 := below_then B6 B7
          clear B6
          go_wp2_with fail
          refine (C8.out _ (HA.out.ext B7)).mono ?_
          rintro e w8 ⟨rfl, B8⟩
          replace B8 := below_then B7 B8
          clear B7
          go_wp2
          go_ret
          exact ⟨rfl, B8⟩

set_option maxHeartbeats 2000000 in
theorem same_pcs (v u : Value) (l : PL) (w : World) (hv : Pcs w v l) (hu : Pcs w u l) :
    Calls Try.prog 22 #[v, u] w fun e w' => e = .returned (.bool true) ∧ Below w.heap.size w w' := by
  obtain ⟨av, cap, rfl, -⟩ := id hv
  obtain ⟨au, cap2, rfl, -⟩ := id hu
  obtain ⟨-, hc, hm, -⟩ := hv.at
  obtain ⟨-, hc2, hm2, -⟩ := hu.at
  unfold maxLen at hm hm2
  go_enter Try.func22, Try.ntmps22
  go_wp2
  go_loopw [5] (fun i wr => ∃ k : Nat, k ≤ l.length ∧ i = .int .i64 k ∧ Below w.heap.size w wr) (fun i _ => l.length - (intOf i).toNat)
  case atStart => exact ⟨0, Nat.zero_le _, rfl, Below.refl _ _⟩
  case round =>
    obtain ⟨j, hj, rfl, h3⟩ := hrel
    by_cases hlt : j < l.length
    · obtain ⟨⟨p, f, q⟩, hx⟩ := getx hlt
      obtain ⟨b1, o1, rfl, x0, x1, x2⟩ := (hv.ext h3).pn hx
      obtain ⟨b2, o2, rfl, y0, y1, y2⟩ := (hu.ext h3).pn hx
      have hlt' : (j : Int) < (l.length : Int) := by omega
      go_wp2
      go_quiet (fail)
      go_wp2
      go_roundw
      case rel => exact ⟨j + 1, by omega, by go_num, below_drewn h3 _⟩
      case measure => simp [intOf]; omega
    · go_wp2
      go_ret
      exact ⟨rfl, h3⟩

end Go.Proofs.Ytpahipoooiaoeaa
