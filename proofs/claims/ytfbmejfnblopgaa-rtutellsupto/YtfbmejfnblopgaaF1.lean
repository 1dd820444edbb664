/- Contracts of rtu's Frame and Read, and of the document's own. -/
import Derived.Test.YtfbmejfnblopgaaP4
import Derived.Test.YtfbmejfnblopgaaF0
import Derived.Test.YtfbmejfnblopgaaCC
namespace Go.Proofs.Ytfbmejfnblopgaa
open Go.RowKit

set_option maxHeartbeats 400000 in
theorem addr_any (n : Int) (w : World) (b : Bool) (hb : decide (1 ≤ n ∧ n ≤ 247) = b) :
    Calls Try.prog 20 #[.int .i64 n] w fun e w' => e = .returned (.bool b) ∧ w = w' := by
  subst hb
  by_cases h1 : 1 ≤ n
  · by_cases h2 : n ≤ 247
    · have e : decide (1 ≤ n ∧ n ≤ 247) = true := by simp [h1, h2]
      rw [e]
      go_enter Try.func20, Try.ntmps20
      go_wp2
      go_ret
      exact ⟨rfl, rfl⟩
    · have e : decide (1 ≤ n ∧ n ≤ 247) = false := by simp [h2]
      rw [e]
      go_enter Try.func20, Try.ntmps20
      go_wp2
      go_ret
      exact ⟨rfl, rfl⟩
  · have e : decide (1 ≤ n ∧ n ≤ 247) = false := by simp [h1]
    rw [e]
    go_enter Try.func20, Try.ntmps20
    go_wp2
    go_ret
    exact ⟨rfl, rfl⟩

theorem ret_frm {v : Value} {e e' : Int} (h : e = e') : Ending.returned (.tuple #[v, .int .i64 e]) = .returned (.tuple #[v, .int .i64 e']) := by rw [h]

set_option maxHeartbeats 1000000 in
theorem frame_any (a : Int) (v : Value) (bs : List UInt8) (w : World) (_ha : -9223372036854775808 ≤ a ∧ a ≤ 9223372036854775807) (hv : Row w v (bs.map bV)) :
    Calls Try.prog 14 #[.int .i64 a, v] w fun e w' => ∃ v', e = .returned (.tuple #[v', .int .i64 (frmE a bs)]) ∧ Row w' v' ((frmL a bs).map bV) ∧ Below w.heap.size w w' := by
  obtain ⟨av, cap, rfl, -⟩ := id hv
  obtain ⟨hl, hc, hm, -⟩ := hv.at
  simp only [List.length_map] at hl hc hv ⊢
  by_cases h0 : 1 ≤ a ∧ a ≤ 247
  · obtain ⟨g1, g2⟩ := h0
    have C := hidden (fun w => addr_any a w true (by simp [g1, g2]))
    by_cases h1 : bs.length = 0
    · obtain ⟨e1, e2⟩ := frm_short g1 g2 h1
      rw [e1, e2]
      have z : ((bs.length : Int) == 0) = true := by simp [h1]
      clear e1 e2 hv
      go_enter Try.func14, Try.ntmps14
      go_wp2_with fail
      refine (C.out _).mono ?_
      rintro e w2 ⟨rfl, rfl⟩
      go_wp2
      go_ret2
      exact ⟨_, rfl, Row.nil _, Below.refl _ _⟩
    · have z : ((bs.length : Int) == 0) = false := by rw [beq_eq_false_iff_ne]; omega
      by_cases h2 : 253 < bs.length
      · obtain ⟨e1, e2⟩ := frm_long g1 g2 h2
        rw [e1, e2]
        have z2 : (253 : Int) < (bs.length : Int) := by omega
        clear e1 e2 hv
        go_enter Try.func14, Try.ntmps14
        go_wp2_with fail
        refine (C.out _).mono ?_
        rintro e w2 ⟨rfl, rfl⟩
        go_wp2
        go_ret2
        exact ⟨_, rfl, Row.nil _, Below.refl _ _⟩
      · obtain ⟨e1, e2⟩ := frm_ok (b := bs) g1 g2 (by omega) (by omega)
        rw [e1, e2]
        have z2 : ¬ (253 : Int) < (bs.length : Int) := by omega
        have hlen : bs.length ≤ 253 := by omega
        have e8 : ((UInt8.ofNat a.toNat).toNat   : Int) = a := by rw [UInt8.toNat_ofNat']; omega
        have E8 := hidden e8
        generalize UInt8.ofNat a.toNat = x at *
        have ef : flatTo [[x], bs] 2 = x :: bs := by simp [flatTo]
        have EF := hidden ef
        clear e1 e2 ef e8 _ha
        have W0 := hidden (fun o1 o2 => ((Below.refl w.heap.size w).alloc (Nat.le_refl _) o1).alloc (by simp) o2)
        have R1 := hidden (row_new w [.int .u8 a] 5 1 rfl (by decide))
        go_enter Try.func14, Try.ntmps14
        go_wp2_with fail
        refine (C.out _).mono ?_
        rintro e w2 ⟨rfl, rfl⟩
        go_wp2_with fail
        have CV := concat_any (w.heap.size + 1) [.slice (some ⟨w.heap.size, 0, none⟩) 1 1, .slice av bs.length cap] [[x], bs]
          ((w.alloc (.cells #[.int .u8 a] 5)).alloc (.cells #[.slice (some ⟨w.heap.size, 0, none⟩) 1 1, .slice av bs.length cap] 23)) (by simpa using Blk.new (w.alloc (.cells #[.int .u8 a] 5)) 23 [.slice (some ⟨w.heap.size, 0, none⟩) 1 1, .slice av bs.length cap]) rfl ?q1 ?q2 ?q3 (by simp)
        case q1 =>
          intro i hi
          match i, hi with
          | 0, _ =>
            refine ⟨_, rfl, ?_⟩
            have : ([x].map bV) = [.int .u8 a] := by simp only [List.map_cons, List.map_nil, bV, E8.out]
            show Row _ _ ([x].map bV)
            rw [this]
            exact R1.out.below ((Below.refl _ _).alloc (Nat.le_refl _) _)
          | 1, _ => exact ⟨_, rfl, hv.below (W0.out _ _)⟩
        case q2 => rw [show [[x], bs].length = 2 from rfl, EF.out]; simp
        case q3 => rw [show [[x], bs].length = 2 from rfl, EF.out]; simp; omega
        refine CV.mono ?_
        rintro e w2 ⟨v2, rfl, hr2, B2⟩
        rw [show [[x], bs].length = 2 from rfl, EF.out] at hr2
        replace B2 := below_then (W0.out _ _) B2
        go_wp2_with fail
        refine (seal_any _ (x :: bs) _ hr2 (by simp; omega)).mono ?_
        rintro e w3 ⟨v3, rfl, hr3, B3⟩
        replace B3 := below_then B2 B3
        go_wp2
        go_ret2
        exact ⟨_, rfl, hr3, B3⟩
  · obtain ⟨e1, e2⟩ := frm_arg (a := a) (b := bs) (by omega)
    rw [e1, e2]
    have C := hidden (fun w => addr_any a w false (by simp; omega))
    clear e1 e2 hv
    go_enter Try.func14, Try.ntmps14
    go_wp2_with fail
    refine (C.out _).mono ?_
    rintro e w2 ⟨rfl, rfl⟩
    go_wp2
    go_ret2
    exact ⟨_, rfl, Row.nil _, Below.refl _ _⟩

set_option maxHeartbeats 1000000 in
theorem rframe_any (a : Int) (v : Value) (bs : List UInt8) (w : World) (_ha : -9223372036854775808 ≤ a ∧ a ≤ 9223372036854775807) (hv : Row w v (bs.map bV)) :
    Calls Try.prog 8 #[.int .i64 a, v] w fun e w' => ∃ v', e = .returned (.tuple #[v', .int .i64 (frmE a bs)]) ∧ Row w' v' ((frmL a bs).map bV) ∧ Below w.heap.size w w' := by
  obtain ⟨av, cap, rfl, -⟩ := id hv
  obtain ⟨hl, hc, hm, -⟩ := hv.at
  simp only [List.length_map] at hl hc hv ⊢
  by_cases g1 : 1 ≤ a
  · by_cases g2 : a ≤ 247
    · by_cases h1 : bs.length = 0
      · obtain ⟨e1, e2⟩ := frm_short g1 g2 h1
        rw [e1, e2]
        have z : ((bs.length : Int) == 0) = true := by simp [h1]
        clear e1 e2 hv
        go_enter Try.func8, Try.ntmps8
        go_wp2
        go_ret2
        exact ⟨_, rfl, Row.nil _, Below.refl _ _⟩
      · have z : ((bs.length : Int) == 0) = false := by rw [beq_eq_false_iff_ne]; omega
        by_cases h2 : 253 < bs.length
        · obtain ⟨e1, e2⟩ := frm_long g1 g2 h2
          rw [e1, e2]
          have z2 : (253 : Int) < (bs.length : Int) := by omega
          clear e1 e2 hv
          go_enter Try.func8, Try.ntmps8
          go_wp2
          go_ret2
          exact ⟨_, rfl, Row.nil _, Below.refl _ _⟩
        · obtain ⟨e1, e2⟩ := frm_ok (b := bs) g1 g2 (by omega) (by omega)
          rw [e1, e2]
          have z2 : ¬ (253 : Int) < (bs.length : Int) := by omega
          have hlen : bs.length ≤ 253 := by omega
          have e8 : ((UInt8.ofNat a.toNat).toNat : Int) = a := by rw [UInt8.toNat_ofNat']; omega
          have E8 := hidden e8
          generalize UInt8.ofNat a.toNat = x at *
          clear e1 e2 e8 _ha
          have O1 := World.ownsRow_lit (base := w.heap.size) (e := 5) (size := 1) w #[.int .u8 a] 1 (Nat.le_refl _) (by decide) rfl
          have hb0 : Below w.heap.size w (w.alloc (.cells #[.int .u8 a] 5)) := (Below.refl _ _).alloc (Nat.le_refl _) _
          have hv0 := hv.below hb0
          go_enter Try.func8, Try.ntmps8
          go_wp2_with (at_builtin; refine wpList_app rfl (.tmp 20) (.tmp 21) 23 rfl w.heap.size 5 (.int .u8 0) 1 Try.underlying23 info_u8 rfl rfl O1 rfl hv0 (one_bytes bs) (by simp [maxLen]; omega) (by simp; omega) (by simp) ?_)
          intro v2 w2 ho2 hg2
          have q := hb0.grown hg2 (by simp) (fun k hk => (O1.lt k hk).1)
          have hr2 : Row w2 v2 ((x :: bs).map bV) := by
            have := Row.of_owns ho2
            simpa [bV, E8.out] using this
          clear O1 hb0 hv0 hg2 ho2
          go_wp2_with fail
          refine (rseal_any _ (x :: bs) _ hr2 (by simp; omega)).mono ?_
          rintro e w3 ⟨v3, rfl, hr3, B3⟩
          replace B3 := below_then q B3
          go_wp2
          go_ret2
          exact ⟨_, rfl, hr3, B3⟩
    · obtain ⟨e1, e2⟩ := frm_arg (a := a) (b := bs) (by omega)
      rw [e1, e2]
      clear e1 e2 hv
      go_enter Try.func8, Try.ntmps8
      go_wp2
      go_ret2
      exact ⟨_, rfl, Row.nil _, Below.refl _ _⟩
  · obtain ⟨e1, e2⟩ := frm_arg (a := a) (b := bs) (by omega)
    rw [e1, e2]
    clear e1 e2 hv
    go_enter Try.func8, Try.ntmps8
    go_wp2
    go_ret2
    exact ⟨_, rfl, Row.nil _, Below.refl _ _⟩

end Go.Proofs.Ytfbmejfnblopgaa
