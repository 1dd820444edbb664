/- Contracts of the reference's Bytes, Words, Open and of burgagebook's Same, Within. -/
import Derived.Test.YtaoimlcgifihiaaRA
namespace Go.Proofs.Ytaoimlcgifihiaa
open Go.RowKit

set_option maxHeartbeats 400000 in
theorem rbytes_any (v : Value) (l : List UInt16) (w : World) (hv : Row w v (l.map wV)) (hr : l.length * 2 ≤ 140737488351232) :
    Calls Try.prog 55 #[v] w fun e w' => ∃ v', e = .returned v' ∧ Row w' v' ((bytesL l).map bV) ∧ Below w.heap.size w w' ∧ NewV w.heap.size v' := by
  obtain ⟨a, cap, rfl, -⟩ := id hv
  obtain ⟨hl, hc, hm, -⟩ := hv.at
  simp only [List.length_map] at hl hc hv ⊢
  go_enter Try.func55, Try.ntmps55
  go_wp2
  go_loopw [3, 8] (fun v i wr => ∃ k : Nat, k ≤ l.length ∧ i = .int .i64 k ∧ wr.ownsRow w.heap.size 5 1 v (2 * k) ((bytesL (l.take k)).map bV) ∧ Below w.heap.size w wr) (fun _ i _ => l.length - (intOf i).toNat)
  case atStart => exact ⟨0, Nat.zero_le _, rfl, World.ownsRow_nil _ _ _ _, Below.refl _ _⟩
  case round =>
    obtain ⟨k, hk, rfl, ho, hb⟩ := hrel
    by_cases hlt : k < l.length
    · obtain ⟨-, -, -, hcell⟩ := (hv.below hb).at
      obtain ⟨b, off, rfl, hcl⟩ := hcell k 0 hlt
      have cx := hcl k hlt
      clear hcl hcell hv
      have S : Hid _ := bytesL_take_succ l k hlt
      have ex : l.getD k 0 = l[k] := by simp [hlt]
      rw [ex] at cx
      clear ex
      generalize l[k] = x at *
      have hx := x.toNat_lt
      have hlt' : (k : Int) < (l.length : Int) := by omega
      have hr1 := row_new wr [.int .u8 ((x.toNat : Int) / 256), .int .u8 ((x.toNat : Int) % 256)] 5 2 rfl (by decide)
      have hsz := hb.size
      go_wp2_with (at_builtin; refine wpList_app rfl (.tmp 12) (.tmp 18) 34 rfl w.heap.size 5 (.int .u8 0) 1 Try.underlying34 info_u8 rfl rfl (ho.alloc _) rfl hr1 ?k0 ?k1 ?k2 ?k3 ?_)
      case k0 => intro u hu; simp at hu; rcases hu with rfl | rfl <;> rfl
      case k1 => simp [maxLen]; omega
      case k2 => simp; omega
      case k3 => simp; omega
      intro v2 w2 ho2 hg2
      have e : ((bytesL (l.take k)).map bV ++ [Value.int .u8 ((x.toNat : Int) / 256), .int .u8 ((x.toNat : Int) % 256)]) = (bytesL (l.take (k + 1))).map bV := by
        have h1 : ((x.toNat : Int) / 256) = ((hiB x).toNat : Int) := by rw [hiB_nat]; omega
        have h2 : ((x.toNat : Int) % 256) = ((loB x).toNat : Int) := by rw [loB_nat]; omega
        rw [S.out, h1, h2]; simp
      rw [e] at ho2
      clear e
      have q := (hb.alloc hsz (.cells #[.int .u8 ((x.toNat : Int) / 256), .int .u8 ((x.toNat : Int) % 256)] 5)).grown hg2 (by simp; omega) (fun k hk => (ho.lt k hk).1)
      go_wp2
      go_roundw
      case rel => exact ⟨k + 1, by omega, by go_num, ho2, q⟩
      case measure => simp [intOf]; omega
    · have : k = l.length := by omega
      subst this
      go_wp2
      go_ret
      rw [List.take_length] at ho
      exact ⟨_, rfl, Row.of_owns ho, hb, NewV.of_owns ho⟩

theorem words_take (bs : List UInt8) (k : Nat) (h : k < bs.length / 2) : (wordsL bs).take (k + 1) = (wordsL bs).take k ++ [mkW (bs.getD (2 * k) 0) (bs.getD (2 * k + 1) 0)] := by
  have hl := wordsL_len bs
  have e3 : (wordsL bs)[k]'(by omega) = mkW (bs.getD (2 * k) 0) (bs.getD (2 * k + 1) 0) := by
    simp only [wordsL_eq, List.getElem_map, List.getElem_range]
  rw [List.take_succ_eq_append_getElem (by omega), e3]

set_option maxHeartbeats 400000 in
theorem rwords_any (v : Value) (bs : List UInt8) (w : World) (hv : Row w v (bs.map bV)) (hr : bs.length ≤ 140737488351232) :
    Calls Try.prog 99 #[v] w fun e w' => ∃ v', e = .returned (.tuple #[v', .bool (bs.length % 2 == 0)]) ∧ Row w' v' ((wordsR bs).map wV) ∧ Below w.heap.size w w' ∧ NewV w.heap.size v' := by
  obtain ⟨a, cap, rfl, -⟩ := id hv
  obtain ⟨hl, hc, hm, -⟩ := hv.at
  simp only [List.length_map] at hl hc hv ⊢
  unfold wordsR
  by_cases hodd : bs.length % 2 = 0
  · rw [if_pos hodd, beq_iff_eq.2 hodd]
    have ht : ((bs.length : Int) % 2 != 0) = false := by simp; omega
    have HO : Hid (bs.length % 2 = 0) := hodd
    clear hodd
    go_enter Try.func99, Try.ntmps99
    go_wp2
    go_loopw [4, 5] (fun v i wr => ∃ k j : Nat, k ≤ bs.length / 2 ∧ 2 * k = j ∧ i = .int .i64 (j : Int) ∧ wr.ownsRow w.heap.size 24 1 v k (((wordsL bs).take k).map wV) ∧ Below w.heap.size w wr) (fun _ i _ => bs.length - (intOf i).toNat)
    case atStart => exact ⟨0, 0, Nat.zero_le _, rfl, rfl, World.ownsRow_nil _ _ _ _, Below.refl _ _⟩
    case round =>
      obtain ⟨k, j, hk, hj, rfl, ho, hb⟩ := hrel
      have HO' := HO.out
      by_cases hlt : k < bs.length / 2
      · obtain ⟨-, -, -, hcell⟩ := (hv.below hb).at
        have S : Hid _ := words_take bs k hlt
        rw [hj] at S
        obtain ⟨b, off, rfl, hcl⟩ := hcell j 0 (by omega)
        have c0 := hcl j (by omega)
        have c1 := hcl (j + 1) (by omega)
        clear hcl hcell hv
        generalize bs.getD j 0 = x at *
        generalize bs.getD (j + 1) 0 = y at *
        have hx := x.toNat_lt
        have hy := y.toNat_lt
        have hlt' : (j : Int) < (bs.length : Int) := by omega
        have hw : IntKind.i64.wrap ((j : Int) + 1) = ((j + 1 : Nat) : Int) := by rw [IntKind.wrap_i64]; omega
        have hlt2 : (j : Int) + 1 < (bs.length : Int) := by omega
        have hlt3 : (0 : Int) ≤ (j : Int) + 1 := by omega
        have hwx : IntKind.u16.wrap (x.toNat : Int) = (x.toNat : Int) := by rw [IntKind.wrap_u16]; omega
        have hwy : IntKind.u16.wrap (y.toNat : Int) = (y.toNat : Int) := by rw [IntKind.wrap_u16]; omega
        have hwz : IntKind.u16.wrap ((x.toNat : Int) * 256) = (x.toNat : Int) * 256 := by rw [IntKind.wrap_u16]; omega
        have hsz := hb.size
        have hb2 : 2 * k = j := hj
        have HJ : Hid (2 * k = j) := hj
        clear hj HO' hb2
        have hor : Hid _ := or_word x y
        go_wp2
        go_region_law (refine step_app rfl (.tmp 16) (.tmp 30) 23 rfl w.heap.size 24 (.int .u16 0) 2 Try.underlying23 info_u16 rfl (by simp [Act.eval]; rfl) (by exact ho.alloc _) (by simp [Act.eval]; rfl) (by exact row_new wr [_] 24 1 rfl (by decide)) (by intro u hu; simp at hu; subst hu; rfl) (by simp [maxLen]; omega) (by simp; omega) (by simp; omega) ?_; intro v2 w2 ho2 hg2)
        all_goals
          have q := (hb.alloc hsz (.cells #[.int .u16 (bits BinOp.or IntKind.u16 ((x.toNat : Int) * 256) (y.toNat : Int))] 24)).drew.grown hg2 (by simp; omega) (fun k hk => (ho.lt k hk).1)
          rw [hor.out] at ho2
          clear hw hwx hwy hwz
          go_wp2
          go_roundw
          case rel =>
            have J := HJ.out
            refine ⟨k + 1, j + 2, by omega, by omega, by go_num, ?_, q⟩
            rw [S.out]
            simpa using ho2
          case measure => simp [intOf]; omega
      · have h0 : ¬ (j : Int) < (bs.length : Int) := by omega
        have : k = bs.length / 2 := by omega
        subst this
        clear HO' hj hv
        go_wp2
        go_ret2
        rw [List.take_of_length_le (by rw [wordsL_len]; omega)] at ho
        exact ⟨_, rfl, Row.of_owns ho, hb, NewV.of_owns ho⟩
  · have hb : (bs.length % 2 == 0) = false := by simpa using hodd
    rw [if_neg hodd, hb]
    have ht : ((bs.length : Int) % 2 != 0) = true := by simp; omega
    clear hodd hb hv
    go_enter Try.func99, Try.ntmps99
    go_wp2
    go_ret2
    exact ⟨_, rfl, Row.nil _, Below.refl _ _, NewV.none _ _ _⟩

end Go.Proofs.Ytaoimlcgifihiaa
