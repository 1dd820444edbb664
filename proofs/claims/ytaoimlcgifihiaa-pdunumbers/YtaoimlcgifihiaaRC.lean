/- Contracts of the reference's Open and of burgagebook's Within. -/
import Derived.Test.YtaoimlcgifihiaaRB
namespace Go.Proofs.Ytaoimlcgifihiaa
open Go.RowKit

theorem openL_succ (bs : List UInt8) (j : Nat) : openL bs (j + 1) = openL bs j ++ [bitAt bs j] := by simp [openL, List.range_succ]

theorem openOk_false (bs : List UInt8) (n j : Nat) (h1 : n ≤ j) (h2 : j < 8 * bs.length) (hb : bitAt bs j = true) : openOk bs n = false := by
  cases h : openOk bs n with
  | false => rfl
  | true =>
    unfold openOk at h
    simp only [Bool.and_eq_true, List.all_eq_true, List.mem_range] at h
    have := h.2 j h2
    simp [hb] at this
    omega

theorem openOk_true (bs : List UInt8) (n : Nat) (h : bs.length = (n + 7) / 8) (hall : ∀ i, n ≤ i → i < 8 * bs.length → bitAt bs i = false) : openOk bs n = true := by
  unfold openOk
  simp only [Bool.and_eq_true, decide_eq_true_eq, List.all_eq_true, List.mem_range]
  refine ⟨⟨by omega, by omega⟩, fun i hi => ?_⟩
  by_cases hin : i < n
  · simp [hin]
  · simp [hall i (by omega) hi]

set_option maxHeartbeats 1000000 in
theorem ropen_any (v : Value) (bs : List UInt8) (n : Int) (w : World) (hn : -9223372036854775808 ≤ n ∧ n ≤ 9223372036854775807) (hv : Row w v (bs.map bV)) (hr : bs.length ≤ 140737488351232) (hn3 : n ≤ 140737488355327) :
    Calls Try.prog 84 #[v, .int .i64 n] w fun e w' => ∃ v', e = .returned (.tuple #[v', .bool (openOk bs n)]) ∧ Row w' v' ((openR bs n).map Value.bool) ∧ Below w.heap.size w w' ∧ NewV w.heap.size v' := by
  obtain ⟨a, cap, rfl, -⟩ := id hv
  obtain ⟨hl, hc, hm, -⟩ := hv.at
  simp only [List.length_map] at hl hc hv ⊢
  obtain ⟨hn1, hn2⟩ := hn
  by_cases h0 : n < 0
  · rw [openR_no (openOk_neg bs n h0), openOk_neg bs n h0]
    go_enter Try.func84, Try.ntmps84
    go_wp2
    go_ret2
    exact ⟨_, rfl, Row.nil _, Below.refl _ _, NewV.none _ _ _⟩
  · by_cases hbig : 8 * (bs.length : Int) < n
    · rw [openR_no (openOk_len bs n (by omega)), openOk_len bs n (by omega)]
      go_enter Try.func84, Try.ntmps84
      go_wp2
      go_ret2
      exact ⟨_, rfl, Row.nil _, Below.refl _ _, NewV.none _ _ _⟩
    · by_cases hlen : (bs.length : Int) = (n + 7) / 8
      · obtain ⟨k, rfl⟩ : ∃ k : Nat, n = (k : Int) := ⟨n.toNat, by omega⟩
        have hlk : bs.length = (k + 7) / 8 := by omega
        have ht : ((bs.length : Int) != ((k : Int) + 7) / 8) = false := by simp; omega
        have HL : Hid (bs.length = (k + 7) / 8) := hlk
        have hk1 : k ≤ 8 * bs.length := by omega
        clear hlk hlen
        go_enter Try.func84, Try.ntmps84
        go_wp2
        go_loopw [6, 7] (fun o i wr => ∃ j : Nat, j ≤ 8 * bs.length ∧ i = .int .i64 j ∧ wr.ownsRow w.heap.size 4 1 o (min j k) ((openL bs (min j k)).map Value.bool) ∧ (∀ i, k ≤ i → i < j → bitAt bs i = false) ∧ Below w.heap.size w wr) (fun _ i _ => 8 * bs.length - (intOf i).toNat)
        case atStart => exact ⟨0, Nat.zero_le _, rfl, by simpa [openL] using World.ownsRow_nil _ _ _ _, fun i _ h => by omega, Below.refl _ _⟩
        case round =>
          obtain ⟨j, hj, rfl, ho, hz, hb⟩ := hrel
          have HZ : Hid (∀ i, k ≤ i → i < j → bitAt bs i = false) := hz
          clear hz
          by_cases hlt : j < 8 * bs.length
          · obtain ⟨-, -, -, hcell⟩ := (hv.below hb).at
            have hj8 : j / 8 < bs.length := by omega
            obtain ⟨b, off, rfl, hcl⟩ := hcell (j / 8) 0 hj8
            have c0 := hcl (j / 8) hj8
            clear hcl hcell hv
            have HX : Hid (bitAt bs j = (bs.getD (j / 8) 0).toNat.testBit (j % 8)) := rfl
            generalize bs.getD (j / 8) 0 = x at *
            have hx := x.toNat_lt
            have hlt' : (j : Int) < 8 * (bs.length : Int) := by omega
            have hj8' : (j : Int) / 8 < (bs.length : Int) := by omega
            have T : Hid _ := bit_test x (j % 8) (by omega)
            have hsz := hb.size
            by_cases hjk : j < k
            · rw [Nat.min_eq_left (by omega)] at ho
              have hr1 := row_new wr [.bool (bits BinOp.and IntKind.u8 ((x.toNat : Int) / 2 ^ (j % 8)) 1 == 1)] 4 1 rfl (by decide)
              go_wp2_with (at_builtin; refine wpList_app rfl (.tmp 47) (.tmp 49) 22 rfl w.heap.size 4 (.bool false) 1 Try.underlying22 info_bool rfl rfl (ho.alloc _) rfl hr1 ?k0 ?k1 ?k2 ?k3 ?_)
              case k0 => intro u hu; simp at hu; subst hu; rfl
              case k1 => simp [maxLen]; omega
              case k2 => simp; omega
              case k3 => simp; omega
              intro v2 w2 ho2 hg2
              rw [T.out, ← HX.out] at ho2
              have q := (hb.alloc hsz (.cells #[.bool (bits BinOp.and IntKind.u8 ((x.toNat : Int) / 2 ^ (j % 8)) 1 == 1)] 4)).grown hg2 (by simp; omega) (fun k hk => (ho.lt k hk).1)
              go_wp2
              go_roundw
              case rel =>
                refine ⟨j + 1, by omega, by go_num, ?_, fun i h1 h2 => by omega, q⟩
                rw [Nat.min_eq_left (by omega), openL_succ]
                simpa using ho2
              case measure => simp [intOf]; omega
            · rw [Nat.min_eq_right (by omega)] at ho
              have hjk' : ¬ (j : Int) < (k : Int) := by omega
              cases hbit : bitAt bs j
              · have tb : (bits BinOp.and IntKind.u8 ((x.toNat : Int) / 2 ^ (j % 8)) 1 == 1) = false := by rw [T.out, ← HX.out, hbit]
                have HB : Hid (bitAt bs j = false) := hbit
                clear hbit
                go_wp2
                go_roundw
                case rel =>
                  refine ⟨j + 1, by omega, by go_num, ?_, fun i h1 h2 => ?_, hb⟩
                  · rw [Nat.min_eq_right (by omega)]; exact ho
                  · by_cases e : i = j
                    · subst e; exact HB.out
                    · exact HZ.out i h1 (by omega)
                case measure => simp [intOf]; omega
              · have tb : (bits BinOp.and IntKind.u8 ((x.toNat : Int) / 2 ^ (j % 8)) 1 == 1) = true := by rw [T.out, ← HX.out, hbit]
                have F : Hid (openOk bs k = false) := openOk_false bs k j (by omega) hlt hbit
                clear hbit
                go_wp2
                go_ret2
                rw [F.out, openR_no F.out]
                exact ⟨_, rfl, Row.nil _, hb, NewV.none _ _ _⟩
          · have : j = 8 * bs.length := by omega
            have F : Hid (openOk bs k = true) := openOk_true bs k HL.out (fun i h1 h2 => HZ.out i h1 (by omega))
            rw [Nat.min_eq_right (by omega)] at ho
            clear this
            go_wp2
            go_ret2
            rw [F.out, openR_yes F.out]
            exact ⟨_, rfl, Row.of_owns ho, hb, NewV.of_owns ho⟩
      · rw [openR_no (openOk_len bs n hlen), openOk_len bs n hlen]
        have ht : ((bs.length : Int) != (n + 7) / 8) = true := by simpa using hlen
        clear hlen
        go_enter Try.func84, Try.ntmps84
        go_wp2
        go_ret2
        exact ⟨_, rfl, Row.nil _, Below.refl _ _, NewV.none _ _ _⟩

end Go.Proofs.Ytaoimlcgifihiaa
