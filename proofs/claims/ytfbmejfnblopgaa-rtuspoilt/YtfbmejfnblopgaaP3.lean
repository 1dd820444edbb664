/- Contracts of crc.Seal, crc.Open and of the reference's Seal, Unseal. -/
import Derived.Test.YtfbmejfnblopgaaP2
namespace Go.Proofs.Ytfbmejfnblopgaa
open Go.RowKit

theorem sum_cells (bs : List UInt8) : bs.map bV ++ [Value.int .u8 (((crcN bs : Nat) : Int) % 256), .int .u8 (((crcN bs : Nat) : Int) / 256)] = (sealL bs).map bV := by
  have hs := crcN_lt bs
  have h1 : (((crcN bs : Nat) : Int) % 256) = ((UInt8.ofNat (crcN bs % 256)).toNat : Int) := by rw [UInt8.toNat_ofNat']; omega
  have h2 : (((crcN bs : Nat) : Int) / 256) = ((UInt8.ofNat (crcN bs / 256)).toNat : Int) := by rw [UInt8.toNat_ofNat']; omega
  rw [h1, h2]; simp [sealL, sumB]

set_option maxHeartbeats 400000 in
theorem seal_any (v : Value) (bs : List UInt8) (w : World) (hv : Row w v (bs.map bV)) (hr : bs.length ≤ 140737488355000) :
    Calls Try.prog 21 #[v] w fun e w' => ∃ v', e = .returned v' ∧ Row w' v' ((sealL bs).map bV) ∧ Below w.heap.size w w' := by
  obtain ⟨a, cap, rfl, -⟩ := id hv
  obtain ⟨hl, hc, hm, -⟩ := hv.at
  simp only [List.length_map] at hl hc hv ⊢
  have hmk := mk_zer 23 5 (.int .u8 0) 1 Try.underlying23 info_u8 rfl ((bs.length : Int) + 2) (bs.length + 2) (by omega) (by omega) (by omega)
  have hb0 : Below w.heap.size w (w.alloc (.cells (zer (bs.length + 2) (.int .u8 0)) 5)) := (Below.refl _ _).alloc (Nat.le_refl _) _
  have hg0 := zer_blk w (bs.length + 2) (.int .u8 0) 5
  obtain ⟨w1, hrun, hg1, hb1⟩ := copy_run (P := Try.prog) hb0 23 23 3 5 Try.underlying23 (by kernel_rfl) w.heap.size 0 (bs.length + 2) (bs.length + 2) a bs.length cap _ _ hg0 (Nat.le_refl _) (bs.map bV) (hv.below hb0) (one_bytes bs) (by simp)
  have hg3 : Blk w1 w.heap.size 5 (bs.map bV ++ [.int .u8 0, .int .u8 0]) := by
    have e : splice (List.replicate (bs.length + 2) (Value.int .u8 0)) 0 ((bs.map bV).take (bs.length + 2)) = bs.map bV ++ [.int .u8 0, .int .u8 0] := by
      rw [List.take_of_length_le (by simp)]
      simp [splice, List.drop_replicate]
    rw [← e]; exact hg1
  have hv1 := hv.below hb1
  have C := hidden (of_any _ bs w1 hv1)
  have SC := hidden (sum_cells bs)
  have hs := crcN_lt bs
  generalize crcN bs = s at *
  have c0 : w1.cell? ⟨w.heap.size, bs.length, none⟩ = some (.int .u8 0) := by rw [hg3.cell]; simp
  have c1 : w1.cell? ⟨w.heap.size, bs.length + 1, none⟩ = some (.int .u8 0) := by rw [hg3.cell]; simp
  have f0 := hg3.frozen bs.length
  have f1 := hg3.frozen (bs.length + 1)
  clear hg1 hg0 hb0 hv hv1
  go_enter Try.func21, Try.ntmps21
  go_wp2_with fail
  refine C.out.mono ?_
  rintro e w2 ⟨rfl, rfl⟩
  clear C hmk hrun
  go_wp2
  go_ret
  have hg4 := (hg3.set bs.length (.int .u8 ((s : Int) % 256))).set (bs.length + 1) (.int .u8 ((s : Int) / 256))
  have e2 : ((bs.map bV ++ [Value.int .u8 0, .int .u8 0]).set bs.length (.int .u8 ((s : Int) % 256))).set (bs.length + 1) (.int .u8 ((s : Int) / 256)) = (sealL bs).map bV := by
    rw [← SC.out]; simp
  rw [e2] at hg4
  refine ⟨_, rfl, ?_, ?_⟩
  · have := hg4.row (bs.length + 2) (by simp [sealL_len]) (by unfold maxLen; omega)
    simpa [sealL_len] using this
  · exact (hb1.setCell (p := ⟨w.heap.size, bs.length, none⟩) (Nat.le_refl _) _).setCell (p := ⟨w.heap.size, bs.length + 1, none⟩) (Nat.le_refl _) _

set_option maxHeartbeats 400000 in
theorem copen_any (v : Value) (bs : List UInt8) (w : World) (hv : Row w v (bs.map bV)) (hr : bs.length ≤ 140737488355328) :
    Calls Try.prog 23 #[v] w fun e w' => ∃ v', e = .returned (.tuple #[v', .bool (unsealOk bs)]) ∧ Row w' v' ((unsealR bs).map bV) ∧ Below w.heap.size w w' := by
  obtain ⟨a, cap, rfl, -⟩ := id hv
  obtain ⟨hl, hc, hm, -⟩ := hv.at
  simp only [List.length_map] at hl hc hv ⊢
  by_cases h2 : bs.length < 2
  · have ok : unsealOk bs = false := by simp [unsealOk]; omega
    have ur : unsealR bs = [] := by simp [unsealR, ok]
    rw [ok, ur]
    have h2' : (bs.length : Int) < 2 := by omega
    clear hv ok ur
    go_enter Try.func23, Try.ntmps23
    go_wp2
    go_ret2
    exact ⟨_, rfl, Row.nil _, Below.refl _ _⟩
  · have h2' : ¬ (bs.length : Int) < 2 := by omega
    have C := hidden (of_any _ bs w hv)
    by_cases h0 : crcN bs = 0
    · have ok : unsealOk bs = true := by simp [unsealOk, h0]; omega
      have ur : unsealR bs = bs.take (bs.length - 2) := by simp [unsealR, ok]
      rw [ok, ur]
      rw [h0] at C
      clear h0 ok ur
      have hmk := mk_zer 23 5 (.int .u8 0) 1 Try.underlying23 info_u8 rfl ((bs.length : Int) - 2) (bs.length - 2) (by omega) (by omega) (by omega)
      have hb0 : Below w.heap.size w (w.alloc (.cells (zer (bs.length - 2) (.int .u8 0)) 5)) := (Below.refl _ _).alloc (Nat.le_refl _) _
      have hg0 := zer_blk w (bs.length - 2) (.int .u8 0) 5
      obtain ⟨w1, hrun, hg1, hb1⟩ := copy_run (P := Try.prog) hb0 23 23 3 5 Try.underlying23 (by kernel_rfl) w.heap.size 0 (bs.length - 2) (bs.length - 2) a bs.length cap _ _ hg0 (Nat.le_refl _) (bs.map bV) (hv.below hb0) (one_bytes bs) (by simp)
      have hg3 : Blk w1 w.heap.size 5 ((bs.take (bs.length - 2)).map bV) := by
        have e : splice (List.replicate (bs.length - 2) (Value.int .u8 0)) 0 ((bs.map bV).take (bs.length - 2)) = (bs.take (bs.length - 2)).map bV := by
          simp [splice, List.map_take]
        rw [← e]; exact hg1
      clear hg1 hg0 hb0 hv
      go_enter Try.func23, Try.ntmps23
      go_wp2_with fail
      refine C.out.mono ?_
      rintro e w2 ⟨rfl, rfl⟩
      clear C
      go_wp2
      go_ret2
      refine ⟨_, rfl, ?_, hb1⟩
      have := hg3.row (bs.length - 2) (by simp) (by unfold maxLen; omega)
      simpa using this
    · have ok : unsealOk bs = false := by simp [unsealOk, h0]
      have ur : unsealR bs = [] := by simp [unsealR, ok]
      rw [ok, ur]
      have hne : ((((crcN bs : Nat) : Int)) != 0) = true := by rw [bne_iff_ne]; omega
      clear hv ok ur h0
      generalize crcN bs = s at *
      go_enter Try.func23, Try.ntmps23
      go_wp2_with fail
      refine C.out.mono ?_
      rintro e w2 ⟨rfl, rfl⟩
      clear C
      go_wp2
      go_ret2
      exact ⟨_, rfl, Row.nil _, Below.refl _ _⟩

set_option maxHeartbeats 400000 in
theorem rseal_any (v : Value) (bs : List UInt8) (w : World) (hv : Row w v (bs.map bV)) (hr : bs.length ≤ 140737488355000) :
    Calls Try.prog 10 #[v] w fun e w' => ∃ v', e = .returned v' ∧ Row w' v' ((sealL bs).map bV) ∧ Below w.heap.size w w' := by
  obtain ⟨a, cap, rfl, -⟩ := id hv
  simp only [List.length_map] at hv ⊢
  have hb0 : Below w.heap.size w (w.alloc (.cells #[] 5)) := (Below.refl _ _).alloc (Nat.le_refl _) _
  have ho0 := World.ownsRow_made (base := w.heap.size) (e := 5) (size := 1) w #[] 0 (Nat.le_refl _) (Nat.zero_le _) (by simp)
  have hv0 := hv.below hb0
  have C := hidden (rsum_any _ bs w hv)
  have SC := hidden (sum_cells bs)
  have hs := crcN_lt bs
  generalize crcN bs = s at *
  go_enter Try.func10, Try.ntmps10
  go_wp2_with fail
  refine C.out.mono ?_
  rintro e w2 ⟨rfl, rfl⟩
  clear C
  go_wp2_with (at_builtin; refine wpList_app rfl (.tmp 6) (.tmp 7) 23 rfl w.heap.size 5 (.int .u8 0) 1 Try.underlying23 info_u8 rfl rfl ho0 rfl hv0 (one_bytes bs) ?h1 ?h2 ?h3 ?_)
  case h1 => simp [maxLen]; omega
  case h2 => simp; omega
  case h3 => simp
  intro v1 w1 ho1 hg1
  have hz1 : w.heap.size ≤ w1.heap.size := by have := hg1.size; simp at this; omega
  have hr1 := row_new w1 [.int .u8 ((s : Int) % 256), .int .u8 ((s : Int) / 256)] 5 2 rfl (by decide)
  go_wp2_with (at_builtin; refine wpList_app rfl (.tmp 8) (.tmp 14) 23 rfl w.heap.size 5 (.int .u8 0) 1 Try.underlying23 info_u8 rfl rfl (ho1.alloc _) rfl hr1 ?k0 ?k1 ?k2 ?k3 ?_)
  case k0 => intro u hu; simp at hu; rcases hu with rfl | rfl <;> rfl
  case k1 => simp [maxLen]; omega
  case k2 => simp; omega
  case k3 => simp; omega
  intro v2 w2 ho2 hg2
  go_wp2
  go_ret
  rw [SC.out] at ho2
  refine ⟨_, rfl, Row.of_owns ho2, ?_⟩
  have q1 : Below w.heap.size w w1 := hb0.grown hg1 (by simp) (fun k hk => by simp [Value.ownBlock] at hk; omega)
  exact (q1.alloc hz1 _).grown hg2 (by simp; omega) (fun k hk => (ho1.lt k hk).1)

end Go.Proofs.Ytfbmejfnblopgaa
