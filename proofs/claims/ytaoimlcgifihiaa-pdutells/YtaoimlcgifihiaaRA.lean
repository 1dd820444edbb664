/- Contracts of the reference's small functions and of burgagebook's. -/
import Derived.Test.YtaoimlcgifihiaaOD
namespace Go.Proofs.Ytaoimlcgifihiaa
open Go.RowKit

theorem or_int (x y : UInt8) : bits BinOp.or IntKind.i64 ((x.toNat : Int) * 256) (y.toNat : Int) = ((mkW x y).toNat : Int) := by
  have hx' := x.toNat_lt
  have hy' := y.toNat_lt
  rw [mkW_nat, show ((x.toNat : Int) * 256) = ((x.toNat * 256 : Nat) : Int) by omega, i64_or_nat _ _ (by omega) (by omega), nat_join 8 _ _ (by omega) (by omega)]

set_option maxHeartbeats 400000 in
theorem rget_any (v : Value) (bs : List UInt8) (n : Int) (w : World) (hn : -9223372036854775808 ≤ n ∧ n ≤ 9223372036854775807) (hv : Row w v (bs.map bV)) :
    Calls Try.prog 98 #[v, .int .i64 n] w fun e w' => e = .returned (.tuple #[.int .i64 (getN bs n), .bool (getOk bs n)]) ∧ ∃ nq, w' = w.drewN nq := by
  obtain ⟨a, cap, rfl, -⟩ := id hv
  obtain ⟨hl, hc, hm, hcell⟩ := hv.at
  simp only [List.length_map] at hl hc ⊢
  by_cases h : 0 ≤ n ∧ n + 2 ≤ bs.length
  · obtain ⟨b, off, rfl, hcl⟩ := hcell n.toNat 0 (by simp; omega)
    have hm' : bs.length ≤ maxLen := by omega
    have c0 := hcl n.toNat (by simp; omega)
    have c1 := hcl (n.toNat + 1) (by simp; omega)
    have ok : getOk bs n = true := by simp [getOk]; omega
    have gn : getN bs n = (mkW (bs.getD n.toNat 0) (bs.getD (n.toNat + 1) 0)).toNat := by simp [getN, h]
    rw [ok, gn]
    obtain ⟨i, rfl⟩ : ∃ i : Nat, n = (i : Int) := ⟨n.toNat, by omega⟩
    rw [Int.toNat_natCast] at *
    obtain ⟨g1, g2⟩ := h
    clear hcell hcl hv ok gn
    unfold maxLen at hm hm'
    generalize bs.getD i 0 = x at *
    generalize bs.getD (i + 1) 0 = y at *
    have hx := x.toNat_lt
    have hy := y.toNat_lt
    have t1 : ¬ (i : Int) < 0 := by omega
    have t2 : ¬ (bs.length : Int) - 2 < (i : Int) := by omega
    have t3 : (i : Int) < (bs.length : Int) := by omega
    have t4 : (i : Int) + 1 < (bs.length : Int) := by omega
    go_enter Try.func98, Try.ntmps98
    go_wp2
    go_quiet (fail)
    go_wp2
    go_ret2
    exact ⟨ret_int_bool (or_int x y), _, rfl⟩
  · have ok : getOk bs n = false := by simp [getOk]; omega
    have gn : getN bs n = 0 := by simp [getN]; omega
    rw [ok, gn]
    clear hcell hv ok gn
    unfold maxLen at hm
    have hmx : bs.length ≤ 9223372036854775807 := by omega
    by_cases t1 : n < 0
    · go_enter Try.func98, Try.ntmps98
      go_wp2
      go_ret2
      exact ⟨rfl, 0, rfl⟩
    · have t2 : (bs.length : Int) - 2 < n := by omega
      go_enter Try.func98, Try.ntmps98
      go_wp2
      go_ret2
      exact ⟨rfl, 0, rfl⟩

theorem pow8' (t : Nat) (h : t < 8) : ((2 : Int) ^ t) = ((2 ^ t : Nat) : Int) ∧ 2 ^ t < 256 := by
  have := pow8 t h
  refine ⟨by simp, this.2⟩

set_option maxHeartbeats 400000 in
theorem rpack_any (v : Value) (l : List Bool) (w : World) (hv : Row w v (l.map Value.bool)) (hr : l.length ≤ 140737488351232) :
    Calls Try.prog 54 #[v] w fun e w' => ∃ v', e = .returned v' ∧ Row w' v' ((packL l).map bV) ∧ Below w.heap.size w w' ∧ NewV w.heap.size v' := by
  obtain ⟨a, cap, rfl, -⟩ := id hv
  obtain ⟨hl, hc, hm, -⟩ := hv.at
  simp only [List.length_map] at hl hc hv ⊢
  have hmk := mk_zer 34 5 (.int .u8 0) 1 Try.underlying34 info_u8 rfl (((l.length : Int) + 7) / 8) ((l.length + 7) / 8) (by omega) (by omega) (by omega)
  have hb0 : Below w.heap.size w (w.alloc (.cells (zer ((l.length + 7) / 8) (.int .u8 0)) 5)) := (Below.refl _ _).alloc (Nat.le_refl _) _
  have hg0 := zer_blk w ((l.length + 7) / 8) (.int .u8 0) 5
  go_enter Try.func54, Try.ntmps54
  go_wp2
  go_loopw [13] (fun i wr => ∃ k : Nat, k ≤ l.length ∧ i = .int .i64 k ∧ Blk wr w.heap.size 5 ((List.range ((l.length + 7) / 8)).map fun j => bV (packB (l.take k) j)) ∧ Below w.heap.size w wr) (fun i _ => l.length - (intOf i).toNat)
  case atStart =>
    refine ⟨0, Nat.zero_le _, rfl, ?_, hb0⟩
    have e : ((List.range ((l.length + 7) / 8)).map fun j => bV (packB (l.take 0) j)) = List.replicate ((l.length + 7) / 8) (.int .u8 0) := by
      apply List.ext_getElem
      · simp
      · intro i h1 h2
        simp [bV, packB_nat, ofBits]
    rw [e]; exact hg0
  case round =>
    obtain ⟨k, hk, rfl, hg, hb⟩ := hrel
    clear hmk hb0 hg0
    by_cases hlt : k < l.length
    · obtain ⟨-, -, -, hcell⟩ := (hv.below hb).at
      obtain ⟨b, off, rfl, hcl⟩ := hcell k false hlt
      have c0 := hcl k hlt
      clear hcl hcell hv
      have S : Hid _ := pack_step l ((l.length + 7) / 8) k hlt (by omega)
      have ex : l.getD k false = l[k] := by simp [hlt]
      rw [ex] at c0
      clear ex
      generalize l[k] = x at *
      have hsz : (k / 8 : Nat) < ((List.range ((l.length + 7) / 8)).map fun j => bV (packB (l.take k) j)).length := by simp; omega
      have cu := hg.cell (k / 8)
      rw [List.getElem?_eq_getElem hsz] at cu
      simp only [List.getElem_map, List.getElem_range] at cu
      have fu := hg.frozen (k / 8)
      generalize packB (l.take k) (k / 8) = y at *
      have hy := y.toNat_lt
      have hlt' : (k : Int) / 8 < (((l.length + 7) / 8 : Nat) : Int) := by omega
      cases x
      · go_wp2
        go_roundw
        case rel =>
          have S' := S.out
          rw [if_neg (by simp)] at S'
          exact ⟨k + 1, by omega, by go_num, by rw [S']; exact hg, hb⟩
        case measure => simp [intOf]; omega
      · go_wp2
        go_roundw
        case rel =>
          have S' := S.out
          rw [if_pos rfl] at S'
          refine ⟨k + 1, by omega, by go_num, ?_, ?_⟩
          · rw [or_bit, S']
            exact hg.set (k / 8) _
          · exact hb.setCell (p := ⟨w.heap.size, k / 8, none⟩) (Nat.le_refl _) _
        case measure => simp [intOf]; omega
    · have : k = l.length := by omega
      subst this
      go_wp2
      go_ret
      refine ⟨_, rfl, ?_, hb, NewV.some _ _ _ _ _ (Nat.le_refl _)⟩
      rw [List.take_length] at hg
      have e : ((List.range ((l.length + 7) / 8)).map fun j => bV (packB l j)) = (packL l).map bV := by simp [packL]
      rw [e] at hg
      have := hg.row ((l.length + 7) / 8) (by simp [packL_len]) (by unfold maxLen; omega)
      simpa [packL_len] using this

set_option maxHeartbeats 400000 in
theorem rput_own (v : Value) (bs : List UInt8) (n : Int) (w : World) (_hn : -9223372036854775808 ≤ n ∧ n ≤ 9223372036854775807) (hv : Row w v (bs.map bV)) (hr : bs.length ≤ 140737488351232) :
    Calls Try.prog 52 #[v, .int .i64 n] w fun e w' => ∃ v', e = .returned v' ∧ w'.ownsRow w.heap.size 5 1 v' (bs.length + 2) ((bs ++ [hiB (wOf n), loB (wOf n)]).map bV) ∧ Below w.heap.size w w' := by
  have hb0 : Below w.heap.size w (w.alloc (.cells #[] 5)) := (Below.refl _ _).alloc (Nat.le_refl _) _
  have ho0 := World.ownsRow_made (base := w.heap.size) (e := 5) (size := 1) w #[] 0 (Nat.le_refl _) (Nat.zero_le _) (by simp)
  have hv0 := hv.below hb0
  obtain ⟨a, cap, rfl, -⟩ := id hv
  go_enter Try.func52, Try.ntmps52
  go_wp2_with (at_builtin; refine wpList_app rfl (.tmp 5) (.tmp 6) 34 rfl w.heap.size 5 (.int .u8 0) 1 Try.underlying34 info_u8 rfl rfl ho0 rfl hv0 (one_bytes bs) ?h1 ?h2 ?h3 ?_)
  case h1 => simp [maxLen]; omega
  case h2 => simp; omega
  case h3 => simp
  intro v1 w1 ho1 hg1
  have hz1 : w.heap.size ≤ w1.heap.size := by have := hg1.size; simp at this; omega
  have hr1 := row_new w1 [.int .u8 (IntKind.u64.wrap n / 256 % 256), .int .u8 (n % 256)] 5 2 rfl (by decide)
  go_wp2_with (at_builtin; refine wpList_app rfl (.tmp 7) (.tmp 14) 34 rfl w.heap.size 5 (.int .u8 0) 1 Try.underlying34 info_u8 rfl rfl (ho1.alloc _) rfl hr1 ?k0 ?k1 ?k2 ?k3 ?_)
  case k0 => intro u hu; simp at hu; rcases hu with rfl | rfl <;> rfl
  case k1 => simp [maxLen]; omega
  case k2 => simp; omega
  case k3 => simp; omega
  intro v2 w2 ho2 hg2
  go_wp2
  go_ret
  have e : (bs.map bV ++ [Value.int .u8 (IntKind.u64.wrap n / 256 % 256), .int .u8 (n % 256)]) = (bs ++ [hiB (wOf n), loB (wOf n)]).map bV := by
    have h1 : (IntKind.u64.wrap n / 256 % 256) = ((hiB (wOf n)).toNat : Int) := by
      have := wOf_nat n
      rw [hiB_nat, IntKind.wrap_u64]; omega
    have h2 : (n % 256) = ((loB (wOf n)).toNat : Int) := by
      have := wOf_nat n
      rw [loB_nat]; omega
    rw [h1, h2]; simp
  rw [e] at ho2
  refine ⟨_, rfl, by simpa using ho2, ?_⟩
  have q1 : Below w.heap.size w w1 := hb0.grown hg1 (by simp) (fun k hk => by simp [Value.ownBlock] at hk; omega)
  exact (q1.alloc hz1 _).grown hg2 (by simp; omega) (fun k hk => (ho1.lt k hk).1)

end Go.Proofs.Ytaoimlcgifihiaa
