/- OctetBits: a bit that is turned turns one bit of one byte. The walk. -/
import Derived.Test.YtgoiokbeohbdnaaL1
namespace Go.Proofs.Ytgoiokbeohbdnaa
open Go.RowKit

theorem owns_some {w : World} {base : Nat} {e : TypeId} {v : Value} {n : Nat} {xs : List Value} (h : w.ownsRow base e 1 v n xs) (hn : 0 < n) : ∃ g cap, v = .slice (some ⟨g, 0, none⟩) n cap ∧ base ≤ g := by
  rcases h.2 with ⟨rfl, rfl⟩ | ⟨g, cap, cur, rfl, hb, -⟩
  · omega
  · exact ⟨g, cap, rfl, hb⟩

/-- what one turned bit does to the bytes -/
theorem pack_turn (l : List Bool) (k i : Nat) (hk : k < l.length) :
    (packB l i).toNat ^^^ (packB (l.set k (!l[k])) i).toNat = if i = k / 8 then 2 ^ (k % 8) else 0 := by
  apply Nat.eq_of_testBit_eq
  intro t
  rw [Nat.testBit_xor, packB_bit, packB_bit]
  have e : (l.set k (!l[k])).getD (8 * i + t) false = if 8 * i + t = k then !l[k] else l.getD (8 * i + t) false := by
    rw [List.getD_eq_getElem?_getD, List.getElem?_set]
    by_cases h : k = 8 * i + t
    · simp [h.symm, hk]
    · rw [if_neg h, if_neg (fun h2 => h h2.symm), List.getD_eq_getElem?_getD]
  rw [e]
  by_cases ht : t < 8
  · by_cases hkt : 8 * i + t = k
    · have h1 : i = k / 8 := by omega
      have h2 : k % 8 = t := by omega
      rw [if_pos hkt, if_pos h1, Nat.testBit_two_pow, hkt]
      have hg : l.getD k false = l[k] := by simp [hk]
      rw [hg]
      cases l[k] <;> simp [ht, h2]
    · rw [if_neg hkt]
      split
      · rename_i h1
        have h2 : ¬ k % 8 = t := by omega
        simp [h2]
      · simp
  · have h2 : ¬ k % 8 = t := by omega
    by_cases hik : i = k / 8 <;> simp [ht, hik, h2]

theorem packL_get (l : List Bool) (i : Nat) (h : i < (packL l).length) : (packL l).getD i 0 = packB l i := by
  rw [packL_len] at h
  simp [packL, List.getD_eq_getElem?_getD, h]

theorem xor_u8 (x y : UInt8) : bits BinOp.xor IntKind.u8 (x.toNat : Int) (y.toNat : Int) = ((x.toNat ^^^ y.toNat : Nat) : Int) := u8_xor_nat _ _ x.toNat_lt y.toNat_lt

set_option maxHeartbeats 2000000 in
theorem bits_walk (vl : Value) (l : List Bool) (at' : Int) (w : World) (ha : -9223372036854775808 ≤ at' ∧ at' ≤ 9223372036854775807)
    (hl : Row w vl (l.map Value.bool)) (r2 : l.length ≤ 140737488351232) :
    Calls Try.prog 7 #[vl, .int .i64 at'] w fun e w' => e = .returned (.bool true) ∧ Below w.heap.size w w' := by
  obtain ⟨a2, cap2, rfl, -⟩ := id hl
  obtain ⟨-, hcp2, hm2, -⟩ := hl.at
  simp only [List.length_map] at hcp2 hl ⊢
  by_cases h0 : l.length = 0
  · obtain rfl := List.eq_nil_of_length_eq_zero h0
    go_enter Try.func7, Try.ntmps7
    go_wp2_with fail
    refine (pack_any _ [] _ hl (by decide)).mono ?_
    rintro e w1 ⟨v1, rfl, hr1, hb1⟩
    obtain ⟨a9, cap9, rfl, -⟩ := id hr1
    have L9 : Hid (((packL []).map bV).length = 0) := by show _ = _; rfl
    rw [L9.out]
    go_wp2_with fail
    refine (known_any _).mono ?_
    rintro e w11 ⟨rfl, hb11⟩
    go_wp2
    go_ret
    exact ⟨rfl, below_then hb1 hb11⟩
  · have t0 : ((l.length : Int) == 0) = false := by rw [beq_eq_false_iff_ne]; omega
    have hpos : 0 < l.length := by omega
    clear h0
    have ho0 := fun u : World => World.ownsRow_made (base := u.heap.size) (e := 4) (size := 1) u #[] 0 (Nat.le_refl _) (Nat.zero_le _) (by simp)
    go_enter Try.func7, Try.ntmps7
    go_wp2_with fail
    refine (within_any at' 0 ((l.length : Int) - 1) _ ha (by omega) (by omega) (by omega)).mono ?_
    rintro e w' ⟨⟨m, rfl, hm0, hm1⟩, rfl⟩
    obtain ⟨k, rfl⟩ : ∃ k : Nat, m = (k : Int) := ⟨m.toNat, by omega⟩
    have hk : k < l.length := by omega
    have hb0 : Below w.heap.size w (w.alloc (.cells #[] 4)) := (Below.refl _ _).alloc (Nat.le_refl _) _
    have hv0 := hl.below hb0
    go_wp2_with (at_builtin; refine wpList_app rfl (.tmp 26) (.tmp 27) 22 rfl w.heap.size 4 (.bool false) 1 Try.underlying22 info_bool rfl rfl (ho0 w) rfl hv0 ?h0 ?h1 ?h2 ?h3 ?_)
    case h0 => intro u hu; simp at hu; rcases hu with ⟨_, rfl⟩ | ⟨_, rfl⟩ <;> rfl
    case h1 => simp [maxLen]; omega
    case h2 => simp; omega
    case h3 => simp
    intro v1 w1 ho1 hg1
    try simp only [List.length_map, Nat.zero_add, List.nil_append] at ho1
    have hz1 : w.heap.size ≤ w1.heap.size := by have := hg1.size; simp at this; omega
    have q1 : Below w.heap.size w w1 := hb0.grown hg1 (by simp) (fun k hk => by simp [Value.ownBlock] at hk; omega)
    obtain ⟨g, cap, rfl, hgb⟩ := owns_some ho1 hpos
    have c0 := ho1.cellAt k (by omega)
    have c0' : w1.cell? ⟨g, k, none⟩ = some (.bool l[k]) := by rw [c0]; simp [hk]
    have f0 := ho1.frozenAt k
    have st := ho1.stored k (.bool (!l[k]))
    have hkl : (k : Int) < (l.length : Int) := by omega
    have ML : Hid ((l.map Value.bool).set k (.bool (!l[k])) = (l.set k (!l[k])).map Value.bool) := by show _ = _; rw [List.map_set]
    have PT := fun i => hidden (pack_turn l k i hk)
    generalize l[k] = x at *
    clear c0
    rw [ML.out] at st
    have q2 := q1.grown st.2 hz1 (fun k hk => by cases hk; exact hgb)
    have ho2 := Row.of_owns st.1
    clear ho1 hg1 hb0 hv0 st ML q1
    have hls : Hid ((l.set k (!x)).length = l.length) := by show _ = _; simp
    generalize l.set k (!x) = ls at *
    go_wp2_with fail
    generalize w1.setCell ⟨g, k, none⟩ (.bool (!x)) = w2 at *
    refine (pack_any _ l _ (hl.below q2) r2).mono ?_
    rintro e w3 ⟨v3, rfl, hr3, hb3⟩
    replace ho2 := ho2.below hb3
    replace hb3 := below_then q2 hb3
    clear q2 c0' f0
    go_wp2_with fail
    refine (pack_any _ ls _ ho2 (by have := hls.out; omega)).mono ?_
    rintro e w4 ⟨v4, rfl, hr4, hb4⟩
    replace hr3 := hr3.below hb4
    replace hb4 := below_then hb3 hb4
    clear hb3 ho2
    obtain ⟨a3, cap3, rfl, -⟩ := id hr3
    obtain ⟨a4, cap4, rfl, -⟩ := id hr4
    simp only [List.length_map] at hr3 hr4 ⊢
    have LL : Hid ((packL ls).length = (packL l).length) := by show _ = _; rw [packL_len, packL_len, hls.out]
    rw [LL.out] at hr4 ⊢
    obtain ⟨n, hn⟩ : ∃ n, (packL l).length = n := ⟨_, rfl⟩
    have hn1 : n = (l.length + 7) / 8 := by rw [← hn, packL_len]
    have hnb : n ≤ 140737488351232 := by omega
    have HN : Hid ((packL l).length = n ∧ n = (l.length + 7) / 8) := ⟨hn, hn1⟩
    clear hn1
    rw [hn] at hr3 hr4 ⊢
    clear hn
    have tl : ((n : Int) != (n : Int)) = false := by simp
    go_wp2
    go_loopw [48] (fun i wr => ∃ j : Nat, j ≤ n ∧ i = .int .i64 j ∧ Below w4.heap.size w4 wr) (fun i _ => n - (intOf i).toNat)
    case atStart => exact ⟨0, Nat.zero_le _, rfl, Below.refl _ _⟩
    case round =>
      obtain ⟨j, hj, rfl, hb⟩ := hrel
      by_cases hlt : j < n
      · obtain ⟨-, -, -, hcell⟩ := (hr3.below hb).at
        obtain ⟨b1, off1, rfl, hcl⟩ := hcell j 0 hlt
        obtain ⟨-, -, -, hcell2⟩ := (hr4.below hb).at
        obtain ⟨b2, off2, rfl, hcl2⟩ := hcell2 j 0 hlt
        have c1 := hcl j hlt
        have c2 := hcl2 j hlt
        clear hcl hcell hcl2 hcell2
        rw [packL_get l j (by rw [HN.out.1]; exact hlt)] at c1
        rw [packL_get ls j (by rw [LL.out, HN.out.1]; exact hlt)] at c2
        have pt := (PT j).out
        have HP : Hid ((packB l j).toNat ^^^ (packB ls j).toNat = if j = k / 8 then 2 ^ (k % 8) else 0) := pt
        clear PT pt
        generalize packB l j = y1 at *
        generalize packB ls j = y2 at *
        have hlt' : (j : Int) < (n : Int) := by omega
        by_cases hjk : j = k / 8
        · have tj : ((j : Int) == (k : Int) / 8) = true := by rw [beq_iff_eq]; omega
          have tx : (bits BinOp.xor IntKind.u8 (y1.toNat : Int) (y2.toNat : Int) != (2 : Int) ^ (k % 8) % 256) = false := by
            rw [xor_u8, HP.out, if_pos hjk, (pow8 (k % 8) (by omega)).1]; simp
          have HJ : Hid (j = k / 8) := hjk
          clear hjk
          go_wp2
          go_quiet (fail)
          go_wp2
          go_roundw
          case rel => exact ⟨j + 1, by omega, by go_num, below_drewn hb _⟩
          case measure => simp [intOf]; omega
        · have tj : ((j : Int) == (k : Int) / 8) = false := by rw [beq_eq_false_iff_ne]; omega
          have tx : (bits BinOp.xor IntKind.u8 (y1.toNat : Int) (y2.toNat : Int) != 0) = false := by
            rw [xor_u8, HP.out, if_neg hjk]; simp
          clear hjk
          go_wp2
          go_quiet (fail)
          go_wp2
          go_roundw
          case rel => exact ⟨j + 1, by omega, by go_num, below_drewn hb _⟩
          case measure => simp [intOf]; omega
      · go_wp2_with fail
        refine (known_any _).mono ?_
        rintro e w11 ⟨rfl, hb11⟩
        go_wp2
        go_ret
        exact ⟨rfl, below_then (below_then hb4 hb) hb11⟩

end Go.Proofs.Ytgoiokbeohbdnaa
