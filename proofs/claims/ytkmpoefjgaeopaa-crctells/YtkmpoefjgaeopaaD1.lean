/- CrcTells: rows are summed, sealed, opened as the document says. The walk. -/
import Derived.Test.YtkmpoefjgaeopaaL3
import Derived.Test.YtkmpoefjgaeopaaW1
namespace Go.Proofs.Ytkmpoefjgaeopaa
open Go.RowKit

theorem byte_of (t : Int) (h : 0 ≤ t ∧ t ≤ 255) : ∃ x : UInt8, t = (x.toNat : Int) := ⟨UInt8.ofNat t.toNat, by rw [UInt8.toNat_ofNat']; omega⟩
theorem u8_xor_val (x y : UInt8) : ∃ z : UInt8, bits BinOp.xor IntKind.u8 (x.toNat : Int) (y.toNat : Int) = (z.toNat : Int) := by
  have hz : x.toNat ^^^ y.toNat < 256 := Nat.xor_lt_two_pow (n := 8) x.toNat_lt y.toNat_lt
  refine ⟨UInt8.ofNat (x.toNat ^^^ y.toNat), ?_⟩
  rw [xor_u8, UInt8.toNat_ofNat']
  omega

set_option maxHeartbeats 1000000 in
theorem ctells_walk (v : Value) (bs : List UInt8) (at' t : Int) (w : World) (ha : -9223372036854775808 ≤ at' ∧ at' ≤ 9223372036854775807) (ht : 0 ≤ t ∧ t ≤ 255)
    (hv : Row w v (bs.map bV)) (r1 : bs.length ≤ 140737488351232) :
    Calls Try.prog 4 #[v, .int .i64 at', .int .u8 t] w fun e w' => e = .returned (.bool true) ∧ Below w.heap.size w w' := by
  obtain ⟨T, rfl⟩ := byte_of t ht
  have ho0 := fun u : World => World.ownsRow_made (base := u.heap.size) (e := 5) (size := 1) u #[] 0 (Nat.le_refl _) (Nat.zero_le _) (by simp)
  obtain ⟨X, hX⟩ : ∃ X, sealL bs = X := ⟨_, rfl⟩
  have hXl : X.length = bs.length + 2 := by rw [← hX, sealL_len]
  have C1 := hidden (rseal_any v bs w hv (by omega))
  rw [hX] at C1
  clear hX
  obtain ⟨n, hn⟩ : ∃ n, X.length = n := ⟨_, rfl⟩
  have hn2 : 2 ≤ n := by omega
  have hnb : n ≤ 140737488351234 := by omega
  clear hXl
  go_enter Try.func4, Try.ntmps4
  go_wp2_with fail
  refine C1.out.mono ?_
  rintro e w1 ⟨v1, rfl, hr1, hb1⟩
  clear C1
  obtain ⟨a1, cap1, rfl, -⟩ := id hr1
  obtain ⟨-, hcp1, hm1, -⟩ := hr1.at
  simp only [List.length_map] at hcp1 hr1 ⊢
  have HN := hidden hn
  rw [hn] at hcp1 hr1 ⊢
  clear hn
  go_wp2_with fail
  refine (within_any at' 0 ((n : Int) - 1) _ ha (by omega) (by omega) (by omega)).mono ?_
  rintro e w' ⟨⟨m, rfl, hm0, hm2⟩, rfl⟩
  obtain ⟨k, rfl⟩ : ∃ k : Nat, m = (k : Int) := ⟨m.toNat, by omega⟩
  have hk : k < n := by omega
  have hb0 : Below w1.heap.size w1 (w1.alloc (.cells #[] 5)) := (Below.refl _ _).alloc (Nat.le_refl _) _
  have hv0 := hr1.below hb0
  go_wp2_with (at_builtin; refine wpList_app rfl (.tmp 17) (.tmp 18) 22 rfl w1.heap.size 5 (.int .u8 0) 1 Try.underlying22 info_u8 rfl rfl (ho0 w1) rfl hv0 (one_bytes X) ?h1 ?h2 ?h3 ?_)
  case h1 => have := HN.out; simp [maxLen]; omega
  case h2 => have := HN.out; simp; omega
  case h3 => simp
  intro v2 w2 ho2 hg2
  try simp only [HN.out] at ho2
  have q2 : Below w1.heap.size w1 w2 := hb0.grown hg2 (by simp) (fun k hk => by simp [Value.ownBlock] at hk; omega)
  obtain ⟨g, cap, rfl, hgb⟩ := owns_some ho2 (by omega)
  have hkX : k < X.length := by rw [HN.out]; exact hk
  have c0 : w2.cell? ⟨g, k, none⟩ = some (bV X[k]) := by rw [ho2.cellAt k (by omega)]; simp [hkX]
  have f0 := ho2.frozenAt k
  obtain ⟨Z, hZ⟩ := u8_xor_val X[k] T
  have st := ho2.stored k (.int .u8 (Z.toNat : Int))
  have ML : Hid ((X.map bV).set k (.int .u8 (Z.toNat : Int)) = (X.set k Z).map bV) := by show _ = _; rw [List.map_set]
  rw [ML.out] at st
  generalize X[k] = x at *
  have q3 := q2.grown st.2 q2.size (fun k hk => by cases hk; exact hgb)
  have ho3 := Row.of_owns st.1
  clear ho2 hg2 hb0 hv0 st ML q2
  have hls : Hid ((X.set k Z).length = X.length) := by show _ = _; simp
  generalize X.set k Z = Y at *
  have hkl : (k : Int) < (n : Int) := by omega
  have hkc : (k : Int) ≤ (cap1 : Int) := by omega
  go_wp2_with fail
  generalize w2.setCell ⟨g, k, none⟩ (.int .u8 (Z.toNat : Int)) = w3 at *
  replace hr1 := hr1.below q3
  have hb3 := below_then hb1 q3
  clear hb1 q3 c0 f0
  refine (same2_any _ bs _ (hv.below hb3) (by omega)).mono ?_
  rintro e w4 ⟨rfl, hb4⟩
  replace hr1 := hr1.below hb4
  replace ho3 := ho3.below hb4
  replace hb4 := below_then hb3 hb4
  clear hb3
  go_wp2_with fail
  refine (same2_any _ X _ hr1 (by have := HN.out; omega)).mono ?_
  rintro e w5 ⟨rfl, hb5⟩
  replace hr1 := hr1.below hb5
  replace ho3 := ho3.below hb5
  replace hb5 := below_then hb4 hb5
  clear hb4
  go_wp2_with fail
  refine (same2_any _ Y _ ho3 (by have := HN.out; have := hls.out; omega)).mono ?_
  rintro e w6 ⟨rfl, hb6⟩
  replace hr1 := hr1.below hb6
  replace hb6 := below_then hb5 hb6
  clear hb5 ho3
  have hp := hr1.take k (by omega)
  rw [← List.map_take] at hp
  go_wp2_with fail
  refine (same2_any _ (X.take k) _ hp (by simp; omega)).mono ?_
  rintro e w7 ⟨rfl, hb7⟩
  replace hb7 := below_then hb6 hb7
  clear hb6 hp
  go_wp2_with fail
  refine (known2_any _).mono ?_
  rintro e w8 ⟨rfl, hb8⟩
  go_wp2
  go_ret
  exact ⟨rfl, below_then hb7 hb8⟩

end Go.Proofs.Ytkmpoefjgaeopaa
