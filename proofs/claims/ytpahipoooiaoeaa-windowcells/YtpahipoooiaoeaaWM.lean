/- The statements' own known. -/
import Derived.Test.YtpahipoooiaoeaaWL
namespace Go.Proofs.Ytpahipoooiaoeaa
open Go.RowKit

def kl : WL := [(3, 0, 100, 4), (3, 4, 50, 4)]
theorem kw1 : mapE kl 3 2 4 = some [(2, 102, 2), (4, 50, 2)] := by decide +kernel
theorem kw2 : mapE kl 3 6 4 = none := by decide +kernel
theorem kw3 : mapE kl 2 0 1 = none := by decide +kernel
theorem kw4 : backO kl 3 51 = some 5 := by decide +kernel
theorem kw5 : backO kl 3 54 = none := by decide +kernel
theorem kw6 : ownB kl = true := by decide +kernel
theorem kw7 : meetsB kl kl = true := by decide +kernel
theorem kw8 : meetsB kl [] = false := by decide +kernel
theorem kw9 : wR (3, 0, 100, 4) = true ∧ wR (4, 0, 0, 1) = false ∧ wR (0, 0, 511, 2) = false := by decide +kernel
theorem kok : OkW kl := by
  intro x hx
  simp [kl] at hx
  rcases hx with rfl | rfl <;> simp [i64]
theorem wns_new (w : World) : Wns (w.alloc (.cells #[.int .i64 3, .int .i64 0, .int .i64 100, .int .i64 4, .int .i64 3, .int .i64 4, .int .i64 50, .int .i64 4] 28)) (.slice (some ⟨w.heap.size, 0, none⟩) 2 2) kl :=
  Lsf.of_blk wf_len 2 rfl (by unfold maxLen; omega) (wcs kl) (Blk.new w 28 (wcs kl)) (fun i x hx j u hu => flatMap_get wf_len kl i x hx j u hu)
def kp : PL := [(2, 102, 2), (4, 50, 2)]
theorem pcs_new (w : World) : Pcs (w.alloc (.cells #[.int .i64 2, .int .i64 102, .int .i64 2, .int .i64 4, .int .i64 50, .int .i64 2] 36)) (.slice (some ⟨w.heap.size, 0, none⟩) 2 2) kp :=
  Lsf.of_blk pf_len 2 rfl (by unfold maxLen; omega) (pcs kp) (Blk.new w 36 (pcs kp)) (fun i x hx j u hu => flatMap_get pf_len kp i x hx j u hu)

set_option maxRecDepth 100000 in
set_option maxHeartbeats 4000000 in
theorem known_law (w : World) :
    Calls Try.prog 10 #[] w fun e w' => e = .returned (.bool true) ∧ Below w.heap.size w w' := by
  have W0 := hidden (wns_new w)
  have HB := hidden ((Below.refl w.heap.size w).alloc (Nat.le_refl _) (.cells #[.int .i64 3, .int .i64 0, .int .i64 100, .int .i64 4, .int .i64 3, .int .i64 4, .int .i64 50, .int .i64 4] 28))
  have i1 : i64 4 := by unfold i64; omega
  have i2 : i64 1 := by unfold i64; omega
  have ll : kl.length ≤ 1000000 := by decide
  have C1 := hidden (fun v w h => map_any v kl 3 2 4 w h kok i1 ll)
  have C2 := hidden (fun v w h => map_any v kl 3 6 4 w h kok i1 ll)
  have C3 := hidden (fun v w h => map_any v kl 2 0 1 w h kok i2 ll)
  have C4 := hidden (fun v w h => back_any v kl 3 51 w h kok ll)
  have C5 := hidden (fun v w h => back_any v kl 3 54 w h kok ll)
  have C6 := hidden (fun v w h => own_any v kl w h kok ll)
  have C7 := hidden (fun v w h => meets_any v v kl kl w h h kok kok ll ll)
  have C8 := hidden (fun v w h => meets_any v _ kl [] w h (Lsf.nil w) kok OkW.nil ll (by decide))
  have C9 := hidden (fun w => wright_any 3 0 100 4 w i1)
  have C10 := hidden (fun w => wright_any 4 0 0 1 w i2)
  have C11 := hidden (fun w => wright_any 0 0 511 2 w (by unfold i64; omega))
  rw [kw1] at C1
  rw [kw2] at C2
  rw [kw3] at C3
  rw [kw4] at C4
  rw [kw5] at C5
  rw [kw6] at C6
  rw [kw7] at C7
  rw [kw8] at C8
  rw [kw9.1] at C9
  rw [kw9.2.1] at C10
  rw [kw9.2.2] at C11
  simp only [Option.isSome_some, Option.isSome_none, Option.getD_some, Option.getD_none] at C1 C2 C3 C4 C5
  clear i1 i2 ll
  go_enter Try.func10, Try.ntmps10
  go_wp2_with fail
  refine (C1.out _ _ W0.out).mono ?_
  rintro e w1 ⟨v1, rfl, P1, -, E⟩
  replace W0 := hidden (W0.out.ext E)
  replace HB := hidden (below_then HB.out E)
  clear E
  go_wp2_with fail
  refine (C2.out _ _ W0.out).mono ?_
  rintro e w2 ⟨v2, rfl, -, -, E⟩
  replace W0 := hidden (W0.out.ext E)
  replace HB := hidden (below_then HB.out E)
  replace P1 := P1.ext E
  clear E
  go_wp2_with fail
  refine (C3.out _ _ W0.out).mono ?_
  rintro e w3 ⟨v3, rfl, -, -, E⟩
  replace W0 := hidden (W0.out.ext E)
  replace HB := hidden (below_then HB.out E)
  replace P1 := P1.ext E
  clear E
  go_wp2_with fail
  refine (C4.out _ _ W0.out).mono ?_
  rintro e w4 ⟨rfl, E⟩
  replace W0 := hidden (W0.out.ext E)
  replace HB := hidden (below_then HB.out E)
  replace P1 := P1.ext E
  clear E
  go_wp2_with fail
  refine (C5.out _ _ W0.out).mono ?_
  rintro e w5 ⟨rfl, E⟩
  replace W0 := hidden (W0.out.ext E)
  replace HB := hidden (below_then HB.out E)
  replace P1 := P1.ext E
  clear E
  have E0 := (Below.refl w5.heap.size w5).alloc (Nat.le_refl _) (.cells #[.int .i64 2, .int .i64 102, .int .i64 2, .int .i64 4, .int .i64 50, .int .i64 2] 36)
  replace P1 := P1.ext E0
  have P2 := pcs_new w5
  replace W0 := hidden (W0.out.ext E0)
  replace HB := hidden (below_then HB.out E0)
  have HP := hidden P1
  have HQ := hidden P2
  clear E0 P1 P2
  go_wp2_with fail
  refine (same_pcs _ _ kp _ HP.out HQ.out).mono ?_
  rintro e w6 ⟨rfl, E⟩
  replace W0 := hidden (W0.out.ext E)
  replace HB := hidden (below_then HB.out E)
  clear HP HQ
  clear E
  go_wp2_with fail
  refine (C6.out _ _ W0.out).mono ?_
  rintro e w7 ⟨rfl, E⟩
  replace W0 := hidden (W0.out.ext E)
  replace HB := hidden (below_then HB.out E)
  clear E
  go_wp2_with fail
  refine (C7.out _ _ W0.out).mono ?_
  rintro e w8 ⟨rfl, E⟩
  replace W0 := hidden (W0.out.ext E)
  replace HB := hidden (below_then HB.out E)
  clear E
  go_wp2_with fail
  refine (C8.out _ _ W0.out).mono ?_
  rintro e w9 ⟨rfl, E⟩
  replace W0 := hidden (W0.out.ext E)
  replace HB := hidden (below_then HB.out E)
  clear E
  obtain ⟨bw, ow, ew, c0, c1, c2, c3⟩ := W0.out.wn (i := 0) rfl
  simp only [Option.some.injEq, Addr.mk.injEq, and_true] at ew
  obtain ⟨rfl, rfl⟩ := ew
  simp only [Nat.zero_mul, Nat.zero_add] at c0 c1 c2 c3
  go_wp2_with fail
  refine (C9.out _).mono ?_
  rintro e w10 ⟨rfl, E⟩
  replace W0 := hidden (W0.out.ext E)
  replace HB := hidden (below_then HB.out E)
  clear E
  go_wp2_with fail
  refine (C10.out _).mono ?_
  rintro e w11 ⟨rfl, E⟩
  replace W0 := hidden (W0.out.ext E)
  replace HB := hidden (below_then HB.out E)
  clear E
  go_wp2_with fail
  refine (C11.out _).mono ?_
  rintro e w12 ⟨rfl, E⟩
  replace W0 := hidden (W0.out.ext E)
  replace HB := hidden (below_then HB.out E)
  clear E
  go_wp2
  go_ret
  exact ⟨rfl, HB.out⟩

end Go.Proofs.Ytpahipoooiaoeaa
