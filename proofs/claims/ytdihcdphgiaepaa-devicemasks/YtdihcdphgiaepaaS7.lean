/- Contracts of pdu.get, tail, guess. -/
import Derived.Test.YtdihcdphgiaepaaS6b
namespace Go.Proofs.Ytdihcdphgiaepaa
open Go.RowKit

set_option maxHeartbeats 400000 in
theorem get_pdu (v : Value) (bs : List UInt8) (n : Int) (w : World) (hn : -9223372036854775808 ≤ n ∧ n ≤ 9223372036854775807) (hv : Row w v (bs.map bV)) :
    Calls Try.prog 70 #[v, .int .i64 n] w fun e w' => e = .returned (.int .i64 (getN bs n)) ∧ ∃ nq, w' = w.drewN nq := by
  have C := hidden (get_any v bs n w hn hv)
  generalize getN bs n = N at *
  generalize getOk bs n = b at *
  clear hv
  go_enter Try.func70, Try.ntmps70
  go_wp2_with fail
  refine C.out.mono ?_
  rintro e w1 ⟨rfl, nq, rfl⟩
  go_wp2
  go_ret
  exact ⟨rfl, nq, rfl⟩

theorem Row.empty (w : World) (a : Option Addr) (cap : Nat) (h : a = none → cap = 0) (h2 : cap ≤ maxLen) : Row w (.slice a 0 cap) [] := ⟨a, cap, rfl, Nat.zero_le _, h2, h, .inl rfl⟩

theorem Row.drop {w : World} {a : Option Addr} {n cap : Nat} {xs : List Value} (h : Row w (.slice a n cap) xs) (k : Nat) (hk : k ≤ n) (b off : Nat) (ha : a = some ⟨b, off, none⟩) : Row w (.slice (some ⟨b, off + k, none⟩) (n - k) (cap - k)) (xs.drop k) := by
  obtain ⟨a', cap', e, h1, h2, h3, h4⟩ := h
  simp only [Value.slice.injEq] at e
  obtain ⟨rfl, rfl, rfl⟩ := e
  have hl : (xs.drop k).length = xs.length - k := by simp
  refine ⟨_, _, by rw [hl], by omega, by omega, (fun h => by cases h), ?_⟩
  rcases h4 with rfl | ⟨b', off', e, hc⟩
  · exact .inl (by simp)
  · rw [ha] at e
    simp only [Option.some.injEq, Addr.mk.injEq] at e
    obtain ⟨rfl, rfl, -⟩ := e
    refine .inr ⟨b, off + k, rfl, fun i hi => ?_⟩
    rw [hl] at hi
    rw [Nat.add_assoc, hc (k + i) (by omega), List.getElem?_drop]

set_option maxHeartbeats 400000 in
theorem tail_pdu (v : Value) (bs : List UInt8) (n : Int) (k : Nat) (w : World) (hn : n = (k : Int)) (hk : k ≤ 1000) (hv : Row w v (bs.map bV)) :
    Calls Try.prog 72 #[v, .int .i64 n] w fun e w' => ∃ v', e = .returned v' ∧ Row w v' ((tailL bs k).map bV) ∧ w = w' := by
  subst hn
  obtain ⟨a, cap, rfl, -⟩ := id hv
  obtain ⟨hl, hc, hm, hcell⟩ := hv.at
  simp only [List.length_map] at hl hc hv hcell ⊢
  unfold maxLen at hm
  by_cases h1 : bs.length ≤ k
  · have e : tailL bs k = [] := by simp [tailL, h1]
    rw [e]
    have h1' : (bs.length : Int) ≤ (k : Int) := by omega
    go_enter Try.func72, Try.ntmps72
    go_wp2
    go_ret
    exact ⟨_, rfl, Row.nil _, rfl⟩
  · obtain ⟨b, off, rfl, hcl⟩ := hcell k 0 (by omega)
    have c0 := hcl k (by omega)
    have HE : Hid (∀ z : UInt8, z = bs.getD k 0 → (bs.length - k - 1 = z.toNat → tailL bs k = bs.drop (k + 1)) ∧ (bs.length - k - 1 ≠ z.toNat → tailL bs k = [])) := by
      rintro z rfl
      constructor
      · intro h; unfold tailL; rw [if_neg (by intro h'; rcases h' with h' | h' <;> omega)]
      · intro h; unfold tailL; rw [if_pos (.inr h)]
    have HD := hidden (hv.drop (k + 1) (by omega) b off rfl)
    obtain ⟨z, hz⟩ : ∃ z, z = bs.getD k 0 := ⟨_, rfl⟩
    rw [← hz] at c0
    replace HE := HE.out z hz
    clear hz hcl hcell hv
    have hzl := z.toNat_lt
    have h1' : ¬ (bs.length : Int) ≤ (k : Int) := by omega
    by_cases h2 : bs.length - k - 1 = z.toNat
    · rw [HE.1 h2, List.map_drop]
      have t2 : ((bs.length : Int) - (k : Int) - 1 != (z.toNat : Int)) = false := by simp; omega
      have h3 : (k : Int) + 1 ≤ (bs.length : Int) := by omega
      clear HE h2 h1
      have e1 : ((bs.length : Int) - ((k : Int) + 1)).toNat = bs.length - (k + 1) := by omega
      have e2 : ((cap : Int) - ((k : Int) + 1)).toNat = cap - (k + 1) := by omega
      go_enter Try.func72, Try.ntmps72
      go_wp2
      · go_ret
        have e3 : bs.length - (k + 1) = 0 := by omega
        have e4 : List.drop (k + 1) (bs.map bV) = [] := List.drop_eq_nil_of_le (by simp; omega)
        rw [e4]
        refine ⟨_, rfl, ?_, rfl⟩
        simp only [e3]
        exact Row.empty _ _ _ (fun h => by cases h) (Nat.zero_le _)
      · go_ret
        exact ⟨_, rfl, HD.out, rfl⟩
    · rw [HE.2 h2]
      have t2 : ((bs.length : Int) - (k : Int) - 1 != (z.toNat : Int)) = true := by simp; omega
      clear HE h2 h1
      go_enter Try.func72, Try.ntmps72
      go_wp2
      go_ret
      exact ⟨_, rfl, Row.nil _, rfl⟩

end Go.Proofs.Ytdihcdphgiaepaa
