/- Contracts of pdu.counted and put. -/
import Derived.Test.YtdihcdphgiaepaaS4
import Derived.Test.YtdihcdphgiaepaaCC
namespace Go.Proofs.Ytdihcdphgiaepaa
open Go.RowKit

set_option maxHeartbeats 1000000 in
/-- counted: a row, how many bytes follow, and these -/
theorem counted_pdu (u v : Value) (xs ys : List UInt8) (w : World) (hu : Row w u (xs.map bV)) (hv : Row w v (ys.map bV)) (h1 : xs.length ≤ 100000) (h2 : ys.length ≤ 100000) :
    Calls Try.prog 76 #[u, v] w fun e w' => ∃ v', e = .returned v' ∧ Row w' v' ((xs ++ cntL ys).map bV) ∧ Below w.heap.size w w' := by
  obtain ⟨a, cap, rfl, -⟩ := id hu
  obtain ⟨a2, cap2, rfl, -⟩ := id hv
  simp only [List.length_map] at hu hv ⊢
  have W0 := hidden (fun o1 o2 => ((Below.refl w.heap.size w).alloc (Nat.le_refl _) o1).alloc (by simp) o2)
  have ef : flatTo [xs, [UInt8.ofNat ys.length], ys] 3 = xs ++ cntL ys := by simp [flatTo, cntL]
  have EF := hidden ef
  clear ef
  have e8 : ((UInt8.ofNat ys.length).toNat : Int) = (ys.length : Int) % 256 := by rw [UInt8.toNat_ofNat']; omega
  have E8 := hidden e8
  clear e8
  have R1 := hidden (row_new w [.int .u8 ((ys.length : Int) % 256)] 5 1 rfl (by decide))
  go_enter Try.func76, Try.ntmps76
  go_wp2_with fail
  have C := concat_any (w.heap.size + 1) [.slice a xs.length cap, .slice (some ⟨w.heap.size, 0, none⟩) 1 1, .slice a2 ys.length cap2] [xs, [UInt8.ofNat ys.length], ys]
    ((w.alloc (.cells #[.int .u8 ((ys.length : Int) % 256)] 5)).alloc (.cells #[.slice a xs.length cap, .slice (some ⟨w.heap.size, 0, none⟩) 1 1, .slice a2 ys.length cap2] 28)) (by simpa using Blk.new (w.alloc (.cells #[.int .u8 ((ys.length : Int) % 256)] 5)) 28 [.slice a xs.length cap, .slice (some ⟨w.heap.size, 0, none⟩) 1 1, .slice a2 ys.length cap2]) rfl ?q1 ?q2 ?q3 (by simp)
  case q1 =>
    intro i hi
    match i, hi with
    | 0, _ => exact ⟨_, rfl, hu.below (W0.out _ _)⟩
    | 1, _ =>
      refine ⟨_, rfl, ?_⟩
      have : ([UInt8.ofNat ys.length].map bV) = [.int .u8 ((ys.length : Int) % 256)] := by simp only [List.map_cons, List.map_nil, bV, E8.out]
      show Row _ _ ([UInt8.ofNat ys.length].map bV)
      rw [this]
      exact R1.out.below ((Below.refl _ _).alloc (Nat.le_refl _) _)
    | 2, _ => exact ⟨_, rfl, hv.below (W0.out _ _)⟩
  case q2 => rw [show [xs, [UInt8.ofNat ys.length], ys].length = 3 from rfl, EF.out]; simp [cntL]; omega
  case q3 => rw [show [xs, [UInt8.ofNat ys.length], ys].length = 3 from rfl, EF.out]; simp [cntL]; omega
  refine C.mono ?_
  rintro e w2 ⟨v2, rfl, hr2, B2⟩
  rw [show [xs, [UInt8.ofNat ys.length], ys].length = 3 from rfl, EF.out] at hr2
  replace B2 := below_then (W0.out _ _) B2
  go_wp2
  go_ret
  exact ⟨_, rfl, hr2, B2⟩

/-- numbers, two bytes each -/
def pwL (l : List Int) : List UInt8 := l.flatMap pw
theorem pwL_len (l : List Int) : (pwL l).length = 2 * l.length := by
  induction l with
  | nil => rfl
  | cons x r ih => simp [pwL, pw] at ih ⊢; omega
theorem pwL_take (l : List Int) (k : Nat) (h : k < l.length) : pwL (l.take (k + 1)) = pwL (l.take k) ++ [hiB (wOf (l.getD k 0)), loB (wOf (l.getD k 0))] := by
  rw [List.take_succ_eq_append_getElem h]
  unfold pwL
  rw [List.flatMap_append]
  simp [pw, List.getD_eq_getElem?_getD, h]

abbrev iV (n : Int) : Value := .int .i64 n

set_option maxHeartbeats 1000000 in
theorem put_pdu (u v : Value) (xs : List UInt8) (l : List Int) (w : World) (hu : Row w u (xs.map bV)) (hv : Row w v (l.map iV)) (hl : ∀ i, i < l.length → -9223372036854775808 ≤ l.getD i 0 ∧ l.getD i 0 ≤ 9223372036854775807) (h1 : xs.length ≤ 100000) (h2 : l.length ≤ 1000) :
    Calls Try.prog 74 #[u, v] w fun e w' => ∃ v', e = .returned v' ∧ Row w' v' ((xs ++ pwL l).map bV) ∧ Below w.heap.size w w' := by
  obtain ⟨a2, cap2, rfl, -⟩ := id hv
  simp only [List.length_map] at hv ⊢
  have HI := hidden hl
  clear hl
  have PT := hidden (pwL_take l)
  go_enter Try.func74, Try.ntmps74
  go_wp2
  go_loopw [0, 9] (fun z i wr => ∃ k : Nat, k ≤ l.length ∧ i = .int .i64 k ∧ Row wr z ((xs ++ pwL (l.take k)).map bV) ∧ Below w.heap.size w wr) (fun _ i _ => l.length - (intOf i).toNat)
  case atStart => exact ⟨0, Nat.zero_le _, rfl, by simpa [pwL] using hu, Below.refl _ _⟩
  case round =>
    obtain ⟨k, hk, rfl, hz, hb⟩ := hrel
    clear hu
    by_cases hkn : k < l.length
    · obtain ⟨-, -, -, hcell⟩ := (hv.below hb).at
      obtain ⟨b, off, rfl, hcl⟩ := hcell k 0 hkn
      have c0 := hcl k hkn
      obtain ⟨n1, n2⟩ := HI.out k hkn
      have S := hidden (PT.out k hkn)
      have Ln : (pwL (l.take k)).length ≤ 2 * l.length := by rw [pwL_len, List.length_take]; omega
      clear hcl hcell hv
      generalize l.getD k 0 = x at *
      generalize pwL (l.take k) = ys at *
      have hkn' : (k : Int) < (l.length : Int) := by omega
      go_wp2_with fail
      refine (put_any _ (xs ++ ys) x _ ⟨n1, n2⟩ hz (by rw [List.length_append]; omega)).mono ?_
      rintro e w2 ⟨v2, rfl, hr2, B2⟩
      replace B2 := below_then hb B2
      go_wp2
      go_roundw
      case rel =>
        refine ⟨k + 1, by omega, by go_num, ?_, B2⟩
        rw [S.out, ← List.append_assoc]
        exact hr2
      case measure => simp [intOf]; omega
    · obtain rfl : k = l.length := by omega
      rw [List.take_length] at hz
      clear hkn
      go_wp2
      go_ret
      exact ⟨_, rfl, hz, hb⟩

end Go.Proofs.Ytdihcdphgiaepaa
