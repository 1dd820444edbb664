/- Contracts of store's there, read and write. -/
import Derived.Test.YtdihcdphgiaepaaZZ19
namespace Go.Proofs.Ytdihcdphgiaepaa
open Go.RowKit
theorem info_w16 : (Try.prog.info? 24).map (fun i => (i.zero, i.size, i.bytes)) = some (some (.int .u16 0), 1, 2) := by kernel_rfl
theorem one_words (l : List UInt16) : ∀ v ∈ l.map wV, v.oneCell' = true := by
 intro u hu; simp at hu; obtain ⟨x, _, rfl⟩ := hu; rfl
theorem one_bools (l : List Bool) : ∀ v ∈ l.map Value.bool, v.oneCell' = true := by
 intro u hu; simp at hu; rcases hu with ⟨_, rfl⟩ | ⟨_, rfl⟩ <;> rfl
def thB (n : Nat) (a m : Int) : Bool := (n != 0) && fits n a m
set_option maxHeartbeats 400000 in
theorem there_any (n : Nat) (a m : Int) (w : World) (hn : n ≤ 65536) (ha : i64 a) :
  Calls Try.prog 56 #[.int .i64 n, .int .i64 a, .int .i64 m] w fun e w' => e = .returned (.bool (thB n a m)) ∧ w = w' := by
 unfold i64 at ha
 by_cases h0 : n = 0
 ·
  subst h0
  have e : thB 0 a m = false := by simp [thB]
  rw [e]
  go_enter Try.func56, Try.ntmps56
  go_wp2
  go_ret
  exact ⟨rfl, rfl⟩
 ·
  have hb : ((n : Int) == 0) = false := by simp; omega
  have hn0 : (n != 0) = true := by simpa using h0
  by_cases h1 : 0 ≤ a
  ·
   by_cases h2 : 0 ≤ m
   ·
    by_cases h3 : m ≤ (n : Int) - a
    ·
     have e : thB n a m = true := by rw [thB, hn0, fits_t (by omega)]; rfl
     rw [e]
     clear e hn0 h0
     go_enter Try.func56, Try.ntmps56
     go_wp2
     go_ret
     exact ⟨ret_bool (by first | (simp; done) | (simp; omega)), rfl⟩
    ·
     have e : thB n a m = false := by rw [thB, fits_f (by omega), Bool.and_false]
     rw [e]
     clear e hn0 h0
     go_enter Try.func56, Try.ntmps56
     go_wp2
     go_ret
     exact ⟨ret_bool (by first | (simp; done) | (simp; omega)), rfl⟩
   ·
    have e : thB n a m = false := by rw [thB, fits_f (by omega), Bool.and_false]
    rw [e]
    clear e hn0 h0
    go_enter Try.func56, Try.ntmps56
    go_wp2
    go_ret
    exact ⟨rfl, rfl⟩
  ·
   have e : thB n a m = false := by rw [thB, fits_f (by omega), Bool.and_false]
   rw [e]
   clear e hn0 h0
   go_enter Try.func56, Try.ntmps56
   go_wp2
   go_ret
   exact ⟨rfl, rfl⟩
set_option maxHeartbeats 1000000 in
theorem readB_no (a : Option Addr) (n c : Nat) (b m : Int) (w : World) (hn : n ≤ 65536) (hb : i64 b) (h : thB n b m = false) :
  Calls Try.prog 86 #[.slice a n c, .int .i64 b, .int .i64 m] w fun e w' => e = .returned (.tuple #[.slice none 0 0, .bool false]) ∧ w = w' := by
 have C := hidden (there_any n b m w hn hb)
 rw [h] at C
 clear h hb
 go_enter Try.func86, Try.ntmps86
 go_wp2_with fail
 refine C.out.mono ?_
 rintro e w1 ⟨rfl, rfl⟩
 go_wp2
 go_ret2
 exact ⟨rfl, rfl⟩
set_option maxHeartbeats 1000000 in
theorem readB_yes (g n c : Nat) (xs : List Bool) (b m : Int) (w : World) (hx : Hd w g 4 c (xs.map Value.bool)) (hl : xs.length = n) (hn : n ≤ 65536) (hb : i64 b) (h0 : 0 < n) (h : fits n b m = true) :
  Calls Try.prog 86 #[slG g n c, .int .i64 b, .int .i64 m] w fun e w' => ∃ v', e = .returned (.tuple #[v', .bool true]) ∧ Row w' v' ((sub xs b m).map Value.bool) ∧ NwV w.heap.size v' ∧ Below w.heap.size w w' := by
 have C := hidden (there_any n b m w hn hb)
 have et : thB n b m = true := by rw [thB, h]; simp; omega
 rw [et] at C
 obtain ⟨q1, q2, q3⟩ := fits_iff.1 h
 obtain ⟨b', rfl⟩ : ∃ b' : Nat, b = (b' : Int) := ⟨b.toNat, by omega⟩
 obtain ⟨m', rfl⟩ : ∃ m' : Nat, m = (m' : Int) := ⟨m.toNat, by omega⟩
 have R := (hx.row (by simpa using hl)).cut b' (by omega)
 obtain ⟨-, -, hc, -, hc2, -⟩ := id hx
 have hmx := hc2
 unfold maxLen at hmx
 have hxc : n ≤ c := by obtain ⟨-, -, q, -⟩ := hx; simpa [hl] using q
 have hb0 : Below w.heap.size w (w.alloc (.cells (zer m' (.bool false)) 4)) := (Below.refl _ _).alloc (Nat.le_refl _) _
 have hrun1 := mk_zer 23 4 (.bool false) 1 Try.underlying23 info_bool rfl (m' : Int) m' rfl (by omega) (by omega) w
 have es : sub xs (b' : Int) (m' : Int) = (xs.drop b').take m' := by simp [sub]
 rw [es]
 have hlen : ((xs.drop b').take m').length = m' := by simp; omega
 obtain ⟨ad, had⟩ : ∃ ad, (if c = b' then some (⟨g, 0, none⟩ : Addr) else some ⟨g, 0 + b', none⟩) = ad := ⟨_, rfl⟩
 rw [had] at R
 rw [Nat.zero_add] at had
 have had2 : (if (c : Int) = (b' : Int) then some (⟨g, 0, none⟩ : Addr) else some ⟨g, b', none⟩) = ad := by rw [← had]; split <;> split <;> first | rfl | omega
 obtain ⟨w1, hrun, hg1, hb1⟩ := copy_run (P := Try.prog) hb0 23 23 3 4 Try.underlying23 (by kernel_rfl) w.heap.size 0 m' m' ad (n - b') (c - b') _ _ (zer_blk w m' (.bool false) 4) (Nat.le_refl _) _ (R.below hb0) (by rw [← List.map_drop]; exact one_bools _) (by simp)
 have e2 : splice (List.replicate m' (.bool false)) 0 (((xs.map Value.bool).drop b').take m') = ((xs.drop b').take m').map Value.bool := by
  rw [← List.map_drop, ← List.map_take]
  unfold splice
  simp only [List.take_zero, List.nil_append, List.length_map, hlen, Nat.zero_add]
  simp
 rw [e2] at hg1
 have hr := hg1.row m' (by simp; omega) (by unfold maxLen; omega)
 simp only [List.length_map, hlen] at hr
 have HC : Hid (b' ≤ n ∧ n ≤ c) := ⟨by omega, hxc⟩
 clear e2 hg1 et h hx q1 q2 hb es
 simp only [List.length_drop, List.length_map, hl] at hrun
 go_enter Try.func86, Try.ntmps86
 go_wp2_with fail
 refine C.out.mono ?_
 rintro e w1' ⟨rfl, rfl⟩
 go_wp2
 go_ret2
 exact ⟨_, rfl, hr, NwV.mk _ _ _ _ _ (Nat.le_refl _), hb1⟩
set_option maxHeartbeats 1000000 in
theorem writeB_no (a a2 : Option Addr) (n c k c2 : Nat) (b : Int) (w : World) (hn : n ≤ 65536) (hb : i64 b) (_ : k ≤ c2) (_ : c2 ≤ maxLen) (h : thB n b k = false) :
  Calls Try.prog 67 #[.slice a n c, .int .i64 b, .slice a2 k c2] w fun e w' => e = .returned (.bool false) ∧ w = w' := by
 have C := hidden (there_any n b k w hn hb)
 rw [h] at C
 clear h hb
 go_enter Try.func67, Try.ntmps67
 go_wp2_with fail
 refine C.out.mono ?_
 rintro e w1 ⟨rfl, rfl⟩
 go_wp2
 go_ret
 exact ⟨rfl, rfl⟩
set_option maxHeartbeats 1000000 in
theorem writeB_yes (g n c : Nat) (v : Value) (xs ys : List Bool) (b : Int) (w : World) (hx : Hd w g 4 c (xs.map Value.bool)) (hv : Row w v (ys.map Value.bool)) (hl : xs.length = n) (hn : n ≤ 65536) (hb : i64 b) (h0 : 0 < n) (h : fits n b ys.length = true) :
  Calls Try.prog 67 #[slG g n c, .int .i64 b, v] w fun e w' => e = .returned (.bool true) ∧ Hd w' g 4 c ((splice xs b.toNat ys).map Value.bool) ∧ Kp (· = g) w w' := by
 obtain ⟨av, cv, rfl, hv1, hv2, -⟩ := id hv
 unfold maxLen at hv2
 simp only [List.length_map] at hv hv1 ⊢
 have C := hidden (there_any n b ys.length w hn hb)
 have et : thB n b ys.length = true := by rw [thB, h]; simp; omega
 rw [et] at C
 obtain ⟨q1, q2, q3⟩ := fits_iff.1 h
 obtain ⟨b', rfl⟩ : ∃ b' : Nat, b = (b' : Int) := ⟨b.toNat, by omega⟩
 obtain ⟨cur, hbk, p1, p2, hc2, p4⟩ := id hx
 have hmx := hc2
 unfold maxLen at hmx
 simp only [List.length_map, hl] at p1
 obtain ⟨of, hof⟩ : ∃ of, (if c = b' then 0 else b') = of := ⟨_, rfl⟩
 have HC : Hid (b' ≤ n ∧ n ≤ c) := ⟨by omega, p1⟩
 have had2 : (if (c : Int) = (b' : Int) then some (⟨g, 0, none⟩ : Addr) else some ⟨g, b', none⟩) = some ⟨g, of, none⟩ := by
  rw [← hof]
  by_cases hcb : c = b'
  ·
   rw [if_pos hcb, if_pos (by omega)]
  ·
   rw [if_neg hcb, if_neg (by omega)]
 have had3 : (if c = b' then some (⟨g, 0, none⟩ : Addr) else some ⟨g, b', none⟩) = some ⟨g, of, none⟩ := by
  rw [← hof]; split <;> rfl
 have hofl : of + (n - b') ≤ cur.length := by
  rw [← hof]; split <;> omega
 obtain ⟨w1, hrun, hg1, hb1⟩ := copy_runK (P := Try.prog) (w := w) 23 23 3 4 Try.underlying23 (by kernel_rfl) g of (n - b') (c - b') av ys.length cv _ _ hbk (ys.map Value.bool) hv (one_bools _) hofl
 have K1 : Hd w1 g 4 c ((splice xs b' ys).map Value.bool) := by
  have et' : (ys.map Value.bool).take (n - b') = ys.map Value.bool := List.take_of_length_le (by simp; omega)
  rw [et'] at hg1
  have h5 : (xs.map Value.bool).length = n := by simpa using hl
  rw [h5] at p4
  rw [splice_map]
  by_cases hcb : c = b'
  ·
   have hy0 : ys = [] := List.eq_nil_of_length_eq_zero (by omega)
   subst hy0
   simp only [List.map_nil, splice_nil] at hg1 ⊢
   exact ⟨cur, hg1, by omega, p2, hc2, by rw [h5]; exact p4⟩
  ·
   rw [if_neg hcb] at hof
   subst hof
   exact Hd.spl hg1 (by omega) p2 hc2 (by rw [h5]; exact p4) (by simp; omega)
 simp only [List.length_map] at hrun
 clear hg1 hx hbk p4 et h q1 q2 hv hb
 go_enter Try.func67, Try.ntmps67
 go_wp2_with fail
 refine C.out.mono ?_
 rintro e w1' ⟨rfl, rfl⟩
 go_wp2
 go_ret
 exact ⟨rfl, by simpa using K1, hb1⟩
set_option maxHeartbeats 1000000 in
theorem readV_no (a : Option Addr) (n c : Nat) (b m : Int) (w : World) (hn : n ≤ 65536) (hb : i64 b) (h : thB n b m = false) :
  Calls Try.prog 42 #[.slice a n c, .int .i64 b, .int .i64 m] w fun e w' => e = .returned (.tuple #[.slice none 0 0, .bool false]) ∧ w = w' := by
 have C := hidden (there_any n b m w hn hb)
 rw [h] at C
 clear h hb
 go_enter Try.func42, Try.ntmps42
 go_wp2_with fail
 refine C.out.mono ?_
 rintro e w1 ⟨rfl, rfl⟩
 go_wp2
 go_ret2
 exact ⟨rfl, rfl⟩
set_option maxHeartbeats 1000000 in
theorem readV_yes (g n c : Nat) (xs : List UInt16) (b m : Int) (w : World) (hx : Hd w g 24 c (xs.map wV)) (hl : xs.length = n) (hn : n ≤ 65536) (hb : i64 b) (h0 : 0 < n) (h : fits n b m = true) :
  Calls Try.prog 42 #[slG g n c, .int .i64 b, .int .i64 m] w fun e w' => ∃ v', e = .returned (.tuple #[v', .bool true]) ∧ Row w' v' ((sub xs b m).map wV) ∧ NwV w.heap.size v' ∧ Below w.heap.size w w' := by
 have C := hidden (there_any n b m w hn hb)
 have et : thB n b m = true := by rw [thB, h]; simp; omega
 rw [et] at C
 obtain ⟨q1, q2, q3⟩ := fits_iff.1 h
 obtain ⟨b', rfl⟩ : ∃ b' : Nat, b = (b' : Int) := ⟨b.toNat, by omega⟩
 obtain ⟨m', rfl⟩ : ∃ m' : Nat, m = (m' : Int) := ⟨m.toNat, by omega⟩
 have R := (hx.row (by simpa using hl)).cut b' (by omega)
 obtain ⟨-, -, hc, -, hc2, -⟩ := id hx
 have hmx := hc2
 unfold maxLen at hmx
 have hxc : n ≤ c := by obtain ⟨-, -, q, -⟩ := hx; simpa [hl] using q
 have hb0 : Below w.heap.size w (w.alloc (.cells (zer m' (.int .u16 0)) 24)) := (Below.refl _ _).alloc (Nat.le_refl _) _
 have hrun1 := mk_zer 22 24 (.int .u16 0) 2 Try.underlying22 info_w16 rfl (m' : Int) m' rfl (by omega) (by omega) w
 have es : sub xs (b' : Int) (m' : Int) = (xs.drop b').take m' := by simp [sub]
 rw [es]
 have hlen : ((xs.drop b').take m').length = m' := by simp; omega
 obtain ⟨ad, had⟩ : ∃ ad, (if c = b' then some (⟨g, 0, none⟩ : Addr) else some ⟨g, 0 + b', none⟩) = ad := ⟨_, rfl⟩
 rw [had] at R
 rw [Nat.zero_add] at had
 have had2 : (if (c : Int) = (b' : Int) then some (⟨g, 0, none⟩ : Addr) else some ⟨g, b', none⟩) = ad := by rw [← had]; split <;> split <;> first | rfl | omega
 obtain ⟨w1, hrun, hg1, hb1⟩ := copy_run (P := Try.prog) hb0 22 22 3 24 Try.underlying22 (by kernel_rfl) w.heap.size 0 m' m' ad (n - b') (c - b') _ _ (zer_blk w m' (.int .u16 0) 24) (Nat.le_refl _) _ (R.below hb0) (by rw [← List.map_drop]; exact one_words _) (by simp)
 have e2 : splice (List.replicate m' (.int .u16 0)) 0 (((xs.map wV).drop b').take m') = ((xs.drop b').take m').map wV := by
  rw [← List.map_drop, ← List.map_take]
  unfold splice
  simp only [List.take_zero, List.nil_append, List.length_map, hlen, Nat.zero_add]
  simp
 rw [e2] at hg1
 have hr := hg1.row m' (by simp; omega) (by unfold maxLen; omega)
 simp only [List.length_map, hlen] at hr
 have HC : Hid (b' ≤ n ∧ n ≤ c) := ⟨by omega, hxc⟩
 clear e2 hg1 et h hx q1 q2 hb es
 simp only [List.length_drop, List.length_map, hl] at hrun
 go_enter Try.func42, Try.ntmps42
 go_wp2_with fail
 refine C.out.mono ?_
 rintro e w1' ⟨rfl, rfl⟩
 go_wp2
 go_ret2
 exact ⟨_, rfl, hr, NwV.mk _ _ _ _ _ (Nat.le_refl _), hb1⟩
set_option maxHeartbeats 1000000 in
theorem writeV_no (a a2 : Option Addr) (n c k c2 : Nat) (b : Int) (w : World) (hn : n ≤ 65536) (hb : i64 b) (_ : k ≤ c2) (_ : c2 ≤ maxLen) (h : thB n b k = false) :
  Calls Try.prog 69 #[.slice a n c, .int .i64 b, .slice a2 k c2] w fun e w' => e = .returned (.bool false) ∧ w = w' := by
 have C := hidden (there_any n b k w hn hb)
 rw [h] at C
 clear h hb
 go_enter Try.func69, Try.ntmps69
 go_wp2_with fail
 refine C.out.mono ?_
 rintro e w1 ⟨rfl, rfl⟩
 go_wp2
 go_ret
 exact ⟨rfl, rfl⟩
set_option maxHeartbeats 1000000 in
theorem writeV_yes (g n c : Nat) (v : Value) (xs ys : List UInt16) (b : Int) (w : World) (hx : Hd w g 24 c (xs.map wV)) (hv : Row w v (ys.map wV)) (hl : xs.length = n) (hn : n ≤ 65536) (hb : i64 b) (h0 : 0 < n) (h : fits n b ys.length = true) :
  Calls Try.prog 69 #[slG g n c, .int .i64 b, v] w fun e w' => e = .returned (.bool true) ∧ Hd w' g 24 c ((splice xs b.toNat ys).map wV) ∧ Kp (· = g) w w' := by
 obtain ⟨av, cv, rfl, hv1, hv2, -⟩ := id hv
 unfold maxLen at hv2
 simp only [List.length_map] at hv hv1 ⊢
 have C := hidden (there_any n b ys.length w hn hb)
 have et : thB n b ys.length = true := by rw [thB, h]; simp; omega
 rw [et] at C
 obtain ⟨q1, q2, q3⟩ := fits_iff.1 h
 obtain ⟨b', rfl⟩ : ∃ b' : Nat, b = (b' : Int) := ⟨b.toNat, by omega⟩
 obtain ⟨cur, hbk, p1, p2, hc2, p4⟩ := id hx
 have hmx := hc2
 unfold maxLen at hmx
 simp only [List.length_map, hl] at p1
 obtain ⟨of, hof⟩ : ∃ of, (if c = b' then 0 else b') = of := ⟨_, rfl⟩
 have HC : Hid (b' ≤ n ∧ n ≤ c) := ⟨by omega, p1⟩
 have had2 : (if (c : Int) = (b' : Int) then some (⟨g, 0, none⟩ : Addr) else some ⟨g, b', none⟩) = some ⟨g, of, none⟩ := by
  rw [← hof]
  by_cases hcb : c = b'
  ·
   rw [if_pos hcb, if_pos (by omega)]
  ·
   rw [if_neg hcb, if_neg (by omega)]
 have had3 : (if c = b' then some (⟨g, 0, none⟩ : Addr) else some ⟨g, b', none⟩) = some ⟨g, of, none⟩ := by
  rw [← hof]; split <;> rfl
 have hofl : of + (n - b') ≤ cur.length := by
  rw [← hof]; split <;> omega
 obtain ⟨w1, hrun, hg1, hb1⟩ := copy_runK (P := Try.prog) (w := w) 22 22 3 24 Try.underlying22 (by kernel_rfl) g of (n - b') (c - b') av ys.length cv _ _ hbk (ys.map wV) hv (one_words _) hofl
 have K1 : Hd w1 g 24 c ((splice xs b' ys).map wV) := by
  have et' : (ys.map wV).take (n - b') = ys.map wV := List.take_of_length_le (by simp; omega)
  rw [et'] at hg1
  have h5 : (xs.map wV).length = n := by simpa using hl
  rw [h5] at p4
  rw [splice_map]
  by_cases hcb : c = b'
  ·
   have hy0 : ys = [] := List.eq_nil_of_length_eq_zero (by omega)
   subst hy0
   simp only [List.map_nil, splice_nil] at hg1 ⊢
   exact ⟨cur, hg1, by omega, p2, hc2, by rw [h5]; exact p4⟩
  ·
   rw [if_neg hcb] at hof
   subst hof
   exact Hd.spl hg1 (by omega) p2 hc2 (by rw [h5]; exact p4) (by simp; omega)
 simp only [List.length_map] at hrun
 clear hg1 hx hbk p4 et h q1 q2 hv hb
 go_enter Try.func69, Try.ntmps69
 go_wp2_with fail
 refine C.out.mono ?_
 rintro e w1' ⟨rfl, rfl⟩
 go_wp2
 go_ret
 exact ⟨rfl, by simpa using K1, hb1⟩
end Go.Proofs.Ytdihcdphgiaepaa
