/- Contracts of octet.Put, Bytes, Words. -/
import Derived.Test.YtdihcdphgiaepaaZZ2
namespace Go.Proofs.Ytdihcdphgiaepaa
open Go.RowKit
def NewV (base : Nat) (v : Value) : Prop := ∀ a n c, v = .slice (some a) n c → base ≤ a.block
theorem NewV.none (base n c : Nat) : NewV base (.slice .none n c) := fun _ _ _ h => by cases h
theorem NewV.some (base g o n c : Nat) (h : base ≤ g) : NewV base (.slice (some ⟨g, o, .none⟩) n c) := fun _ _ _ e => by
 simp only [Value.slice.injEq, Option.some.injEq] at e
 rw [← e.1]; exact h
theorem NewV.le {base base' : Nat} {v : Value} (h : NewV base v) (hb : base' ≤ base) : NewV base' v := fun a n c e => Nat.le_trans hb (h a n c e)
theorem NewV.of_owns {w : World} {base : Nat} {e : TypeId} {v : Value} {n : Nat} {xs : List Value} (h : w.ownsRow base e 1 v n xs) : NewV base v := by
 rcases h.2 with ⟨rfl, -⟩ | ⟨g, cap, cur, rfl, hb, -⟩
 ·
  exact NewV.none _ _ _
 ·
  exact NewV.some _ _ _ _ _ hb
theorem Row.setCell_new {w : World} {v u : Value} {xs : List Value} {base g o : Nat} (h : Row w v xs) (hn : NewV base v) (hg : g < base) : Row (w.setCell ⟨g, o, .none⟩ u) v xs := by
 obtain ⟨a, cap, rfl, h1, h2, h3, h4⟩ := h
 refine ⟨_, _, rfl, h1, h2, h3, ?_⟩
 rcases h4 with rfl | ⟨b, off, rfl, hc⟩
 ·
  exact .inl rfl
 ·
  have hb := hn _ _ _ rfl
  simp only at hb
  refine .inr ⟨_, _, rfl, fun i hi => ?_⟩
  rw [← hc i hi]
  have hne : g ≠ b := by omega
  simp only [World.cell?, World.setCell, Array.getElem?_modify, hne, if_false]
set_option maxHeartbeats 400000 in
theorem size_any (n : Int) (w : World) (h0 : 0 ≤ n) (h1 : n ≤ 9223372036854775807) :
  Calls Try.prog 84 #[.int .i64 n] w fun e w' => e = .returned (.int .i64 ((n + 7) / 8)) ∧ w = w' := by
 by_cases h : n % 8 = 0
 ·
  have hb : (n % 8 == 0) = true := by simpa using h
  go_enter Try.func84, Try.ntmps84
  go_wp2
  go_ret
  exact ⟨ret_int (by omega), rfl⟩
 ·
  have hb : (n % 8 == 0) = false := by simpa using h
  go_enter Try.func84, Try.ntmps84
  go_wp2
  go_ret
  exact ⟨ret_int (by omega), rfl⟩
theorem or_word (x y : UInt8) : bits BinOp.or IntKind.u16 ((x.toNat : Int) * 256) (y.toNat : Int) = ((mkW x y).toNat : Int) := by
 have hx' := x.toNat_lt
 have hy' := y.toNat_lt
 rw [mkW_nat, show ((x.toNat : Int) * 256) = ((x.toNat * 256 : Nat) : Int) by omega, u16_or_nat _ _ (by omega) (by omega), nat_join 8 _ _ (by omega) (by omega)]
set_option maxHeartbeats 400000 in
theorem number_any (b off len cap : Nat) (n : Int) (i : Nat) (x y : UInt8) (w : World) (hn : n = (i : Int)) (hi : i + 1 < len) (hlc : len ≤ maxLen)
  (hx : w.cell? ⟨b, off + i, none⟩ = some (bV x)) (hy : w.cell? ⟨b, off + (i + 1), none⟩ = some (bV y)) :
  Calls Try.prog 89 #[.slice (some ⟨b, off, none⟩) len cap, .int .i64 n] w fun e w' => e = .returned (wV (mkW x y)) ∧ ∃ nq, w' = w.drewN nq := by
 subst hn
 have hx' := x.toNat_lt
 have hy' := y.toNat_lt
 unfold maxLen at hlc
 have h1 : (i : Int) < (len : Int) := by omega
 have h2 : (i : Int) + 1 < (len : Int) := by omega
 go_enter Try.func89, Try.ntmps89
 go_wp2
 go_quiet (fail)
 go_wp2
 go_ret
 exact ⟨ret_int (or_word x y), _, rfl⟩
set_option maxHeartbeats 400000 in
theorem lay_any (b off len cap : Nat) (n m : Int) (i : Nat) (x : UInt16) (u0 u1 : Value) (w : World) (hn : n = (i : Int)) (hm : m = (x.toNat : Int)) (hi : i + 1 < len) (hlc : len ≤ maxLen)
  (hx : w.cell? ⟨b, off + i, none⟩ = some u0) (hy : w.cell? ⟨b, off + (i + 1), none⟩ = some u1)
  (fx : w.frozen? ⟨b, off + i, none⟩ = false) (fy : w.frozen? ⟨b, off + (i + 1), none⟩ = false) :
  Calls Try.prog 85 #[.slice (some ⟨b, off, none⟩) len cap, .int .i64 n, .int .u16 m] w fun e w' => e = .returned (.tuple #[]) ∧ (w.setCell ⟨b, off + i, none⟩ (bV (hiB x))).setCell ⟨b, off + (i + 1), none⟩ (bV (loB x)) = w' := by
 subst hn hm
 have hx' := x.toNat_lt
 unfold maxLen at hlc
 have h1 : (i : Int) < (len : Int) := by omega
 have h2 : (i : Int) + 1 < (len : Int) := by omega
 have e1 : ((hiB x).toNat : Int) = (x.toNat : Int) / 256 := by rw [hiB_nat]; omega
 have e2 : ((loB x).toNat : Int) = (x.toNat : Int) % 256 := by rw [loB_nat]; omega
 have H1 := Hid.out e1
 have H2 := Hid.out e2
 clear e1 e2
 rw [bV, bV, H1, H2]
 clear H1 H2
 go_enter Try.func85, Try.ntmps85
 go_wp2
 go_end0
 exact ⟨rfl, rfl⟩
theorem lay_blk (g len cap : Nat) (n m : Int) (i : Nat) (x : UInt16) (w : World) (t : TypeId) (xs : List Value) (h : Blk w g t xs) (hl : len = xs.length) (hn : n = (i : Int)) (hm : m = (x.toNat : Int)) (hi : i + 1 < len) (hlc : len ≤ maxLen) :
  Calls Try.prog 85 #[.slice (some ⟨g, 0, none⟩) len cap, .int .i64 n, .int .u16 m] w fun e w' => e = .returned (.tuple #[]) ∧ Blk w' g t ((xs.set i (bV (hiB x))).set (i + 1) (bV (loB x))) ∧ Below g w w' := by
 obtain ⟨u0, c0⟩ := h.some (0 + i) (by omega)
 obtain ⟨u1, c1⟩ := h.some (0 + (i + 1)) (by omega)
 refine (lay_any g 0 len cap n m i x u0 u1 w hn hm hi hlc c0 c1 (h.frozen _) (h.frozen _)).mono ?_
 rintro e w2 ⟨rfl, rfl⟩
 refine ⟨rfl, ?_, ((Below.refl _ _).setCell (p := ⟨g, 0 + i, none⟩) (Nat.le_refl g) _).setCell (p := ⟨g, 0 + (i + 1), none⟩) (Nat.le_refl g) _⟩
 have := (h.set (0 + i) (bV (hiB x))).set (0 + (i + 1)) (bV (loB x))
 simpa using this
def getOk (bs : List UInt8) (n : Int) : Bool := decide (0 ≤ n ∧ n + 2 ≤ bs.length)
def getN (bs : List UInt8) (n : Int) : Int := if 0 ≤ n ∧ n + 2 ≤ bs.length then (mkW (bs.getD n.toNat 0) (bs.getD (n.toNat + 1) 0)).toNat else 0
set_option maxHeartbeats 400000 in
theorem get_any (v : Value) (bs : List UInt8) (n : Int) (w : World) (hn : -9223372036854775808 ≤ n ∧ n ≤ 9223372036854775807) (hv : Row w v (bs.map bV)) :
  Calls Try.prog 87 #[v, .int .i64 n] w fun e w' => e = .returned (.tuple #[.int .i64 (getN bs n), .bool (getOk bs n)]) ∧ ∃ nq, w' = w.drewN nq := by
 obtain ⟨a, cap, rfl, -⟩ := id hv
 obtain ⟨hl, hc, hm, hcell⟩ := hv.at
 simp only [List.length_map] at hl hc ⊢
 by_cases h : 0 ≤ n ∧ n + 2 ≤ bs.length
 ·
  obtain ⟨b, off, rfl, hcl⟩ := hcell n.toNat 0 (by simp; omega)
  have hm' : bs.length ≤ maxLen := by omega
  have c0 := hcl n.toNat (by simp; omega)
  have c1 := hcl (n.toNat + 1) (by simp; omega)
  have ok : getOk bs n = true := by simp [getOk]; omega
  have gn : getN bs n = (mkW (bs.getD n.toNat 0) (bs.getD (n.toNat + 1) 0)).toNat := by simp [getN, h]
  rw [ok, gn]
  obtain ⟨g1, g2⟩ := h
  clear hcell hcl hv ok gn
  unfold maxLen at hm hm'
  have hmx := hm'
  generalize bs.getD n.toNat 0 = x at *
  generalize bs.getD (n.toNat + 1) 0 = y at *
  have hw := (mkW x y).toNat_lt
  have t1 : ¬ n < 0 := by omega
  have t2 : ¬ (bs.length : Int) - 2 < n := by omega
  go_enter Try.func87, Try.ntmps87
  go_wp2_with (go_at_call 89; refine (number_any b off _ _ n n.toNat x y _ (by omega) (by omega) (by unfold maxLen; omega) c0 c1).mono ?_; rintro e w' ⟨rfl, nq, rfl⟩)
  go_ret2
  exact ⟨rfl, nq, rfl⟩
 ·
  have ok : getOk bs n = false := by simp [getOk]; omega
  have gn : getN bs n = 0 := by simp [getN]; omega
  rw [ok, gn]
  clear hcell hv ok gn
  unfold maxLen at hm
  have hmx : bs.length ≤ 9223372036854775807 := by omega
  by_cases t1 : n < 0
  ·
   go_enter Try.func87, Try.ntmps87
   go_wp2
   go_ret2
   exact ⟨rfl, 0, rfl⟩
  ·
   have t2 : (bs.length : Int) - 2 < n := by omega
   go_enter Try.func87, Try.ntmps87
   go_wp2
   go_ret2
   exact ⟨rfl, 0, rfl⟩
end Go.Proofs.Ytdihcdphgiaepaa
namespace Go.Proofs.Ytdihcdphgiaepaa
open Go.RowKit
theorem info_u16 : (Try.prog.info? 24).map (fun i => (i.zero, i.size, i.bytes)) = some (some (.int .u16 0), 1, 2) := by kernel_rfl
set_option maxHeartbeats 400000 in
theorem put_any (v : Value) (bs : List UInt8) (n : Int) (w : World) (_hn : -9223372036854775808 ≤ n ∧ n ≤ 9223372036854775807) (hv : Row w v (bs.map bV)) (hr : bs.length ≤ 140737488351232) :
  Calls Try.prog 64 #[v, .int .i64 n] w fun e w' => ∃ v', e = .returned v' ∧ Row w' v' ((bs ++ [hiB (wOf n), loB (wOf n)]).map bV) ∧ Below w.heap.size w w' := by
 obtain ⟨a, cap, rfl, -⟩ := id hv
 obtain ⟨hl, hc, hm, -⟩ := hv.at
 simp only [List.length_map] at hl hc hv ⊢
 have hmk := mk_zer 28 5 (.int .u8 0) 1 Try.underlying28 info_u8 rfl ((bs.length : Int) + 2) (bs.length + 2) (by omega) (by omega) (by omega)
 have hb0 : Below w.heap.size w (w.alloc (.cells (zer (bs.length + 2) (.int .u8 0)) 5)) := (Below.refl _ _).alloc (Nat.le_refl _) _
 have hg0 := zer_blk w (bs.length + 2) (.int .u8 0) 5
 obtain ⟨w1, hrun, hg1, hb1⟩ := copy_run (P := Try.prog) hb0 28 28 3 5 Try.underlying28 (by kernel_rfl) w.heap.size 0 (bs.length + 2) (bs.length + 2) a bs.length cap _ _ hg0 (Nat.le_refl _) (bs.map bV) (hv.below hb0) (one_bytes bs) (by simp)
 have hg3 : Blk w1 w.heap.size 5 (bs.map bV ++ [.int .u8 0, .int .u8 0]) := by
  have e : splice (List.replicate (bs.length + 2) (Value.int .u8 0)) 0 ((bs.map bV).take (bs.length + 2)) = bs.map bV ++ [.int .u8 0, .int .u8 0] := by
   rw [List.take_of_length_le (by simp)]
   simp [splice, List.drop_replicate]
  rw [← e]; exact hg1
 clear hg1 hg0 hb0 hv
 go_enter Try.func64, Try.ntmps64
 go_wp2_with fail
 refine (lay_blk w.heap.size (bs.length + 2) (bs.length + 2) _ _ bs.length (wOf n) w1 _ _ hg3 (by simp) rfl (by rw [wOf_nat, IntKind.wrap_u16]) (by omega) (by unfold maxLen; omega)).mono ?_
 rintro e w2 ⟨rfl, hg4, hb4⟩
 go_wp2
 go_ret
 have e2 : ((bs.map bV ++ [Value.int .u8 0, .int .u8 0]).set bs.length (bV (hiB (wOf n)))).set (bs.length + 1) (bV (loB (wOf n))) = (bs ++ [hiB (wOf n), loB (wOf n)]).map bV := by
  simp
 rw [e2] at hg4
 refine ⟨_, rfl, ?_, ?_⟩
 ·
  have := hg4.row (bs.length + 2) (by simp) (by unfold maxLen; omega)
  simpa using this
 ·
  exact hb1.trans hb4
theorem bytes_step (l : List UInt16) (k : Nat) (h : k < l.length) :
  (((bytesL (l.take k)).map bV ++ List.replicate (2 * (l.length - k)) (Value.int .u8 0)).set (2 * k) (bV (hiB (l.getD k 0)))).set (2 * k + 1) (bV (loB (l.getD k 0))) =
   (bytesL (l.take (k + 1))).map bV ++ List.replicate (2 * (l.length - (k + 1))) (Value.int .u8 0) := by
 have e1 : (bytesL (l.take k)).length = 2 * k := by rw [bytesL_len, List.length_take]; omega
 have e2 : 2 * (l.length - k) = 2 * (l.length - (k + 1)) + 1 + 1 := by omega
 rw [bytesL_take_succ l k h, e2, List.replicate_succ, List.replicate_succ]
 have e3 : l.getD k 0 = l[k] := by simp [h]
 rw [e3]
 simp [e1]
set_option maxHeartbeats 400000 in
theorem bytes_any (v : Value) (l : List UInt16) (w : World) (hv : Row w v (l.map wV)) (hr : l.length * 2 ≤ 140737488351232) :
  Calls Try.prog 63 #[v] w fun e w' => ∃ v', e = .returned v' ∧ Row w' v' ((bytesL l).map bV) ∧ Below w.heap.size w w' := by
 obtain ⟨a, cap, rfl, -⟩ := id hv
 obtain ⟨hl, hc, hm, -⟩ := hv.at
 simp only [List.length_map] at hl hc hv ⊢
 have hmk := mk_zer 28 5 (.int .u8 0) 1 Try.underlying28 info_u8 rfl (2 * (l.length : Int)) (2 * l.length) (by omega) (by omega) (by omega)
 have hb0 : Below w.heap.size w (w.alloc (.cells (zer (2 * l.length) (.int .u8 0)) 5)) := (Below.refl _ _).alloc (Nat.le_refl _) _
 have hg0 := zer_blk w (2 * l.length) (.int .u8 0) 5
 go_enter Try.func63, Try.ntmps63
 go_wp2_with fail
 go_loopw [12] (fun i wr => ∃ k : Nat, k ≤ l.length ∧ i = .int .i64 k ∧ Blk wr w.heap.size 5 ((bytesL (l.take k)).map bV ++ List.replicate (2 * (l.length - k)) (.int .u8 0)) ∧ Below w.heap.size w wr) (fun i _ => l.length - (intOf i).toNat)
 case atStart => exact ⟨0, Nat.zero_le _, rfl, by simpa [bytesL] using hg0, hb0⟩
 case round =>
  obtain ⟨k, hk, rfl, hg, hb⟩ := hrel
  clear hmk hb0 hg0
  by_cases hlt : k < l.length
  ·
   obtain ⟨-, -, -, hcell⟩ := (hv.below hb).at
   obtain ⟨b, off, rfl, hcl⟩ := hcell k 0 hlt
   have cx := hcl k hlt
   clear hcl hcell hv
   have S : Hid _ := bytes_step l k hlt
   generalize l.getD k 0 = x at *
   go_wp2_with fail
   refine (lay_blk w.heap.size (2 * l.length) (2 * l.length) _ _ (2 * k) x wr _ _ hg (by simp [bytesL_len]; omega) (by omega) rfl (by omega) (by unfold maxLen; omega)).mono ?_
   rintro e w2 ⟨rfl, hg4, hb4⟩
   rw [S.out] at hg4
   clear S hg
   go_wp2
   go_roundw
   case rel => exact ⟨k + 1, by omega, by go_num, hg4, hb.trans hb4⟩
   case measure => simp [intOf]; omega
  ·
   have : k = l.length := by omega
   subst this
   go_wp2
   go_ret
   simp at hg
   refine ⟨_, rfl, ?_, hb⟩
   have := hg.row (2 * l.length) (by simp [bytesL_len]) (by unfold maxLen; omega)
   simpa [bytesL_len] using this
end Go.Proofs.Ytdihcdphgiaepaa
