/- Contracts of octet.blank, Open. -/
import Derived.Test.YtdihcdphgiaepaaGreatZZ1
import Derived.RegionTactic
import Derived.BigRegion
set_option maxHeartbeats 1000000
namespace Go.Proofs.YtdihcdphgiaepaaGreat
open Go.RowKit
def NewV (base : Nat) (v : Value) : Prop := ∀ a n c, v = .slice (some a) n c → base ≤ a.block
theorem NewV.none (base n c : Nat) : NewV base (.slice .none n c) := fun _ _ _ h => by cases h
theorem NewV.some (base g o n c : Nat) (h : base ≤ g) : NewV base (.slice (some ⟨g, o, .none⟩) n c) := fun _ _ _ e => by
 simp only [Value.slice.injEq, Option.some.injEq] at e;rw [← e.1]; exact h
theorem NewV.le {base base' : Nat} {v : Value} (h : NewV base v) (hb : base' ≤ base) : NewV base' v := fun a n c e => Nat.le_trans hb (h a n c e)
theorem NewV.of_owns {w : World} {base : Nat} {e : TypeId} {v : Value} {n : Nat} {xs : List Value} (h : w.ownsRow base e 1 v n xs) : NewV base v := by
 rcases h.2 with ⟨rfl, -⟩ | ⟨g, cap, cur, rfl, hb, -⟩
 ·
  exact NewV.none _ _ _
 ·
  exact NewV.some _ _ _ _ _ hb
theorem Row.setCell_new {w : World} {v u : Value} {xs : List Value} {base g o : Nat} (h : Row w v xs) (hn : NewV base v) (hg : g < base) : Row (w.setCell ⟨g, o, .none⟩ u) v xs := by
 obtain ⟨a, cap, rfl, h1, h2, h3, h4⟩ := h;refine ⟨_, _, rfl, h1, h2, h3, ?_⟩;rcases h4 with rfl | ⟨b, off, rfl, hc⟩
 ·
  exact .inl rfl
 ·
  have hb := hn _ _ _ rfl;simp only at hb;refine .inr ⟨_, _, rfl, fun i hi => ?_⟩;rw [← hc i hi];have hne : g ≠ b := by omega
  simp only [World.cell?, World.setCell, Array.getElem?_modify, hne, if_false]
theorem size_any (n : Int) (w : World) (h0 : 0 ≤ n) (h1 : n ≤ 9223372036854775807) :
  Calls Tryz.prog 121 #[J n] w fun e w' => e = .returned (J ((n + 7) / 8)) ∧ w = w' := by
 by_cases h : n % 8 = 0
 ·
  have hb : (n % 8 == 0) = true := by simpa using h
  go_enter Tryz.func121, Tryz.ntmps121;go_wp2;go_ret;exact ⟨ret_int (by omega), rfl⟩
 ·
  have hb : (n % 8 == 0) = false := by simpa using h
  go_enter Tryz.func121, Tryz.ntmps121;go_wp2;go_ret;exact ⟨ret_int (by omega), rfl⟩
theorem or_word (x y : UInt8) : bits BinOp.or IntKind.u16 ((x.toNat : Int) * 256) (y.toNat : Int) = ((mkW x y).toNat : Int) := by
 have hx' := x.toNat_lt;have hy' := y.toNat_lt;rw [mkW_nat, show ((x.toNat : Int) * 256) = ((x.toNat * 256 : Nat) : Int) by omega, u16_or_nat _ _ (by omega) (by omega), nat_join 8 _ _ (by omega) (by omega)]
theorem number_any (b off len cap : Nat) (n : Int) (i : Nat) (x y : UInt8) (w : World) (hn : n = (i : Int)) (hi : i + 1 < len) (hlc : len ≤ maxLen)
  (hx : w.cell? ⟨b, off + i, none⟩ = some (bV x)) (hy : w.cell? ⟨b, off + (i + 1), none⟩ = some (bV y)) :
  Calls Tryz.prog 133 #[.slice (some ⟨b, off, none⟩) len cap, J n] w fun e w' => e = .returned (wV (mkW x y)) ∧ ∃ nq, w' = w.drewN nq := by
 subst hn;have hx' := x.toNat_lt;have hy' := y.toNat_lt;unfold maxLen at hlc;have h1 : (i : Int) < (len : Int) := by omega
 have h2 : (i : Int) + 1 < (len : Int) := by omega
 go_enter Tryz.func133, Tryz.ntmps133;go_wp2;go_quiet (fail)
 go_wp2;go_ret;exact ⟨ret_int (or_word x y), _, rfl⟩
theorem lay_any (b off len cap : Nat) (n m : Int) (i : Nat) (x : UInt16) (u0 u1 : Value) (w : World) (hn : n = (i : Int)) (hm : m = (x.toNat : Int)) (hi : i + 1 < len) (hlc : len ≤ maxLen)
  (hx : w.cell? ⟨b, off + i, none⟩ = some u0) (hy : w.cell? ⟨b, off + (i + 1), none⟩ = some u1)
  (fx : w.frozen? ⟨b, off + i, none⟩ = false) (fy : w.frozen? ⟨b, off + (i + 1), none⟩ = false) :
  Calls Tryz.prog 122 #[.slice (some ⟨b, off, none⟩) len cap, J n, U m] w fun e w' => e = .returned (.tuple #[]) ∧ (w.setCell ⟨b, off + i, none⟩ (bV (hiB x))).setCell ⟨b, off + (i + 1), none⟩ (bV (loB x)) = w' := by
 subst hn hm;have hx' := x.toNat_lt;unfold maxLen at hlc;have h1 : (i : Int) < (len : Int) := by omega
 have h2 : (i : Int) + 1 < (len : Int) := by omega
 have e1 : ((hiB x).toNat : Int) = (x.toNat : Int) / 256 := by rw [hiB_nat]; omega
 have e2 : ((loB x).toNat : Int) = (x.toNat : Int) % 256 := by rw [loB_nat]; omega
 have H1 := Hid.out e1;have H2 := Hid.out e2;clear e1 e2;rw [bV, bV, H1, H2];clear H1 H2;go_enter Tryz.func122, Tryz.ntmps122;go_wp2;go_end0
 exact ⟨rfl, rfl⟩
theorem lay_blk (g len cap : Nat) (n m : Int) (i : Nat) (x : UInt16) (w : World) (t : TypeId) (xs : List Value) (h : Blk w g t xs) (hl : len = xs.length) (hn : n = (i : Int)) (hm : m = (x.toNat : Int)) (hi : i + 1 < len) (hlc : len ≤ maxLen) :
  Calls Tryz.prog 122 #[.slice (some ⟨g, 0, none⟩) len cap, J n, U m] w fun e w' => e = .returned (.tuple #[]) ∧ Blk w' g t ((xs.set i (bV (hiB x))).set (i + 1) (bV (loB x))) ∧ Below g w w' := by
 obtain ⟨u0, c0⟩ := h.some (0 + i) (by omega);obtain ⟨u1, c1⟩ := h.some (0 + (i + 1)) (by omega);refine (lay_any g 0 len cap n m i x u0 u1 w hn hm hi hlc c0 c1 (h.frozen _) (h.frozen _)).mono ?_;rintro e w2 ⟨rfl, rfl⟩;refine ⟨rfl, ?_, ((Below.refl _ _).setCell (p := ⟨g, 0 + i, none⟩) (Nat.le_refl g) _).setCell (p := ⟨g, 0 + (i + 1), none⟩) (Nat.le_refl g) _⟩;have := (h.set (0 + i) (bV (hiB x))).set (0 + (i + 1)) (bV (loB x))
 simpa using this
def getOk (bs : List UInt8) (n : Int) : Bool := decide (0 ≤ n ∧ n + 2 ≤ bs.length)
def getN (bs : List UInt8) (n : Int) : Int := if 0 ≤ n ∧ n + 2 ≤ bs.length then (mkW (bs.getD n.toNat 0) (bs.getD (n.toNat + 1) 0)).toNat else 0
theorem get_any (v : Value) (bs : List UInt8) (n : Int) (w : World) (hn : -9223372036854775808 ≤ n ∧ n ≤ 9223372036854775807) (hv : Row w v (bs.map bV)) :
  Calls Tryz.prog 131 #[v, J n] w fun e w' => e = .returned (.tuple #[J (getN bs n), .bool (getOk bs n)]) ∧ ∃ nq, w' = w.drewN nq := by
 obtain ⟨a, cap, rfl, -⟩ := id hv;obtain ⟨hl, hc, hm, hcell⟩ := hv.at;simp only [List.length_map] at hl hc ⊢;by_cases h : 0 ≤ n ∧ n + 2 ≤ bs.length
 ·
  obtain ⟨b, off, rfl, hcl⟩ := hcell n.toNat 0 (by simp; omega);have hm' : bs.length ≤ maxLen := by omega
  have c0 := hcl n.toNat (by simp; omega);have c1 := hcl (n.toNat + 1) (by simp; omega);have ok : getOk bs n = true := by simp [getOk]; omega
  have gn : getN bs n = (mkW (bs.getD n.toNat 0) (bs.getD (n.toNat + 1) 0)).toNat := by simp [getN, h]
  rw [ok, gn];obtain ⟨g1, g2⟩ := h;clear hcell hcl hv ok gn;unfold maxLen at hm hm';have hmx := hm';generalize bs.getD n.toNat 0 = x at *;generalize bs.getD (n.toNat + 1) 0 = y at *;have hw := (mkW x y).toNat_lt;have t1 : ¬ n < 0 := by omega
  have t2 : ¬ (bs.length : Int) - 2 < n := by omega
  go_enter Tryz.func131, Tryz.ntmps131;go_wp2_with (go_at_call 133; refine (number_any b off _ _ n n.toNat x y _ (by omega) (by omega) (by unfold maxLen; omega) c0 c1).mono ?_; rintro e w' ⟨rfl, nq, rfl⟩)
  go_ret2
  exact ⟨rfl, nq, rfl⟩
 ·
  have ok : getOk bs n = false := by simp [getOk]; omega
  have gn : getN bs n = 0 := by simp [getN]; omega
  rw [ok, gn];clear hcell hv ok gn;unfold maxLen at hm;have hmx : bs.length ≤ 9223372036854775807 := by omega
  by_cases t1 : n < 0
  ·
   go_enter Tryz.func131, Tryz.ntmps131;go_wp2;go_ret2
   exact ⟨rfl, 0, rfl⟩
  ·
   have t2 : (bs.length : Int) - 2 < n := by omega
   go_enter Tryz.func131, Tryz.ntmps131;go_wp2;go_ret2
   exact ⟨rfl, 0, rfl⟩
theorem info_u16 : (Tryz.prog.info? 31).map (fun i => (i.zero, i.size, i.bytes)) = some (some (U 0), 1, 2) := by kernel_rfl
theorem put_any (v : Value) (bs : List UInt8) (n : Int) (w : World) (_hn : -9223372036854775808 ≤ n ∧ n ≤ 9223372036854775807) (hv : Row w v (bs.map bV)) (hr : bs.length ≤ 140737488351232) :
  Calls Tryz.prog 84 #[v, J n] w fun e w' => ∃ v', e = .returned v' ∧ Row w' v' ((bs ++ [hiB (wOf n), loB (wOf n)]).map bV) ∧ Bo w w' := by
 obtain ⟨a, cap, rfl, -⟩ := id hv;obtain ⟨hl, hc, hm, -⟩ := hv.at;simp only [List.length_map] at hl hc hv ⊢;have hmk := mk_zer 27 5 (.int .u8 0) 1 Tryz.underlying27 info_u8 rfl ((bs.length : Int) + 2) (bs.length + 2) (by omega) (by omega) (by omega);have hb0 : Bo w (w.alloc (.cells (zer (bs.length + 2) (.int .u8 0)) 5)) := aL _ _;have hg0 := zer_blk w (bs.length + 2) (.int .u8 0) 5;obtain ⟨w1, hrun, hg1, hb1⟩ := copy_run (P := Tryz.prog) hb0 27 27 3 5 Tryz.underlying27 (by kernel_rfl) w.heap.size 0 (bs.length + 2) (bs.length + 2) a bs.length cap _ _ hg0 (Nat.le_refl _) (bs.map bV) (hv.below hb0) (one_bytes bs) (by simp);have hg3 : Blk w1 w.heap.size 5 (bs.map bV ++ [.int .u8 0, .int .u8 0]) := by
  have e : splice (List.replicate (bs.length + 2) (Value.int .u8 0)) 0 ((bs.map bV).take (bs.length + 2)) = bs.map bV ++ [.int .u8 0, .int .u8 0] := by
   rw [List.take_of_length_le (by simp)];simp [splice, List.drop_replicate]
  rw [← e]; exact hg1
 clear hg1 hg0 hb0 hv;go_enter Tryz.func84, Tryz.ntmps84;go_wp2_with fail
 refine (lay_blk w.heap.size (bs.length + 2) (bs.length + 2) _ _ bs.length (wOf n) w1 _ _ hg3 (by simp) rfl (by rw [wOf_nat, IntKind.wrap_u16]) (by omega) (by unfold maxLen; omega)).mono ?_;rintro e w2 ⟨rfl, hg4, hb4⟩;go_wp2;go_ret;have e2 : ((bs.map bV ++ [Value.int .u8 0, .int .u8 0]).set bs.length (bV (hiB (wOf n)))).set (bs.length + 1) (bV (loB (wOf n))) = (bs ++ [hiB (wOf n), loB (wOf n)]).map bV := by
  simp
 rw [e2] at hg4;refine ⟨_, rfl, ?_, ?_⟩
 ·
  have := hg4.row (bs.length + 2) (by simp) (by unfold maxLen; omega)
  simpa using this
 ·
  exact hb1.trans hb4
theorem bytes_step (l : List UInt16) (k : Nat) (h : k < l.length) :
  (((bytesL (l.take k)).map bV ++ List.replicate (2 * (l.length - k)) (Value.int .u8 0)).set (2 * k) (bV (hiB (l.getD k 0)))).set (2 * k + 1) (bV (loB (l.getD k 0))) =
   (bytesL (l.take (k + 1))).map bV ++ List.replicate (2 * (l.length - (k + 1))) (Value.int .u8 0) := by
 have e1 : (bytesL (l.take k)).length = 2 * k := by rw [bytesL_len, List.length_take]; omega
 have e2 : 2 * (l.length - k) = 2 * (l.length - (k + 1)) + 1 + 1 := by omega
 rw [bytesL_take_succ l k h, e2, List.replicate_succ, List.replicate_succ];have e3 : l.getD k 0 = l[k] := by simp [h]
 rw [e3];simp [e1]
theorem bytes_any (v : Value) (l : List UInt16) (w : World) (hv : Row w v (l.map wV)) (hr : l.length * 2 ≤ 140737488351232) :
  Calls Tryz.prog 83 #[v] w fun e w' => ∃ v', e = .returned v' ∧ Row w' v' ((bytesL l).map bV) ∧ Bo w w' := by
 obtain ⟨a, cap, rfl, -⟩ := id hv;obtain ⟨hl, hc, hm, -⟩ := hv.at;simp only [List.length_map] at hl hc hv ⊢;have hmk := mk_zer 27 5 (.int .u8 0) 1 Tryz.underlying27 info_u8 rfl (2 * (l.length : Int)) (2 * l.length) (by omega) (by omega) (by omega);have hb0 : Bo w (w.alloc (.cells (zer (2 * l.length) (.int .u8 0)) 5)) := aL _ _;have hg0 := zer_blk w (2 * l.length) (.int .u8 0) 5;go_enter Tryz.func83, Tryz.ntmps83;go_wp2_with fail
 go_loopw [12] (fun i wr => ∃ k : Nat, k ≤ l.length ∧ i = J k ∧ Blk wr w.heap.size 5 ((bytesL (l.take k)).map bV ++ List.replicate (2 * (l.length - k)) (.int .u8 0)) ∧ Bo w wr) (fun i _ => l.length - (intOf i).toNat)
 case atStart => exact ⟨0, Nat.zero_le _, rfl, by simpa [bytesL] using hg0, hb0⟩
 case round =>
  obtain ⟨k, hk, rfl, hg, hb⟩ := hrel;clear hmk hb0 hg0;by_cases hlt : k < l.length
  ·
   obtain ⟨-, -, -, hcell⟩ := (hv.below hb).at;obtain ⟨b, off, rfl, hcl⟩ := hcell k 0 hlt;have cx := hcl k hlt;clear hcl hcell hv;have S : Hid _ := bytes_step l k hlt;generalize l.getD k 0 = x at *;go_wp2_with fail
   refine (lay_blk w.heap.size (2 * l.length) (2 * l.length) _ _ (2 * k) x wr _ _ hg (by simp [bytesL_len]; omega) (by omega) rfl (by omega) (by unfold maxLen; omega)).mono ?_;rintro e w2 ⟨rfl, hg4, hb4⟩;rw [S.out] at hg4;clear S hg;go_wp2;go_roundw
   case rel => exact ⟨k + 1, by omega, by go_num, hg4, hb.trans hb4⟩
   case measure => simp [intOf]; omega
  ·
   have : k = l.length := by omega
   subst this;go_wp2;go_ret;simp at hg;refine ⟨_, rfl, ?_, hb⟩;have := hg.row (2 * l.length) (by simp [bytesL_len]) (by unfold maxLen; omega)
   simpa [bytesL_len] using this
def wordsR (bs : List UInt8) : List UInt16 := if bs.length % 2 = 0 then wordsL bs else []
theorem words_step (bs : List UInt8) (k : Nat) (h : k < bs.length / 2) :
  (((wordsL bs).take k).map wV ++ List.replicate (bs.length / 2 - k) (U 0)).set k (wV (mkW (bs.getD (2 * k) 0) (bs.getD (2 * k + 1) 0))) =
   ((wordsL bs).take (k + 1)).map wV ++ List.replicate (bs.length / 2 - (k + 1)) (U 0) := by
 have hl := wordsL_len bs;have e1 : (((wordsL bs).take k).map wV).length = k := by simp; omega
 have e2 : bs.length / 2 - k = (bs.length / 2 - (k + 1)) + 1 := by omega
 have e3 : (wordsL bs)[k]'(by omega) = mkW (bs.getD (2 * k) 0) (bs.getD (2 * k + 1) 0) := by
  simp only [wordsL_eq, List.getElem_map, List.getElem_range]
 rw [List.take_succ_eq_append_getElem (by omega), e3, e2, List.replicate_succ, List.set_append];rw [e1];simp
theorem words_any (v : Value) (bs : List UInt8) (w : World) (hv : Row w v (bs.map bV)) (hr : bs.length ≤ 140737488351232) :
  Calls Tryz.prog 110 #[v] w fun e w' => ∃ v', e = .returned (.tuple #[v', .bool (bs.length % 2 == 0)]) ∧ Row w' v' ((wordsR bs).map wV) ∧ Bo w w' ∧ NewV w.heap.size v' := by
 obtain ⟨a, cap, rfl, -⟩ := id hv;obtain ⟨hl, hc, hm, -⟩ := hv.at;simp only [List.length_map] at hl hc hv ⊢;unfold wordsR;by_cases hodd : bs.length % 2 = 0
 ·
  rw [if_pos hodd, beq_iff_eq.2 hodd];have ht : ((bs.length : Int) % 2 != 0) = false := by simp; omega
  have HO : Hid (bs.length % 2 = 0) := hodd;clear hodd;have hmk := mk_zer 30 31 (U 0) 2 Tryz.underlying30 info_u16 rfl ((bs.length : Int) / 2) (bs.length / 2) (by omega) (by omega) (by omega);have hb0 : Bo w (w.alloc (.cells (zer (bs.length / 2) (U 0)) 31)) := aL _ _;have hg0 := zer_blk w (bs.length / 2) (U 0) 31;go_enter Tryz.func110, Tryz.ntmps110;go_wp2_with fail
  go_loopw [16] (fun i wr => ∃ k : Nat, k ≤ bs.length / 2 ∧ i = J k ∧ Blk wr w.heap.size 31 (((wordsL bs).take k).map wV ++ List.replicate (bs.length / 2 - k) (U 0)) ∧ Bo w wr) (fun i _ => bs.length / 2 - (intOf i).toNat)
  case atStart => exact ⟨0, Nat.zero_le _, rfl, by simpa using hg0, hb0⟩
  case round =>
   obtain ⟨k, hk, rfl, hg, hb⟩ := hrel;clear hmk hb0 hg0;by_cases hlt : k < bs.length / 2
   ·
    obtain ⟨-, -, -, hcell⟩ := (hv.below hb).at;obtain ⟨b, off, rfl, hcl⟩ := hcell (2 * k) 0 (by omega);have c0 := hcl (2 * k) (by omega);have c1 := hcl (2 * k + 1) (by omega);clear hcl hcell hv;have S : Hid _ := words_step bs k hlt;generalize bs.getD (2 * k) 0 = x at *;generalize bs.getD (2 * k + 1) 0 = y at *;obtain ⟨u, cu⟩ := hg.some k (by simp [wordsL_len]; omega);have fu := hg.frozen k;have hlt' : (k : Int) < ((bs.length / 2 : Nat) : Int) := by omega
    go_wp2_with (go_at_call 133; refine (number_any b off _ _ _ (2 * k) x y _ (by omega) (by omega) (by unfold maxLen; omega) c0 c1).mono ?_; rintro e w' ⟨rfl, nq, rfl⟩)
    go_roundw
    case rel =>
     have hg4 := (hg.drewN nq).set k (wV (mkW x y));rw [S.out] at hg4;refine ⟨k + 1, by omega, by go_num, hg4, ?_⟩;exact (below_drewn hb nq).setCell (p := ⟨w.heap.size, k, none⟩) (Nat.le_refl _) _
    case measure => simp [intOf]; omega
   ·
    have : k = bs.length / 2 := by omega
    subst this;go_wp2;go_ret2
    refine ⟨_, rfl, ?_, hb, NewV.some _ _ _ _ _ (Nat.le_refl _)⟩;rw [List.take_of_length_le (by rw [wordsL_len]; omega), Nat.sub_self] at hg;simp at hg;have := hg.row (bs.length / 2) (by simp [wordsL_len]) (by unfold maxLen; omega)
    simpa [wordsL_len] using this
 ·
  have hb : (bs.length % 2 == 0) = false := by simpa using hodd
  rw [if_neg hodd, hb];have ht : ((bs.length : Int) % 2 != 0) = true := by simp; omega
  clear hodd hb hv;go_enter Tryz.func110, Tryz.ntmps110;go_wp2;go_ret2
  exact ⟨_, rfl, Row.nil _, Below.refl _ _, NewV.none _ _ _⟩
theorem pack_step (l : List Bool) (n k : Nat) (hk : k < l.length) (_hn : k / 8 < n) :
  ((List.range n).map fun j => bV (packB (l.take (k + 1)) j)) = if l[k] then ((List.range n).map fun j => bV (packB (l.take k) j)).set (k / 8) (.int .u8 (((packB (l.take k) (k / 8)).toNat ||| 2 ^ (k % 8) : Nat) : Int)) else ((List.range n).map fun j => bV (packB (l.take k) j)) := by
 apply List.ext_getElem
 ·
  split <;> simp
 ·
  intro i h1 h2;have hs := packB_step l k i hk
  split
  ·
   rename_i hx
   rw [List.getElem_set];simp only [List.getElem_map, List.getElem_range, bV, hs];by_cases hi : k / 8 = i
   ·
    subst hi; simp [hx]
   ·
    rw [if_neg hi, if_neg (by intro h; exact hi h.1.symm)]
  ·
   rename_i hx
   simp only [List.getElem_map, List.getElem_range, bV, hs];rw [if_neg (by intro h; exact hx h.2)]
theorem or_bit (y : UInt8) (k : Nat) : bits BinOp.or IntKind.u8 (y.toNat : Int) ((2 : Int) ^ (k % 8) % 256) = ((y.toNat ||| 2 ^ (k % 8) : Nat) : Int) := by
 have h := pow8 (k % 8) (by omega);rw [h.1, u8_or_nat _ _ y.toNat_lt h.2]
theorem pack_any (v : Value) (l : List Bool) (w : World) (hv : Row w v (l.map Value.bool)) (hr : l.length ≤ 140737488351232) :
  Calls Tryz.prog 82 #[v] w fun e w' => ∃ v', e = .returned v' ∧ Row w' v' ((packL l).map bV) ∧ Bo w w' := by
 obtain ⟨a, cap, rfl, -⟩ := id hv;obtain ⟨hl, hc, hm, -⟩ := hv.at;simp only [List.length_map] at hl hc hv ⊢;have hmk := mk_zer 27 5 (.int .u8 0) 1 Tryz.underlying27 info_u8 rfl (((l.length : Int) + 7) / 8) ((l.length + 7) / 8) (by omega) (by omega) (by omega);have hb0 : Bo w (w.alloc (.cells (zer ((l.length + 7) / 8) (.int .u8 0)) 5)) := aL _ _;have hg0 := zer_blk w ((l.length + 7) / 8) (.int .u8 0) 5;go_enter Tryz.func82, Tryz.ntmps82;go_wp2_with (go_at_call 121; refine (size_any _ _ (by omega) (by omega)).mono ?_; rintro e w' ⟨rfl, rfl⟩)
 go_loopw [12] (fun i wr => ∃ k : Nat, k ≤ l.length ∧ i = J k ∧ Blk wr w.heap.size 5 ((List.range ((l.length + 7) / 8)).map fun j => bV (packB (l.take k) j)) ∧ Bo w wr) (fun i _ => l.length - (intOf i).toNat)
 case atStart =>
  refine ⟨0, Nat.zero_le _, rfl, ?_, hb0⟩;have e : ((List.range ((l.length + 7) / 8)).map fun j => bV (packB (l.take 0) j)) = List.replicate ((l.length + 7) / 8) (.int .u8 0) := by
   apply List.ext_getElem
   ·
    simp
   ·
    intro i h1 h2;simp [bV, packB_nat, ofBits]
  rw [e]; exact hg0
 case round =>
  obtain ⟨k, hk, rfl, hg, hb⟩ := hrel;clear hmk hb0 hg0;by_cases hlt : k < l.length
  ·
   obtain ⟨-, -, -, hcell⟩ := (hv.below hb).at;obtain ⟨b, off, rfl, hcl⟩ := hcell k false hlt;have c0 := hcl k hlt;clear hcl hcell hv;have S : Hid _ := pack_step l ((l.length + 7) / 8) k hlt (by omega);have ex : l.getD k false = l[k] := by simp [hlt]
   rw [ex] at c0;clear ex;generalize l[k] = x at *;have hsz : (k / 8 : Nat) < ((List.range ((l.length + 7) / 8)).map fun j => bV (packB (l.take k) j)).length := by simp; omega
   have cu := hg.cell (k / 8);rw [List.getElem?_eq_getElem hsz] at cu;simp only [List.getElem_map, List.getElem_range] at cu;have fu := hg.frozen (k / 8);generalize packB (l.take k) (k / 8) = y at *;have hy := y.toNat_lt;have hlt' : (k : Int) / 8 < (((l.length + 7) / 8 : Nat) : Int) := by omega
   cases x
   ·
    go_wp2;go_roundw
    case rel =>
     have S' := S.out;rw [if_neg (by simp)] at S';exact ⟨k + 1, by omega, by go_num, by rw [S']; exact hg, hb⟩
    case measure => simp [intOf]; omega
   ·
    go_wp2;go_region
    go_wp2;go_roundw
    case rel =>
     have S' := S.out;rw [if_pos trivial] at S';refine ⟨k + 1, by omega, by go_num, ?_, ?_⟩
     ·
      rw [or_bit, S'];exact (hg.set (k / 8) _).drew
     ·
      exact (hb.setCell (p := ⟨w.heap.size, k / 8, none⟩) (Nat.le_refl _) _).drew
    case measure => simp [intOf]; omega
  ·
   have : k = l.length := by omega
   subst this;go_wp2;go_ret;refine ⟨_, rfl, ?_, hb⟩;rw [List.take_length] at hg;have e : ((List.range ((l.length + 7) / 8)).map fun j => bV (packB l j)) = (packL l).map bV := by simp [packL]
   rw [e] at hg;have := hg.row ((l.length + 7) / 8) (by simp [packL_len]) (by unfold maxLen; omega)
   simpa [packL_len] using this
def blankB (bs : List UInt8) (n : Nat) : Bool := decide (n % 8 = 0) || decide ((bs.getD (n / 8) 0).toNat / 2 ^ (n % 8) = 0)
theorem div_beq (x t : Nat) : ((x : Int) / 2 ^ t == 0) = decide (x / 2 ^ t = 0) := by
 have e : (x : Int) / 2 ^ t = ((x / 2 ^ t : Nat) : Int) := by simp
 rw [e, Bool.eq_iff_iff];generalize x / 2 ^ t = q;simp only [beq_iff_eq, decide_eq_true_eq];omega
theorem blank_any (v : Value) (bs : List UInt8) (m : Int) (n : Nat) (w : World) (hm : m = (n : Int)) (hn : bs.length = (n + 7) / 8) (hv : Row w v (bs.map bV)) (hr : n ≤ 9223372036854775807) :
  Calls Tryz.prog 132 #[v, J m] w fun e w' => e = .returned (.bool (blankB bs n)) ∧ w = w' := by
 subst hm;obtain ⟨a, cap, rfl, -⟩ := id hv;obtain ⟨hl, hc, hm, hcell⟩ := hv.at;simp only [List.length_map] at hl hc hv ⊢ hcell;by_cases h8 : n % 8 = 0
 ·
  have e : blankB bs n = true := by simp [blankB, h8]
  rw [e];have ht : ((n : Int) % 8 == 0) = true := by simp; omega
  clear e hv hcell h8 hn;go_enter Tryz.func132, Tryz.ntmps132;go_wp2;go_ret;exact ⟨rfl, rfl⟩
 ·
  have ht : ((n : Int) % 8 == 0) = false := by simp; omega
  have hlt : n / 8 < bs.length := by omega
  obtain ⟨b, off, rfl, hcl⟩ := hcell (n / 8) 0 hlt;have c0 := hcl (n / 8) hlt;have e : blankB bs n = decide ((bs.getD (n / 8) 0).toNat / 2 ^ (n % 8) = 0) := by simp [blankB, h8]
  rw [e];clear e hv hcell h8 hcl;generalize bs.getD (n / 8) 0 = x at *;have hx := x.toNat_lt;have hlt' : (n : Int) / 8 < (bs.length : Int) := by omega
  clear hn;go_enter Tryz.func132, Tryz.ntmps132;go_wp2;go_ret;refine ⟨ret_bool ?_, rfl⟩;exact div_beq x.toNat (n % 8)
theorem openOk_blank (bs : List UInt8) (n : Nat) (h : bs.length = (n + 7) / 8) : openOk bs n = blankB bs n := by
 have h0 : decide ((0 : Int) ≤ (n : Int)) = true := by simp
 have h1 : decide ((bs.length : Int) = ((n : Int) + 7) / 8) = true := by simp; omega
 unfold openOk;rw [h0, h1, Bool.true_and, Bool.true_and, Bool.eq_iff_iff];simp only [List.all_eq_true, List.mem_range, blankB, Bool.or_eq_true, decide_eq_true_eq, Bool.not_eq_true', Int.ofNat_lt];constructor
 ·
  intro hall;by_cases h8 : n % 8 = 0
  ·
   exact .inl h8
  ·
   right
   rw [← Nat.shiftRight_eq_div_pow]
   apply Nat.eq_of_testBit_eq
   intro t;rw [Nat.testBit_shiftRight, Nat.zero_testBit];by_cases ht : n % 8 + t < 8
   ·
    have := hall (n + t) (by omega);rcases this with this | this
    ·
     omega
    ·
     unfold bitAt at this;rw [show (n + t) / 8 = n / 8 by omega, show (n + t) % 8 = n % 8 + t by omega] at this;exact this
   ·
    exact Nat.testBit_lt_two_pow (Nat.lt_of_lt_of_le (UInt8.toNat_lt _) (Nat.pow_le_pow_right (by decide) (by omega)))
 ·
  intro hb i hi;by_cases hin : i < n
  ·
   exact .inl hin
  ·
   right
   rcases hb with hb | hb
   ·
    omega
   ·
    unfold bitAt;rw [show i / 8 = n / 8 by omega];have : i % 8 = n % 8 + (i - n) := by omega
    rw [this, ← Nat.testBit_shiftRight, Nat.shiftRight_eq_div_pow, hb, Nat.zero_testBit]
theorem openOk_neg (bs : List UInt8) (n : Int) (h : n < 0) : openOk bs n = false := by
 unfold openOk; rw [show decide (0 ≤ n) = false by simp; omega]; simp
theorem openOk_len (bs : List UInt8) (n : Int) (h : ¬ (bs.length : Int) = (n + 7) / 8) : openOk bs n = false := by
 unfold openOk; rw [show decide ((bs.length : Int) = (n + 7) / 8) = false by simpa using h]; simp
theorem bit_test (x : UInt8) (k : Nat) (_h : k < 8) : (bits BinOp.and IntKind.u8 ((x.toNat : Int) / 2 ^ k) 1 == 1) = x.toNat.testBit k := by
 have e : (x.toNat : Int) / 2 ^ k = ((x.toNat / 2 ^ k : Nat) : Int) := by simp
 have hx := x.toNat_lt;have hd : x.toNat / 2 ^ k < 256 := Nat.lt_of_le_of_lt (Nat.div_le_self _ _) hx;have e1 := u8_and_nat _ 1 hd (by decide);rw [nat_mask1] at e1;have e2 : bits BinOp.and IntKind.u8 ((x.toNat / 2 ^ k : Nat) : Int) 1 = ((x.toNat / 2 ^ k % 2 : Nat) : Int) := e1;rw [e, e2, Nat.testBit_eq_decide_div_mod_eq, Bool.eq_iff_iff];generalize x.toNat / 2 ^ k % 2 = q;simp only [beq_iff_eq, decide_eq_true_eq];omega
theorem open_step (bs : List UInt8) (n k : Nat) (h : k < n) (b : Bool) (hb : b = bitAt bs k) :
  ((openL bs k).map Value.bool ++ List.replicate (n - k) (Value.bool false)).set k (Value.bool b) = (openL bs (k + 1)).map Value.bool ++ List.replicate (n - (k + 1)) (Value.bool false) := by
 subst hb;have e1 : ((openL bs k).map Value.bool).length = k := by simp [openL]
 have e2 : n - k = (n - (k + 1)) + 1 := by omega
 have e3 : openL bs (k + 1) = openL bs k ++ [bitAt bs k] := by simp [openL, List.range_succ]
 rw [e3, e2, List.replicate_succ, List.set_append, e1];simp
def openR (bs : List UInt8) (n : Int) : List Bool := if openOk bs n then openL bs n.toNat else []
theorem openR_no {bs : List UInt8} {n : Int} (h : openOk bs n = false) : openR bs n = [] := by simp [openR, h]
theorem openR_yes {bs : List UInt8} {n : Int} (h : openOk bs n = true) : openR bs n = openL bs n.toNat := by simp [openR, h]
theorem open_any (v : Value) (bs : List UInt8) (n : Int) (w : World) (hn : -9223372036854775808 ≤ n ∧ n ≤ 9223372036854775807) (hv : Row w v (bs.map bV)) (hr : 8 * bs.length ≤ 140737488355328) :
  Calls Tryz.prog 108 #[v, J n] w fun e w' => ∃ v', e = .returned (.tuple #[v', .bool (openOk bs n)]) ∧ Row w' v' ((openR bs n).map Value.bool) ∧ Bo w w' ∧ NewV w.heap.size v' := by
 obtain ⟨a, cap, rfl, -⟩ := id hv;obtain ⟨hl, hc, hm, -⟩ := hv.at;simp only [List.length_map] at hl hc hv ⊢;obtain ⟨hn1, hn2⟩ := hn;by_cases h0 : n < 0
 ·
  rw [openR_no (openOk_neg bs n h0), openOk_neg bs n h0];go_enter Tryz.func108, Tryz.ntmps108;go_wp2;go_ret2
  exact ⟨_, rfl, Row.nil _, Below.refl _ _, NewV.none _ _ _⟩
 ·
  by_cases hlen : (bs.length : Int) = (n + 7) / 8
  ·
   obtain ⟨k, rfl⟩ : ∃ k : Nat, n = (k : Int) := ⟨n.toNat, by omega⟩;have hlk : bs.length = (k + 7) / 8 := by omega
   have ok := openOk_blank bs k hlk;have ht : ((bs.length : Int) != ((k : Int) + 7) / 8) = false := by simp; omega
   have HL : Hid (bs.length = (k + 7) / 8) := hlk;have hk1 : k ≤ 8 * bs.length := by omega
   clear hlk hlen;cases hbl : blankB bs k
   ·
    rw [openR_no (ok.trans hbl), ok, hbl];have HB : Hid (blankB bs k = false) := hbl;clear ok hbl;go_enter Tryz.func108, Tryz.ntmps108;go_wp2_with (first | (go_at_call 121; refine (size_any _ _ (by omega) (by omega)).mono ?_; rintro e w' ⟨rfl, rfl⟩) | (go_at_call 132; refine (blank_any _ bs _ k _ rfl HL.out hv (by omega)).mono ?_; rintro e w' ⟨rfl, rfl⟩; rw [HB.out]))
    go_ret2
    exact ⟨_, rfl, Row.nil _, Below.refl _ _, NewV.none _ _ _⟩
   ·
    rw [openR_yes (ok.trans hbl), ok, hbl];have HB : Hid (blankB bs k = true) := hbl;clear ok hbl;have hmk := mk_zer 29 4 (.bool false) 1 Tryz.underlying29 info_bool rfl (k : Int) k rfl (by omega) (by omega);have hb0 : Bo w (w.alloc (.cells (zer k (.bool false)) 4)) := aL _ _;have hg0 := zer_blk w k (.bool false) 4;go_enter Tryz.func108, Tryz.ntmps108;go_wp2_with (first | (go_at_call 121; refine (size_any _ _ (by omega) (by omega)).mono ?_; rintro e w' ⟨rfl, rfl⟩) | (go_at_call 132; refine (blank_any _ bs _ k _ rfl HL.out hv (by omega)).mono ?_; rintro e w' ⟨rfl, rfl⟩; rw [HB.out]))
    go_loopw [27] (fun i wr => ∃ j : Nat, j ≤ k ∧ i = J j ∧ Blk wr w.heap.size 4 ((openL bs j).map Value.bool ++ List.replicate (k - j) (.bool false)) ∧ Bo w wr) (fun i _ => k - (intOf i).toNat)
    case atStart => exact ⟨0, Nat.zero_le _, rfl, by simpa [openL] using hg0, hb0⟩
    case round =>
     obtain ⟨j, hj, rfl, hg, hb⟩ := hrel;clear hmk hb0 hg0 HB;by_cases hlt : j < k
     ·
      have HL' := HL.out;obtain ⟨-, -, -, hcell⟩ := (hv.below hb).at;have hj8 : j / 8 < bs.length := by omega
      obtain ⟨b, off, rfl, hcl⟩ := hcell (j / 8) 0 hj8;have c0 := hcl (j / 8) hj8;clear hcl hcell hv HL';have S : Hid (∀ b, b = bitAt bs j → _ = _) := open_step bs k j hlt;have HX : Hid (bitAt bs j = (bs.getD (j / 8) 0).toNat.testBit (j % 8)) := rfl;generalize bs.getD (j / 8) 0 = x at *;obtain ⟨u, cu⟩ := hg.some j (by simp [openL]; omega);have fu := hg.frozen j;have hx := x.toNat_lt;have hlt' : (j : Int) < (k : Int) := by omega
      have hj8' : (j : Int) / 8 < (bs.length : Int) := by omega
      go_wp2;go_roundw
      case rel =>
       have hg4 := hg.set j (Value.bool (bits BinOp.and IntKind.u8 ((x.toNat : Int) / 2 ^ (j % 8)) 1 == 1));rw [S.out _ ((bit_test x (j % 8) (by omega)).trans HX.out.symm)] at hg4;exact ⟨j + 1, by omega, by go_num, hg4, hb.setCell (p := ⟨w.heap.size, j, none⟩) (Nat.le_refl _) _⟩
      case measure => simp [intOf]; omega
     ·
      have : j = k := by omega
      subst this;go_wp2;go_ret2
      refine ⟨_, rfl, ?_, hb, NewV.some _ _ _ _ _ (Nat.le_refl _)⟩;simp at hg;have := hg.row j (by simp [openL]) (by unfold maxLen; omega)
      simpa [openL] using this
  ·
   rw [openR_no (openOk_len bs n hlen), openOk_len bs n hlen];have ht : ((bs.length : Int) != (n + 7) / 8) = true := by simpa using hlen
   clear hlen;go_enter Tryz.func108, Tryz.ntmps108;go_wp2_with (go_at_call 121; refine (size_any _ _ (by omega) (by omega)).mono ?_; rintro e w' ⟨rfl, rfl⟩)
   go_ret2
   exact ⟨_, rfl, Row.nil _, Below.refl _ _, NewV.none _ _ _⟩
end Go.Proofs.YtdihcdphgiaepaaGreat
