/- Contracts of octet.Words, Pack. -/
import Derived.Test.YtdihcdphgiaepaaGreatRows
import Derived.Deep.QuietTactic
import Derived.Deep.RegionLaw
import Derived.BigQuiet
import Derived.Laws.BytesArg
import Derived.Lib.SlBytesConst
import Derived.Test.YtdihcdphgiaepaaGreatZZ1
import Derived.RegionTactic
import Derived.BigRegion
namespace Go.Proofs.YtdihcdphgiaepaaGreat
open Go.RowKit
theorem ret_int {k : IntKind} {a b : Int} (h : a = b) : Ending.returned (.int k a) = .returned (.int k b) := by rw [h]
theorem ret_bool {a b : Bool} (h : a = b) : Ending.returned (.bool a) = .returned (.bool b) := by rw [h]
theorem Row.at {w : World} {a : Option Addr} {n cap : Nat} {α : Type} {f : α → Value} {xs : List α} (h : Row w (.slice a n cap) (xs.map f)) :
  n = xs.length ∧ n ≤ cap ∧ cap ≤ maxLen ∧ ∀ i (d : α), i < n → ∃ b off, a = some ⟨b, off, none⟩ ∧ ∀ j, j < n → w.cell? ⟨b, off + j, none⟩ = some (f (xs.getD j d)) := by
 obtain ⟨a', cap', e, h1, h2, -, h3⟩ := h;simp only [Value.slice.injEq, List.length_map] at e;obtain ⟨rfl, rfl, rfl⟩ := e;refine ⟨rfl, by simpa using h1, h2, fun i d hi => ?_⟩;rcases h3 with h3 | ⟨b, off, rfl, hc⟩
 ·
  have : xs = [] := by simpa using h3
  subst this;simp at hi
 ·
  refine ⟨b, off, rfl, fun j hj => ?_⟩;have := hc j (by simpa using hj)
  simpa [List.getD_eq_getElem?_getD, hj] using this
theorem ret_int_bool {k : IntKind} {a b : Int} {c : Bool} (h : a = b) : Ending.returned (.tuple #[.int k a, .bool c]) = .returned (.tuple #[.int k b, .bool c]) := by rw [h]
theorem info_u8 : (Tryz.prog.info? 5).map (fun i => (i.zero, i.size, i.bytes)) = some (some (.int .u8 0), 1, 1) := by kernel_rfl
theorem info_bool : (Tryz.prog.info? 4).map (fun i => (i.zero, i.size, i.bytes)) = some (some (.bool false), 1, 1) := by kernel_rfl
theorem mk_run (t e : TypeId) (z : Value) (by_ : Nat) (hu : Tryz.prog.underlying t = some (.slice e)) (hi : (Tryz.prog.info? e).map (fun i => (i.zero, i.size, i.bytes)) = some (some z, 1, by_)) (hz : z.cells = #[z])
  (n : Int) (k : Nat) (hn : n = (k : Int)) (h1 : by_ * k ≤ 281474976710656) (h2 : k ≤ 9223372036854775807) (u : World) :
  (Instr.makeSlice t (.int .i64 n) (.int .i64 n)).run Tryz.prog u = .ok (.slice (some ⟨u.heap.size, 0, none⟩) k k) (u.alloc (.cells (List.replicate k z).toArray e)) := by
 obtain ⟨i0, hi, hz0, hz1, hz2⟩ := info_parts hi;subst hn;have h := run_make (P := Tryz.prog) u t e i0 z hu hi hz0 .i64 .i64 (k : Int) (k : Int) (by omega) (Int.le_refl _) (by rw [hz2]; omega) (by omega);rw [hz1, hz, Nat.mul_one, Int.toNat_natCast] at h;have e2 : madeCells #[z] k = (List.replicate k z).toArray := by
  rw [← toList_madeCells_one]
 rw [e2] at h;exact h
def zer (k : Nat) (z : Value) : Array Value := (List.replicate k z).toArray
theorem zer_blk (w : World) (k : Nat) (z : Value) (e : TypeId) : Blk (w.alloc (.cells (zer k z) e)) w.heap.size e (List.replicate k z) := heap_alloc_new w _
theorem mk_zer (t e : TypeId) (z : Value) (by_ : Nat) (hu : Tryz.prog.underlying t = some (.slice e)) (hi : (Tryz.prog.info? e).map (fun i => (i.zero, i.size, i.bytes)) = some (some z, 1, by_)) (hz : z.cells = #[z])
  (n : Int) (k : Nat) (hn : n = (k : Int)) (h1 : by_ * k ≤ 281474976710656) (h2 : k ≤ 9223372036854775807) (u : World) :
  (Instr.makeSlice t (.int .i64 n) (.int .i64 n)).run Tryz.prog u = .ok (.slice (some ⟨u.heap.size, 0, none⟩) k k) (u.alloc (.cells (zer k z) e)) := mk_run t e z by_ hu hi hz n k hn h1 h2 u
theorem one_bytes (bs : List UInt8) : ∀ v ∈ bs.map bV, v.oneCell' = true := by
 intro u hu; simp at hu; obtain ⟨x, _, rfl⟩ := hu; rfl
theorem map_ofNat_bytes (bs : List UInt8) : (bs.map fun x => ((x.toNat : Nat) : Int)).map (fun n => UInt8.ofNat n.toNat) = bs := by
 rw [List.map_map]
 conv => rhs; rw [← List.map_id bs]
 apply List.map_congr_left
 intro x _;simp
theorem conv_row {P : Program} {w : World} {v : Value} {bs : List UInt8} (h : Row w v (bs.map bV)) (src dst e : TypeId) (hs : P.underlying src = some (.slice e)) (he : P.underlying e = some (.int .u8)) (hd : P.underlying dst = some .string) :
  (convert src dst v).run P w = .ok (.string ⟨bs.toArray⟩) w := by
 obtain ⟨a, cap, rfl, -⟩ := id h;obtain ⟨hl, -, -, hcell⟩ := h.at;simp only [List.length_map] at hl ⊢ hcell;cases a with
 | none =>
  have : bs = [] := by
   cases bs with
   | nil => rfl
   | cons x r =>
    obtain ⟨b, off, he, -⟩ := hcell 0 0 (by simp);cases he
  subst this;exact run_convert_bytes_nil w src e hs he _ _ dst hd
 | some ad =>
  by_cases h0 : bs = []
  ·
   subst h0;have hc : (convert src dst (.slice (some ad) 0 cap)).run P w = (Conv.bytesToString (.slice (some ad) 0 cap)).run P w := run_convert_bytes_string w src dst e _ _ _ hs he hd;simp only [List.length_nil];rw [hc, run_bytesToString w ad 0 cap [] (by simp [loadCells, loadCellsFrom])]
   rfl
  ·
   have hp : 0 < bs.length := List.length_pos_iff.2 h0;obtain ⟨b, off, he2, hcl⟩ := hcell 0 0 hp;cases he2
   have := run_convert_bytes_arg (P := P) w src e hs he b off bs.length cap (bs.map fun x => ((x.toNat : Nat) : Int)) (by simp) (fun i hi => by
    rw [hcl i hi];simp [List.getD_eq_getElem?_getD, hi]) dst hd
   rw [this];unfold strOfNums;rw [map_ofNat_bytes]
theorem below_then {w0 w w1 : World} (hb : Below w0.heap.size w0 w) (h : Below w.heap.size w w1) : Below w0.heap.size w0 w1 :=
 hb.trans (h.mono hb.size)
theorem row_one {w : World} {v : Value} {x : Value} (h : Row w v [x]) : ∃ b off cap, v = .slice (some ⟨b, off, none⟩) 1 cap ∧ w.cell? ⟨b, off, none⟩ = some x := by
 obtain ⟨a, cap, rfl, -, -, -, h3⟩ := h;rcases h3 with h3 | ⟨b, off, rfl, hc⟩
 ·
  cases h3
 ·
  exact ⟨b, off, cap, rfl, by simpa using hc 0 (by simp)⟩
theorem owns_below {w w' : World} {base : Nat} {e : TypeId} {v : Value} {n : Nat} {xs : List Value} (h : w.ownsRow base e 1 v n xs) (hb : Below w.heap.size w w') : w'.ownsRow base e 1 v n xs :=
 h.kept (w' := w') (row := none) ⟨hb.os, hb.tape, hb.output, hb.size, fun k hk _ => hb.block k hk⟩ (by cases v.ownBlock <;> simp)
theorem pow8 (t : Nat) (h : t < 8) : ((2 : Int) ^ t % 256) = ((2 ^ t : Nat) : Int) ∧ 2 ^ t < 256 := by
 match t, h with
 | 0, _ => decide
 | 1, _ => decide
 | 2, _ => decide
 | 3, _ => decide
 | 4, _ => decide
 | 5, _ => decide
 | 6, _ => decide
 | 7, _ => decide
def NewV (base : Nat) (v : Value) : Prop := ∀ a n c, v = .slice (some a) n c → base ≤ a.block
theorem NewV.none (base n c : Nat) : NewV base (.slice .none n c) := fun _ _ _ h => by cases h
theorem NewV.some (base g o n c : Nat) (h : base ≤ g) : NewV base (.slice (some ⟨g, o, .none⟩) n c) := fun _ _ _ e => by
 simp only [Value.slice.injEq, Option.some.injEq] at e;rw [← e.1]; exact h
theorem NewV.le {base base' : Nat} {v : Value} (h : NewV base v) (hb : base' ≤ base) : NewV base' v := fun a n c e => Nat.le_trans hb (h a n c e)
theorem NewV.of_owns {w : World} {base : Nat} {e : TypeId} {v : Value} {n : Nat} {xs : List Value} (h : w.ownsRow base e 1 v n xs) : NewV base v := by
 rcases h.2 with ⟨rfl, -⟩ | ⟨g, cap, cur, rfl, hb, -⟩
 ·
  exact NewV.none _ _ _
 ·
  exact NewV.some _ _ _ _ _ hb
theorem Row.setCell_new {w : World} {v u : Value} {xs : List Value} {base g o : Nat} (h : Row w v xs) (hn : NewV base v) (hg : g < base) : Row (w.setCell ⟨g, o, .none⟩ u) v xs := by
 obtain ⟨a, cap, rfl, h1, h2, h3, h4⟩ := h;refine ⟨_, _, rfl, h1, h2, h3, ?_⟩;rcases h4 with rfl | ⟨b, off, rfl, hc⟩
 ·
  exact .inl rfl
 ·
  have hb := hn _ _ _ rfl;simp only at hb;refine .inr ⟨_, _, rfl, fun i hi => ?_⟩;rw [← hc i hi];have hne : g ≠ b := by omega
  simp only [World.cell?, World.setCell, Array.getElem?_modify, hne, if_false]
set_option maxHeartbeats 400000 in
theorem size_any (n : Int) (w : World) (h0 : 0 ≤ n) (h1 : n ≤ 9223372036854775807) :
  Calls Tryz.prog 121 #[.int .i64 n] w fun e w' => e = .returned (.int .i64 ((n + 7) / 8)) ∧ w = w' := by
 by_cases h : n % 8 = 0
 ·
  have hb : (n % 8 == 0) = true := by simpa using h
  go_enter Tryz.func121, Tryz.ntmps121;go_wp2;go_ret;exact ⟨ret_int (by omega), rfl⟩
 ·
  have hb : (n % 8 == 0) = false := by simpa using h
  go_enter Tryz.func121, Tryz.ntmps121;go_wp2;go_ret;exact ⟨ret_int (by omega), rfl⟩
theorem or_word (x y : UInt8) : bits BinOp.or IntKind.u16 ((x.toNat : Int) * 256) (y.toNat : Int) = ((mkW x y).toNat : Int) := by
 have hx' := x.toNat_lt;have hy' := y.toNat_lt;rw [mkW_nat, show ((x.toNat : Int) * 256) = ((x.toNat * 256 : Nat) : Int) by omega, u16_or_nat _ _ (by omega) (by omega), nat_join 8 _ _ (by omega) (by omega)]
set_option maxHeartbeats 400000 in
theorem number_any (b off len cap : Nat) (n : Int) (i : Nat) (x y : UInt8) (w : World) (hn : n = (i : Int)) (hi : i + 1 < len) (hlc : len ≤ maxLen)
  (hx : w.cell? ⟨b, off + i, none⟩ = some (bV x)) (hy : w.cell? ⟨b, off + (i + 1), none⟩ = some (bV y)) :
  Calls Tryz.prog 133 #[.slice (some ⟨b, off, none⟩) len cap, .int .i64 n] w fun e w' => e = .returned (wV (mkW x y)) ∧ ∃ nq, w' = w.drewN nq := by
 subst hn;have hx' := x.toNat_lt;have hy' := y.toNat_lt;unfold maxLen at hlc;have h1 : (i : Int) < (len : Int) := by omega
 have h2 : (i : Int) + 1 < (len : Int) := by omega
 go_enter Tryz.func133, Tryz.ntmps133;go_wp2;go_quiet (fail)
 go_wp2;go_ret;exact ⟨ret_int (or_word x y), _, rfl⟩
set_option maxHeartbeats 400000 in
theorem lay_any (b off len cap : Nat) (n m : Int) (i : Nat) (x : UInt16) (u0 u1 : Value) (w : World) (hn : n = (i : Int)) (hm : m = (x.toNat : Int)) (hi : i + 1 < len) (hlc : len ≤ maxLen)
  (hx : w.cell? ⟨b, off + i, none⟩ = some u0) (hy : w.cell? ⟨b, off + (i + 1), none⟩ = some u1)
  (fx : w.frozen? ⟨b, off + i, none⟩ = false) (fy : w.frozen? ⟨b, off + (i + 1), none⟩ = false) :
  Calls Tryz.prog 122 #[.slice (some ⟨b, off, none⟩) len cap, .int .i64 n, .int .u16 m] w fun e w' => e = .returned (.tuple #[]) ∧ (w.setCell ⟨b, off + i, none⟩ (bV (hiB x))).setCell ⟨b, off + (i + 1), none⟩ (bV (loB x)) = w' := by
 subst hn hm;have hx' := x.toNat_lt;unfold maxLen at hlc;have h1 : (i : Int) < (len : Int) := by omega
 have h2 : (i : Int) + 1 < (len : Int) := by omega
 have e1 : ((hiB x).toNat : Int) = (x.toNat : Int) / 256 := by rw [hiB_nat]; omega
 have e2 : ((loB x).toNat : Int) = (x.toNat : Int) % 256 := by rw [loB_nat]; omega
 have H1 := Hid.out e1;have H2 := Hid.out e2;clear e1 e2;rw [bV, bV, H1, H2];clear H1 H2;go_enter Tryz.func122, Tryz.ntmps122;go_wp2;go_end0
 exact ⟨rfl, rfl⟩
theorem lay_blk (g len cap : Nat) (n m : Int) (i : Nat) (x : UInt16) (w : World) (t : TypeId) (xs : List Value) (h : Blk w g t xs) (hl : len = xs.length) (hn : n = (i : Int)) (hm : m = (x.toNat : Int)) (hi : i + 1 < len) (hlc : len ≤ maxLen) :
  Calls Tryz.prog 122 #[.slice (some ⟨g, 0, none⟩) len cap, .int .i64 n, .int .u16 m] w fun e w' => e = .returned (.tuple #[]) ∧ Blk w' g t ((xs.set i (bV (hiB x))).set (i + 1) (bV (loB x))) ∧ Below g w w' := by
 obtain ⟨u0, c0⟩ := h.some (0 + i) (by omega);obtain ⟨u1, c1⟩ := h.some (0 + (i + 1)) (by omega);refine (lay_any g 0 len cap n m i x u0 u1 w hn hm hi hlc c0 c1 (h.frozen _) (h.frozen _)).mono ?_;rintro e w2 ⟨rfl, rfl⟩;refine ⟨rfl, ?_, ((Below.refl _ _).setCell (p := ⟨g, 0 + i, none⟩) (Nat.le_refl g) _).setCell (p := ⟨g, 0 + (i + 1), none⟩) (Nat.le_refl g) _⟩;have := (h.set (0 + i) (bV (hiB x))).set (0 + (i + 1)) (bV (loB x))
 simpa using this
def getOk (bs : List UInt8) (n : Int) : Bool := decide (0 ≤ n ∧ n + 2 ≤ bs.length)
def getN (bs : List UInt8) (n : Int) : Int := if 0 ≤ n ∧ n + 2 ≤ bs.length then (mkW (bs.getD n.toNat 0) (bs.getD (n.toNat + 1) 0)).toNat else 0
set_option maxHeartbeats 400000 in
theorem get_any (v : Value) (bs : List UInt8) (n : Int) (w : World) (hn : -9223372036854775808 ≤ n ∧ n ≤ 9223372036854775807) (hv : Row w v (bs.map bV)) :
  Calls Tryz.prog 131 #[v, .int .i64 n] w fun e w' => e = .returned (.tuple #[.int .i64 (getN bs n), .bool (getOk bs n)]) ∧ ∃ nq, w' = w.drewN nq := by
 obtain ⟨a, cap, rfl, -⟩ := id hv;obtain ⟨hl, hc, hm, hcell⟩ := hv.at;simp only [List.length_map] at hl hc ⊢;by_cases h : 0 ≤ n ∧ n + 2 ≤ bs.length
 ·
  obtain ⟨b, off, rfl, hcl⟩ := hcell n.toNat 0 (by simp; omega);have hm' : bs.length ≤ maxLen := by omega
  have c0 := hcl n.toNat (by simp; omega);have c1 := hcl (n.toNat + 1) (by simp; omega);have ok : getOk bs n = true := by simp [getOk]; omega
  have gn : getN bs n = (mkW (bs.getD n.toNat 0) (bs.getD (n.toNat + 1) 0)).toNat := by simp [getN, h]
  rw [ok, gn];obtain ⟨g1, g2⟩ := h;clear hcell hcl hv ok gn;unfold maxLen at hm hm';have hmx := hm';generalize bs.getD n.toNat 0 = x at *;generalize bs.getD (n.toNat + 1) 0 = y at *;have hw := (mkW x y).toNat_lt;have t1 : ¬ n < 0 := by omega
  have t2 : ¬ (bs.length : Int) - 2 < n := by omega
  go_enter Tryz.func131, Tryz.ntmps131;go_wp2_with (go_at_call 133; refine (number_any b off _ _ n n.toNat x y _ (by omega) (by omega) (by unfold maxLen; omega) c0 c1).mono ?_; rintro e w' ⟨rfl, nq, rfl⟩)
  go_ret2
  exact ⟨rfl, nq, rfl⟩
 ·
  have ok : getOk bs n = false := by simp [getOk]; omega
  have gn : getN bs n = 0 := by simp [getN]; omega
  rw [ok, gn];clear hcell hv ok gn;unfold maxLen at hm;have hmx : bs.length ≤ 9223372036854775807 := by omega
  by_cases t1 : n < 0
  ·
   go_enter Tryz.func131, Tryz.ntmps131;go_wp2;go_ret2
   exact ⟨rfl, 0, rfl⟩
  ·
   have t2 : (bs.length : Int) - 2 < n := by omega
   go_enter Tryz.func131, Tryz.ntmps131;go_wp2;go_ret2
   exact ⟨rfl, 0, rfl⟩
theorem info_u16 : (Tryz.prog.info? 31).map (fun i => (i.zero, i.size, i.bytes)) = some (some (.int .u16 0), 1, 2) := by kernel_rfl
set_option maxHeartbeats 400000 in
theorem put_any (v : Value) (bs : List UInt8) (n : Int) (w : World) (_hn : -9223372036854775808 ≤ n ∧ n ≤ 9223372036854775807) (hv : Row w v (bs.map bV)) (hr : bs.length ≤ 140737488351232) :
  Calls Tryz.prog 84 #[v, .int .i64 n] w fun e w' => ∃ v', e = .returned v' ∧ Row w' v' ((bs ++ [hiB (wOf n), loB (wOf n)]).map bV) ∧ Below w.heap.size w w' := by
 obtain ⟨a, cap, rfl, -⟩ := id hv;obtain ⟨hl, hc, hm, -⟩ := hv.at;simp only [List.length_map] at hl hc hv ⊢;have hmk := mk_zer 27 5 (.int .u8 0) 1 Tryz.underlying27 info_u8 rfl ((bs.length : Int) + 2) (bs.length + 2) (by omega) (by omega) (by omega);have hb0 : Below w.heap.size w (w.alloc (.cells (zer (bs.length + 2) (.int .u8 0)) 5)) := (Below.refl _ _).alloc (Nat.le_refl _) _;have hg0 := zer_blk w (bs.length + 2) (.int .u8 0) 5;obtain ⟨w1, hrun, hg1, hb1⟩ := copy_run (P := Tryz.prog) hb0 27 27 3 5 Tryz.underlying27 (by kernel_rfl) w.heap.size 0 (bs.length + 2) (bs.length + 2) a bs.length cap _ _ hg0 (Nat.le_refl _) (bs.map bV) (hv.below hb0) (one_bytes bs) (by simp);have hg3 : Blk w1 w.heap.size 5 (bs.map bV ++ [.int .u8 0, .int .u8 0]) := by
  have e : splice (List.replicate (bs.length + 2) (Value.int .u8 0)) 0 ((bs.map bV).take (bs.length + 2)) = bs.map bV ++ [.int .u8 0, .int .u8 0] := by
   rw [List.take_of_length_le (by simp)];simp [splice, List.drop_replicate]
  rw [← e]; exact hg1
 clear hg1 hg0 hb0 hv;go_enter Tryz.func84, Tryz.ntmps84;go_wp2_with fail
 refine (lay_blk w.heap.size (bs.length + 2) (bs.length + 2) _ _ bs.length (wOf n) w1 _ _ hg3 (by simp) rfl (by rw [wOf_nat, IntKind.wrap_u16]) (by omega) (by unfold maxLen; omega)).mono ?_;rintro e w2 ⟨rfl, hg4, hb4⟩;go_wp2;go_ret;have e2 : ((bs.map bV ++ [Value.int .u8 0, .int .u8 0]).set bs.length (bV (hiB (wOf n)))).set (bs.length + 1) (bV (loB (wOf n))) = (bs ++ [hiB (wOf n), loB (wOf n)]).map bV := by
  simp
 rw [e2] at hg4;refine ⟨_, rfl, ?_, ?_⟩
 ·
  have := hg4.row (bs.length + 2) (by simp) (by unfold maxLen; omega)
  simpa using this
 ·
  exact hb1.trans hb4
theorem bytes_step (l : List UInt16) (k : Nat) (h : k < l.length) :
  (((bytesL (l.take k)).map bV ++ List.replicate (2 * (l.length - k)) (Value.int .u8 0)).set (2 * k) (bV (hiB (l.getD k 0)))).set (2 * k + 1) (bV (loB (l.getD k 0))) =
   (bytesL (l.take (k + 1))).map bV ++ List.replicate (2 * (l.length - (k + 1))) (Value.int .u8 0) := by
 have e1 : (bytesL (l.take k)).length = 2 * k := by rw [bytesL_len, List.length_take]; omega
 have e2 : 2 * (l.length - k) = 2 * (l.length - (k + 1)) + 1 + 1 := by omega
 rw [bytesL_take_succ l k h, e2, List.replicate_succ, List.replicate_succ];have e3 : l.getD k 0 = l[k] := by simp [h]
 rw [e3];simp [e1]
set_option maxHeartbeats 400000 in
theorem bytes_any (v : Value) (l : List UInt16) (w : World) (hv : Row w v (l.map wV)) (hr : l.length * 2 ≤ 140737488351232) :
  Calls Tryz.prog 83 #[v] w fun e w' => ∃ v', e = .returned v' ∧ Row w' v' ((bytesL l).map bV) ∧ Below w.heap.size w w' := by
 obtain ⟨a, cap, rfl, -⟩ := id hv;obtain ⟨hl, hc, hm, -⟩ := hv.at;simp only [List.length_map] at hl hc hv ⊢;have hmk := mk_zer 27 5 (.int .u8 0) 1 Tryz.underlying27 info_u8 rfl (2 * (l.length : Int)) (2 * l.length) (by omega) (by omega) (by omega);have hb0 : Below w.heap.size w (w.alloc (.cells (zer (2 * l.length) (.int .u8 0)) 5)) := (Below.refl _ _).alloc (Nat.le_refl _) _;have hg0 := zer_blk w (2 * l.length) (.int .u8 0) 5;go_enter Tryz.func83, Tryz.ntmps83;go_wp2_with fail
 go_loopw [12] (fun i wr => ∃ k : Nat, k ≤ l.length ∧ i = .int .i64 k ∧ Blk wr w.heap.size 5 ((bytesL (l.take k)).map bV ++ List.replicate (2 * (l.length - k)) (.int .u8 0)) ∧ Below w.heap.size w wr) (fun i _ => l.length - (intOf i).toNat)
 case atStart => exact ⟨0, Nat.zero_le _, rfl, by simpa [bytesL] using hg0, hb0⟩
 case round =>
  obtain ⟨k, hk, rfl, hg, hb⟩ := hrel;clear hmk hb0 hg0;by_cases hlt : k < l.length
  ·
   obtain ⟨-, -, -, hcell⟩ := (hv.below hb).at;obtain ⟨b, off, rfl, hcl⟩ := hcell k 0 hlt;have cx := hcl k hlt;clear hcl hcell hv;have S : Hid _ := bytes_step l k hlt;generalize l.getD k 0 = x at *;go_wp2_with fail
   refine (lay_blk w.heap.size (2 * l.length) (2 * l.length) _ _ (2 * k) x wr _ _ hg (by simp [bytesL_len]; omega) (by omega) rfl (by omega) (by unfold maxLen; omega)).mono ?_;rintro e w2 ⟨rfl, hg4, hb4⟩;rw [S.out] at hg4;clear S hg;go_wp2;go_roundw
   case rel => exact ⟨k + 1, by omega, by go_num, hg4, hb.trans hb4⟩
   case measure => simp [intOf]; omega
  ·
   have : k = l.length := by omega
   subst this;go_wp2;go_ret;simp at hg;refine ⟨_, rfl, ?_, hb⟩;have := hg.row (2 * l.length) (by simp [bytesL_len]) (by unfold maxLen; omega)
   simpa [bytesL_len] using this
def wordsR (bs : List UInt8) : List UInt16 := if bs.length % 2 = 0 then wordsL bs else []
theorem words_step (bs : List UInt8) (k : Nat) (h : k < bs.length / 2) :
  (((wordsL bs).take k).map wV ++ List.replicate (bs.length / 2 - k) (Value.int .u16 0)).set k (wV (mkW (bs.getD (2 * k) 0) (bs.getD (2 * k + 1) 0))) =
   ((wordsL bs).take (k + 1)).map wV ++ List.replicate (bs.length / 2 - (k + 1)) (Value.int .u16 0) := by
 have hl := wordsL_len bs;have e1 : (((wordsL bs).take k).map wV).length = k := by simp; omega
 have e2 : bs.length / 2 - k = (bs.length / 2 - (k + 1)) + 1 := by omega
 have e3 : (wordsL bs)[k]'(by omega) = mkW (bs.getD (2 * k) 0) (bs.getD (2 * k + 1) 0) := by
  simp only [wordsL_eq, List.getElem_map, List.getElem_range]
 rw [List.take_succ_eq_append_getElem (by omega), e3, e2, List.replicate_succ, List.set_append];rw [e1];simp
set_option maxHeartbeats 400000 in
theorem words_any (v : Value) (bs : List UInt8) (w : World) (hv : Row w v (bs.map bV)) (hr : bs.length ≤ 140737488351232) :
  Calls Tryz.prog 110 #[v] w fun e w' => ∃ v', e = .returned (.tuple #[v', .bool (bs.length % 2 == 0)]) ∧ Row w' v' ((wordsR bs).map wV) ∧ Below w.heap.size w w' ∧ NewV w.heap.size v' := by
 obtain ⟨a, cap, rfl, -⟩ := id hv;obtain ⟨hl, hc, hm, -⟩ := hv.at;simp only [List.length_map] at hl hc hv ⊢;unfold wordsR;by_cases hodd : bs.length % 2 = 0
 ·
  rw [if_pos hodd, beq_iff_eq.2 hodd];have ht : ((bs.length : Int) % 2 != 0) = false := by simp; omega
  have HO : Hid (bs.length % 2 = 0) := hodd;clear hodd;have hmk := mk_zer 30 31 (.int .u16 0) 2 Tryz.underlying30 info_u16 rfl ((bs.length : Int) / 2) (bs.length / 2) (by omega) (by omega) (by omega);have hb0 : Below w.heap.size w (w.alloc (.cells (zer (bs.length / 2) (.int .u16 0)) 31)) := (Below.refl _ _).alloc (Nat.le_refl _) _;have hg0 := zer_blk w (bs.length / 2) (.int .u16 0) 31;go_enter Tryz.func110, Tryz.ntmps110;go_wp2_with fail
  go_loopw [16] (fun i wr => ∃ k : Nat, k ≤ bs.length / 2 ∧ i = .int .i64 k ∧ Blk wr w.heap.size 31 (((wordsL bs).take k).map wV ++ List.replicate (bs.length / 2 - k) (.int .u16 0)) ∧ Below w.heap.size w wr) (fun i _ => bs.length / 2 - (intOf i).toNat)
  case atStart => exact ⟨0, Nat.zero_le _, rfl, by simpa using hg0, hb0⟩
  case round =>
   obtain ⟨k, hk, rfl, hg, hb⟩ := hrel;clear hmk hb0 hg0;by_cases hlt : k < bs.length / 2
   ·
    obtain ⟨-, -, -, hcell⟩ := (hv.below hb).at;obtain ⟨b, off, rfl, hcl⟩ := hcell (2 * k) 0 (by omega);have c0 := hcl (2 * k) (by omega);have c1 := hcl (2 * k + 1) (by omega);clear hcl hcell hv;have S : Hid _ := words_step bs k hlt;generalize bs.getD (2 * k) 0 = x at *;generalize bs.getD (2 * k + 1) 0 = y at *;obtain ⟨u, cu⟩ := hg.some k (by simp [wordsL_len]; omega);have fu := hg.frozen k;have hlt' : (k : Int) < ((bs.length / 2 : Nat) : Int) := by omega
    go_wp2_with (go_at_call 133; refine (number_any b off _ _ _ (2 * k) x y _ (by omega) (by omega) (by unfold maxLen; omega) c0 c1).mono ?_; rintro e w' ⟨rfl, nq, rfl⟩)
    go_roundw
    case rel =>
     have hg4 := (hg.drewN nq).set k (wV (mkW x y));rw [S.out] at hg4;refine ⟨k + 1, by omega, by go_num, hg4, ?_⟩;exact (below_drewn hb nq).setCell (p := ⟨w.heap.size, k, none⟩) (Nat.le_refl _) _
    case measure => simp [intOf]; omega
   ·
    have : k = bs.length / 2 := by omega
    subst this;go_wp2;go_ret2
    refine ⟨_, rfl, ?_, hb, NewV.some _ _ _ _ _ (Nat.le_refl _)⟩;rw [List.take_of_length_le (by rw [wordsL_len]; omega), Nat.sub_self] at hg;simp at hg;have := hg.row (bs.length / 2) (by simp [wordsL_len]) (by unfold maxLen; omega)
    simpa [wordsL_len] using this
 ·
  have hb : (bs.length % 2 == 0) = false := by simpa using hodd
  rw [if_neg hodd, hb];have ht : ((bs.length : Int) % 2 != 0) = true := by simp; omega
  clear hodd hb hv;go_enter Tryz.func110, Tryz.ntmps110;go_wp2;go_ret2
  exact ⟨_, rfl, Row.nil _, Below.refl _ _, NewV.none _ _ _⟩
theorem pack_step (l : List Bool) (n k : Nat) (hk : k < l.length) (_hn : k / 8 < n) :
  ((List.range n).map fun j => bV (packB (l.take (k + 1)) j)) = if l[k] then ((List.range n).map fun j => bV (packB (l.take k) j)).set (k / 8) (.int .u8 (((packB (l.take k) (k / 8)).toNat ||| 2 ^ (k % 8) : Nat) : Int)) else ((List.range n).map fun j => bV (packB (l.take k) j)) := by
 apply List.ext_getElem
 ·
  split <;> simp
 ·
  intro i h1 h2;have hs := packB_step l k i hk
  split
  ·
   rename_i hx
   rw [List.getElem_set];simp only [List.getElem_map, List.getElem_range, bV, hs];by_cases hi : k / 8 = i
   ·
    subst hi; simp [hx]
   ·
    rw [if_neg hi, if_neg (by intro h; exact hi h.1.symm)]
  ·
   rename_i hx
   simp only [List.getElem_map, List.getElem_range, bV, hs];rw [if_neg (by intro h; exact hx h.2)]
theorem or_bit (y : UInt8) (k : Nat) : bits BinOp.or IntKind.u8 (y.toNat : Int) ((2 : Int) ^ (k % 8) % 256) = ((y.toNat ||| 2 ^ (k % 8) : Nat) : Int) := by
 have h := pow8 (k % 8) (by omega);rw [h.1, u8_or_nat _ _ y.toNat_lt h.2]
set_option maxHeartbeats 400000 in
theorem pack_any (v : Value) (l : List Bool) (w : World) (hv : Row w v (l.map Value.bool)) (hr : l.length ≤ 140737488351232) :
  Calls Tryz.prog 82 #[v] w fun e w' => ∃ v', e = .returned v' ∧ Row w' v' ((packL l).map bV) ∧ Below w.heap.size w w' := by
 obtain ⟨a, cap, rfl, -⟩ := id hv;obtain ⟨hl, hc, hm, -⟩ := hv.at;simp only [List.length_map] at hl hc hv ⊢;have hmk := mk_zer 27 5 (.int .u8 0) 1 Tryz.underlying27 info_u8 rfl (((l.length : Int) + 7) / 8) ((l.length + 7) / 8) (by omega) (by omega) (by omega);have hb0 : Below w.heap.size w (w.alloc (.cells (zer ((l.length + 7) / 8) (.int .u8 0)) 5)) := (Below.refl _ _).alloc (Nat.le_refl _) _;have hg0 := zer_blk w ((l.length + 7) / 8) (.int .u8 0) 5;go_enter Tryz.func82, Tryz.ntmps82;go_wp2_with (go_at_call 121; refine (size_any _ _ (by omega) (by omega)).mono ?_; rintro e w' ⟨rfl, rfl⟩)
 go_loopw [12] (fun i wr => ∃ k : Nat, k ≤ l.length ∧ i = .int .i64 k ∧ Blk wr w.heap.size 5 ((List.range ((l.length + 7) / 8)).map fun j => bV (packB (l.take k) j)) ∧ Below w.heap.size w wr) (fun i _ => l.length - (intOf i).toNat)
 case atStart =>
  refine ⟨0, Nat.zero_le _, rfl, ?_, hb0⟩;have e : ((List.range ((l.length + 7) / 8)).map fun j => bV (packB (l.take 0) j)) = List.replicate ((l.length + 7) / 8) (.int .u8 0) := by
   apply List.ext_getElem
   ·
    simp
   ·
    intro i h1 h2;simp [bV, packB_nat, ofBits]
  rw [e]; exact hg0
 case round =>
  obtain ⟨k, hk, rfl, hg, hb⟩ := hrel;clear hmk hb0 hg0;by_cases hlt : k < l.length
  ·
   obtain ⟨-, -, -, hcell⟩ := (hv.below hb).at;obtain ⟨b, off, rfl, hcl⟩ := hcell k false hlt;have c0 := hcl k hlt;clear hcl hcell hv;have S : Hid _ := pack_step l ((l.length + 7) / 8) k hlt (by omega);have ex : l.getD k false = l[k] := by simp [hlt]
   rw [ex] at c0;clear ex;generalize l[k] = x at *;have hsz : (k / 8 : Nat) < ((List.range ((l.length + 7) / 8)).map fun j => bV (packB (l.take k) j)).length := by simp; omega
   have cu := hg.cell (k / 8);rw [List.getElem?_eq_getElem hsz] at cu;simp only [List.getElem_map, List.getElem_range] at cu;have fu := hg.frozen (k / 8);generalize packB (l.take k) (k / 8) = y at *;have hy := y.toNat_lt;have hlt' : (k : Int) / 8 < (((l.length + 7) / 8 : Nat) : Int) := by omega
   cases x
   ·
    go_wp2;go_roundw
    case rel =>
     have S' := S.out;rw [if_neg (by simp)] at S';exact ⟨k + 1, by omega, by go_num, by rw [S']; exact hg, hb⟩
    case measure => simp [intOf]; omega
   ·
    go_wp2;go_region
    go_wp2;go_roundw
    case rel =>
     have S' := S.out;rw [if_pos trivial] at S';refine ⟨k + 1, by omega, by go_num, ?_, ?_⟩
     ·
      rw [or_bit, S'];exact (hg.set (k / 8) _).drew
     ·
      exact (hb.setCell (p := ⟨w.heap.size, k / 8, none⟩) (Nat.le_refl _) _).drew
    case measure => simp [intOf]; omega
  ·
   have : k = l.length := by omega
   subst this;go_wp2;go_ret;refine ⟨_, rfl, ?_, hb⟩;rw [List.take_length] at hg;have e : ((List.range ((l.length + 7) / 8)).map fun j => bV (packB l j)) = (packL l).map bV := by simp [packL]
   rw [e] at hg;have := hg.row ((l.length + 7) / 8) (by simp [packL_len]) (by unfold maxLen; omega)
   simpa [packL_len] using this
end Go.Proofs.YtdihcdphgiaepaaGreat
