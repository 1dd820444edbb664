/- Contracts of burgageref3's small functions. -/
import Derived.Test.YtdihcdphgiaepaaGreatZZ14
import Derived.Test.YtdihcdphgiaepaaGreatZZ15
import Derived.Test.YtdihcdphgiaepaaGreatZZ32
import Derived.Test.YtdihcdphgiaepaaGreatZZ3
import Derived.Test.YtdihcdphgiaepaaGreatZZ9
namespace Go.Proofs.YtdihcdphgiaepaaGreat
open Go.RowKit
abbrev KeepW (W : Nat) : Keep := ⟨fun k => k < W⟩
def TapW (W B : Nat) (w : World) (g : Nat) (l : List Int) : Prop := @TapK (KeepW W) B w g l
theorem TapW.below {W B : Nat} {w w' : World} {g : Nat} {l : List Int} (h : TapW W B w g l) (hb : Below B w w') : TapW W B w' g l := @TapK.below (KeepW W) _ _ _ _ _ h hb
theorem TapW.ext {W B : Nat} {w w' : World} {g : Nat} {l : List Int} (h : TapW W B w g l) (hB : B ≤ w.heap.size) (hb : Below w.heap.size w w') : TapW W B w' g l := h.below (hb.mono hB)
theorem TapW.kp {W B : Nat} {F : Nat → Prop} {w w' : World} {g : Nat} {l : List Int} (h : TapW W B w g l) (k : Kp F w w') (hg : ¬ F g) (hF : ∀ i, F i → W ≤ i) : TapW W B w' g l := by
 letI := KeepW W
 obtain ⟨⟨vL, k0, hk, hX, hR, ho⟩, hi, hl⟩ := h;refine TapK.mk ⟨vL, k0, hk, hX.kp k hg, (RowF.kp (F := F) ⟨hR, fun h0 k1 e x => ?_⟩ k (fun _ _ h => h)).1, ho⟩ hi hl;have o := ho.resolve_left h0;obtain ⟨a, cap, rfl, -⟩ := id hR;cases a with
 | none => simp [Value.ownBlock] at e
 | some a =>
  simp [Value.ownBlock] at e;have h1 : a.block < W := (o a _ _ rfl).2.2;have h2 := hF k1 x;omega
theorem tapw_new (w w1 : World) (a : Option Addr) (n cap : Nat) (l : List Int) (h : Row w (.slice a n cap) (l.map iV)) (hi : ∀ x ∈ l, -9223372036854775808 ≤ x ∧ x ≤ 9223372036854775807) (hb1 : Below w.heap.size w w1) :
  TapW w.heap.size (w1.heap.size + 1) (w1.alloc (.cells #[.slice a n cap, .int .i64 0] 40)) w1.heap.size l := by
 have hb : Below w1.heap.size w1 (w1.alloc (.cells #[.slice a n cap, .int .i64 0] 40)) := (Below.refl _ _).alloc (Nat.le_refl _) _;have hs := hb1.size
 letI := KeepW w.heap.size
 refine TapK.mk ⟨.slice a n cap, 0, Nat.zero_le _, Blk.new w1 40 [.slice a n cap, .int .i64 0], (h.below hb1).below hb, ?_⟩ (fun i hl => ?_) (by omega)
 ·
  by_cases h0 : l = []
  ·
   left; rw [h0]; rfl
  ·
   right
   intro a' n' c' e;simp only [Value.slice.injEq] at e;obtain ⟨rfl, -, -⟩ := e;obtain ⟨a2, cap2, e, -, -, -, h4⟩ := h;simp only [Value.slice.injEq] at e;obtain ⟨rfl, -, -⟩ := e;rcases h4 with h4 | ⟨b, off, e, hc⟩
   ·
    exact absurd (by simpa using h4) h0
   ·
    cases e
    have hp : 0 < (l.map iV).length := by rw [List.length_map]; exact List.length_pos_iff.2 h0
    have := hc 0 hp;rw [List.getElem?_eq_getElem hp] at this;have := lt_of_cell this;exact ⟨by simp only; omega, by simp only; omega, by show b < w.heap.size; omega⟩
 ·
  have : l.getD i 0 ∈ l := by
   rw [List.getD_eq_getElem?_getD, List.getElem?_eq_getElem hl]; exact List.getElem_mem hl
  exact hi _ this
theorem request_w (W B g : Nat) (l : List Int) (w : World) (hT : TapW W B w g l) (hB : B ≤ w.heap.size) :
  Calls Tryz.prog 11 #[.pointer (some ⟨g, 0, none⟩)] w fun e w' => ∃ v', e = .returned v' ∧ ∃ q, IsRq w' v' q ∧ rightE q = 0 ∧ q.bits.length ≤ 30 ∧ (q.vals.length ≤ 30 ∧ q.cnt ≤ 30) ∧ NewQ w.heap.size v' ∧ Dev w.heap.size g w w' ∧ TapW W B w' g l :=
 @request_k (KeepW W) B g l w hT hB
theorem kp_dev {w w' : World} {g : Nat} (h : Dev w.heap.size g w w') : Kp (· = g) w w' := ⟨h.os, h.tape, h.output, h.size, fun k hk hn => h.block k hk hn⟩
theorem nw_of_new {B : Nat} {a : Option Addr} {n c : Nat} (h : NewV B (.slice a n c)) : NwV B (.slice a n c) := fun k e => by
 cases a with
 | none => simp [Value.ownBlock] at e
 | some a =>
  simp [Value.ownBlock] at e;have := h a n c rfl;omega
theorem Row.ltvP {w : World} {v : Value} {xs : List Value} (h : Row w v xs) (h0 : xs ≠ []) {k : Nat} (hk : v.ownBlock = some k) : k < w.heap.size := by
 obtain ⟨a, cap, rfl, -, -, -, h3⟩ := h;rcases h3 with h3 | ⟨b, off, rfl, hc⟩
 ·
  exact absurd h3 h0
 ·
  simp only [Value.ownBlock, Option.some.injEq] at hk;subst hk;have hp : 0 < xs.length := List.length_pos_iff.2 h0;have hx : xs[0]? = some xs[0] := List.getElem?_eq_getElem hp;exact lt_of_cell ((hc 0 hp).trans hx)
theorem RowF.oldR {F : Nat → Prop} {w w' : World} {v : Value} {xs : List Value} (h : Row w v xs) (hb : Below w.heap.size w w') (hF : ∀ i, F i → w.heap.size ≤ i) : RowF F w' v xs :=
 ⟨h.below hb, fun h0 k hk x => by have := Row.ltvP h h0 hk; have := hF k x; omega⟩
def BndP (d : Dv) (B : Nat) : Prop := 0 ≤ d.msgs ∧ d.msgs ≤ B ∧ 0 ≤ d.flts ∧ d.flts ≤ B ∧ d.unit = 0
theorem BndP.mono {d : Dv} {B B' : Nat} (h : BndP d B) (hb : B ≤ B') : BndP d B' := by
 obtain ⟨h1, h2, h3, h4, h5⟩ := h;exact ⟨h1, by omega, h3, by omega, h5⟩
theorem BndP.do {d : Dv} {B : Nat} (h : BndP d B) (n : Nat) (q : Rq) : BndP (doD n d q).2 (B + 1) := by
 obtain ⟨h1, h2, h3, h4, h5⟩ := h;obtain ⟨k1, k2, k3, k4, k5⟩ := do_keeps n d q ⟨h1, h3⟩;exact ⟨k2, by omega, k4, by omega, k1.trans h5⟩
theorem BndP.pdu {d : Dv} {B : Nat} (h : BndP d B) (n : Nat) (b : List UInt8) : BndP (pduD n d b).2 (B + 1) := by
 obtain ⟨h1, h2, h3, h4, h5⟩ := h;obtain ⟨k1, k2, k3, k4, k5⟩ := pdu_keeps n d b ⟨h1, h3⟩;exact ⟨k2, by omega, k4, by omega, k1.trans h5⟩
theorem BndP.hm {d : Dv} {B : Nat} (h : BndP d B) (hb : B ≤ 1000) : 0 ≤ d.msgs ∧ d.msgs ≤ 100000000000000000 ∧ 0 ≤ d.flts ∧ d.flts ≤ 100000000000000000 := by
 obtain ⟨h1, h2, h3, h4, h5⟩ := h;omega
theorem BndP.hu {d : Dv} {B : Nat} (h : BndP d B) : 0 ≤ d.unit ∧ d.unit ≤ 255 := by rw [h.2.2.2.2]; decide
theorem old_gdP {W g lo hi : Nat} (h : W ≤ lo ∧ W ≤ g) : ∀ i, Gd g lo hi i → W ≤ i := fun i x => by
 rcases x with x | x
 ·
  omega
 ·
  have := x.1; omega
theorem not_gd {g lo hi k : Nat} (h1 : g < k) (h2 : hi ≤ k) : ¬ Gd g lo hi k := fun x => by
 rcases x with x | x
 ·
  omega
 ·
  have := x.2; omega
theorem zero_sz (n : Nat) : Sz n (Cs.zero n) := by simp [Sz, Cs.zero]
theorem or_int (x y : UInt8) : bits BinOp.or IntKind.i64 ((x.toNat : Int) * 256) (y.toNat : Int) = ((mkW x y).toNat : Int) := by
 have hx' := x.toNat_lt;have hy' := y.toNat_lt;rw [mkW_nat, show ((x.toNat : Int) * 256) = ((x.toNat * 256 : Nat) : Int) by omega, i64_or_nat _ _ (by omega) (by omega), nat_join 8 _ _ (by omega) (by omega)]
set_option maxHeartbeats 400000 in
theorem rget_any (v : Value) (bs : List UInt8) (n : Int) (w : World) (hn : -9223372036854775808 ≤ n ∧ n ≤ 9223372036854775807) (hv : Row w v (bs.map bV)) :
  Calls Tryz.prog 73 #[v, .int .i64 n] w fun e w' => e = .returned (.tuple #[.int .i64 (getN bs n), .bool (getOk bs n)]) ∧ ∃ nq, w' = w.drewN nq := by
 obtain ⟨a, cap, rfl, -⟩ := id hv;obtain ⟨hl, hc, hm, hcell⟩ := hv.at;simp only [List.length_map] at hl hc ⊢;by_cases h : 0 ≤ n ∧ n + 2 ≤ bs.length
 ·
  obtain ⟨b, off, rfl, hcl⟩ := hcell n.toNat 0 (by simp; omega);have hm' : bs.length ≤ maxLen := by omega
  have c0 := hcl n.toNat (by simp; omega);have c1 := hcl (n.toNat + 1) (by simp; omega);have ok : getOk bs n = true := by simp [getOk]; omega
  have gn : getN bs n = (mkW (bs.getD n.toNat 0) (bs.getD (n.toNat + 1) 0)).toNat := by simp [getN, h]
  rw [ok, gn];obtain ⟨i, rfl⟩ : ∃ i : Nat, n = (i : Int) := ⟨n.toNat, by omega⟩;rw [Int.toNat_natCast] at *;obtain ⟨g1, g2⟩ := h;clear hcell hcl hv ok gn;unfold maxLen at hm hm';generalize bs.getD i 0 = x at *;generalize bs.getD (i + 1) 0 = y at *;have hx := x.toNat_lt;have hy := y.toNat_lt;have t1 : ¬ (i : Int) < 0 := by omega
  have t2 : ¬ (bs.length : Int) - 2 < (i : Int) := by omega
  have t3 : (i : Int) < (bs.length : Int) := by omega
  have t4 : (i : Int) + 1 < (bs.length : Int) := by omega
  go_enter Tryz.func73, Tryz.ntmps73;go_wp2;go_quiet (fail)
  go_wp2;go_ret2
  exact ⟨ret_int_bool (or_int x y), _, rfl⟩
 ·
  have ok : getOk bs n = false := by simp [getOk]; omega
  have gn : getN bs n = 0 := by simp [getN]; omega
  rw [ok, gn];clear hcell hv ok gn;unfold maxLen at hm;have hmx : bs.length ≤ 9223372036854775807 := by omega
  by_cases t1 : n < 0
  ·
   go_enter Tryz.func73, Tryz.ntmps73;go_wp2;go_ret2
   exact ⟨rfl, 0, rfl⟩
  ·
   have t2 : (bs.length : Int) - 2 < n := by omega
   go_enter Tryz.func73, Tryz.ntmps73;go_wp2;go_ret2
   exact ⟨rfl, 0, rfl⟩
set_option maxHeartbeats 400000 in
theorem rpack_any (v : Value) (l : List Bool) (w : World) (hv : Row w v (l.map Value.bool)) (hr : l.length ≤ 140737488351232) :
  Calls Tryz.prog 71 #[v] w fun e w' => ∃ v', e = .returned v' ∧ Row w' v' ((packL l).map bV) ∧ Below w.heap.size w w' ∧ NewV w.heap.size v' := by
 obtain ⟨a, cap, rfl, -⟩ := id hv;obtain ⟨hl, hc, hm, -⟩ := hv.at;simp only [List.length_map] at hl hc hv ⊢;have hmk := mk_zer 27 5 (.int .u8 0) 1 Tryz.underlying27 info_u8 rfl (((l.length : Int) + 7) / 8) ((l.length + 7) / 8) (by omega) (by omega) (by omega);have hb0 : Below w.heap.size w (w.alloc (.cells (zer ((l.length + 7) / 8) (.int .u8 0)) 5)) := (Below.refl _ _).alloc (Nat.le_refl _) _;have hg0 := zer_blk w ((l.length + 7) / 8) (.int .u8 0) 5;go_enter Tryz.func71, Tryz.ntmps71;go_wp2;go_loopw [13] (fun i wr => ∃ k : Nat, k ≤ l.length ∧ i = .int .i64 k ∧ Blk wr w.heap.size 5 ((List.range ((l.length + 7) / 8)).map fun j => bV (packB (l.take k) j)) ∧ Below w.heap.size w wr) (fun i _ => l.length - (intOf i).toNat)
 case atStart =>
  refine ⟨0, Nat.zero_le _, rfl, ?_, hb0⟩;have e : ((List.range ((l.length + 7) / 8)).map fun j => bV (packB (l.take 0) j)) = List.replicate ((l.length + 7) / 8) (.int .u8 0) := by
   apply List.ext_getElem
   ·
    simp
   ·
    intro i h1 h2;simp [bV, packB_nat, ofBits]
  rw [e]; exact hg0
 case round =>
  obtain ⟨k, hk, rfl, hg, hb⟩ := hrel;clear hmk hb0 hg0;by_cases hlt : k < l.length
  ·
   obtain ⟨-, -, -, hcell⟩ := (hv.below hb).at;obtain ⟨b, off, rfl, hcl⟩ := hcell k false hlt;have c0 := hcl k hlt;clear hcl hcell hv;have S : Hid _ := pack_step l ((l.length + 7) / 8) k hlt (by omega);have ex : l.getD k false = l[k] := by simp [hlt]
   rw [ex] at c0;clear ex;generalize l[k] = x at *;have hsz : (k / 8 : Nat) < ((List.range ((l.length + 7) / 8)).map fun j => bV (packB (l.take k) j)).length := by simp; omega
   have cu := hg.cell (k / 8);rw [List.getElem?_eq_getElem hsz] at cu;simp only [List.getElem_map, List.getElem_range] at cu;have fu := hg.frozen (k / 8);generalize packB (l.take k) (k / 8) = y at *;have hy := y.toNat_lt;have hlt' : (k : Int) / 8 < (((l.length + 7) / 8 : Nat) : Int) := by omega
   cases x
   ·
    go_wp2;go_roundw
    case rel =>
     have S' := S.out;rw [if_neg (by simp)] at S';exact ⟨k + 1, by omega, by go_num, by rw [S']; exact hg, hb⟩
    case measure => simp [intOf]; omega
   ·
    go_wp2;go_roundw
    case rel =>
     have S' := S.out;rw [if_pos rfl] at S';refine ⟨k + 1, by omega, by go_num, ?_, ?_⟩
     ·
      rw [or_bit, S'];exact hg.set (k / 8) _
     ·
      exact hb.setCell (p := ⟨w.heap.size, k / 8, none⟩) (Nat.le_refl _) _
    case measure => simp [intOf]; omega
  ·
   have : k = l.length := by omega
   subst this;go_wp2;go_ret;refine ⟨_, rfl, ?_, hb, NewV.some _ _ _ _ _ (Nat.le_refl _)⟩;rw [List.take_length] at hg;have e : ((List.range ((l.length + 7) / 8)).map fun j => bV (packB l j)) = (packL l).map bV := by simp [packL]
   rw [e] at hg;have := hg.row ((l.length + 7) / 8) (by simp [packL_len]) (by unfold maxLen; omega)
   simpa [packL_len] using this
set_option maxHeartbeats 400000 in
theorem rput_own (v : Value) (bs : List UInt8) (n : Int) (w : World) (_hn : -9223372036854775808 ≤ n ∧ n ≤ 9223372036854775807) (hv : Row w v (bs.map bV)) (hr : bs.length ≤ 140737488351232) :
  Calls Tryz.prog 69 #[v, .int .i64 n] w fun e w' => ∃ v', e = .returned v' ∧ w'.ownsRow w.heap.size 5 1 v' (bs.length + 2) ((bs ++ [hiB (wOf n), loB (wOf n)]).map bV) ∧ Below w.heap.size w w' := by
 have hb0 : Below w.heap.size w (w.alloc (.cells #[] 5)) := (Below.refl _ _).alloc (Nat.le_refl _) _;have ho0 := World.ownsRow_made (base := w.heap.size) (e := 5) (size := 1) w #[] 0 (Nat.le_refl _) (Nat.zero_le _) (by simp);have hv0 := hv.below hb0;obtain ⟨a, cap, rfl, -⟩ := id hv;go_enter Tryz.func69, Tryz.ntmps69;go_wp2_with (at_builtin; refine wpList_app rfl (.tmp 5) (.tmp 6) 27 rfl w.heap.size 5 (.int .u8 0) 1 Tryz.underlying27 info_u8 rfl rfl ho0 rfl hv0 (one_bytes bs) ?h1 ?h2 ?h3 ?_)
 case h1 => simp [maxLen]; omega
 case h2 => simp; omega
 case h3 => simp
 intro v1 w1 ho1 hg1;have hz1 : w.heap.size ≤ w1.heap.size := by have := hg1.size; simp at this; omega
 have hr1 := row_new w1 [.int .u8 (IntKind.u64.wrap n / 256 % 256), .int .u8 (n % 256)] 5 2 rfl (by decide);go_wp2_with (at_builtin; refine wpList_app rfl (.tmp 7) (.tmp 14) 27 rfl w.heap.size 5 (.int .u8 0) 1 Tryz.underlying27 info_u8 rfl rfl (ho1.alloc _) rfl hr1 ?k0 ?k1 ?k2 ?k3 ?_)
 case k0 => intro u hu; simp at hu; rcases hu with rfl | rfl <;> rfl
 case k1 => simp [maxLen]; omega
 case k2 => simp; omega
 case k3 => simp; omega
 intro v2 w2 ho2 hg2;go_wp2;go_ret;have e : (bs.map bV ++ [Value.int .u8 (IntKind.u64.wrap n / 256 % 256), .int .u8 (n % 256)]) = (bs ++ [hiB (wOf n), loB (wOf n)]).map bV := by
  have h1 : (IntKind.u64.wrap n / 256 % 256) = ((hiB (wOf n)).toNat : Int) := by
   have := wOf_nat n;rw [hiB_nat, IntKind.wrap_u64]; omega
  have h2 : (n % 256) = ((loB (wOf n)).toNat : Int) := by
   have := wOf_nat n;rw [loB_nat]; omega
  rw [h1, h2]; simp
 rw [e] at ho2;refine ⟨_, rfl, by simpa using ho2, ?_⟩;have q1 : Below w.heap.size w w1 := hb0.grown hg1 (by simp) (fun k hk => by simp [Value.ownBlock] at hk; omega);exact (q1.alloc hz1 _).grown hg2 (by simp; omega) (fun k hk => (ho1.lt k hk).1)
set_option maxHeartbeats 400000 in
theorem rbytes_any (v : Value) (l : List UInt16) (w : World) (hv : Row w v (l.map wV)) (hr : l.length * 2 ≤ 140737488351232) :
  Calls Tryz.prog 72 #[v] w fun e w' => ∃ v', e = .returned v' ∧ Row w' v' ((bytesL l).map bV) ∧ Below w.heap.size w w' ∧ NewV w.heap.size v' := by
 obtain ⟨a, cap, rfl, -⟩ := id hv;obtain ⟨hl, hc, hm, -⟩ := hv.at;simp only [List.length_map] at hl hc hv ⊢;go_enter Tryz.func72, Tryz.ntmps72;go_wp2;go_loopw [3, 8] (fun v i wr => ∃ k : Nat, k ≤ l.length ∧ i = .int .i64 k ∧ wr.ownsRow w.heap.size 5 1 v (2 * k) ((bytesL (l.take k)).map bV) ∧ Below w.heap.size w wr) (fun _ i _ => l.length - (intOf i).toNat)
 case atStart => exact ⟨0, Nat.zero_le _, rfl, World.ownsRow_nil _ _ _ _, Below.refl _ _⟩
 case round =>
  obtain ⟨k, hk, rfl, ho, hb⟩ := hrel;by_cases hlt : k < l.length
  ·
   obtain ⟨-, -, -, hcell⟩ := (hv.below hb).at;obtain ⟨b, off, rfl, hcl⟩ := hcell k 0 hlt;have cx := hcl k hlt;clear hcl hcell hv;have S : Hid _ := bytesL_take_succ l k hlt;have ex : l.getD k 0 = l[k] := by simp [hlt]
   rw [ex] at cx;clear ex;generalize l[k] = x at *;have hx := x.toNat_lt;have hlt' : (k : Int) < (l.length : Int) := by omega
   have hr1 := row_new wr [.int .u8 ((x.toNat : Int) / 256), .int .u8 ((x.toNat : Int) % 256)] 5 2 rfl (by decide);have hsz := hb.size;go_wp2_with (at_builtin; refine wpList_app rfl (.tmp 12) (.tmp 18) 27 rfl w.heap.size 5 (.int .u8 0) 1 Tryz.underlying27 info_u8 rfl rfl (ho.alloc _) rfl hr1 ?k0 ?k1 ?k2 ?k3 ?_)
   case k0 => intro u hu; simp at hu; rcases hu with rfl | rfl <;> rfl
   case k1 => simp [maxLen]; omega
   case k2 => simp; omega
   case k3 => simp; omega
   intro v2 w2 ho2 hg2;have e : ((bytesL (l.take k)).map bV ++ [Value.int .u8 ((x.toNat : Int) / 256), .int .u8 ((x.toNat : Int) % 256)]) = (bytesL (l.take (k + 1))).map bV := by
    have h1 : ((x.toNat : Int) / 256) = ((hiB x).toNat : Int) := by rw [hiB_nat]; omega
    have h2 : ((x.toNat : Int) % 256) = ((loB x).toNat : Int) := by rw [loB_nat]; omega
    rw [S.out, h1, h2]; simp
   rw [e] at ho2;clear e;have q := (hb.alloc hsz (.cells #[.int .u8 ((x.toNat : Int) / 256), .int .u8 ((x.toNat : Int) % 256)] 5)).grown hg2 (by simp; omega) (fun k hk => (ho.lt k hk).1);go_wp2;go_roundw
   case rel => exact ⟨k + 1, by omega, by go_num, ho2, q⟩
   case measure => simp [intOf]; omega
  ·
   have : k = l.length := by omega
   subst this;go_wp2;go_ret;rw [List.take_length] at ho;exact ⟨_, rfl, Row.of_owns ho, hb, NewV.of_owns ho⟩
theorem words_take (bs : List UInt8) (k : Nat) (h : k < bs.length / 2) : (wordsL bs).take (k + 1) = (wordsL bs).take k ++ [mkW (bs.getD (2 * k) 0) (bs.getD (2 * k + 1) 0)] := by
 have hl := wordsL_len bs;have e3 : (wordsL bs)[k]'(by omega) = mkW (bs.getD (2 * k) 0) (bs.getD (2 * k + 1) 0) := by
  simp only [wordsL_eq, List.getElem_map, List.getElem_range]
 rw [List.take_succ_eq_append_getElem (by omega), e3]
set_option maxHeartbeats 400000 in
theorem rwords_any (v : Value) (bs : List UInt8) (w : World) (hv : Row w v (bs.map bV)) (hr : bs.length ≤ 140737488351232) :
  Calls Tryz.prog 74 #[v] w fun e w' => ∃ v', e = .returned (.tuple #[v', .bool (bs.length % 2 == 0)]) ∧ Row w' v' ((wordsR bs).map wV) ∧ Below w.heap.size w w' ∧ NewV w.heap.size v' := by
 obtain ⟨a, cap, rfl, -⟩ := id hv;obtain ⟨hl, hc, hm, -⟩ := hv.at;simp only [List.length_map] at hl hc hv ⊢;unfold wordsR;by_cases hodd : bs.length % 2 = 0
 ·
  rw [if_pos hodd, beq_iff_eq.2 hodd];have ht : ((bs.length : Int) % 2 != 0) = false := by simp; omega
  have HO : Hid (bs.length % 2 = 0) := hodd;clear hodd;go_enter Tryz.func74, Tryz.ntmps74;go_wp2;go_loopw [4, 5] (fun v i wr => ∃ k j : Nat, k ≤ bs.length / 2 ∧ 2 * k = j ∧ i = .int .i64 (j : Int) ∧ wr.ownsRow w.heap.size 31 1 v k (((wordsL bs).take k).map wV) ∧ Below w.heap.size w wr) (fun _ i _ => bs.length - (intOf i).toNat)
  case atStart => exact ⟨0, 0, Nat.zero_le _, rfl, rfl, World.ownsRow_nil _ _ _ _, Below.refl _ _⟩
  case round =>
   obtain ⟨k, j, hk, hj, rfl, ho, hb⟩ := hrel;have HO' := HO.out;by_cases hlt : k < bs.length / 2
   ·
    obtain ⟨-, -, -, hcell⟩ := (hv.below hb).at;have S : Hid _ := words_take bs k hlt;rw [hj] at S;obtain ⟨b, off, rfl, hcl⟩ := hcell j 0 (by omega);have c0 := hcl j (by omega);have c1 := hcl (j + 1) (by omega);clear hcl hcell hv;generalize bs.getD j 0 = x at *;generalize bs.getD (j + 1) 0 = y at *;have hx := x.toNat_lt;have hy := y.toNat_lt;have hlt' : (j : Int) < (bs.length : Int) := by omega
    have hw : IntKind.i64.wrap ((j : Int) + 1) = ((j + 1 : Nat) : Int) := by rw [IntKind.wrap_i64]; omega
    have hlt2 : (j : Int) + 1 < (bs.length : Int) := by omega
    have hlt3 : (0 : Int) ≤ (j : Int) + 1 := by omega
    have hwx : IntKind.u16.wrap (x.toNat : Int) = (x.toNat : Int) := by rw [IntKind.wrap_u16]; omega
    have hwy : IntKind.u16.wrap (y.toNat : Int) = (y.toNat : Int) := by rw [IntKind.wrap_u16]; omega
    have hwz : IntKind.u16.wrap ((x.toNat : Int) * 256) = (x.toNat : Int) * 256 := by rw [IntKind.wrap_u16]; omega
    have hsz := hb.size;have hb2 : 2 * k = j := hj;have HJ : Hid (2 * k = j) := hj;clear hj HO' hb2;have hor : Hid _ := or_word x y;go_wp2;go_region_law (refine step_app rfl (.tmp 16) (.tmp 30) 30 rfl w.heap.size 31 (.int .u16 0) 2 Tryz.underlying30 info_u16 rfl (by simp [Act.eval]; rfl) (by exact ho.alloc _) (by simp [Act.eval]; rfl) (by exact row_new wr [_] 31 1 rfl (by decide)) (by intro u hu; simp at hu; subst hu; rfl) (by simp [maxLen]; omega) (by simp; omega) (by simp; omega) ?_; intro v2 w2 ho2 hg2)
    all_goals
     have q := (hb.alloc hsz (.cells #[.int .u16 (bits BinOp.or IntKind.u16 ((x.toNat : Int) * 256) (y.toNat : Int))] 31)).drew.grown hg2 (by simp; omega) (fun k hk => (ho.lt k hk).1);rw [hor.out] at ho2;clear hw hwx hwy hwz;go_wp2;go_roundw
     case rel =>
      have J := HJ.out;refine ⟨k + 1, j + 2, by omega, by omega, by go_num, ?_, q⟩;rw [S.out]
      simpa using ho2
     case measure => simp [intOf]; omega
   ·
    have h0 : ¬ (j : Int) < (bs.length : Int) := by omega
    have : k = bs.length / 2 := by omega
    subst this;clear HO' hj hv;go_wp2;go_ret2
    rw [List.take_of_length_le (by rw [wordsL_len]; omega)] at ho;exact ⟨_, rfl, Row.of_owns ho, hb, NewV.of_owns ho⟩
 ·
  have hb : (bs.length % 2 == 0) = false := by simpa using hodd
  rw [if_neg hodd, hb];have ht : ((bs.length : Int) % 2 != 0) = true := by simp; omega
  clear hodd hb hv;go_enter Tryz.func74, Tryz.ntmps74;go_wp2;go_ret2
  exact ⟨_, rfl, Row.nil _, Below.refl _ _, NewV.none _ _ _⟩
theorem openL_succ (bs : List UInt8) (j : Nat) : openL bs (j + 1) = openL bs j ++ [bitAt bs j] := by simp [openL, List.range_succ]
theorem openOk_false (bs : List UInt8) (n j : Nat) (h1 : n ≤ j) (h2 : j < 8 * bs.length) (hb : bitAt bs j = true) : openOk bs n = false := by
 cases h : openOk bs n with
 | false => rfl
 | true =>
  unfold openOk at h;simp only [Bool.and_eq_true, List.all_eq_true, List.mem_range] at h;have := h.2 j h2;simp [hb] at this;omega
theorem openOk_true (bs : List UInt8) (n : Nat) (h : bs.length = (n + 7) / 8) (hall : ∀ i, n ≤ i → i < 8 * bs.length → bitAt bs i = false) : openOk bs n = true := by
 unfold openOk;simp only [Bool.and_eq_true, decide_eq_true_eq, List.all_eq_true, List.mem_range];refine ⟨⟨by omega, by omega⟩, fun i hi => ?_⟩;by_cases hin : i < n
 ·
  simp [hin]
 ·
  simp [hall i (by omega) hi]
set_option maxHeartbeats 1000000 in
theorem ropen_any (v : Value) (bs : List UInt8) (n : Int) (w : World) (hn : -9223372036854775808 ≤ n ∧ n ≤ 9223372036854775807) (hv : Row w v (bs.map bV)) (hr : bs.length ≤ 140737488351232) (hn3 : n ≤ 140737488355327) :
  Calls Tryz.prog 34 #[v, .int .i64 n] w fun e w' => ∃ v', e = .returned (.tuple #[v', .bool (openOk bs n)]) ∧ Row w' v' ((openR bs n).map Value.bool) ∧ Below w.heap.size w w' ∧ NewV w.heap.size v' := by
 obtain ⟨a, cap, rfl, -⟩ := id hv;obtain ⟨hl, hc, hm, -⟩ := hv.at;simp only [List.length_map] at hl hc hv ⊢;obtain ⟨hn1, hn2⟩ := hn;by_cases h0 : n < 0
 ·
  rw [openR_no (openOk_neg bs n h0), openOk_neg bs n h0];go_enter Tryz.func34, Tryz.ntmps34;go_wp2;go_ret2
  exact ⟨_, rfl, Row.nil _, Below.refl _ _, NewV.none _ _ _⟩
 ·
  by_cases hbig : 8 * (bs.length : Int) < n
  ·
   rw [openR_no (openOk_len bs n (by omega)), openOk_len bs n (by omega)];go_enter Tryz.func34, Tryz.ntmps34;go_wp2;go_ret2
   exact ⟨_, rfl, Row.nil _, Below.refl _ _, NewV.none _ _ _⟩
  ·
   by_cases hlen : (bs.length : Int) = (n + 7) / 8
   ·
    obtain ⟨k, rfl⟩ : ∃ k : Nat, n = (k : Int) := ⟨n.toNat, by omega⟩;have hlk : bs.length = (k + 7) / 8 := by omega
    have ht : ((bs.length : Int) != ((k : Int) + 7) / 8) = false := by simp; omega
    have HL : Hid (bs.length = (k + 7) / 8) := hlk;have hk1 : k ≤ 8 * bs.length := by omega
    clear hlk hlen;go_enter Tryz.func34, Tryz.ntmps34;go_wp2;go_loopw [6, 7] (fun o i wr => ∃ j : Nat, j ≤ 8 * bs.length ∧ i = .int .i64 j ∧ wr.ownsRow w.heap.size 4 1 o (min j k) ((openL bs (min j k)).map Value.bool) ∧ (∀ i, k ≤ i → i < j → bitAt bs i = false) ∧ Below w.heap.size w wr) (fun _ i _ => 8 * bs.length - (intOf i).toNat)
    case atStart => exact ⟨0, Nat.zero_le _, rfl, by simpa [openL] using World.ownsRow_nil _ _ _ _, fun i _ h => by omega, Below.refl _ _⟩
    case round =>
     obtain ⟨j, hj, rfl, ho, hz, hb⟩ := hrel;have HZ : Hid (∀ i, k ≤ i → i < j → bitAt bs i = false) := hz;clear hz;by_cases hlt : j < 8 * bs.length
     ·
      obtain ⟨-, -, -, hcell⟩ := (hv.below hb).at;have hj8 : j / 8 < bs.length := by omega
      obtain ⟨b, off, rfl, hcl⟩ := hcell (j / 8) 0 hj8;have c0 := hcl (j / 8) hj8;clear hcl hcell hv;have HX : Hid (bitAt bs j = (bs.getD (j / 8) 0).toNat.testBit (j % 8)) := rfl;generalize bs.getD (j / 8) 0 = x at *;have hx := x.toNat_lt;have hlt' : (j : Int) < 8 * (bs.length : Int) := by omega
      have hj8' : (j : Int) / 8 < (bs.length : Int) := by omega
      have T : Hid _ := bit_test x (j % 8) (by omega);have hsz := hb.size;by_cases hjk : j < k
      ·
       rw [Nat.min_eq_left (by omega)] at ho;have hr1 := row_new wr [.bool (bits BinOp.and IntKind.u8 ((x.toNat : Int) / 2 ^ (j % 8)) 1 == 1)] 4 1 rfl (by decide);go_wp2_with (at_builtin; refine wpList_app rfl (.tmp 47) (.tmp 49) 29 rfl w.heap.size 4 (.bool false) 1 Tryz.underlying29 info_bool rfl rfl (ho.alloc _) rfl hr1 ?k0 ?k1 ?k2 ?k3 ?_)
       case k0 => intro u hu; simp at hu; subst hu; rfl
       case k1 => simp [maxLen]; omega
       case k2 => simp; omega
       case k3 => simp; omega
       intro v2 w2 ho2 hg2;rw [T.out, ← HX.out] at ho2;have q := (hb.alloc hsz (.cells #[.bool (bits BinOp.and IntKind.u8 ((x.toNat : Int) / 2 ^ (j % 8)) 1 == 1)] 4)).grown hg2 (by simp; omega) (fun k hk => (ho.lt k hk).1);go_wp2;go_roundw
       case rel =>
        refine ⟨j + 1, by omega, by go_num, ?_, fun i h1 h2 => by omega, q⟩;rw [Nat.min_eq_left (by omega), openL_succ]
        simpa using ho2
       case measure => simp [intOf]; omega
      ·
       rw [Nat.min_eq_right (by omega)] at ho;have hjk' : ¬ (j : Int) < (k : Int) := by omega
       cases hbit : bitAt bs j
       ·
        have tb : (bits BinOp.and IntKind.u8 ((x.toNat : Int) / 2 ^ (j % 8)) 1 == 1) = false := by rw [T.out, ← HX.out, hbit]
        have HB : Hid (bitAt bs j = false) := hbit;clear hbit;go_wp2;go_roundw
        case rel =>
         refine ⟨j + 1, by omega, by go_num, ?_, fun i h1 h2 => ?_, hb⟩
         ·
          rw [Nat.min_eq_right (by omega)]; exact ho
         ·
          by_cases e : i = j
          ·
           subst e; exact HB.out
          ·
           exact HZ.out i h1 (by omega)
        case measure => simp [intOf]; omega
       ·
        have tb : (bits BinOp.and IntKind.u8 ((x.toNat : Int) / 2 ^ (j % 8)) 1 == 1) = true := by rw [T.out, ← HX.out, hbit]
        have F : Hid (openOk bs k = false) := openOk_false bs k j (by omega) hlt hbit;clear hbit;go_wp2;go_ret2
        rw [F.out, openR_no F.out];exact ⟨_, rfl, Row.nil _, hb, NewV.none _ _ _⟩
     ·
      have : j = 8 * bs.length := by omega
      have F : Hid (openOk bs k = true) := openOk_true bs k HL.out (fun i h1 h2 => HZ.out i h1 (by omega));rw [Nat.min_eq_right (by omega)] at ho;clear this;go_wp2;go_ret2
      rw [F.out, openR_yes F.out];exact ⟨_, rfl, Row.of_owns ho, hb, NewV.of_owns ho⟩
   ·
    rw [openR_no (openOk_len bs n hlen), openOk_len bs n hlen];have ht : ((bs.length : Int) != (n + 7) / 8) = true := by simpa using hlen
    clear hlen;go_enter Tryz.func34, Tryz.ntmps34;go_wp2;go_ret2
    exact ⟨_, rfl, Row.nil _, Below.refl _ _, NewV.none _ _ _⟩
theorem word_ref (n : Int) (w : World) : Calls Tryz.prog 67 #[.int .i64 n] w fun e w' => e = .returned (.bool (numB n)) ∧ w = w' := by
 by_cases h1 : 0 ≤ n
 ·
  by_cases h2 : n ≤ 65535
  ·
   have hb : numB n = true := by simp [numB]; omega
   rw [hb];go_enter Tryz.func67, Tryz.ntmps67;go_wp2;go_ret;exact ⟨rfl, rfl⟩
  ·
   have hb : numB n = false := by simp [numB]; omega
   rw [hb];go_enter Tryz.func67, Tryz.ntmps67;go_wp2;go_ret;exact ⟨rfl, rfl⟩
 ·
  have hb : numB n = false := by simp [numB]; omega
  rw [hb];go_enter Tryz.func67, Tryz.ntmps67;go_wp2;go_ret;exact ⟨rfl, rfl⟩
set_option maxHeartbeats 400000 in
theorem has_ref (f : Int) (w : World) : Calls Tryz.prog 48 #[.int .i64 f] w fun e w' => e = .returned (.bool (knownB f)) ∧ w = w' := by
 cases hb : knownB f
 ·
  have hn := of_decide_eq_false hb;obtain ⟨-, -, -, -, -, -, h8, h15, h16, h17, h22, h23⟩ := known_no hb;clear hb;by_cases h1 : 1 ≤ f
  ·
   have h2 : ¬ f ≤ 6 := by omega
   clear hn;go_enter Tryz.func48, Tryz.ntmps48;go_wp2;go_ret;exact ⟨rfl, rfl⟩
  ·
   clear hn;go_enter Tryz.func48, Tryz.ntmps48;go_wp2;go_ret;exact ⟨rfl, rfl⟩
 ·
  rcases known_cases hb with rfl | rfl | rfl | rfl | rfl | rfl | rfl | rfl | rfl | rfl | rfl | rfl
  all_goals
   clear hb;go_enter Tryz.func48, Tryz.ntmps48;go_wp2;go_ret;exact ⟨rfl, rfl⟩
def usesL (f : Int) : List UInt8 :=
 if f = 1 ∨ f = 2 ∨ f = 3 ∨ f = 4 then [97, 99]
 else if f = 5 then [97, 98]
 else if f = 6 then [97, 118]
 else if f = 8 then [115, 118]
 else if f = 15 then [97, 99, 98]
 else if f = 16 then [97, 99, 118]
 else if f = 22 then [97, 109]
 else if f = 23 then [97, 99, 119, 118]
 else []
set_option maxHeartbeats 400000 in
theorem uses_ref (f : Int) (w : World) (hk : knownB f = true) : Calls Tryz.prog 66 #[.int .i64 f] w fun e w' => e = .returned (.string ⟨(usesL f).toArray⟩) ∧ w = w' := by
 rcases known_cases hk with rfl | rfl | rfl | rfl | rfl | rfl | rfl | rfl | rfl | rfl | rfl | rfl
 all_goals
  clear hk;go_enter Tryz.func66, Tryz.ntmps66;go_wp2;go_ret;exact ⟨rfl, rfl⟩
set_option maxHeartbeats 400000 in
theorem in_ref (l : List UInt8) (c : UInt8) (w : World) (hl : l.length ≤ 100) : Calls Tryz.prog 32 #[.string ⟨l.toArray⟩, .int .u8 c.toNat] w fun e w' => e = .returned (.bool (l.contains c)) ∧ w = w' := by
 have hs : (⟨l.toArray⟩ : ByteArray).size = l.length := rfl;go_enter Tryz.func32, Tryz.ntmps32;go_wp2;go_loopw [5] (fun i wr => ∃ k : Nat, k ≤ l.length ∧ i = .int .i64 k ∧ (∀ j, j < k → l.getD j 0 ≠ c) ∧ w = wr) (fun i _ => l.length - (intOf i).toNat)
 case atStart => exact ⟨0, Nat.zero_le _, rfl, fun j h => by omega, rfl⟩
 case round =>
  obtain ⟨k, hk, rfl, hn, rfl⟩ := hrel;have HN := hidden hn;clear hn;by_cases hlt : k < l.length
  ·
   have hlt' : (k : Int) < (l.length : Int) := by omega
   have HG : Hid (l.getD k 0 = (⟨l.toArray⟩ : ByteArray)[k]'hlt) := by
    show _ = _;have : (⟨l.toArray⟩ : ByteArray)[k]'hlt = l[k] := rfl;rw [this]; simp [hlt]
   by_cases hc : (⟨l.toArray⟩ : ByteArray)[k]'hlt = c
   ·
    have t : ((((⟨l.toArray⟩ : ByteArray)[k]'hlt).toNat : Int) == (c.toNat : Int)) = true := by rw [hc]; simp
    have F : Hid (l.contains c = true) := by
     show _ = _;rw [List.contains_iff_mem, ← hc];exact List.getElem_mem hlt
    clear hc;go_wp2;go_ret;exact ⟨ret_bool F.out.symm, rfl⟩
   ·
    have t : ((((⟨l.toArray⟩ : ByteArray)[k]'hlt).toNat : Int) == (c.toNat : Int)) = false := by
     rw [beq_eq_false_iff_ne]; intro h; exact hc (UInt8.toNat_inj.1 (by omega))
    have HC := hidden hc;clear hc;go_wp2;go_roundw
    case rel =>
     refine ⟨k + 1, by omega, by go_num, fun j hj => ?_, trivial⟩;by_cases e : j = k
     ·
      subst e; rw [HG.out]; exact HC.out
     ·
      exact HN.out j (by omega)
    case measure => simp [intOf]; omega
  ·
   obtain rfl : k = l.length := by omega
   have F : Hid (l.contains c = false) := by
    show _ = _;rw [← Bool.not_eq_true, List.contains_iff_mem];intro h;obtain ⟨i, hi, e⟩ := List.getElem_of_mem h;exact HN.out i hi (by simpa [hi] using e)
   go_wp2;go_ret;exact ⟨ret_bool F.out.symm, rfl⟩
set_option maxHeartbeats 1000000 in
theorem lists_ref (v : Value) (q : Rq) (w : World) (h : IsRq w v q) (hk : knownB q.fn = true) :
  Calls Tryz.prog 68 #[v] w fun e w' => e = .returned (.bool (listB q)) ∧ Below w.heap.size w w' := by
 obtain ⟨f, a, c, p, s, bs, vs, m, o⟩ := q;obtain ⟨vb, vv, rfl, hb, hv⟩ := h;obtain ⟨ab, capb, rfl, hc1, hc2, -⟩ := id hb;obtain ⟨av, capv, rfl, hd1, hd2, -⟩ := id hv;simp only [List.length_map] at hb hv hk hc1 hd1 ⊢;clear hb hv;unfold maxLen at hc2 hd2;have B : Hid (∀ o n, Below w.heap.size w ((w.alloc o).drewN n)) := fun o n => below_drewn ((Below.refl _ _).alloc (Nat.le_refl _) o) n;have R : Hid (listB ⟨f, a, c, p, s, bs, vs, m, o⟩ = listB ⟨f, a, c, p, s, bs, vs, m, o⟩) := rfl;rcases known_cases hk with rfl | rfl | rfl | rfl | rfl | rfl | rfl | rfl | rfl | rfl | rfl | rfl
 case inr.inr.inr.inr.inr.inr.inr.inl =>
  by_cases h1 : (bs.length : Int) = c
  ·
   by_cases h2 : (bs.length : Int) ≤ 2040
   ·
    have e : listB ⟨15, a, c, p, s, bs, vs, m, o⟩ = true := by simp [listB]; omega
    rw [e];have t1 : ((bs.length : Int) == c) = true := by simpa using h1
    clear hk R e h1;go_enter Tryz.func68, Tryz.ntmps68;go_wp2;go_quiet (fail)
    go_wp2;go_ret;first | exact ⟨rfl, B.out _ _⟩ | exact ⟨ret_bool (by simp; omega), B.out _ _⟩
   ·
    have e : listB ⟨15, a, c, p, s, bs, vs, m, o⟩ = false := by simp [listB]; omega
    rw [e];have t1 : ((bs.length : Int) == c) = true := by simpa using h1
    clear hk R e h1;go_enter Tryz.func68, Tryz.ntmps68;go_wp2;go_quiet (fail)
    go_wp2;go_ret;first | exact ⟨rfl, B.out _ _⟩ | exact ⟨ret_bool (by simp; omega), B.out _ _⟩
  ·
   have e : listB ⟨15, a, c, p, s, bs, vs, m, o⟩ = false := by simp [listB]; omega
   rw [e];have t1 : ((bs.length : Int) == c) = false := by simpa using h1
   clear hk R e h1;go_enter Tryz.func68, Tryz.ntmps68;go_wp2;go_quiet (fail)
   go_wp2;go_ret;first | exact ⟨rfl, B.out _ _⟩ | exact ⟨ret_bool (by simp; omega), B.out _ _⟩
 case inr.inr.inr.inr.inr.inr.inr.inr.inl =>
  by_cases h1 : (vs.length : Int) = c
  ·
   by_cases h2 : (vs.length : Int) ≤ 127
   ·
    have e : listB ⟨16, a, c, p, s, bs, vs, m, o⟩ = true := by simp [listB]; omega
    rw [e];have t1 : ((vs.length : Int) == c) = true := by simpa using h1
    clear hk R e h1;go_enter Tryz.func68, Tryz.ntmps68;go_wp2;go_quiet (fail)
    go_wp2;go_ret;first | exact ⟨rfl, B.out _ _⟩ | exact ⟨ret_bool (by simp; omega), B.out _ _⟩
   ·
    have e : listB ⟨16, a, c, p, s, bs, vs, m, o⟩ = false := by simp [listB]; omega
    rw [e];have t1 : ((vs.length : Int) == c) = true := by simpa using h1
    clear hk R e h1;go_enter Tryz.func68, Tryz.ntmps68;go_wp2;go_quiet (fail)
    go_wp2;go_ret;first | exact ⟨rfl, B.out _ _⟩ | exact ⟨ret_bool (by simp; omega), B.out _ _⟩
  ·
   have e : listB ⟨16, a, c, p, s, bs, vs, m, o⟩ = false := by simp [listB]; omega
   rw [e];have t1 : ((vs.length : Int) == c) = false := by simpa using h1
   clear hk R e h1;go_enter Tryz.func68, Tryz.ntmps68;go_wp2;go_quiet (fail)
   go_wp2;go_ret;first | exact ⟨rfl, B.out _ _⟩ | exact ⟨ret_bool (by simp; omega), B.out _ _⟩
 all_goals
  clear hk;go_enter Tryz.func68, Tryz.ntmps68;go_wp2;go_quiet (fail)
  go_wp2;go_ret;refine ⟨ret_bool ?_, B.out _ _⟩;rw [Bool.eq_iff_iff];simp [listB];try omega
end Go.Proofs.YtdihcdphgiaepaaGreat
