/- Joined texts. -/
import Derived.Test.YtdihcdphgiaepaaGreatZZ26
set_option maxHeartbeats 2000000
set_option maxRecDepth 100000
namespace Go.Proofs.YtdihcdphgiaepaaGreat
open Go.RowKit
def kq1 : Rq := ⟨23, 3, 6, 14, 0, [], [255, 1], 0, 0⟩
def kq2 : Rq := ⟨5, 172, 0, 0, 0, [true], [], 0, 0⟩
def kb1 : List UInt8 := [23, 0, 3, 0, 6, 0, 14, 0, 2, 4, 0, 255, 0, 1]
def kb2 : List UInt8 := [5, 0, 172, 255, 0]
theorem open_i64s {H : Type} {enc : TypeId × Value → H} {P : Program} {w : World} {base : Nat} {held : Bool} {t e : TypeId} {a : Option Addr} {len cap : Nat} {d : DataW H} {p : List MemPlace} (ht : P.underlying t = some (.slice e)) (he : P.underlying e = some (.int .i64)) (hc : P.cellsOf e = 1)
  (h : DataW.Trod enc P w base (fun _ => true) held t (.slice a len cap) d p) : ∃ xs : List Int, Row w (.slice a len cap) (xs.map iV) ∧ lenIs d xs.length ∧ ∀ n ∈ xs, -9223372036854775808 ≤ n ∧ n ≤ 9223372036854775807 := by
 obtain ⟨zs, hr, hd, hw⟩ := open_row ht he hc h;exact ⟨zs, hr, hd, fun n hn => bounds_i64 (hw n hn)⟩
def ReqOk : Prop := ∀ (B g : Nat) (l : List Int) (w : World), Tap B w g l → B ≤ w.heap.size →
  Calls Tryz.prog 11 #[.pointer (some ⟨g, 0, none⟩)] w fun e w' => ∃ v', e = .returned v' ∧ ∃ q, IsRq w' v' q ∧ rightE q = 0 ∧ q.bits.length ≤ 30 ∧ (q.vals.length ≤ 30 ∧ q.cnt ≤ 30) ∧ NewQ B v' ∧ Dev B g w w'
theorem tap_new (w : World) (a : Option Addr) (n cap : Nat) (l : List Int) (h : Row w (.slice a n cap) (l.map iV)) (hi : ∀ x ∈ l, -9223372036854775808 ≤ x ∧ x ≤ 9223372036854775807) :
  Tap (w.heap.size + 1) (w.alloc (.cells #[.slice a n cap, J 0] 40)) w.heap.size l := by
 have hb : Bo w (w.alloc (.cells #[.slice a n cap, J 0] 40)) := aL _ _;refine ⟨⟨.slice a n cap, 0, Nat.zero_le _, Blk.new w 40 [.slice a n cap, J 0], h.below hb, ?_⟩, fun i hl => ?_, by omega⟩
 ·
  by_cases h0 : l = []
  ·
   left; rw [h0]; rfl
  ·
   right
   intro a' n' c' e;simp only [Value.slice.injEq] at e;obtain ⟨rfl, -, -⟩ := e;obtain ⟨a2, cap2, e, -, -, -, h4⟩ := h;simp only [Value.slice.injEq] at e;obtain ⟨rfl, -, -⟩ := e;rcases h4 with h4 | ⟨b, off, e, hc⟩
   ·
    exact absurd (by simpa using h4) h0
   ·
    cases e
    have hp : 0 < (l.map iV).length := by rw [List.length_map]; exact lpi.2 h0
    have := hc 0 hp;rw [List.getElem?_eq_getElem hp] at this;have := lt_of_cell this;exact ⟨by simp only; omega, by simp only; omega⟩
 ·
  have : l.getD i 0 ∈ l := by
   rw [List.getD_eq_getElem?_getD, List.getElem?_eq_getElem hl]; exact List.getElem_mem hl
  exact hi _ this
theorem info_int9 : (Tryz.prog.info? 3).map (fun i => (i.zero, i.size, i.bytes)) = some (some (J 0), 1, 8) := by kernel_rfl
theorem tape_law9 (k : Nat) (w : World) (hk : k ≤ 1000) :
  Calls Tryz.prog 8 #[J k] w fun e w' => ∃ v', e = .returned v' ∧ ∃ l : List Int, Row w' v' (l.map iV) ∧ (∀ x ∈ l, -9223372036854775808 ≤ x ∧ x ≤ 9223372036854775807) ∧ Bo w w' := by
 go_enter Tryz.func8, Tryz.ntmps8;go_wp2;go_loopw [3, 4] (fun z i wr => ∃ (j : Nat) (l : List Int), j ≤ 900 ∧ i = J j ∧ wr.ownsRow w.heap.size 3 1 z j (l.map iV) ∧ Hid (∀ x ∈ l, -9223372036854775808 ≤ x ∧ x ≤ 9223372036854775807) ∧ Bo w wr) (fun _ i _ => 900 - (intOf i).toNat)
 case atStart => exact ⟨0, [], by omega, rfl, World.ownsRow_nil _ _ _ _, fun x hx => by simp at hx, Below.refl _ _⟩
 case round =>
  obtain ⟨j, l, hj, rfl, ho, HL, hb⟩ := hrel;have hz := hb.size;by_cases hlt : j < 900
  ·
   have hlt' : (j : Int) < 900 := by omega
   have p1 : (j : Int) * j ≤ 810000 := by
    have := Nat.mul_le_mul hj hj;have e : ((j * j : Nat) : Int) = (j : Int) * j := by simp
    omega
   have p0 : 0 ≤ (j : Int) * j := by
    have e : ((j * j : Nat) : Int) = (j : Int) * j := by simp
    omega
   have p3 : (j : Int) * k ≤ 900000 := by
    have := Nat.mul_le_mul hj hk;have e : ((j * k : Nat) : Int) = (j : Int) * k := by simp
    omega
   have p2 : 0 ≤ (j : Int) * k := by
    have e : ((j * k : Nat) : Int) = (j : Int) * k := by simp
    omega
   obtain ⟨t, ht⟩ : ∃ t, ((j : Int) * j * 7 + (k : Int) * 43 + (j : Int) * k) % 211 = t := ⟨_, rfl⟩;have t0 : 0 ≤ t := by omega
   have t1 : t ≤ 210 := by omega
   have RN := row_new wr [J t] 3 1 rfl (by decide);go_wp2_with (at_builtin; refine wpList_app rfl (.tmp 9) (.tmp 22) 25 rfl w.heap.size 3 (J 0) 8 Tryz.underlying25 info_int9 rfl rfl (ho.alloc _) rfl RN (by intro u hu; simp at hu; subst hu; rfl) (by simp [maxLen]; omega) (by simp; omega) (by simp; omega) ?_)
   intro v7 w7 ho7 hg7;have B7 := (hb.alloc hz (.cells #[J t] 3)).grown hg7 (by simp; omega) (fun k hk => (ho.lt k hk).1);clear ht p0 p1 p2 p3 RN;go_wp2;go_roundw
   case rel => exact ⟨j + 1, l ++ [t], by omega, by go_num, by simpa using ho7, fun y hy => by
    rcases List.mem_append.1 hy with h | h
    ·
     exact HL.out y h
    ·
     simp at h; omega, B7⟩
   case measure => simp [intOf]; omega
  ·
   have hlt' : ¬ (j : Int) < 900 := by omega
   go_wp2;go_ret;exact ⟨_, rfl, l, Row.of_owns ho, HL.out, hb⟩
theorem newv_ge {B : Nat} {a : Option Addr} {n c : Nat} (h : NewV B (.slice a n c)) {k : Nat} (hk : (Value.slice a n c).ownBlock = some k) : B ≤ k := by
 cases a with
 | none => cases hk
 | some ad =>
  simp only [Value.ownBlock, Option.some.injEq] at hk;have := h ad n c rfl;omega
theorem requests_law9 (a : Option Addr) (m cap : Nat) (l : List Int) (n : Nat) (w : World) (h : Row w (.slice a m cap) (l.map iV)) (hi : ∀ x ∈ l, -9223372036854775808 ≤ x ∧ x ≤ 9223372036854775807) (hn : n ≤ 1000) :
  Calls Tryz.prog 7 #[.slice a m cap, J n] w fun e w' => ∃ v', e = .returned v' ∧ ∃ qs, Reqs w' v' qs ∧ qs.length = n ∧ Below w.heap.size w w' := by
 have T0 := Hh (tap_new w a m cap l h hi);have B0 := Hh (aL w (.cells #[.slice a m cap, J 0] 40));have s0 : w.heap.size < (w.alloc (.cells #[.slice a m cap, J 0] 40)).heap.size := by rw [sza]; omega
 have S0 := Hh s0;have s1 : w.heap.size + 1 ≤ (w.alloc (.cells #[.slice a m cap, J 0] 40)).heap.size := by rw [sza]; omega
 have S1 := Hh s1;clear h hi s0 s1;go_enter Tryz.func7, Tryz.ntmps7;go_wp2_with fail
 have T1 := T0.out;have B1 := B0.out;have z1 := S0.out;have z2 := S1.out;clear T0 B0 S0 S1;generalize w.alloc (.cells #[.slice a m cap, J 0] 40) = w1 at *;obtain ⟨g, hg⟩ : ∃ g, w.heap.size = g := ⟨_, rfl⟩;rw [hg] at T1 B1 z1 z2 ⊢;go_loopw [6, 7] (fun z i wr => ∃ (j : Nat) (qs : List Rq), j ≤ n ∧ i = J j ∧ qs.length = j ∧ OReqs (· = g) wr (g + 1) z qs ∧ Tap (g + 1) wr g l ∧ Below g w wr ∧ g + 1 ≤ wr.heap.size) (fun _ i _ => n - (intOf i).toNat)
 case atStart => exact ⟨0, [], by omega, rfl, rfl, OReqs.nil _ _ (fun i hi => by omega), T1, B1, z2⟩
 case round =>
  clear T1 B1 z1 z2;obtain ⟨j, qs, hj, rfl, hq, O, T, B, zs⟩ := hrel;by_cases hlt : j < n
  ·
   have hlt' : (j : Int) < (n : Int) := by omega
   go_wp2_with fail
   refine (request_tap (g + 1) g l wr T zs).mono ?_;rintro e w2 ⟨v2, rfl, q, IQ, -, -, -, NQ, DV, T2⟩;obtain ⟨ab, cb, aq, capq, rfl, hq1, hq2⟩ := IQ.slices;obtain ⟨vb1, vv1, eq1, hr1, hr2⟩ := IQ;simp only [rqV, Ij] at eq1;obtain ⟨rfl, rfl⟩ := eq1;obtain ⟨nb, nv⟩ := NQ.parts;have sz := DV.size;have hlz : ∀ k, u6.ownBlock = some k → k < wr.heap.size := fun k hk => by
    obtain ⟨-, xs, h1, -⟩ := O;exact (h1.lt k hk).2
   have O2 := O.kp (F := (· = g)) ⟨DV.os, DV.tape, DV.output, DV.size, fun k hk hn => DV.block k hk hn⟩ (fun i _ h => h);have B2 : Below g w w2 := B.trans (DV.below (by omega) (Nat.le_refl g));have XB := Blk.new w2 tQ (Ql q.fn q.loc q.cnt q.wat q.sub ab q.bits cb aq q.vals capq q.land q.lor);have EB := aL w2 (.cells (Qa q.fn q.loc q.cnt q.wat q.sub ab q.bits cb aq q.vals capq q.land q.lor) tQ);have AK : ReqL (· = g) (w2.alloc (.cells (Qa q.fn q.loc q.cnt q.wat q.sub ab q.bits cb aq q.vals capq q.land q.lor) tQ)) u6 (fun j => ((Ql q.fn q.loc q.cnt q.wat q.sub ab q.bits cb aq q.vals capq q.land q.lor) : List Value)[j]?) q :=
    ⟨_, _, ⟨rfl, rfl, rfl, rfl, rfl, rfl, rfl, rfl, rfl⟩, ⟨hr1.below EB, fun _ k hk => by
     have hk2 := newv_ge nb hk;exact ⟨fun e => by have := hlz k e; omega, fun e => by omega⟩⟩, ⟨hr2.below EB, fun _ k hk => by
     have hk2 := newv_ge nv hk;exact ⟨fun e => by have := hlz k e; omega, fun e => by omega⟩⟩⟩
   have O3 := O2.ext EB;obtain ⟨hT, xs, h1, h2⟩ := O3;have H2 := Hh h2;have HA := Hh AK;have HB := Hh B2;have HT := Hh T2;clear O2 AK B2 T2 T B nb nv NQ hr1 hr2 hq1 hq2 h2 DV O hlz;go_wp2_with (at_builtin; refine wpList_pushR rfl (.tmp 16) (.tmp 19) rfl (g + 1) rfl h1 _ _ _ rfl XB rfl (by simp [Value.oneCell']) (by omega) (by simp; omega) ?_)
   intro v4 w4 q1 q2 q4;have PS := Hh (OReqs.push hT h1 H2.out HA.out (by rw [hq]; exact q1) q2 (by simpa using q4));have E4 : Below g w w4 := (HB.out.alloc (by omega) _).grown q2 (by simp; omega) (fun k hk => by have := (h1.lt k hk).1; omega);have T4 : Tap (g + 1) w4 g l := HT.out.below (((Below.refl (g + 1) w2).alloc (by omega) _).grown q2 (by simp; omega) (fun k hk => (h1.lt k hk).1));have HE := Hh E4;have HT4 := Hh T4;have zz : g + 1 ≤ w4.heap.size := by have := q2.size; simp at this; omega
   clear E4 T4 q1 q2 q4 h1 H2 HA HB HT XB EB hT;go_wp2;exact ⟨⟨j + 1, qs ++ [q], hlt, by simp, by simp [hq], PS.out, HT4.out, HE.out, zz⟩, by simp only [intOf]; omega⟩
  ·
   have hlt' : ¬ (j : Int) < (n : Int) := by omega
   have ej : j = n := by omega
   go_wp2;go_ret;exact ⟨_, rfl, qs, O.reqs, by omega, B⟩
theorem refuse_ref (f k : Int) (w : World) : Calls Tryz.prog 103 #[J f, J k] w fun e w' => e = .returned (rpV (f % 128) (k % 256) 0 0 0 nS nS 0 0 nS) ∧ Bo w w' := by
 have a1 := and127 f;have a2 := and255 k;go_enter Tryz.func103, Tryz.ntmps103;go_wp2;refine bodyPost_ret (v := _) (by simp [results, Tryz.results103, go_sem]; with_reducible rfl) rfl ?_;exact ⟨rfl, aL _ _⟩
theorem or_int (x y : UInt8) : bits BinOp.or IntKind.i64 ((x.toNat : Int) * 256) (y.toNat : Int) = ((mkW x y).toNat : Int) := by
 have hx' := x.toNat_lt;have hy' := y.toNat_lt;rw [mkW_nat, show ((x.toNat : Int) * 256) = ((x.toNat * 256 : Nat) : Int) by omega, i64_or_nat _ _ (by omega) (by omega), nat_join 8 _ _ (by omega) (by omega)]
theorem rget_any (v : Value) (bs : List UInt8) (n : Int) (w : World) (hn : -9223372036854775808 ≤ n ∧ n ≤ 9223372036854775807) (hv : Row w v (bs.map bV)) :
  Calls Tryz.prog 73 #[v, J n] w fun e w' => e = .returned (.tuple #[J (getN bs n), .bool (getOk bs n)]) ∧ ∃ nq, w' = w.drewN nq := by
 obtain ⟨a, cap, rfl, -⟩ := id hv;obtain ⟨hl, hc, hm, hcell⟩ := hv.at;simp only [List.length_map] at hl hc ⊢;by_cases h : 0 ≤ n ∧ n + 2 ≤ bs.length
 ·
  obtain ⟨b, off, rfl, hcl⟩ := hcell n.toNat 0 (by simp; omega);have hm' : bs.length ≤ maxLen := by omega
  have c0 := hcl n.toNat (by simp; omega);have c1 := hcl (n.toNat + 1) (by simp; omega);have ok : getOk bs n = true := by simp [getOk]; omega
  have gn : getN bs n = (mkW (bs.getD n.toNat 0) (bs.getD (n.toNat + 1) 0)).toNat := by simp [getN, h]
  rw [ok, gn];obtain ⟨i, rfl⟩ : ∃ i : Nat, n = (i : Int) := ⟨n.toNat, by omega⟩;rw [Int.toNat_natCast] at *;obtain ⟨g1, g2⟩ := h;clear hcell hcl hv ok gn;unfold maxLen at hm hm';generalize bs.getD i 0 = x at *;generalize bs.getD (i + 1) 0 = y at *;have hx := x.toNat_lt;have hy := y.toNat_lt;have t1 : ¬ (i : Int) < 0 := by omega
  have t2 : ¬ (bs.length : Int) - 2 < (i : Int) := by omega
  have t3 : (i : Int) < (bs.length : Int) := by omega
  have t4 : (i : Int) + 1 < (bs.length : Int) := by omega
  go_enter Tryz.func73, Tryz.ntmps73;go_wp2;go_quiet (fail)
  go_wp2;go_ret2
  exact ⟨ret_int_bool (or_int x y), _, rfl⟩
 ·
  have ok : getOk bs n = false := by simp [getOk]; omega
  have gn : getN bs n = 0 := by simp [getN]; omega
  rw [ok, gn];clear hcell hv ok gn;unfold maxLen at hm;have hmx : bs.length ≤ 9223372036854775807 := by omega
  by_cases t1 : n < 0
  ·
   go_enter Tryz.func73, Tryz.ntmps73;go_wp2;go_ret2
   exact ⟨rfl, 0, rfl⟩
  ·
   have t2 : (bs.length : Int) - 2 < n := by omega
   go_enter Tryz.func73, Tryz.ntmps73;go_wp2;go_ret2
   exact ⟨rfl, 0, rfl⟩
theorem rpack_any (v : Value) (l : List Bool) (w : World) (hv : Row w v (l.map Value.bool)) (hr : l.length ≤ 140737488351232) :
  Calls Tryz.prog 71 #[v] w fun e w' => ∃ v', e = .returned v' ∧ Row w' v' ((packL l).map bV) ∧ Bo w w' ∧ NewV w.heap.size v' := by
 obtain ⟨a, cap, rfl, -⟩ := id hv;obtain ⟨hl, hc, hm, -⟩ := hv.at;simp only [List.length_map] at hl hc hv ⊢;have hmk := mk_zer 27 5 (.int .u8 0) 1 Tryz.underlying27 info_u8 rfl (((l.length : Int) + 7) / 8) ((l.length + 7) / 8) (by omega) (by omega) (by omega);have hb0 : Bo w (w.alloc (.cells (zer ((l.length + 7) / 8) (.int .u8 0)) 5)) := aL _ _;have hg0 := zer_blk w ((l.length + 7) / 8) (.int .u8 0) 5;go_enter Tryz.func71, Tryz.ntmps71;go_wp2;go_loopw [13] (fun i wr => ∃ k : Nat, k ≤ l.length ∧ i = J k ∧ Blk wr w.heap.size 5 ((List.range ((l.length + 7) / 8)).map fun j => bV (packB (l.take k) j)) ∧ Bo w wr) (fun i _ => l.length - (intOf i).toNat)
 case atStart =>
  refine ⟨0, Nat.zero_le _, rfl, ?_, hb0⟩;have e : ((List.range ((l.length + 7) / 8)).map fun j => bV (packB (l.take 0) j)) = List.replicate ((l.length + 7) / 8) (.int .u8 0) := by
   apply List.ext_getElem
   ·
    simp
   ·
    intro i h1 h2;simp [bV, packB_nat, ofBits]
  rw [e]; exact hg0
 case round =>
  obtain ⟨k, hk, rfl, hg, hb⟩ := hrel;clear hmk hb0 hg0;by_cases hlt : k < l.length
  ·
   obtain ⟨-, -, -, hcell⟩ := (hv.below hb).at;obtain ⟨b, off, rfl, hcl⟩ := hcell k false hlt;have c0 := hcl k hlt;clear hcl hcell hv;have S : Hid _ := pack_step l ((l.length + 7) / 8) k hlt (by omega);have ex : l.getD k false = l[k] := by simp [hlt]
   rw [ex] at c0;clear ex;generalize l[k] = x at *;have hsz : (k / 8 : Nat) < ((List.range ((l.length + 7) / 8)).map fun j => bV (packB (l.take k) j)).length := by simp; omega
   have cu := hg.cell (k / 8);rw [List.getElem?_eq_getElem hsz] at cu;simp only [List.getElem_map, List.getElem_range] at cu;have fu := hg.frozen (k / 8);generalize packB (l.take k) (k / 8) = y at *;have hy := y.toNat_lt;have hlt' : (k : Int) / 8 < (((l.length + 7) / 8 : Nat) : Int) := by omega
   cases x
   ·
    go_wp2;go_roundw
    case rel =>
     have S' := S.out;rw [if_neg (by simp)] at S';exact ⟨k + 1, by omega, by go_num, by rw [S']; exact hg, hb⟩
    case measure => simp [intOf]; omega
   ·
    go_wp2;go_roundw
    case rel =>
     have S' := S.out;rw [if_pos rfl] at S';refine ⟨k + 1, by omega, by go_num, ?_, ?_⟩
     ·
      rw [or_bit, S'];exact hg.set (k / 8) _
     ·
      exact hb.setCell (p := ⟨w.heap.size, k / 8, none⟩) (Nat.le_refl _) _
    case measure => simp [intOf]; omega
  ·
   have : k = l.length := by omega
   subst this;go_wp2;go_ret;refine ⟨_, rfl, ?_, hb, NewV.some _ _ _ _ _ (Nat.le_refl _)⟩;rw [List.take_length] at hg;have e : ((List.range ((l.length + 7) / 8)).map fun j => bV (packB l j)) = (packL l).map bV := by simp [packL]
   rw [e] at hg;have := hg.row ((l.length + 7) / 8) (by simp [packL_len]) (by unfold maxLen; omega)
   simpa [packL_len] using this
theorem rput_own (v : Value) (bs : List UInt8) (n : Int) (w : World) (_hn : -9223372036854775808 ≤ n ∧ n ≤ 9223372036854775807) (hv : Row w v (bs.map bV)) (hr : bs.length ≤ 140737488351232) :
  Calls Tryz.prog 69 #[v, J n] w fun e w' => ∃ v', e = .returned v' ∧ w'.ownsRow w.heap.size 5 1 v' (bs.length + 2) ((bs ++ [hiB (wOf n), loB (wOf n)]).map bV) ∧ Bo w w' := by
 have hb0 : Bo w (w.alloc (.cells #[] 5)) := aL _ _;have ho0 := World.ownsRow_made (base := w.heap.size) (e := 5) (size := 1) w #[] 0 (Nat.le_refl _) (Nat.zero_le _) (by simp);have hv0 := hv.below hb0;obtain ⟨a, cap, rfl, -⟩ := id hv;go_enter Tryz.func69, Tryz.ntmps69;go_wp2_with (at_builtin; refine wpList_app rfl (.tmp 5) (.tmp 6) 27 rfl w.heap.size 5 (.int .u8 0) 1 Tryz.underlying27 info_u8 rfl rfl ho0 rfl hv0 (one_bytes bs) ?h1 ?h2 ?h3 ?_)
 case h1 => simp [maxLen]; omega
 case h2 => simp; omega
 case h3 => simp
 intro v1 w1 ho1 hg1;have hz1 : w.heap.size ≤ w1.heap.size := by have := hg1.size; simp at this; omega
 have hr1 := row_new w1 [.int .u8 (IntKind.u64.wrap n / 256 % 256), .int .u8 (n % 256)] 5 2 rfl (by decide);go_wp2_with (at_builtin; refine wpList_app rfl (.tmp 7) (.tmp 14) 27 rfl w.heap.size 5 (.int .u8 0) 1 Tryz.underlying27 info_u8 rfl rfl (ho1.alloc _) rfl hr1 ?k0 ?k1 ?k2 ?k3 ?_)
 case k0 => intro u hu; simp at hu; rcases hu with rfl | rfl <;> rfl
 case k1 => simp [maxLen]; omega
 case k2 => simp; omega
 case k3 => simp; omega
 intro v2 w2 ho2 hg2;go_wp2;go_ret;have e : (bs.map bV ++ [Value.int .u8 (IntKind.u64.wrap n / 256 % 256), .int .u8 (n % 256)]) = (bs ++ [hiB (wOf n), loB (wOf n)]).map bV := by
  have h1 : (IntKind.u64.wrap n / 256 % 256) = ((hiB (wOf n)).toNat : Int) := by
   have := wOf_nat n;rw [hiB_nat, IntKind.wrap_u64]; omega
  have h2 : (n % 256) = ((loB (wOf n)).toNat : Int) := by
   have := wOf_nat n;rw [loB_nat]; omega
  rw [h1, h2]; simp
 rw [e] at ho2;refine ⟨_, rfl, by simpa using ho2, ?_⟩;have q1 : Bo w w1 := hb0.grown hg1 (by simp) (fun k hk => by simp [Value.ownBlock] at hk; omega);exact (q1.alloc hz1 _).grown hg2 (by simp; omega) (fun k hk => (ho1.lt k hk).1)
theorem rbytes_any (v : Value) (l : List UInt16) (w : World) (hv : Row w v (l.map wV)) (hr : l.length * 2 ≤ 140737488351232) :
  Calls Tryz.prog 72 #[v] w fun e w' => ∃ v', e = .returned v' ∧ Row w' v' ((bytesL l).map bV) ∧ Bo w w' ∧ NewV w.heap.size v' := by
 obtain ⟨a, cap, rfl, -⟩ := id hv;obtain ⟨hl, hc, hm, -⟩ := hv.at;simp only [List.length_map] at hl hc hv ⊢;go_enter Tryz.func72, Tryz.ntmps72;go_wp2;go_loopw [3, 8] (fun v i wr => ∃ k : Nat, k ≤ l.length ∧ i = J k ∧ wr.ownsRow w.heap.size 5 1 v (2 * k) ((bytesL (l.take k)).map bV) ∧ Bo w wr) (fun _ i _ => l.length - (intOf i).toNat)
 case atStart => exact ⟨0, Nat.zero_le _, rfl, World.ownsRow_nil _ _ _ _, Below.refl _ _⟩
 case round =>
  obtain ⟨k, hk, rfl, ho, hb⟩ := hrel;by_cases hlt : k < l.length
  ·
   obtain ⟨-, -, -, hcell⟩ := (hv.below hb).at;obtain ⟨b, off, rfl, hcl⟩ := hcell k 0 hlt;have cx := hcl k hlt;clear hcl hcell hv;have S : Hid _ := bytesL_take_succ l k hlt;have ex : l.getD k 0 = l[k] := by simp [hlt]
   rw [ex] at cx;clear ex;generalize l[k] = x at *;have hx := x.toNat_lt;have hlt' : (k : Int) < (l.length : Int) := by omega
   have hr1 := row_new wr [.int .u8 ((x.toNat : Int) / 256), .int .u8 ((x.toNat : Int) % 256)] 5 2 rfl (by decide);have hsz := hb.size;go_wp2_with (at_builtin; refine wpList_app rfl (.tmp 12) (.tmp 18) 27 rfl w.heap.size 5 (.int .u8 0) 1 Tryz.underlying27 info_u8 rfl rfl (ho.alloc _) rfl hr1 ?k0 ?k1 ?k2 ?k3 ?_)
   case k0 => intro u hu; simp at hu; rcases hu with rfl | rfl <;> rfl
   case k1 => simp [maxLen]; omega
   case k2 => simp; omega
   case k3 => simp; omega
   intro v2 w2 ho2 hg2;have e : ((bytesL (l.take k)).map bV ++ [Value.int .u8 ((x.toNat : Int) / 256), .int .u8 ((x.toNat : Int) % 256)]) = (bytesL (l.take (k + 1))).map bV := by
    have h1 : ((x.toNat : Int) / 256) = ((hiB x).toNat : Int) := by rw [hiB_nat]; omega
    have h2 : ((x.toNat : Int) % 256) = ((loB x).toNat : Int) := by rw [loB_nat]; omega
    rw [S.out, h1, h2]; simp
   rw [e] at ho2;clear e;have q := (hb.alloc hsz (.cells #[.int .u8 ((x.toNat : Int) / 256), .int .u8 ((x.toNat : Int) % 256)] 5)).grown hg2 (by simp; omega) (fun k hk => (ho.lt k hk).1);go_wp2;go_roundw
   case rel => exact ⟨k + 1, by omega, by go_num, ho2, q⟩
   case measure => simp [intOf]; omega
  ·
   have : k = l.length := by omega
   subst this;go_wp2;go_ret;rw [List.take_length] at ho;exact ⟨_, rfl, Row.of_owns ho, hb, NewV.of_owns ho⟩
theorem words_take (bs : List UInt8) (k : Nat) (h : k < bs.length / 2) : (wordsL bs).take (k + 1) = (wordsL bs).take k ++ [mkW (bs.getD (2 * k) 0) (bs.getD (2 * k + 1) 0)] := by
 have hl := wordsL_len bs;have e3 : (wordsL bs)[k]'(by omega) = mkW (bs.getD (2 * k) 0) (bs.getD (2 * k + 1) 0) := by
  simp only [wordsL_eq, List.getElem_map, List.getElem_range]
 rw [List.take_succ_eq_append_getElem (by omega), e3]
theorem rwords_any (v : Value) (bs : List UInt8) (w : World) (hv : Row w v (bs.map bV)) (hr : bs.length ≤ 140737488351232) :
  Calls Tryz.prog 74 #[v] w fun e w' => ∃ v', e = .returned (.tuple #[v', .bool (bs.length % 2 == 0)]) ∧ Row w' v' ((wordsR bs).map wV) ∧ Bo w w' ∧ NewV w.heap.size v' := by
 obtain ⟨a, cap, rfl, -⟩ := id hv;obtain ⟨hl, hc, hm, -⟩ := hv.at;simp only [List.length_map] at hl hc hv ⊢;unfold wordsR;by_cases hodd : bs.length % 2 = 0
 ·
  rw [if_pos hodd, beq_iff_eq.2 hodd];have ht : ((bs.length : Int) % 2 != 0) = false := by simp; omega
  have HO : Hid (bs.length % 2 = 0) := hodd;clear hodd;go_enter Tryz.func74, Tryz.ntmps74;go_wp2;go_loopw [4, 5] (fun v i wr => ∃ k j : Nat, k ≤ bs.length / 2 ∧ 2 * k = j ∧ i = J (j : Int) ∧ wr.ownsRow w.heap.size 31 1 v k (((wordsL bs).take k).map wV) ∧ Bo w wr) (fun _ i _ => bs.length - (intOf i).toNat)
  case atStart => exact ⟨0, 0, Nat.zero_le _, rfl, rfl, World.ownsRow_nil _ _ _ _, Below.refl _ _⟩
  case round =>
   obtain ⟨k, j, hk, hj, rfl, ho, hb⟩ := hrel;have HO' := HO.out;by_cases hlt : k < bs.length / 2
   ·
    obtain ⟨-, -, -, hcell⟩ := (hv.below hb).at;have S : Hid _ := words_take bs k hlt;rw [hj] at S;obtain ⟨b, off, rfl, hcl⟩ := hcell j 0 (by omega);have c0 := hcl j (by omega);have c1 := hcl (j + 1) (by omega);clear hcl hcell hv;generalize bs.getD j 0 = x at *;generalize bs.getD (j + 1) 0 = y at *;have hx := x.toNat_lt;have hy := y.toNat_lt;have hlt' : (j : Int) < (bs.length : Int) := by omega
    have hw : IntKind.i64.wrap ((j : Int) + 1) = ((j + 1 : Nat) : Int) := by rw [IntKind.wrap_i64]; omega
    have hlt2 : (j : Int) + 1 < (bs.length : Int) := by omega
    have hlt3 : (0 : Int) ≤ (j : Int) + 1 := by omega
    have hwx : IntKind.u16.wrap (x.toNat : Int) = (x.toNat : Int) := by rw [IntKind.wrap_u16]; omega
    have hwy : IntKind.u16.wrap (y.toNat : Int) = (y.toNat : Int) := by rw [IntKind.wrap_u16]; omega
    have hwz : IntKind.u16.wrap ((x.toNat : Int) * 256) = (x.toNat : Int) * 256 := by rw [IntKind.wrap_u16]; omega
    have hsz := hb.size;have hb2 : 2 * k = j := hj;have HJ : Hid (2 * k = j) := hj;clear hj HO' hb2;have hor : Hid _ := or_word x y;go_wp2;go_region_law (refine step_app rfl (.tmp 16) (.tmp 30) 30 rfl w.heap.size 31 (U 0) 2 Tryz.underlying30 info_u16 rfl (by simp [Act.eval]; rfl) (by exact ho.alloc _) (by simp [Act.eval]; rfl) (by exact row_new wr [_] 31 1 rfl (by decide)) (by intro u hu; simp at hu; subst hu; rfl) (by simp [maxLen]; omega) (by simp; omega) (by simp; omega) ?_; intro v2 w2 ho2 hg2)
    all_goals
     have q := (hb.alloc hsz (.cells #[U (bits BinOp.or IntKind.u16 ((x.toNat : Int) * 256) (y.toNat : Int))] 31)).drew.grown hg2 (by simp; omega) (fun k hk => (ho.lt k hk).1);rw [hor.out] at ho2;clear hw hwx hwy hwz;go_wp2;go_roundw
     case rel =>
      have Jx := HJ.out;refine ⟨k + 1, j + 2, by omega, by omega, by go_num, ?_, q⟩;rw [S.out]
      simpa using ho2
     case measure => simp [intOf]; omega
   ·
    have h0 : ¬ (j : Int) < (bs.length : Int) := by omega
    have : k = bs.length / 2 := by omega
    subst this;clear HO' hj hv;go_wp2;go_ret2
    rw [List.take_of_length_le (by rw [wordsL_len]; omega)] at ho;exact ⟨_, rfl, Row.of_owns ho, hb, NewV.of_owns ho⟩
 ·
  have hb : (bs.length % 2 == 0) = false := by simpa using hodd
  rw [if_neg hodd, hb];have ht : ((bs.length : Int) % 2 != 0) = true := by simp; omega
  clear hodd hb hv;go_enter Tryz.func74, Tryz.ntmps74;go_wp2;go_ret2
  exact ⟨_, rfl, Row.nil _, Below.refl _ _, NewV.none _ _ _⟩
theorem openL_succ (bs : List UInt8) (j : Nat) : openL bs (j + 1) = openL bs j ++ [bitAt bs j] := by simp [openL, List.range_succ]
theorem openOk_false (bs : List UInt8) (n j : Nat) (h1 : n ≤ j) (h2 : j < 8 * bs.length) (hb : bitAt bs j = true) : openOk bs n = false := by
 cases h : openOk bs n with
 | false => rfl
 | true =>
  unfold openOk at h;simp only [Bool.and_eq_true, List.all_eq_true, List.mem_range] at h;have := h.2 j h2;simp [hb] at this;omega
theorem openOk_true (bs : List UInt8) (n : Nat) (h : bs.length = (n + 7) / 8) (hall : ∀ i, n ≤ i → i < 8 * bs.length → bitAt bs i = false) : openOk bs n = true := by
 unfold openOk;simp only [Bool.and_eq_true, decide_eq_true_eq, List.all_eq_true, List.mem_range];refine ⟨⟨by omega, by omega⟩, fun i hi => ?_⟩;by_cases hin : i < n
 ·
  simp [hin]
 ·
  simp [hall i (by omega) hi]
theorem ropen_any (v : Value) (bs : List UInt8) (n : Int) (w : World) (hn : -9223372036854775808 ≤ n ∧ n ≤ 9223372036854775807) (hv : Row w v (bs.map bV)) (hr : bs.length ≤ 140737488351232) (hn3 : n ≤ 140737488355327) :
  Calls Tryz.prog 34 #[v, J n] w fun e w' => ∃ v', e = .returned (.tuple #[v', .bool (openOk bs n)]) ∧ Row w' v' ((openR bs n).map Value.bool) ∧ Bo w w' ∧ NewV w.heap.size v' := by
 obtain ⟨a, cap, rfl, -⟩ := id hv;obtain ⟨hl, hc, hm, -⟩ := hv.at;simp only [List.length_map] at hl hc hv ⊢;obtain ⟨hn1, hn2⟩ := hn;by_cases h0 : n < 0
 ·
  rw [openR_no (openOk_neg bs n h0), openOk_neg bs n h0];go_enter Tryz.func34, Tryz.ntmps34;go_wp2;go_ret2
  exact ⟨_, rfl, Row.nil _, Below.refl _ _, NewV.none _ _ _⟩
 ·
  by_cases hbig : 8 * (bs.length : Int) < n
  ·
   rw [openR_no (openOk_len bs n (by omega)), openOk_len bs n (by omega)];go_enter Tryz.func34, Tryz.ntmps34;go_wp2;go_ret2
   exact ⟨_, rfl, Row.nil _, Below.refl _ _, NewV.none _ _ _⟩
  ·
   by_cases hlen : (bs.length : Int) = (n + 7) / 8
   ·
    obtain ⟨k, rfl⟩ : ∃ k : Nat, n = (k : Int) := ⟨n.toNat, by omega⟩;have hlk : bs.length = (k + 7) / 8 := by omega
    have ht : ((bs.length : Int) != ((k : Int) + 7) / 8) = false := by simp; omega
    have HL : Hid (bs.length = (k + 7) / 8) := hlk;have hk1 : k ≤ 8 * bs.length := by omega
    clear hlk hlen;go_enter Tryz.func34, Tryz.ntmps34;go_wp2;go_loopw [6, 7] (fun o i wr => ∃ j : Nat, j ≤ 8 * bs.length ∧ i = J j ∧ wr.ownsRow w.heap.size 4 1 o (min j k) ((openL bs (min j k)).map Value.bool) ∧ (∀ i, k ≤ i → i < j → bitAt bs i = false) ∧ Bo w wr) (fun _ i _ => 8 * bs.length - (intOf i).toNat)
    case atStart => exact ⟨0, Nat.zero_le _, rfl, by simpa [openL] using World.ownsRow_nil _ _ _ _, fun i _ h => by omega, Below.refl _ _⟩
    case round =>
     obtain ⟨j, hj, rfl, ho, hz, hb⟩ := hrel;have HZ : Hid (∀ i, k ≤ i → i < j → bitAt bs i = false) := hz;clear hz;by_cases hlt : j < 8 * bs.length
     ·
      obtain ⟨-, -, -, hcell⟩ := (hv.below hb).at;have hj8 : j / 8 < bs.length := by omega
      obtain ⟨b, off, rfl, hcl⟩ := hcell (j / 8) 0 hj8;have c0 := hcl (j / 8) hj8;clear hcl hcell hv;have HX : Hid (bitAt bs j = (bs.getD (j / 8) 0).toNat.testBit (j % 8)) := rfl;generalize bs.getD (j / 8) 0 = x at *;have hx := x.toNat_lt;have hlt' : (j : Int) < 8 * (bs.length : Int) := by omega
      have hj8' : (j : Int) / 8 < (bs.length : Int) := by omega
      have T : Hid _ := bit_test x (j % 8) (by omega);have hsz := hb.size;by_cases hjk : j < k
      ·
       rw [Nat.min_eq_left (by omega)] at ho;have hr1 := row_new wr [.bool (bits BinOp.and IntKind.u8 ((x.toNat : Int) / 2 ^ (j % 8)) 1 == 1)] 4 1 rfl (by decide);go_wp2_with (at_builtin; refine wpList_app rfl (.tmp 47) (.tmp 49) 29 rfl w.heap.size 4 (.bool false) 1 Tryz.underlying29 info_bool rfl rfl (ho.alloc _) rfl hr1 ?k0 ?k1 ?k2 ?k3 ?_)
       case k0 => intro u hu; simp at hu; subst hu; rfl
       case k1 => simp [maxLen]; omega
       case k2 => simp; omega
       case k3 => simp; omega
       intro v2 w2 ho2 hg2;rw [T.out, ← HX.out] at ho2;have q := (hb.alloc hsz (.cells #[.bool (bits BinOp.and IntKind.u8 ((x.toNat : Int) / 2 ^ (j % 8)) 1 == 1)] 4)).grown hg2 (by simp; omega) (fun k hk => (ho.lt k hk).1);go_wp2;go_roundw
       case rel =>
        refine ⟨j + 1, by omega, by go_num, ?_, fun i h1 h2 => by omega, q⟩;rw [Nat.min_eq_left (by omega), openL_succ]
        simpa using ho2
       case measure => simp [intOf]; omega
      ·
       rw [Nat.min_eq_right (by omega)] at ho;have hjk' : ¬ (j : Int) < (k : Int) := by omega
       cases hbit : bitAt bs j
       ·
        have tb : (bits BinOp.and IntKind.u8 ((x.toNat : Int) / 2 ^ (j % 8)) 1 == 1) = false := by rw [T.out, ← HX.out, hbit]
        have HB : Hid (bitAt bs j = false) := hbit;clear hbit;go_wp2;go_roundw
        case rel =>
         refine ⟨j + 1, by omega, by go_num, ?_, fun i h1 h2 => ?_, hb⟩
         ·
          rw [Nat.min_eq_right (by omega)]; exact ho
         ·
          by_cases e : i = j
          ·
           subst e; exact HB.out
          ·
           exact HZ.out i h1 (by omega)
        case measure => simp [intOf]; omega
       ·
        have tb : (bits BinOp.and IntKind.u8 ((x.toNat : Int) / 2 ^ (j % 8)) 1 == 1) = true := by rw [T.out, ← HX.out, hbit]
        have F : Hid (openOk bs k = false) := openOk_false bs k j (by omega) hlt hbit;clear hbit;go_wp2;go_ret2
        rw [F.out, openR_no F.out];exact ⟨_, rfl, Row.nil _, hb, NewV.none _ _ _⟩
     ·
      have : j = 8 * bs.length := by omega
      have F : Hid (openOk bs k = true) := openOk_true bs k HL.out (fun i h1 h2 => HZ.out i h1 (by omega));rw [Nat.min_eq_right (by omega)] at ho;clear this;go_wp2;go_ret2
      rw [F.out, openR_yes F.out];exact ⟨_, rfl, Row.of_owns ho, hb, NewV.of_owns ho⟩
   ·
    rw [openR_no (openOk_len bs n hlen), openOk_len bs n hlen];have ht : ((bs.length : Int) != (n + 7) / 8) = true := by simpa using hlen
    clear hlen;go_enter Tryz.func34, Tryz.ntmps34;go_wp2;go_ret2
    exact ⟨_, rfl, Row.nil _, Below.refl _ _, NewV.none _ _ _⟩
theorem word_ref (n : Int) (w : World) : Calls Tryz.prog 67 #[J n] w fun e w' => e = .returned (.bool (numB n)) ∧ w = w' := by
 by_cases h1 : 0 ≤ n
 ·
  by_cases h2 : n ≤ 65535
  ·
   have hb : numB n = true := by simp [numB]; omega
   rw [hb];go_enter Tryz.func67, Tryz.ntmps67;go_wp2;go_ret;exact ⟨rfl, rfl⟩
  ·
   have hb : numB n = false := by simp [numB]; omega
   rw [hb];go_enter Tryz.func67, Tryz.ntmps67;go_wp2;go_ret;exact ⟨rfl, rfl⟩
 ·
  have hb : numB n = false := by simp [numB]; omega
  rw [hb];go_enter Tryz.func67, Tryz.ntmps67;go_wp2;go_ret;exact ⟨rfl, rfl⟩
theorem has_ref (f : Int) (w : World) : Calls Tryz.prog 48 #[J f] w fun e w' => e = .returned (.bool (knownB f)) ∧ w = w' := by
 cases hb : knownB f
 ·
  have hn := of_decide_eq_false hb;obtain ⟨-, -, -, -, -, -, h8, h15, h16, h17, h22, h23⟩ := known_no hb;clear hb;by_cases h1 : 1 ≤ f
  ·
   have h2 : ¬ f ≤ 6 := by omega
   clear hn;go_enter Tryz.func48, Tryz.ntmps48;go_wp2;go_ret;exact ⟨rfl, rfl⟩
  ·
   clear hn;go_enter Tryz.func48, Tryz.ntmps48;go_wp2;go_ret;exact ⟨rfl, rfl⟩
 ·
  rcases known_cases hb with rfl | rfl | rfl | rfl | rfl | rfl | rfl | rfl | rfl | rfl | rfl | rfl
  all_goals
   clear hb;go_enter Tryz.func48, Tryz.ntmps48;go_wp2;go_ret;exact ⟨rfl, rfl⟩
def usesL (f : Int) : List UInt8 :=
 if f = 1 ∨ f = 2 ∨ f = 3 ∨ f = 4 then [97, 99]
 else if f = 5 then [97, 98]
 else if f = 6 then [97, 118]
 else if f = 8 then [115, 118]
 else if f = 15 then [97, 99, 98]
 else if f = 16 then [97, 99, 118]
 else if f = 22 then [97, 109]
 else if f = 23 then [97, 99, 119, 118]
 else []
theorem uses_ref (f : Int) (w : World) (hk : knownB f = true) : Calls Tryz.prog 66 #[J f] w fun e w' => e = .returned (.string ⟨(usesL f).toArray⟩) ∧ w = w' := by
 rcases known_cases hk with rfl | rfl | rfl | rfl | rfl | rfl | rfl | rfl | rfl | rfl | rfl | rfl
 all_goals
  clear hk;go_enter Tryz.func66, Tryz.ntmps66;go_wp2;go_ret;exact ⟨rfl, rfl⟩
theorem in_ref (l : List UInt8) (c : UInt8) (w : World) (hl : l.length ≤ 100) : Calls Tryz.prog 32 #[.string ⟨l.toArray⟩, .int .u8 c.toNat] w fun e w' => e = .returned (.bool (l.contains c)) ∧ w = w' := by
 have hs : (⟨l.toArray⟩ : ByteArray).size = l.length := rfl;go_enter Tryz.func32, Tryz.ntmps32;go_wp2;go_loopw [5] (fun i wr => ∃ k : Nat, k ≤ l.length ∧ i = J k ∧ (∀ j, j < k → l.getD j 0 ≠ c) ∧ w = wr) (fun i _ => l.length - (intOf i).toNat)
 case atStart => exact ⟨0, Nat.zero_le _, rfl, fun j h => by omega, rfl⟩
 case round =>
  obtain ⟨k, hk, rfl, hn, rfl⟩ := hrel;have HN := Hh hn;clear hn;by_cases hlt : k < l.length
  ·
   have hlt' : (k : Int) < (l.length : Int) := by omega
   have HG : Hid (l.getD k 0 = (⟨l.toArray⟩ : ByteArray)[k]'hlt) := by
    show _ = _;have : (⟨l.toArray⟩ : ByteArray)[k]'hlt = l[k] := rfl;rw [this]; simp [hlt]
   by_cases hc : (⟨l.toArray⟩ : ByteArray)[k]'hlt = c
   ·
    have t : ((((⟨l.toArray⟩ : ByteArray)[k]'hlt).toNat : Int) == (c.toNat : Int)) = true := by rw [hc]; simp
    have F : Hid (l.contains c = true) := by
     show _ = _;rw [List.contains_iff_mem, ← hc];exact List.getElem_mem hlt
    clear hc;go_wp2;go_ret;exact ⟨ret_bool F.out.symm, rfl⟩
   ·
    have t : ((((⟨l.toArray⟩ : ByteArray)[k]'hlt).toNat : Int) == (c.toNat : Int)) = false := by
     rw [beq_eq_false_iff_ne]; intro h; exact hc (UInt8.toNat_inj.1 (by omega))
    have HC := Hh hc;clear hc;go_wp2;go_roundw
    case rel =>
     refine ⟨k + 1, by omega, by go_num, fun j hj => ?_, trivial⟩;by_cases e : j = k
     ·
      subst e; rw [HG.out]; exact HC.out
     ·
      exact HN.out j (by omega)
    case measure => simp [intOf]; omega
  ·
   obtain rfl : k = l.length := by omega
   have F : Hid (l.contains c = false) := by
    show _ = _;rw [← Bool.not_eq_true, List.contains_iff_mem];intro h;obtain ⟨i, hi, e⟩ := List.getElem_of_mem h;exact HN.out i hi (by simpa [hi] using e)
   go_wp2;go_ret;exact ⟨ret_bool F.out.symm, rfl⟩
theorem lists_ref (v : Value) (q : Rq) (w : World) (h : IsRq w v q) (hk : knownB q.fn = true) :
  Calls Tryz.prog 68 #[v] w fun e w' => e = .returned (.bool (listB q)) ∧ Bo w w' := by
 obtain ⟨f, a, c, p, s, bs, vs, m, o⟩ := q;obtain ⟨vb, vv, rfl, hb, hv⟩ := h;obtain ⟨ab, cb, rfl, hc1, hc2, -⟩ := id hb;obtain ⟨av, cv, rfl, hd1, hd2, -⟩ := id hv;simp only [List.length_map] at hb hv hk hc1 hd1 ⊢;clear hb hv;unfold maxLen at hc2 hd2;have B : Hid (∀ o n, Bo w ((w.alloc o).drewN n)) := fun o n => below_drewn ((Below.refl _ _).alloc (Nat.le_refl _) o) n;have R : Hid (listB ⟨f, a, c, p, s, bs, vs, m, o⟩ = listB ⟨f, a, c, p, s, bs, vs, m, o⟩) := rfl;rcases known_cases hk with rfl | rfl | rfl | rfl | rfl | rfl | rfl | rfl | rfl | rfl | rfl | rfl
 case inr.inr.inr.inr.inr.inr.inr.inl =>
  by_cases h1 : (bs.length : Int) = c
  ·
   by_cases h2 : (bs.length : Int) ≤ 2040
   ·
    have e : listB ⟨15, a, c, p, s, bs, vs, m, o⟩ = true := by simp [listB]; omega
    rw [e];have t1 : ((bs.length : Int) == c) = true := by simpa using h1
    clear hk R e h1;go_enter Tryz.func68, Tryz.ntmps68;go_wp2;go_quiet (fail)
    go_wp2;go_ret;first | exact ⟨rfl, B.out _ _⟩ | exact ⟨ret_bool (by simp; omega), B.out _ _⟩
   ·
    have e : listB ⟨15, a, c, p, s, bs, vs, m, o⟩ = false := by simp [listB]; omega
    rw [e];have t1 : ((bs.length : Int) == c) = true := by simpa using h1
    clear hk R e h1;go_enter Tryz.func68, Tryz.ntmps68;go_wp2;go_quiet (fail)
    go_wp2;go_ret;first | exact ⟨rfl, B.out _ _⟩ | exact ⟨ret_bool (by simp; omega), B.out _ _⟩
  ·
   have e : listB ⟨15, a, c, p, s, bs, vs, m, o⟩ = false := by simp [listB]; omega
   rw [e];have t1 : ((bs.length : Int) == c) = false := by simpa using h1
   clear hk R e h1;go_enter Tryz.func68, Tryz.ntmps68;go_wp2;go_quiet (fail)
   go_wp2;go_ret;first | exact ⟨rfl, B.out _ _⟩ | exact ⟨ret_bool (by simp; omega), B.out _ _⟩
 case inr.inr.inr.inr.inr.inr.inr.inr.inl =>
  by_cases h1 : (vs.length : Int) = c
  ·
   by_cases h2 : (vs.length : Int) ≤ 127
   ·
    have e : listB ⟨16, a, c, p, s, bs, vs, m, o⟩ = true := by simp [listB]; omega
    rw [e];have t1 : ((vs.length : Int) == c) = true := by simpa using h1
    clear hk R e h1;go_enter Tryz.func68, Tryz.ntmps68;go_wp2;go_quiet (fail)
    go_wp2;go_ret;first | exact ⟨rfl, B.out _ _⟩ | exact ⟨ret_bool (by simp; omega), B.out _ _⟩
   ·
    have e : listB ⟨16, a, c, p, s, bs, vs, m, o⟩ = false := by simp [listB]; omega
    rw [e];have t1 : ((vs.length : Int) == c) = true := by simpa using h1
    clear hk R e h1;go_enter Tryz.func68, Tryz.ntmps68;go_wp2;go_quiet (fail)
    go_wp2;go_ret;first | exact ⟨rfl, B.out _ _⟩ | exact ⟨ret_bool (by simp; omega), B.out _ _⟩
  ·
   have e : listB ⟨16, a, c, p, s, bs, vs, m, o⟩ = false := by simp [listB]; omega
   rw [e];have t1 : ((vs.length : Int) == c) = false := by simpa using h1
   clear hk R e h1;go_enter Tryz.func68, Tryz.ntmps68;go_wp2;go_quiet (fail)
   go_wp2;go_ret;first | exact ⟨rfl, B.out _ _⟩ | exact ⟨ret_bool (by simp; omega), B.out _ _⟩
 all_goals
  clear hk;go_enter Tryz.func68, Tryz.ntmps68;go_wp2;go_quiet (fail)
  go_wp2;go_ret;refine ⟨ret_bool ?_, B.out _ _⟩;rw [Bool.eq_iff_iff];simp [listB];try omega
end Go.Proofs.YtdihcdphgiaepaaGreat
