/- What the laws of chapter 3 begin with: a tape made of a slice of numbers. -/
import Derived.Test.YtbajlhpmmmhkoaaJ42
import Derived.Test.YtbajlhpmmmhkoaaJ15
import Derived.Test.YtbajlhpmmmhkoaaJ32
namespace Go.Proofs.Ytbajlhpmmmhkoaa
open Go.RowKit
def kr1 : Rp := refP 3 2
def kr2 : Rp := ⟨1, 0, 0, 0, 0, [true, false, true], [], 0, 0, []⟩
theorem kr_g1 : goodE kr1 = 0 := by decide +kernel
theorem kr_g2 : goodE kr2 = 0 := by decide +kernel
theorem kr_g0 : goodE zeroP = 15 := by decide +kernel
theorem kr_b1 : layA kr1 = [131, 2] := by decide +kernel
theorem kr_b2 : layA kr2 = [1, 1, 5] := by decide +kernel
theorem kr_i1 : isA [131, 2] 0 kr1 := ⟨kr_g1, kr_b1, by decide +kernel⟩
theorem kr_i2 : isA [1, 1, 5] 3 kr2 := ⟨kr_g2, kr_b2, by decide +kernel⟩
theorem kr_e1 : takeE [131, 2] 3 0 = 0 := takeE_is (by decide +kernel) kr_i1
theorem kr_t1 : takeR [131, 2] 3 0 = kr1 := takeR_is (by decide +kernel) kr_i1
theorem kr_e2 : takeE [1, 1, 5] 1 3 = 0 := takeE_is (by decide +kernel) kr_i2
theorem kr_t2 : takeR [1, 1, 5] 1 3 = kr2 := takeR_is (by decide +kernel) kr_i2
theorem kr_n3 : ¬ ∃ r, isA [1, 1, 5] 2 r := noA (fun h => absurd h.2.1 (by decide +kernel))
theorem kr_e3 : takeE [1, 1, 5] 1 2 = 12 := takeE_no (by decide) kr_n3
theorem kr_t3 : takeR [1, 1, 5] 1 2 = zeroP := takeR_no kr_n3
set_option maxRecDepth 100000 in
set_option maxHeartbeats 4000000 in
theorem known_law4 (w : World) : Calls Try.prog 13 #[] w fun e w' => e = .returned (.bool true) ∧ Below w.heap.size w w' := by
 go_enter Try.func13, Try.ntmps13
 have B := Below.refl w.heap.size w
 go_wp2_with fail
 refine (refuse_rep 3 2 _).mono ?_
 rintro e w1 ⟨rfl, E⟩
 replace B := below_then B E
 clear E
 simp only [show (3 : Int) % 128 = 3 from rfl, show (2 : Int) % 256 = 2 from rfl]
 go_wp2_with fail
 refine (bytes_rep _ kr1 _ (ref_rp _ 3 2)).mono ?_
 rintro e w2 ⟨v2, rfl, r2, E⟩
 replace B := below_then B E
 clear E
 rw [kr_g1]
 rw [layR_0 kr_g1, kr_b1] at r2
 go_wp2_with fail
 refine (read_rep _ _ [131, 2] ⟨3, 0, 0, 0, 0, [], [], 0, 0⟩ _ r2 ⟨_, _, rfl, Row.nil _, Row.nil _⟩ (by decide)).mono ?_
 rintro e w3 ⟨v3, rfl, q3, E, -⟩
 replace B := below_then B E
 replace r2 := r2.below E
 clear E
 simp only [kr_e1, kr_t1] at q3 ⊢
 obtain ⟨b3, cb3, c3, cc3, d3, cd3, rfl, -, -, -⟩ := q3.slices
 have X3 := hidden (BoxP.new w3 kr1.fn kr1.code kr1.loc kr1.cnt kr1.sub (.slice b3 kr1.bits.length cb3) (.slice c3 kr1.vals.length cc3) kr1.land kr1.lor (.slice d3 kr1.data.length cd3) 35)
 have EA := (Below.refl w3.heap.size w3).alloc (Nat.le_refl _) (.cells #[.int .i64 kr1.fn, .int .i64 kr1.code, .int .i64 kr1.loc, .int .i64 kr1.cnt, .int .i64 kr1.sub, .slice b3 kr1.bits.length cb3, .slice c3 kr1.vals.length cc3, .int .u16 kr1.land.toNat, .int .u16 kr1.lor.toNat, .slice d3 kr1.data.length cd3] 35)
 replace B := below_then B EA
 replace r2 := r2.below EA
 replace q3 := q3.below EA
 clear EA
 go_wp2_with fail
 refine (read_rep _ _ [] ⟨0, 0, 0, 0, 0, [], [], 0, 0⟩ _ (Row.nil _) ⟨_, _, rfl, Row.nil _, Row.nil _⟩ (by decide)).mono ?_
 rintro e w4 ⟨v4, rfl, q4, E, -⟩
 replace B := below_then B E
 replace r2 := r2.below E
 replace q3 := q3.below E
 replace X3 := hidden (X3.out.ext E)
 clear E
 simp only [takeE_short, takeR_short] at q4 ⊢
 obtain ⟨b4, cb4, c4, cc4, d4, cd4, rfl, -, -, -⟩ := q4.slices
 have X4 := hidden (BoxP.new w4 zeroP.fn zeroP.code zeroP.loc zeroP.cnt zeroP.sub (.slice b4 zeroP.bits.length cb4) (.slice c4 zeroP.vals.length cc4) zeroP.land zeroP.lor (.slice d4 zeroP.data.length cd4) 35)
 have EA := (Below.refl w4.heap.size w4).alloc (Nat.le_refl _) (.cells #[.int .i64 zeroP.fn, .int .i64 zeroP.code, .int .i64 zeroP.loc, .int .i64 zeroP.cnt, .int .i64 zeroP.sub, .slice b4 zeroP.bits.length cb4, .slice c4 zeroP.vals.length cc4, .int .u16 zeroP.land.toNat, .int .u16 zeroP.lor.toNat, .slice d4 zeroP.data.length cd4] 35)
 replace B := below_then B EA
 replace r2 := r2.below EA
 replace q3 := q3.below EA
 replace X3 := hidden (X3.out.ext EA)
 replace q4 := q4.below EA
 clear EA
 clear q4 X4
 go_wp2_with fail
 refine (bytes_rep _ zeroP _ (zero_rp _)).mono ?_
 rintro e w5 ⟨v5, rfl, r5, E⟩
 replace B := below_then B E
 replace r2 := r2.below E
 replace q3 := q3.below E
 replace X3 := hidden (X3.out.ext E)
 clear E
 rw [kr_g0]
 clear r5
 go_wp2_with fail
 have R6 := row_new w5 [.bool true, .bool false, .bool true] 4 3 rfl (by decide)
 have EA := (Below.refl w5.heap.size w5).alloc (Nat.le_refl _) (.cells #[.bool true, .bool false, .bool true] 4)
 replace B := below_then B EA
 replace r2 := r2.below EA
 replace q3 := q3.below EA
 replace X3 := hidden (X3.out.ext EA)
 clear EA
 refine (bytes_rep _ kr2 _ ⟨_, _, _, rfl, R6, Row.nil _, Row.nil _⟩).mono ?_
 rintro e w6 ⟨v6, rfl, r6, E⟩
 replace B := below_then B E
 replace r2 := r2.below E
 replace q3 := q3.below E
 replace X3 := hidden (X3.out.ext E)
 clear E
 clear R6
 rw [kr_g2]
 rw [layR_0 kr_g2, kr_b2] at r6
 go_wp2_with fail
 refine (read_rep _ _ [1, 1, 5] ⟨1, 0, 3, 0, 0, [], [], 0, 0⟩ _ r6 ⟨_, _, rfl, Row.nil _, Row.nil _⟩ (by decide)).mono ?_
 rintro e w7 ⟨v7, rfl, q7, E, -⟩
 replace B := below_then B E
 replace r2 := r2.below E
 replace q3 := q3.below E
 replace X3 := hidden (X3.out.ext E)
 replace r6 := r6.below E
 clear E
 simp only [kr_e2, kr_t2] at q7 ⊢
 obtain ⟨b7, cb7, c7, cc7, d7, cd7, rfl, -, -, -⟩ := q7.slices
 have X7 := hidden (BoxP.new w7 kr2.fn kr2.code kr2.loc kr2.cnt kr2.sub (.slice b7 kr2.bits.length cb7) (.slice c7 kr2.vals.length cc7) kr2.land kr2.lor (.slice d7 kr2.data.length cd7) 35)
 have EA := (Below.refl w7.heap.size w7).alloc (Nat.le_refl _) (.cells #[.int .i64 kr2.fn, .int .i64 kr2.code, .int .i64 kr2.loc, .int .i64 kr2.cnt, .int .i64 kr2.sub, .slice b7 kr2.bits.length cb7, .slice c7 kr2.vals.length cc7, .int .u16 kr2.land.toNat, .int .u16 kr2.lor.toNat, .slice d7 kr2.data.length cd7] 35)
 replace B := below_then B EA
 replace r2 := r2.below EA
 replace q3 := q3.below EA
 replace X3 := hidden (X3.out.ext EA)
 replace r6 := r6.below EA
 replace q7 := q7.below EA
 clear EA
 go_wp2_with fail
 refine (read_rep _ _ [1, 1, 5] ⟨1, 0, 2, 0, 0, [], [], 0, 0⟩ _ r6 ⟨_, _, rfl, Row.nil _, Row.nil _⟩ (by decide)).mono ?_
 rintro e w8 ⟨v8, rfl, q8, E, -⟩
 replace B := below_then B E
 replace r2 := r2.below E
 replace q3 := q3.below E
 replace X3 := hidden (X3.out.ext E)
 replace r6 := r6.below E
 replace q7 := q7.below E
 replace X7 := hidden (X7.out.ext E)
 clear E
 simp only [kr_e3, kr_t3] at q8 ⊢
 obtain ⟨b8, cb8, c8, cc8, d8, cd8, rfl, -, -, -⟩ := q8.slices
 have X8 := hidden (BoxP.new w8 zeroP.fn zeroP.code zeroP.loc zeroP.cnt zeroP.sub (.slice b8 zeroP.bits.length cb8) (.slice c8 zeroP.vals.length cc8) zeroP.land zeroP.lor (.slice d8 zeroP.data.length cd8) 35)
 have EA := (Below.refl w8.heap.size w8).alloc (Nat.le_refl _) (.cells #[.int .i64 zeroP.fn, .int .i64 zeroP.code, .int .i64 zeroP.loc, .int .i64 zeroP.cnt, .int .i64 zeroP.sub, .slice b8 zeroP.bits.length cb8, .slice c8 zeroP.vals.length cc8, .int .u16 zeroP.land.toNat, .int .u16 zeroP.lor.toNat, .slice d8 zeroP.data.length cd8] 35)
 replace B := below_then B EA
 replace r2 := r2.below EA
 replace q3 := q3.below EA
 replace X3 := hidden (X3.out.ext EA)
 replace r6 := r6.below EA
 replace q7 := q7.below EA
 replace X7 := hidden (X7.out.ext EA)
 replace q8 := q8.below EA
 clear EA
 clear q8 X8
 have S2 := conv_row (P := Try.prog) r2 33 9 5 Try.underlying33 Try.underlying5 Try.underlying9
 have a0 := X3.out.c0
 have a1 := X3.out.c1
 have a2 := X3.out.c2
 have a3 := X3.out.c3
 have a4 := X3.out.c4
 have a5 := X3.out.c5
 have a6 := X3.out.c6
 have a7 := X3.out.c7
 have a8 := X3.out.c8
 have a9 := X3.out.c9
 go_wp2_with fail
 refine (alike_ref _ _ kr1 kr1 _ q3 (ref_rp _ 3 2)).mono ?_
 rintro e w9 ⟨rfl, E⟩
 replace B := below_then B E
 replace r2 := r2.below E
 replace q3 := q3.below E
 replace X3 := hidden (X3.out.ext E)
 replace r6 := r6.below E
 replace q7 := q7.below E
 replace X7 := hidden (X7.out.ext E)
 clear E
 rw [show decide (kr1 = kr1) = true by simp]
 clear S2 a0 a1 a2 a3 a4 a5 a6 a7 a8 a9
 have S6 := conv_row (P := Try.prog) r6 33 9 5 Try.underlying33 Try.underlying5 Try.underlying9
 have a5 := X7.out.c5
 rw [show kr2.bits.length = 3 from rfl] at a5
 go_wp2
 go_ret
 exact ⟨rfl, B⟩
end Go.Proofs.Ytbajlhpmmmhkoaa
namespace Go.Proofs.Ytbajlhpmmmhkoaa
open Go.RowKit
def kq1 : Rq := ⟨23, 3, 6, 14, 0, [], [255, 1], 0, 0⟩
def kq2 : Rq := ⟨5, 172, 0, 0, 0, [true], [], 0, 0⟩
def kb1 : List UInt8 := [23, 0, 3, 0, 6, 0, 14, 0, 2, 4, 0, 255, 0, 1]
def kb2 : List UInt8 := [5, 0, 172, 255, 0]
end Go.Proofs.Ytbajlhpmmmhkoaa
namespace Go.Proofs.Ytbajlhpmmmhkoaa
open Go.RowKit
theorem open_i64s {H : Type} {enc : TypeId × Value → H} {P : Program} {w : World} {base : Nat} {held : Bool} {t e : TypeId} {a : Option Addr} {len cap : Nat} {d : DataW H} {p : List MemPlace} (ht : P.underlying t = some (.slice e)) (he : P.underlying e = some (.int .i64)) (hc : P.cellsOf e = 1)
  (h : DataW.Trod enc P w base (fun _ => true) held t (.slice a len cap) d p) : ∃ xs : List Int, Row w (.slice a len cap) (xs.map iV) ∧ lenIs d xs.length ∧ ∀ n ∈ xs, -9223372036854775808 ≤ n ∧ n ≤ 9223372036854775807 := by
 obtain ⟨zs, hr, hd, hw⟩ := open_row ht he hc h
 exact ⟨zs, hr, hd, fun n hn => bounds_i64 (hw n hn)⟩
def ReqOk : Prop := ∀ (B g : Nat) (l : List Int) (w : World), Tap B w g l → B ≤ w.heap.size →
  Calls Try.prog 6 #[.pointer (some ⟨g, 0, none⟩)] w fun e w' => ∃ v', e = .returned v' ∧ ∃ q, IsRq w' v' q ∧ rightE q = 0 ∧ q.bits.length ≤ 30 ∧ (q.vals.length ≤ 30 ∧ q.cnt ≤ 30) ∧ NewQ B v' ∧ Dev B g w w'
theorem tap_new (w : World) (a : Option Addr) (n cap : Nat) (l : List Int) (h : Row w (.slice a n cap) (l.map iV)) (hi : ∀ x ∈ l, -9223372036854775808 ≤ x ∧ x ≤ 9223372036854775807) :
  Tap (w.heap.size + 1) (w.alloc (.cells #[.slice a n cap, .int .i64 0] 31)) w.heap.size l := by
 have hb : Below w.heap.size w (w.alloc (.cells #[.slice a n cap, .int .i64 0] 31)) := (Below.refl _ _).alloc (Nat.le_refl _) _
 refine ⟨⟨.slice a n cap, 0, Nat.zero_le _, Blk.new w 31 [.slice a n cap, .int .i64 0], h.below hb, ?_⟩, fun i hl => ?_, by omega⟩
 ·
  by_cases h0 : l = []
  ·
   left; rw [h0]; rfl
  ·
   right
   intro a' n' c' e
   simp only [Value.slice.injEq] at e
   obtain ⟨rfl, -, -⟩ := e
   obtain ⟨a2, cap2, e, -, -, -, h4⟩ := h
   simp only [Value.slice.injEq] at e
   obtain ⟨rfl, -, -⟩ := e
   rcases h4 with h4 | ⟨b, off, e, hc⟩
   ·
    exact absurd (by simpa using h4) h0
   ·
    cases e
    have hp : 0 < (l.map iV).length := by rw [List.length_map]; exact List.length_pos_iff.2 h0
    have := hc 0 hp
    rw [List.getElem?_eq_getElem hp] at this
    have := lt_of_cell this
    exact ⟨by simp only; omega, by simp only; omega⟩
 ·
  have : l.getD i 0 ∈ l := by
   rw [List.getD_eq_getElem?_getD, List.getElem?_eq_getElem hl]; exact List.getElem_mem hl
  exact hi _ this
end Go.Proofs.Ytbajlhpmmmhkoaa
