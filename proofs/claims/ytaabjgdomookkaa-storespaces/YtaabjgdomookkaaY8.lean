/- Contracts once more, all that is made in an interval of its own; burgagelaw8.known. -/
import Derived.Test.YtaabjgdomookkaaY7
namespace Go.Proofs.Ytaabjgdomookkaa
open Go.RowKit

theorem In.apart {lo hi lo' hi' : Nat} (h : hi ≤ lo') : ∀ i, In lo hi i → ¬ In lo' hi' i := fun i h1 h2 => by have := h1.2; have := h2.1; omega
theorem In.apart' {lo hi lo' hi' : Nat} (h : hi' ≤ lo) : ∀ i, In lo hi i → ¬ In lo' hi' i := fun i h1 h2 => by have := h1.1; have := h2.2; omega
theorem bel_in {w0 w w' : World} {lo hi : Nat} (hb : Below w0.heap.size w0 w) (k : Kp (In lo hi) w w') (hlo : w0.heap.size ≤ lo) : Below w0.heap.size w0 w' :=
  hb.trans (k.below _ hb.size (fun _ h => Nat.le_trans hlo h.1))
/-- a row that lies in an interval of blocks -/
structure RowI (lo hi : Nat) (w : World) (v : Value) (xs : List Value) : Prop where
  row : Row w v xs
  top : hi ≤ w.heap.size
  own : xs ≠ [] → ∀ k, v.ownBlock = some k → In lo hi k
theorem RowI.kp {F : Nat → Prop} {lo hi : Nat} {w w' : World} {v : Value} {xs : List Value} (h : RowI lo hi w v xs) (k : Kp F w w') (hF : ∀ i, In lo hi i → ¬ F i) : RowI lo hi w' v xs := by
  refine ⟨?_, Nat.le_trans h.top k.size, h.own⟩
  by_cases h0 : xs = []
  · subst h0
    obtain ⟨a, cap, e, h1, h2, h3, -⟩ := h.row
    exact ⟨a, cap, e, h1, h2, h3, .inl rfl⟩
  · exact h.row.kp k (fun i hi' => hF i (h.own h0 i hi'))
theorem RowI.ext {lo hi : Nat} {w w' : World} {v : Value} {xs : List Value} (h : RowI lo hi w v xs) (k : Below w.heap.size w w') : RowI lo hi w' v xs := h.kp (F := fun _ => False) (Kp.of_below k) (fun _ _ h => h)
theorem RowI.new {B : Nat} {w' : World} {v : Value} {xs : List Value} (h : Row w' v xs) (hn : NwV B v) : ∃ lo hi, RowI lo hi w' v xs ∧ B ≤ lo := by
  refine ⟨B, w'.heap.size, ⟨h, Nat.le_refl _, fun h0 k hk => ⟨hn k hk, ?_⟩⟩, Nat.le_refl _⟩
  obtain ⟨a, cap, rfl, -, -, -, h3⟩ := h
  rcases h3 with h3 | ⟨b, off, rfl, hc⟩
  · exact absurd h3 h0
  · simp only [Value.ownBlock, Option.some.injEq] at hk
    subst hk
    have hp : 0 < xs.length := List.length_pos_iff.2 h0
    have := hc 0 hp
    rw [List.getElem?_eq_getElem hp] at this
    exact lt_of_cell this

theorem new_i (c : Int) (n : Nat) (w : World) (hc : c = (n : Int)) (hn : 1 ≤ n ∧ n ≤ 65536) :
    Calls Try.prog 10 #[.int .i64 c] w fun e w' => ∃ g lo hi, e = .returned (ptrG g) ∧ SD w' lo hi g n (Cs.zero n) ∧ w.heap.size ≤ lo ∧ Below w.heap.size w w' := by
  subst hc
  exact (new_any n w hn).mono fun e w' ⟨g, e1, h1, h2⟩ => ⟨g, _, _, e1, h1, Nat.le_refl _, h2⟩
theorem copy_i {lo hi g n : Nat} {s : Cs} {w : World} (h : SD w lo hi g n s) :
    Calls Try.prog 13 #[ptrG g] w fun e w' => ∃ g' lo' hi', e = .returned (ptrG g') ∧ SD w' lo' hi' g' n s ∧ w.heap.size ≤ lo' ∧ Below w.heap.size w w' :=
  (copy_any lo hi g n s w h).mono fun _ _ ⟨g, e1, h1, h2⟩ => ⟨g, _, _, e1, h1, Nat.le_refl _, h2⟩
theorem rnew_i (c : Int) (n : Nat) (w : World) (hc : c = (n : Int)) (hn : 1 ≤ n ∧ n ≤ 65536) :
    Calls Try.prog 19 #[.int .i64 c] w fun e w' => ∃ g lo hi, e = .returned (ptrG g) ∧ SR n w' lo hi g n (Cs.zero n) ∧ w.heap.size ≤ lo ∧ Below w.heap.size w w' := by
  subst hc
  exact (rnew_any n w hn).mono fun e w' ⟨g, e1, h1, h2⟩ => ⟨g, _, _, e1, h1, Nat.le_refl _, h2⟩

theorem setB_i {lo hi g n : Nat} {s : Cs} {v : Value} (l : List Bool) {sp a : Int} {w : World} (b : Bool) (s' : Cs) (h : SD w lo hi g n s) (hv : Row w v (l.map Value.bool)) (h1 : okB n sp a l.length = b) (h2 : setB n s sp a l = s') (ha : i64 a) :
    Calls Try.prog 12 #[ptrG g, .int .i64 sp, .int .i64 a, v] w fun e w' => e = .returned (.bool b) ∧ SD w' lo hi g n s' ∧ Kp (In lo hi) w w' := by
  subst h1 h2
  exact setB_any lo hi g n s v l sp a w h hv ha
theorem getB_i {lo hi g n : Nat} {s : Cs} {sp a m : Int} {w : World} (b : Bool) (l : List Bool) (h : SD w lo hi g n s) (h1 : okB n sp a m = b) (h2 : getB n s sp a m = l) (ha : i64 a) :
    Calls Try.prog 15 #[ptrG g, .int .i64 sp, .int .i64 a, .int .i64 m] w fun e w' => ∃ v' lo' hi', e = .returned (.tuple #[v', .bool b]) ∧ RowI lo' hi' w' v' (l.map Value.bool) ∧ w.heap.size ≤ lo' ∧ Below w.heap.size w w' := by
  subst h1 h2
  exact (getB_any lo hi g n s sp a m w h ha).mono fun e w' ⟨v, e1, r, nw, hb⟩ => by
    obtain ⟨lo', hi', q1, q2⟩ := RowI.new r nw
    exact ⟨v, lo', hi', e1, q1, q2, hb⟩

theorem setV_i {lo hi g n : Nat} {s : Cs} {v : Value} (l : List UInt16) {sp a : Int} {w : World} (b : Bool) (s' : Cs) (h : SD w lo hi g n s) (hv : Row w v (l.map wV)) (h1 : okV n sp a l.length = b) (h2 : setV n s sp a l = s') (ha : i64 a) :
    Calls Try.prog 11 #[ptrG g, .int .i64 sp, .int .i64 a, v] w fun e w' => e = .returned (.bool b) ∧ SD w' lo hi g n s' ∧ Kp (In lo hi) w w' := by
  subst h1 h2
  exact setV_any lo hi g n s v l sp a w h hv ha
theorem getV_i {lo hi g n : Nat} {s : Cs} {sp a m : Int} {w : World} (b : Bool) (l : List UInt16) (h : SD w lo hi g n s) (h1 : okV n sp a m = b) (h2 : getV n s sp a m = l) (ha : i64 a) :
    Calls Try.prog 14 #[ptrG g, .int .i64 sp, .int .i64 a, .int .i64 m] w fun e w' => ∃ v' lo' hi', e = .returned (.tuple #[v', .bool b]) ∧ RowI lo' hi' w' v' (l.map wV) ∧ w.heap.size ≤ lo' ∧ Below w.heap.size w w' := by
  subst h1 h2
  exact (getV_any lo hi g n s sp a m w h ha).mono fun e w' ⟨v, e1, r, nw, hb⟩ => by
    obtain ⟨lo', hi', q1, q2⟩ := RowI.new r nw
    exact ⟨v, lo', hi', e1, q1, q2, hb⟩

set_option maxHeartbeats 4000000 in
theorem known_any (w : World) : Calls Try.prog 8 #[] w fun e w' => e = .returned (.bool true) ∧ Below w.heap.size w w' := by
  have BL := Below.refl w.heap.size w
  go_enter Try.func8, Try.ntmps8
  go_wp2_with fail
  refine (new_i 4 4 _ rfl (by decide)).mono ?_
  rintro e w1 ⟨g, loS, hiS, rfl, S, lS, E⟩
  have bS := Nat.le_trans BL.size lS
  clear lS
  replace BL := below_then BL E
  clear E
  go_wp2_with fail
  refine (new_bad 0 _ (by decide)).mono ?_
  rintro e w2 ⟨rfl, rfl⟩
  go_wp2_with fail
  refine (new_bad 65537 _ (by decide)).mono ?_
  rintro e w2 ⟨rfl, rfl⟩
  go_wp2_with fail
  have EA := (Below.refl w1.heap.size w1).alloc (Nat.le_refl _) (.cells #[.int .u16 7, .int .u16 8] 24)
  have R := row_new w1 [.int .u16 7, .int .u16 8] 24 2 rfl (by decide)
  replace S := S.ext EA
  replace BL := below_then BL EA
  clear EA
  refine (setV_i [7, 8] true ⟨[false, false, false, false], [false, false, false, false], [0, 0, 0, 0], [0, 7, 8, 0]⟩ S R (by decide) (by kernel_rfl) (by decide)).mono ?_
  clear S R
  rintro e w2 ⟨rfl, S, K⟩
  replace BL := bel_in BL K bS
  clear K
  go_wp2_with fail
  have EA := (Below.refl w2.heap.size w2).alloc (Nat.le_refl _) (.cells #[.int .u16 7, .int .u16 8] 24)
  have R := row_new w2 [.int .u16 7, .int .u16 8] 24 2 rfl (by decide)
  replace S := S.ext EA
  replace BL := below_then BL EA
  clear EA
  refine (setV_i [7, 8] false ⟨[false, false, false, false], [false, false, false, false], [0, 0, 0, 0], [0, 7, 8, 0]⟩ S R (by decide) (by kernel_rfl) (by decide)).mono ?_
  clear S R
  rintro e w3 ⟨rfl, S, K⟩
  replace BL := bel_in BL K bS
  clear K
  go_wp2_with fail
  refine (getV_i true [0, 7, 8, 0] S (by decide) (by kernel_rfl) (by decide)).mono ?_
  rintro e w4 ⟨v4, loL, hiL, rfl, L, lL, E⟩
  have oSL := Nat.le_trans S.top lL
  have bL := Nat.le_trans BL.size lL
  clear lL
  replace S := S.ext E
  replace BL := below_then BL E
  clear E
  go_wp2_with fail
  refine (getV_i false [] S (by decide) (by kernel_rfl) (by decide)).mono ?_
  rintro e w5 ⟨v5, loM, hiM, rfl, M, lM, E⟩
  have oSM := Nat.le_trans S.top lM
  have oLM := Nat.le_trans L.top lM
  have bM := Nat.le_trans BL.size lM
  clear lM
  replace S := S.ext E
  replace L := L.ext E
  replace BL := below_then BL E
  clear E
  go_wp2_with fail
  refine (getB_i false [] S (by decide) (by kernel_rfl) (by decide)).mono ?_
  rintro e w6 ⟨v6, loO, hiO, rfl, O, lO, E⟩
  have oSO := Nat.le_trans S.top lO
  have oLO := Nat.le_trans L.top lO
  have oMO := Nat.le_trans M.top lO
  have bO := Nat.le_trans BL.size lO
  clear lO
  replace S := S.ext E
  replace L := L.ext E
  replace M := M.ext E
  replace BL := below_then BL E
  clear E
  go_wp2_with fail
  refine (copy_i S).mono ?_
  rintro e w7 ⟨gc, loC, hiC, rfl, C, lC, E⟩
  have oSC := Nat.le_trans S.top lC
  have oLC := Nat.le_trans L.top lC
  have oMC := Nat.le_trans M.top lC
  have oOC := Nat.le_trans O.top lC
  have bC := Nat.le_trans BL.size lC
  clear lC
  replace S := S.ext E
  replace L := L.ext E
  replace M := M.ext E
  replace O := O.ext E
  replace BL := below_then BL E
  clear E
  go_wp2_with fail
  refine (same_any _ _ _ _ _ _ _ _ _ _ _ S C).mono ?_
  rintro e w8 ⟨rfl, n8, rfl⟩
  rw [sameC_self]
  have E := below_drewn0 w7.heap.size w7 n8
  replace S := S.ext E
  replace L := L.ext E
  replace M := M.ext E
  replace O := O.ext E
  replace C := C.ext E
  replace BL := below_then BL E
  clear E
  generalize w7.drewN n8 = w8 at *
  clear w7
  go_wp2_with fail
  have EA := (Below.refl w8.heap.size w8).alloc (Nat.le_refl _) (.cells #[.bool true] 4)
  have R := row_new w8 [.bool true] 4 1 rfl (by decide)
  replace S := S.ext EA
  replace L := L.ext EA
  replace M := M.ext EA
  replace O := O.ext EA
  replace C := C.ext EA
  replace BL := below_then BL EA
  clear EA
  refine (setB_i [true] true ⟨[false, false, false, false], [true, false, false, false], [0, 0, 0, 0], [0, 7, 8, 0]⟩ C R (by decide) (by kernel_rfl) (by decide)).mono ?_
  clear C R
  rintro e w9 ⟨rfl, C, K⟩
  replace S := S.kp K (In.apart oSC)
  replace L := L.kp K (In.apart oLC)
  replace M := M.kp K (In.apart oMC)
  replace O := O.kp K (In.apart oOC)
  replace BL := bel_in BL K bC
  clear K
  go_wp2_with fail
  have EA := (Below.refl w9.heap.size w9).alloc (Nat.le_refl _) (.cells #[.int .u16 0, .int .u16 7, .int .u16 8, .int .u16 0] 24)
  have R := row_new w9 [.int .u16 0, .int .u16 7, .int .u16 8, .int .u16 0] 24 4 rfl (by decide)
  replace S := S.ext EA
  replace L := L.ext EA
  replace M := M.ext EA
  replace O := O.ext EA
  replace C := C.ext EA
  replace BL := below_then BL EA
  clear EA
  refine (booksameV _ _ [0, 7, 8, 0] _ L.row R).mono ?_
  clear R
  rintro e w10 ⟨rfl, n10, rfl⟩
  generalize hwa : w9.alloc (.cells #[.int .u16 0, .int .u16 7, .int .u16 8, .int .u16 0] 24) = wa at *
  clear hwa
  have E := below_drewn0 wa.heap.size wa n10
  replace S := S.ext E
  replace L := L.ext E
  replace M := M.ext E
  replace O := O.ext E
  replace C := C.ext E
  replace BL := below_then BL E
  clear E
  generalize wa.drewN n10 = w10 at *
  go_wp2_with fail
  refine (same_any _ _ _ _ _ _ _ _ _ _ _ S C).mono ?_
  rintro e w11 ⟨rfl, n11, rfl⟩
  rw [show sameC ⟨[false, false, false, false], [false, false, false, false], [0, 0, 0, 0], [0, 7, 8, 0]⟩ ⟨[false, false, false, false], [true, false, false, false], [0, 0, 0, 0], [0, 7, 8, 0]⟩ = false by decide]
  have E := below_drewn0 w10.heap.size w10 n11
  replace S := S.ext E
  replace L := L.ext E
  replace M := M.ext E
  replace O := O.ext E
  replace C := C.ext E
  replace BL := below_then BL E
  clear E
  generalize w10.drewN n11 = w11 at *
  go_wp2_with fail
  refine (same_nil _ _).mono ?_
  rintro e w12 ⟨rfl, n12, rfl⟩
  have E := below_drewn0 w11.heap.size w11 n12
  replace S := S.ext E
  replace L := L.ext E
  replace M := M.ext E
  replace O := O.ext E
  replace C := C.ext E
  replace BL := below_then BL E
  clear E
  generalize w11.drewN n12 = w12 at *
  go_wp2_with fail
  refine (len_any _ _ _ _ _ _ S).mono ?_
  rintro e w13 ⟨rfl, rfl⟩
  go_wp2_with fail
  refine (setB_i [] true ⟨[false, false, false, false], [false, false, false, false], [0, 0, 0, 0], [0, 7, 8, 0]⟩ S (Row.nil _) (by decide) (by kernel_rfl) (by decide)).mono ?_
  clear S
  rintro e w14 ⟨rfl, S, K⟩
  replace L := L.kp K (In.apart' oSL)
  replace M := M.kp K (In.apart' oSM)
  replace O := O.kp K (In.apart' oSO)
  replace C := C.kp K (In.apart' oSC)
  replace BL := bel_in BL K bS
  clear K
  go_wp2_with fail
  refine (setB_i [] false ⟨[false, false, false, false], [false, false, false, false], [0, 0, 0, 0], [0, 7, 8, 0]⟩ S (Row.nil _) (by decide) (by kernel_rfl) (by decide)).mono ?_
  clear S
  rintro e w15 ⟨rfl, S, K⟩
  replace L := L.kp K (In.apart' oSL)
  replace M := M.kp K (In.apart' oSM)
  replace O := O.kp K (In.apart' oSO)
  replace C := C.kp K (In.apart' oSC)
  replace BL := bel_in BL K bS
  clear K
  go_wp2
  go_ret
  exact ⟨rfl, BL⟩

end Go.Proofs.Ytaabjgdomookkaa
