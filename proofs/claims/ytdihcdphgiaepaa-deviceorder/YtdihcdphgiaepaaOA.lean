/- Contracts of octet's functions: what each call returns, said of lists. -/
import Derived.Test.YtdihcdphgiaepaaG1
namespace Go.Proofs.Ytdihcdphgiaepaa
open Go.RowKit

/-- a slice of new memory, or none -/
def NewV (base : Nat) (v : Value) : Prop := ∀ a n c, v = .slice (some a) n c → base ≤ a.block
theorem NewV.none (base n c : Nat) : NewV base (.slice .none n c) := fun _ _ _ h => by cases h
theorem NewV.some (base g o n c : Nat) (h : base ≤ g) : NewV base (.slice (some ⟨g, o, .none⟩) n c) := fun _ _ _ e => by
  simp only [Value.slice.injEq, Option.some.injEq] at e
  rw [← e.1]; exact h
theorem NewV.le {base base' : Nat} {v : Value} (h : NewV base v) (hb : base' ≤ base) : NewV base' v := fun a n c e => Nat.le_trans hb (h a n c e)
theorem NewV.of_owns {w : World} {base : Nat} {e : TypeId} {v : Value} {n : Nat} {xs : List Value} (h : w.ownsRow base e 1 v n xs) : NewV base v := by
  rcases h.2 with ⟨rfl, -⟩ | ⟨g, cap, cur, rfl, hb, -⟩
  · exact NewV.none _ _ _
  · exact NewV.some _ _ _ _ _ hb
theorem Row.setCell_new {w : World} {v u : Value} {xs : List Value} {base g o : Nat} (h : Row w v xs) (hn : NewV base v) (hg : g < base) : Row (w.setCell ⟨g, o, .none⟩ u) v xs := by
  obtain ⟨a, cap, rfl, h1, h2, h3, h4⟩ := h
  refine ⟨_, _, rfl, h1, h2, h3, ?_⟩
  rcases h4 with rfl | ⟨b, off, rfl, hc⟩
  · exact .inl rfl
  · have hb := hn _ _ _ rfl
    simp only at hb
    refine .inr ⟨_, _, rfl, fun i hi => ?_⟩
    rw [← hc i hi]
    have hne : g ≠ b := by omega
    simp only [World.cell?, World.setCell, Array.getElem?_modify, hne, if_false]

set_option maxHeartbeats 400000 in
theorem size_any (n : Int) (w : World) (h0 : 0 ≤ n) (h1 : n ≤ 9223372036854775807) :
    Calls Try.prog 84 #[.int .i64 n] w fun e w' => e = .returned (.int .i64 ((n + 7) / 8)) ∧ w = w' := by
  by_cases h : n % 8 = 0
  · have hb : (n % 8 == 0) = true := by simpa using h
    go_enter Try.func84, Try.ntmps84
    go_wp2
    go_ret
    exact ⟨ret_int (by omega), rfl⟩
  · have hb : (n % 8 == 0) = false := by simpa using h
    go_enter Try.func84, Try.ntmps84
    go_wp2
    go_ret
    exact ⟨ret_int (by omega), rfl⟩

theorem or_word (x y : UInt8) : bits BinOp.or IntKind.u16 ((x.toNat : Int) * 256) (y.toNat : Int) = ((mkW x y).toNat : Int) := by
  have hx' := x.toNat_lt
  have hy' := y.toNat_lt
  rw [mkW_nat, show ((x.toNat : Int) * 256) = ((x.toNat * 256 : Nat) : Int) by omega, u16_or_nat _ _ (by omega) (by omega), nat_join 8 _ _ (by omega) (by omega)]

set_option maxHeartbeats 400000 in
theorem number_any (b off len cap : Nat) (n : Int) (i : Nat) (x y : UInt8) (w : World) (hn : n = (i : Int)) (hi : i + 1 < len) (hlc : len ≤ maxLen)
    (hx : w.cell? ⟨b, off + i, none⟩ = some (bV x)) (hy : w.cell? ⟨b, off + (i + 1), none⟩ = some (bV y)) :
    Calls Try.prog 89 #[.slice (some ⟨b, off, none⟩) len cap, .int .i64 n] w fun e w' => e = .returned (wV (mkW x y)) ∧ ∃ nq, w' = w.drewN nq := by
  subst hn
  have hx' := x.toNat_lt
  have hy' := y.toNat_lt
  unfold maxLen at hlc
  have h1 : (i : Int) < (len : Int) := by omega
  have h2 : (i : Int) + 1 < (len : Int) := by omega
  go_enter Try.func89, Try.ntmps89
  go_wp2
  go_quiet (fail)
  go_wp2
  go_ret
  exact ⟨ret_int (or_word x y), _, rfl⟩

set_option maxHeartbeats 400000 in
theorem lay_any (b off len cap : Nat) (n m : Int) (i : Nat) (x : UInt16) (u0 u1 : Value) (w : World) (hn : n = (i : Int)) (hm : m = (x.toNat : Int)) (hi : i + 1 < len) (hlc : len ≤ maxLen)
    (hx : w.cell? ⟨b, off + i, none⟩ = some u0) (hy : w.cell? ⟨b, off + (i + 1), none⟩ = some u1)
    (fx : w.frozen? ⟨b, off + i, none⟩ = false) (fy : w.frozen? ⟨b, off + (i + 1), none⟩ = false) :
    Calls Try.prog 85 #[.slice (some ⟨b, off, none⟩) len cap, .int .i64 n, .int .u16 m] w fun e w' => e = .returned (.tuple #[]) ∧ (w.setCell ⟨b, off + i, none⟩ (bV (hiB x))).setCell ⟨b, off + (i + 1), none⟩ (bV (loB x)) = w' := by
  subst hn hm
  have hx' := x.toNat_lt
  unfold maxLen at hlc
  have h1 : (i : Int) < (len : Int) := by omega
  have h2 : (i : Int) + 1 < (len : Int) := by omega
  have e1 : ((hiB x).toNat : Int) = (x.toNat : Int) / 256 := by rw [hiB_nat]; omega
  have e2 : ((loB x).toNat : Int) = (x.toNat : Int) % 256 := by rw [loB_nat]; omega
  have H1 := Hid.out e1
  have H2 := Hid.out e2
  clear e1 e2
  rw [bV, bV, H1, H2]
  clear H1 H2
  go_enter Try.func85, Try.ntmps85
  go_wp2
  go_end0
  exact ⟨rfl, rfl⟩

theorem lay_blk (g len cap : Nat) (n m : Int) (i : Nat) (x : UInt16) (w : World) (t : TypeId) (xs : List Value) (h : Blk w g t xs) (hl : len = xs.length) (hn : n = (i : Int)) (hm : m = (x.toNat : Int)) (hi : i + 1 < len) (hlc : len ≤ maxLen) :
    Calls Try.prog 85 #[.slice (some ⟨g, 0, none⟩) len cap, .int .i64 n, .int .u16 m] w fun e w' => e = .returned (.tuple #[]) ∧ Blk w' g t ((xs.set i (bV (hiB x))).set (i + 1) (bV (loB x))) ∧ Below g w w' := by
  obtain ⟨u0, c0⟩ := h.some (0 + i) (by omega)
  obtain ⟨u1, c1⟩ := h.some (0 + (i + 1)) (by omega)
  refine (lay_any g 0 len cap n m i x u0 u1 w hn hm hi hlc c0 c1 (h.frozen _) (h.frozen _)).mono ?_
  rintro e w2 ⟨rfl, rfl⟩
  refine ⟨rfl, ?_, ((Below.refl _ _).setCell (p := ⟨g, 0 + i, none⟩) (Nat.le_refl g) _).setCell (p := ⟨g, 0 + (i + 1), none⟩) (Nat.le_refl g) _⟩
  have := (h.set (0 + i) (bV (hiB x))).set (0 + (i + 1)) (bV (loB x))
  simpa using this

def getOk (bs : List UInt8) (n : Int) : Bool := decide (0 ≤ n ∧ n + 2 ≤ bs.length)
def getN (bs : List UInt8) (n : Int) : Int := if 0 ≤ n ∧ n + 2 ≤ bs.length then (mkW (bs.getD n.toNat 0) (bs.getD (n.toNat + 1) 0)).toNat else 0

set_option maxHeartbeats 400000 in
theorem get_any (v : Value) (bs : List UInt8) (n : Int) (w : World) (hn : -9223372036854775808 ≤ n ∧ n ≤ 9223372036854775807) (hv : Row w v (bs.map bV)) :
    Calls Try.prog 87 #[v, .int .i64 n] w fun e w' => e = .returned (.tuple #[.int .i64 (getN bs n), .bool (getOk bs n)]) ∧ ∃ nq, w' = w.drewN nq := by
  obtain ⟨a, cap, rfl, -⟩ := id hv
  obtain ⟨hl, hc, hm, hcell⟩ := hv.at
  simp only [List.length_map] at hl hc ⊢
  by_cases h : 0 ≤ n ∧ n + 2 ≤ bs.length
  · obtain ⟨b, off, rfl, hcl⟩ := hcell n.toNat 0 (by simp; omega)
    have hm' : bs.length ≤ maxLen := by omega
    have c0 := hcl n.toNat (by simp; omega)
    have c1 := hcl (n.toNat + 1) (by simp; omega)
    have ok : getOk bs n = true := by simp [getOk]; omega
    have gn : getN bs n = (mkW (bs.getD n.toNat 0) (bs.getD (n.toNat + 1) 0)).toNat := by simp [getN, h]
    rw [ok, gn]
    obtain ⟨g1, g2⟩ := h
    clear hcell hcl hv ok gn
    unfold maxLen at hm hm'
    have hmx := hm'
    generalize bs.getD n.toNat 0 = x at *
    generalize bs.getD (n.toNat + 1) 0 = y at *
    have hw := (mkW x y).toNat_lt
    have t1 : ¬ n < 0 := by omega
    have t2 : ¬ (bs.length : Int) - 2 < n := by omega
    go_enter Try.func87, Try.ntmps87
    go_wp2_with (go_at_call 89; refine (number_any b off _ _ n n.toNat x y _ (by omega) (by omega) (by unfold maxLen; omega) c0 c1).mono ?_; rintro e w' ⟨rfl, nq, rfl⟩)
    go_ret2
    exact ⟨rfl, nq, rfl⟩
  · have ok : getOk bs n = false := by simp [getOk]; omega
    have gn : getN bs n = 0 := by simp [getN]; omega
    rw [ok, gn]
    clear hcell hv ok gn
    unfold maxLen at hm
    have hmx : bs.length ≤ 9223372036854775807 := by omega
    by_cases t1 : n < 0
    · go_enter Try.func87, Try.ntmps87
      go_wp2
      go_ret2
      exact ⟨rfl, 0, rfl⟩
    · have t2 : (bs.length : Int) - 2 < n := by omega
      go_enter Try.func87, Try.ntmps87
      go_wp2
      go_ret2
      exact ⟨rfl, 0, rfl⟩

end Go.Proofs.Ytdihcdphgiaepaa
