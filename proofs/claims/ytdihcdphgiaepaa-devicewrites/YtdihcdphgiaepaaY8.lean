/- Contracts once more, all that is made in an interval of its own; burgagelaw8.known. -/
import Derived.Test.YtdihcdphgiaepaaY7
namespace Go.Proofs.Ytdihcdphgiaepaa
open Go.RowKit

theorem In.apart {lo hi lo' hi' : Nat} (h : hi ≤ lo') : ∀ i, In lo hi i → ¬ In lo' hi' i := fun i h1 h2 => by have := h1.2; have := h2.1; omega
theorem In.apart' {lo hi lo' hi' : Nat} (h : hi' ≤ lo) : ∀ i, In lo hi i → ¬ In lo' hi' i := fun i h1 h2 => by have := h1.1; have := h2.2; omega
theorem bel_in {w0 w w' : World} {lo hi : Nat} (hb : Below w0.heap.size w0 w) (k : Kp (In lo hi) w w') (hlo : w0.heap.size ≤ lo) : Below w0.heap.size w0 w' :=
  hb.trans (k.below _ hb.size (fun _ h => Nat.le_trans hlo h.1))
/-- a row that lies in an interval of blocks -/
structure RowI (lo hi : Nat) (w : World) (v : Value) (xs : List Value) : Prop where
  row : Row w v xs
  top : hi ≤ w.heap.size
  own : xs ≠ [] → ∀ k, v.ownBlock = some k → In lo hi k
theorem RowI.kp {F : Nat → Prop} {lo hi : Nat} {w w' : World} {v : Value} {xs : List Value} (h : RowI lo hi w v xs) (k : Kp F w w') (hF : ∀ i, In lo hi i → ¬ F i) : RowI lo hi w' v xs := by
  refine ⟨?_, Nat.le_trans h.top k.size, h.own⟩
  by_cases h0 : xs = []
  · subst h0
    obtain ⟨a, cap, e, h1, h2, h3, -⟩ := h.row
    exact ⟨a, cap, e, h1, h2, h3, .inl rfl⟩
  · exact h.row.kp k (fun i hi' => hF i (h.own h0 i hi'))
theorem RowI.ext {lo hi : Nat} {w w' : World} {v : Value} {xs : List Value} (h : RowI lo hi w v xs) (k : Below w.heap.size w w') : RowI lo hi w' v xs := h.kp (F := fun _ => False) (Kp.of_below k) (fun _ _ h => h)
theorem RowI.new {B : Nat} {w' : World} {v : Value} {xs : List Value} (h : Row w' v xs) (hn : NwV B v) : ∃ lo hi, RowI lo hi w' v xs ∧ B ≤ lo := by
  refine ⟨B, w'.heap.size, ⟨h, Nat.le_refl _, fun h0 k hk => ⟨hn k hk, ?_⟩⟩, Nat.le_refl _⟩
  obtain ⟨a, cap, rfl, -, -, -, h3⟩ := h
  rcases h3 with h3 | ⟨b, off, rfl, hc⟩
  · exact absurd h3 h0
  · simp only [Value.ownBlock, Option.some.injEq] at hk
    subst hk
    have hp : 0 < xs.length := List.length_pos_iff.2 h0
    have := hc 0 hp
    rw [List.getElem?_eq_getElem hp] at this
    exact lt_of_cell this

theorem new_i (c : Int) (n : Nat) (w : World) (hc : c = (n : Int)) (hn : 1 ≤ n ∧ n ≤ 65536) :
    Calls Try.prog 13 #[.int .i64 c] w fun e w' => ∃ g lo hi, e = .returned (ptrG g) ∧ SD w' lo hi g n (Cs.zero n) ∧ w.heap.size ≤ lo ∧ Below w.heap.size w w' := by
  subst hc
  exact (new_any n w hn).mono fun e w' ⟨g, e1, h1, h2⟩ => ⟨g, _, _, e1, h1, Nat.le_refl _, h2⟩

theorem setB_i {lo hi g n : Nat} {s : Cs} {v : Value} (l : List Bool) {sp a : Int} {w : World} (b : Bool) (s' : Cs) (h : SD w lo hi g n s) (hv : Row w v (l.map Value.bool)) (h1 : okB n sp a l.length = b) (h2 : setB n s sp a l = s') (ha : i64 a) :
    Calls Try.prog 52 #[ptrG g, .int .i64 sp, .int .i64 a, v] w fun e w' => e = .returned (.bool b) ∧ SD w' lo hi g n s' ∧ Kp (In lo hi) w w' := by
  subst h1 h2
  exact setB_any lo hi g n s v l sp a w h hv ha

theorem getB_i {lo hi g n : Nat} {s : Cs} {sp a m : Int} {w : World} (b : Bool) (l : List Bool) (h : SD w lo hi g n s) (h1 : okB n sp a m = b) (h2 : getB n s sp a m = l) (ha : i64 a) :
    Calls Try.prog 66 #[ptrG g, .int .i64 sp, .int .i64 a, .int .i64 m] w fun e w' => ∃ v' lo' hi', e = .returned (.tuple #[v', .bool b]) ∧ RowI lo' hi' w' v' (l.map Value.bool) ∧ w.heap.size ≤ lo' ∧ Below w.heap.size w w' := by
  subst h1 h2
  exact (getB_any lo hi g n s sp a m w h ha).mono fun e w' ⟨v, e1, r, nw, hb⟩ => by
    obtain ⟨lo', hi', q1, q2⟩ := RowI.new r nw
    exact ⟨v, lo', hi', e1, q1, q2, hb⟩

theorem setV_i {lo hi g n : Nat} {s : Cs} {v : Value} (l : List UInt16) {sp a : Int} {w : World} (b : Bool) (s' : Cs) (h : SD w lo hi g n s) (hv : Row w v (l.map wV)) (h1 : okV n sp a l.length = b) (h2 : setV n s sp a l = s') (ha : i64 a) :
    Calls Try.prog 54 #[ptrG g, .int .i64 sp, .int .i64 a, v] w fun e w' => e = .returned (.bool b) ∧ SD w' lo hi g n s' ∧ Kp (In lo hi) w w' := by
  subst h1 h2
  exact setV_any lo hi g n s v l sp a w h hv ha

theorem getV_i {lo hi g n : Nat} {s : Cs} {sp a m : Int} {w : World} (b : Bool) (l : List UInt16) (h : SD w lo hi g n s) (h1 : okV n sp a m = b) (h2 : getV n s sp a m = l) (ha : i64 a) :
    Calls Try.prog 19 #[ptrG g, .int .i64 sp, .int .i64 a, .int .i64 m] w fun e w' => ∃ v' lo' hi', e = .returned (.tuple #[v', .bool b]) ∧ RowI lo' hi' w' v' (l.map wV) ∧ w.heap.size ≤ lo' ∧ Below w.heap.size w w' := by
  subst h1 h2
  exact (getV_any lo hi g n s sp a m w h ha).mono fun e w' ⟨v, e1, r, nw, hb⟩ => by
    obtain ⟨lo', hi', q1, q2⟩ := RowI.new r nw
    exact ⟨v, lo', hi', e1, q1, q2, hb⟩

end Go.Proofs.Ytdihcdphgiaepaa
