/- Streams in memory; contracts of mbap's small functions. -/
import Derived.Test.YtejcigeccmfeeaaN0
import Derived.Test.YtejcigeccmfeeaaK8
import Derived.Test.YtejcigeccmfeeaaCC
import Derived.Maps.AppendAt
namespace Go.Proofs.Ytejcigeccmfeeaa
open Go.RowKit

/-- memory in which no more than the blocks of F have changed -/
structure Kp (F : Nat → Prop) (w w' : World) : Prop where
  os : w'.os = w.os
  tape : w'.tape = w.tape
  output : w'.output = w.output
  size : w.heap.size ≤ w'.heap.size
  block : ∀ k, k < w.heap.size → ¬ F k → w'.heap[k]? = w.heap[k]?
theorem Kp.refl (F : Nat → Prop) (w : World) : Kp F w w := ⟨rfl, rfl, rfl, Nat.le_refl _, fun _ _ _ => rfl⟩
theorem Kp.of_below {F : Nat → Prop} {w w' : World} (h : Below w.heap.size w w') : Kp F w w' := ⟨h.os, h.tape, h.output, h.size, fun k hk _ => h.block k hk⟩
theorem Kp.then {F F' : Nat → Prop} {a b c : World} (h : Kp F a b) (k : Kp F' b c) (hf : ∀ i, i < a.heap.size → F' i → F i) : Kp F a c :=
  ⟨k.os.trans h.os, k.tape.trans h.tape, k.output.trans h.output, Nat.le_trans h.size k.size, fun i h1 h2 => (k.block i (Nat.lt_of_lt_of_le h1 h.size) (fun x => h2 (hf i h1 x))).trans (h.block i h1 h2)⟩
theorem Kp.ext {F : Nat → Prop} {a b c : World} (h : Kp F a b) (k : Below b.heap.size b c) : Kp F a c := h.then (Kp.of_below (F := F) k) (fun _ _ h => h)
theorem Kp.below {F : Nat → Prop} {a b : World} (h : Kp F a b) (B : Nat) (hB : B ≤ a.heap.size) (hF : ∀ k, F k → B ≤ k) : Below B a b :=
  ⟨h.os, h.tape, h.output, h.size, fun k hk => h.block k (by omega) (fun x => by have := hF k x; omega)⟩
theorem Kp.grown {F : Nat → Prop} {a b c : World} {row : Option Nat} (h : Kp F a b) (hg : b.grownBy c row) (hr : ∀ k, k < a.heap.size → row = some k → F k) : Kp F a c := by
  refine ⟨hg.os.trans h.os, hg.tape.trans h.tape, hg.output.trans h.output, Nat.le_trans h.size hg.size, fun i h1 h2 => ?_⟩
  rw [← h.block i h1 h2]
  exact hg.block i (Nat.lt_of_lt_of_le h1 h.size) (fun e => h2 (hr i h1 (by simp [e])))
theorem Kp.set {F : Nat → Prop} {a b : World} (h : Kp F a b) {p : Addr} (hp : p.block < a.heap.size → F p.block) (v : Value) : Kp F a (b.setCell p v) :=
  ⟨h.os, h.tape, h.output, by simpa [World.setCell] using h.size, fun k hk hF => by
    rw [← h.block k hk hF]
    have : p.block ≠ k := fun e => hF (e ▸ hp (e ▸ hk))
    simp [World.setCell, Array.getElem?_modify, this]⟩
theorem Blk.kp {F : Nat → Prop} {w w' : World} {g : Nat} {e : TypeId} {xs : List Value} (h : Blk w g e xs) (k : Kp F w w') (hF : ¬ F g) : Blk w' g e xs := (k.block g h.lt hF).trans h
/-- a row that lies in none of the blocks -/
def Off (F : Nat → Prop) (v : Value) : Prop := ∀ k, v.ownBlock = some k → ¬ F k
theorem Off.nil (F : Nat → Prop) (n c : Nat) : Off F (.slice none n c) := fun _ h => by cases h
theorem Off.sub {F F' : Nat → Prop} {v : Value} (h : Off F v) (hs : ∀ k, F' k → F k) : Off F' v := fun k hk x => h k hk (hs k x)
theorem Row.lt {w : World} {b off n c : Nat} {xs : List Value} (h : Row w (.slice (some ⟨b, off, none⟩) n c) xs) (h0 : 0 < xs.length) : b < w.heap.size := by
  obtain ⟨a, cap, e, -, -, -, h3⟩ := h
  rcases h3 with rfl | ⟨b', off', e2, hc⟩
  · simp at h0
  · simp only [Value.slice.injEq] at e
    rw [← e.1, Option.some.injEq] at e2
    cases e2
    have := hc 0 h0
    rw [List.getElem?_eq_getElem h0] at this
    exact lt_of_cell this
theorem Row.kp {F : Nat → Prop} {w w' : World} {v : Value} {xs : List Value} (h : Row w v xs) (k : Kp F w w') (hF : Off F v) : Row w' v xs := by
  obtain ⟨a, cap, rfl, h1, h2, h0, h3⟩ := h
  refine ⟨a, cap, rfl, h1, h2, h0, ?_⟩
  rcases h3 with h3 | ⟨b, off, rfl, hc⟩
  · exact .inl h3
  · refine .inr ⟨b, off, rfl, fun i hi => ?_⟩
    have := hc i hi
    have hlt : b < w.heap.size := by
      rw [List.getElem?_eq_getElem hi] at this
      exact lt_of_cell this
    rw [← this]
    exact World.cell?_of_block (a := ⟨b, off + i, none⟩) (k.block b hlt (hF b rfl))
theorem owns_lt {w : World} {base : Nat} {e : TypeId} {s : Nat} {v : Value} {n : Nat} {xs : List Value} (h : w.ownsRow base e s v n xs) {k : Nat} (hk : v.ownBlock = some k) : base ≤ k ∧ k < w.heap.size := h.lt k hk
theorem owns_kp {F : Nat → Prop} {w w' : World} {base : Nat} {e : TypeId} {s : Nat} {v : Value} {n : Nat} {xs : List Value} (h : w.ownsRow base e s v n xs) (k : Kp F w w') (hF : Off F v) : w'.ownsRow base e s v n xs := by
  refine ⟨h.1, ?_⟩
  rcases h.2 with h2 | ⟨g, cap, cur, rfl, hb, hg, rest⟩
  · exact .inl h2
  · exact .inr ⟨g, cap, cur, rfl, hb, (k.block g (Array.getElem?_eq_some_iff.1 hg).1 (hF g rfl)).trans hg, rest⟩
theorem owns_from {w : World} {base base' : Nat} {e : TypeId} {s : Nat} {v : Value} {n : Nat} {xs : List Value} (h : w.ownsRow base e s v n xs) (hb : base' ≤ base) : w.ownsRow base' e s v n xs := by
  refine ⟨h.1, ?_⟩
  rcases h.2 with hn | ⟨g, cap, cur, hv, hg, rest⟩
  · exact .inl hn
  · exact .inr ⟨g, cap, cur, hv, Nat.le_trans hb hg, rest⟩
/-- a row of another type lies elsewhere -/
theorem owns_blk {w : World} {base : Nat} {e t : TypeId} {s : Nat} {v : Value} {n g : Nat} {xs ys : List Value} (h : w.ownsRow base e s v n xs) (hb : Blk w g t ys) (he : e ≠ t) : v.ownBlock ≠ some g := by
  rcases h.2 with ⟨rfl, -⟩ | ⟨g', cap, cur, rfl, -, hg, -⟩
  · simp [Value.ownBlock]
  · intro e2
    simp only [Value.ownBlock, Option.some.injEq] at e2
    subst e2
    rw [hb] at hg
    simp at hg
    exact he hg.2.symm

abbrev ptrS (g : Nat) : Value := .pointer (some ⟨g, 0, none⟩)
/-- the blocks of a stream -/
def Ft (g : Nat) (v : Value) (k : Nat) : Prop := k = g ∨ v.ownBlock = some k
/-- block g is a stream (of type t) on which wait waits -/
structure Str (t : TypeId) (w : World) (base g : Nat) (v : Value) (wait : List UInt8) (shut : Bool) : Prop where
  blk : Blk w g t [v, .bool shut]
  own : w.ownsRow base 5 1 v wait.length (wait.map bV)
theorem Str.kp {F : Nat → Prop} {t : TypeId} {w w' : World} {base g : Nat} {v : Value} {wait : List UInt8} {shut : Bool} (h : Str t w base g v wait shut) (k : Kp F w w') (hg : ¬ F g) (hv : Off F v) : Str t w' base g v wait shut :=
  ⟨h.blk.kp k hg, owns_kp h.own k hv⟩
theorem Str.ext {t : TypeId} {w w' : World} {base g : Nat} {v : Value} {wait : List UInt8} {shut : Bool} (h : Str t w base g v wait shut) (k : Below w.heap.size w w') : Str t w' base g v wait shut :=
  ⟨h.blk.below k h.blk.lt, owns_below h.own k⟩
theorem Str.slice {t : TypeId} {w : World} {base g : Nat} {v : Value} {wait : List UInt8} {shut : Bool} (h : Str t w base g v wait shut) : ∃ a c, v = .slice a wait.length c := by
  obtain ⟨a, cap, e, -⟩ := Row.of_owns h.own
  exact ⟨a, cap, by simpa using e⟩

theorem new_any (w : World) : Calls Try.prog 14 #[] w fun e w' => e = .returned (ptrS w.heap.size) ∧ w.alloc (.cells #[.slice none 0 0, .bool false] 58) = w' := by
  go_enter Try.func14, Try.ntmps14
  go_wp2
  go_ret
  exact ⟨rfl, rfl⟩
theorem Str.new (w : World) (t : TypeId) (base : Nat) : Str t (w.alloc (.cells #[.slice none 0 0, .bool false] t)) base w.heap.size (.slice none 0 0) [] false :=
  ⟨Blk.new w t [.slice none 0 0, .bool false], World.ownsRow_nil _ _ _ _⟩

theorem closed_any (g : Nat) (v : Value) (b : Bool) (w : World) (h : Blk w g 58 [v, .bool b]) :
    Calls Try.prog 16 #[ptrS g] w fun e w' => e = .returned (.bool b) ∧ w = w' := by
  have c1 : w.cell? ⟨g, 1, none⟩ = some (.bool b) := h.cell 1
  clear h
  go_enter Try.func16, Try.ntmps16
  go_wp2
  go_ret
  exact ⟨rfl, rfl⟩
theorem len_any (g : Nat) (a : Option Addr) (n c : Nat) (b : Value) (w : World) (h : Blk w g 58 [.slice a n c, b]) :
    Calls Try.prog 17 #[ptrS g] w fun e w' => e = .returned (.int .i64 n) ∧ w = w' := by
  have c1 : w.cell? ⟨g, 0, none⟩ = some (.slice a n c) := h.cell 0
  clear h
  go_enter Try.func17, Try.ntmps17
  go_wp2
  go_ret
  exact ⟨rfl, rfl⟩
theorem open_any (g : Nat) (v : Value) (b : Bool) (w : World) (h : Blk w g 58 [v, .bool b]) :
    Calls Try.prog 18 #[ptrS g] w fun e w' => e = .returned (.tuple #[]) ∧ w.setCell ⟨g, 1, none⟩ (.bool false) = w' := by
  have c1 : w.cell? ⟨g, 1, none⟩ = some (.bool b) := h.cell 1
  have f1 := h.frozen 1
  clear h
  go_enter Try.func18, Try.ntmps18
  go_wp2
  go_end0
  exact ⟨rfl, rfl⟩

set_option maxHeartbeats 1000000 in
theorem sound_any (v : Value) (bs : List UInt8) (w : World) (hv : Row w v (bs.map bV)) :
    Calls Try.prog 27 #[v] w fun e w' => e = .returned (.bool (soundB bs)) ∧ ∃ nq, w' = w.drewN nq := by
  have C2 := hidden (get_any v bs 2 w (by decide) hv)
  have C4 := hidden (fun nq => get_any v bs 4 (w.drewN nq) (by decide) (hv.drewN nq))
  have e : soundB bs = ((getN bs 2 == 0) && decide (2 ≤ getN bs 4) && decide (getN bs 4 ≤ 254)) := by unfold soundB; congr 1
  rw [e]
  clear e hv
  generalize getN bs 2 = z at *
  generalize getN bs 4 = n at *
  generalize getOk bs 2 = k2 at *
  generalize getOk bs 4 = k4 at *
  cases h0 : (z == 0)
  · have t0 := h0
    go_enter Try.func27, Try.ntmps27
    go_wp2_with fail
    refine C2.out.mono ?_
    rintro e w1 ⟨rfl, n1, rfl⟩
    go_wp2_with fail
    refine (C4.out n1).mono ?_
    rintro e w2 ⟨rfl, n2, rfl⟩
    go_wp2
    go_ret
    exact ⟨by simp, n1 + n2, by simp [World.drewN]⟩
  · by_cases h1 : 2 ≤ n
    · by_cases h2 : n ≤ 254
      all_goals
        have t0 := h0
        go_enter Try.func27, Try.ntmps27
        go_wp2_with fail
        refine C2.out.mono ?_
        rintro e w1 ⟨rfl, n1, rfl⟩
        go_wp2_with fail
        refine (C4.out n1).mono ?_
        rintro e w2 ⟨rfl, n2, rfl⟩
        go_wp2
        go_ret
        exact ⟨by first | (simp [h1, h2]; done) | (simp; omega), n1 + n2, by simp [World.drewN]⟩
    · have t0 := h0
      go_enter Try.func27, Try.ntmps27
      go_wp2_with fail
      refine C2.out.mono ?_
      rintro e w1 ⟨rfl, n1, rfl⟩
      go_wp2_with fail
      refine (C4.out n1).mono ?_
      rintro e w2 ⟨rfl, n2, rfl⟩
      go_wp2
      go_ret
      exact ⟨by simp; omega, n1 + n2, by simp [World.drewN]⟩

set_option maxHeartbeats 1000000 in
theorem whole_any (v : Value) (bs : List UInt8) (w : World) (hv : Row w v (bs.map bV)) :
    Calls Try.prog 28 #[v] w fun e w' => e = .returned (.bool (wholeB bs)) ∧ ∃ nq, w' = w.drewN nq := by
  have C4 := hidden (get_any v bs 4 w (by decide) hv)
  have e : wholeB bs = (getOk bs 4 && ((bs.length : Int) == 6 + getN bs 4)) := by unfold wholeB; congr 1
  rw [e]
  obtain ⟨a, cap, rfl, h1, h2, -⟩ := hv
  unfold maxLen at h2
  simp only [List.length_map] at h1 C4 ⊢
  clear e
  have b1 := getN_nn bs 4
  have b2 := getN_le bs 4
  generalize getN bs 4 = n at *
  generalize bs.length = lb at *
  cases hk : getOk bs 4
  · rw [hk] at C4
    go_enter Try.func28, Try.ntmps28
    go_wp2_with fail
    refine C4.out.mono ?_
    rintro e w1 ⟨rfl, n1, rfl⟩
    go_wp2
    go_ret
    exact ⟨by simp, n1, rfl⟩
  · rw [hk] at C4
    go_enter Try.func28, Try.ntmps28
    go_wp2_with fail
    refine C4.out.mono ?_
    rintro e w1 ⟨rfl, n1, rfl⟩
    go_wp2
    go_ret
    exact ⟨by simp, n1, rfl⟩

end Go.Proofs.Ytejcigeccmfeeaa
