/- Small facts over this program, of no function of it: making slices, strings of bytes, what stays below. -/
import Derived.Test.YtffjhimdamdenaaRows
import Derived.Test.YtffjhimdamdenaaK1
import Derived.Test.YtffjhimdamdenaaK2
import Derived.Test.YtffjhimdamdenaaM1
import Derived.Deep.QuietTactic
import Derived.Deep.RegionLaw
import Derived.BigQuiet
import Derived.Laws.BytesArg
import Derived.Lib.SlBytesConst
namespace Go.Proofs.Ytffjhimdamdenaa
open Go.RowKit

theorem ret_int {k : IntKind} {a b : Int} (h : a = b) : Ending.returned (.int k a) = .returned (.int k b) := by rw [h]
theorem ret_bool {a b : Bool} (h : a = b) : Ending.returned (.bool a) = .returned (.bool b) := by rw [h]
theorem cast_div (a b : Nat) : ((a / b : Nat) : Int) = (a : Int) / (b : Int) := by simp
/-- the cells of a row of bytes -/
theorem Row.at {w : World} {a : Option Addr} {n cap : Nat} {α : Type} {f : α → Value} {xs : List α} (h : Row w (.slice a n cap) (xs.map f)) :
    n = xs.length ∧ n ≤ cap ∧ cap ≤ maxLen ∧ ∀ i (d : α), i < n → ∃ b off, a = some ⟨b, off, none⟩ ∧ ∀ j, j < n → w.cell? ⟨b, off + j, none⟩ = some (f (xs.getD j d)) := by
  obtain ⟨a', cap', e, h1, h2, -, h3⟩ := h
  simp only [Value.slice.injEq, List.length_map] at e
  obtain ⟨rfl, rfl, rfl⟩ := e
  refine ⟨rfl, by simpa using h1, h2, fun i d hi => ?_⟩
  rcases h3 with h3 | ⟨b, off, rfl, hc⟩
  · have : xs = [] := by simpa using h3
    subst this
    simp at hi
  · refine ⟨b, off, rfl, fun j hj => ?_⟩
    have := hc j (by simpa using hj)
    simpa [List.getD_eq_getElem?_getD, hj] using this
theorem ret_int_bool {k : IntKind} {a b : Int} {c : Bool} (h : a = b) : Ending.returned (.tuple #[.int k a, .bool c]) = .returned (.tuple #[.int k b, .bool c]) := by rw [h]
theorem info_u8 : (Try.prog.info? 5).map (fun i => (i.zero, i.size, i.bytes)) = some (some (.int .u8 0), 1, 1) := by kernel_rfl
theorem info_bool : (Try.prog.info? 4).map (fun i => (i.zero, i.size, i.bytes)) = some (some (.bool false), 1, 1) := by kernel_rfl
/-- make([]T, n), the new block written out -/
theorem mk_run (t e : TypeId) (z : Value) (by_ : Nat) (hu : Try.prog.underlying t = some (.slice e)) (hi : (Try.prog.info? e).map (fun i => (i.zero, i.size, i.bytes)) = some (some z, 1, by_)) (hz : z.cells = #[z])
    (n : Int) (k : Nat) (hn : n = (k : Int)) (h1 : by_ * k ≤ 281474976710656) (h2 : k ≤ 9223372036854775807) (u : World) :
    (Instr.makeSlice t (.int .i64 n) (.int .i64 n)).run Try.prog u = .ok (.slice (some ⟨u.heap.size, 0, none⟩) k k) (u.alloc (.cells (List.replicate k z).toArray e)) := by
  obtain ⟨i0, hi, hz0, hz1, hz2⟩ := info_parts hi
  subst hn
  have h := run_make (P := Try.prog) u t e i0 z hu hi hz0 .i64 .i64 (k : Int) (k : Int) (by omega) (Int.le_refl _) (by rw [hz2]; omega) (by omega)
  rw [hz1, hz, Nat.mul_one, Int.toNat_natCast] at h
  have e2 : madeCells #[z] k = (List.replicate k z).toArray := by
    rw [← toList_madeCells_one]
  rw [e2] at h
  exact h
/-- the zero cells of a new block, under a name -/
def zer (k : Nat) (z : Value) : Array Value := (List.replicate k z).toArray
theorem zer_blk (w : World) (k : Nat) (z : Value) (e : TypeId) : Blk (w.alloc (.cells (zer k z) e)) w.heap.size e (List.replicate k z) := heap_alloc_new w _
theorem mk_zer (t e : TypeId) (z : Value) (by_ : Nat) (hu : Try.prog.underlying t = some (.slice e)) (hi : (Try.prog.info? e).map (fun i => (i.zero, i.size, i.bytes)) = some (some z, 1, by_)) (hz : z.cells = #[z])
    (n : Int) (k : Nat) (hn : n = (k : Int)) (h1 : by_ * k ≤ 281474976710656) (h2 : k ≤ 9223372036854775807) (u : World) :
    (Instr.makeSlice t (.int .i64 n) (.int .i64 n)).run Try.prog u = .ok (.slice (some ⟨u.heap.size, 0, none⟩) k k) (u.alloc (.cells (zer k z) e)) := mk_run t e z by_ hu hi hz n k hn h1 h2 u
theorem map_get {α : Type} (f : α → Value) (xs : List α) (i : Nat) : (xs.map f)[i]? = xs[i]?.map f := by simp
theorem one_bytes (bs : List UInt8) : ∀ v ∈ bs.map bV, v.oneCell' = true := by
  intro u hu; simp at hu; obtain ⟨x, _, rfl⟩ := hu; rfl
theorem row_app {w w' : World} {v : Value} {xs : List Value} {row : Option Nat} (h : Row w v xs) (hg : w.grownBy w' row) (hr : ∀ k, row = some k → w.heap.size ≤ k) : Row w' v xs :=
  h.below ((Below.refl _ _).grown hg (Nat.le_refl _) hr)
theorem below_grown {w w' : World} (hg : w.grownBy w' none) : Below w.heap.size w w' := (Below.refl _ _).grown hg (Nat.le_refl _) (fun _ h => by cases h)
theorem map_ofNat_bytes (bs : List UInt8) : (bs.map fun x => ((x.toNat : Nat) : Int)).map (fun n => UInt8.ofNat n.toNat) = bs := by
  rw [List.map_map]
  conv => rhs; rw [← List.map_id bs]
  apply List.map_congr_left
  intro x _
  simp
/-- string(v) of a row of bytes -/
theorem conv_row {P : Program} {w : World} {v : Value} {bs : List UInt8} (h : Row w v (bs.map bV)) (src dst e : TypeId) (hs : P.underlying src = some (.slice e)) (he : P.underlying e = some (.int .u8)) (hd : P.underlying dst = some .string) :
    (convert src dst v).run P w = .ok (.string ⟨bs.toArray⟩) w := by
  obtain ⟨a, cap, rfl, -⟩ := id h
  obtain ⟨hl, -, -, hcell⟩ := h.at
  simp only [List.length_map] at hl ⊢ hcell
  cases a with
  | none =>
    have : bs = [] := by
      cases bs with
      | nil => rfl
      | cons x r =>
        obtain ⟨b, off, he, -⟩ := hcell 0 0 (by simp)
        cases he
    subst this
    exact run_convert_bytes_nil w src e hs he _ _ dst hd
  | some ad =>
    by_cases h0 : bs = []
    · subst h0
      have hc : (convert src dst (.slice (some ad) 0 cap)).run P w = (Conv.bytesToString (.slice (some ad) 0 cap)).run P w := run_convert_bytes_string w src dst e _ _ _ hs he hd
      simp only [List.length_nil]
      rw [hc, run_bytesToString w ad 0 cap [] (by simp [loadCells, loadCellsFrom])]
      rfl
    · have hp : 0 < bs.length := List.length_pos_iff.2 h0
      obtain ⟨b, off, he2, hcl⟩ := hcell 0 0 hp
      cases he2
      have := run_convert_bytes_arg (P := P) w src e hs he b off bs.length cap (bs.map fun x => ((x.toNat : Nat) : Int)) (by simp) (fun i hi => by
        rw [hcl i hi]
        simp [List.getD_eq_getElem?_getD, hi]) dst hd
      rw [this]
      unfold strOfNums
      rw [map_ofNat_bytes]
theorem below_step {w0 w w1 : World} {o : Obj} (hb : Below w0.heap.size w0 w) (h : Below (w.alloc o).heap.size (w.alloc o) w1) : Below w0.heap.size w0 w1 :=
  (hb.alloc hb.size o).trans (h.mono (by simp; have := hb.size; omega))
theorem below_then {w0 w w1 : World} (hb : Below w0.heap.size w0 w) (h : Below w.heap.size w w1) : Below w0.heap.size w0 w1 :=
  hb.trans (h.mono hb.size)
/-- a row of one word, its cell -/
theorem row_one {w : World} {v : Value} {x : Value} (h : Row w v [x]) : ∃ b off cap, v = .slice (some ⟨b, off, none⟩) 1 cap ∧ w.cell? ⟨b, off, none⟩ = some x := by
  obtain ⟨a, cap, rfl, -, -, -, h3⟩ := h
  rcases h3 with h3 | ⟨b, off, rfl, hc⟩
  · cases h3
  · exact ⟨b, off, cap, rfl, by simpa using hc 0 (by simp)⟩
theorem owns_some {w : World} {base : Nat} {e : TypeId} {v : Value} {n : Nat} {xs : List Value} (h : w.ownsRow base e 1 v n xs) (hn : 0 < n) : ∃ g cap, v = .slice (some ⟨g, 0, none⟩) n cap ∧ base ≤ g := by
  rcases h.2 with ⟨rfl, rfl⟩ | ⟨g, cap, cur, rfl, hb, -⟩
  · omega
  · exact ⟨g, cap, rfl, hb⟩
theorem xor_u8 (x y : UInt8) : bits BinOp.xor IntKind.u8 (x.toNat : Int) (y.toNat : Int) = ((x.toNat ^^^ y.toNat : Nat) : Int) := u8_xor_nat _ _ x.toNat_lt y.toNat_lt
theorem wrap_bV (n : Int) : ∃ x : UInt8, Value.int .u8 (n % 256) = bV x := by
  refine ⟨UInt8.ofNat (n % 256).toNat, ?_⟩
  have : (((UInt8.ofNat (n % 256).toNat).toNat : Nat) : Int) = n % 256 := by rw [UInt8.toNat_ofNat']; omega
  rw [bV, this]
theorem wrap_wV (n : Int) : ∃ x : UInt16, Value.int .u16 (n % 65536) = wV x := by
  refine ⟨UInt16.ofNat (n % 65536).toNat, ?_⟩
  have : (((UInt16.ofNat (n % 65536).toNat).toNat : Nat) : Int) = n % 65536 := by rw [UInt16.toNat_ofNat']; omega
  rw [wV, this]
theorem owns_below {w w' : World} {base : Nat} {e : TypeId} {v : Value} {n : Nat} {xs : List Value} (h : w.ownsRow base e 1 v n xs) (hb : Below w.heap.size w w') : w'.ownsRow base e 1 v n xs :=
  h.kept (w' := w') (row := none) ⟨hb.os, hb.tape, hb.output, hb.size, fun k hk _ => hb.block k hk⟩ (by cases v.ownBlock <;> simp)
theorem owns_apart {w : World} {base e1 e2 : Nat} {v1 v2 : Value} {n1 n2 : Nat} {xs ys : List Value} (h1 : w.ownsRow base e1 1 v1 n1 xs) (h2 : w.ownsRow base e2 1 v2 n2 ys) (he : e1 ≠ e2) : v1.ownBlock = none ∨ v1.ownBlock ≠ v2.ownBlock := by
  rcases h1.2 with ⟨rfl, -⟩ | ⟨g, cap, cur, rfl, -, hg, -⟩
  · exact .inl rfl
  · right
    rcases h2.2 with ⟨rfl, -⟩ | ⟨g', cap', cur', rfl, -, hg', -⟩
    · simp [Value.ownBlock]
    · simp only [Value.ownBlock, ne_eq, Option.some.injEq]
      intro h
      rw [h, hg'] at hg
      simp at hg
      exact he hg.2.symm

theorem pow8 (t : Nat) (h : t < 8) : ((2 : Int) ^ t % 256) = ((2 ^ t : Nat) : Int) ∧ 2 ^ t < 256 := by
  match t, h with
  | 0, _ => decide
  | 1, _ => decide
  | 2, _ => decide
  | 3, _ => decide
  | 4, _ => decide
  | 5, _ => decide
  | 6, _ => decide
  | 7, _ => decide

end Go.Proofs.Ytffjhimdamdenaa
