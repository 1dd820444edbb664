/- Contracts of the statements' own helpers: known, same. -/
import Derived.Test.YtgoiokbeohbdnaaR3
import Derived.Laws.BytesArg
namespace Go.Proofs.Ytgoiokbeohbdnaa
open Go.RowKit

theorem map_ofNat_bytes (bs : List UInt8) : (bs.map fun x => ((x.toNat : Nat) : Int)).map (fun n => UInt8.ofNat n.toNat) = bs := by
  rw [List.map_map]
  conv => rhs; rw [← List.map_id bs]
  apply List.map_congr_left
  intro x _
  simp

/-- string(v) of a row of bytes -/
theorem conv_row {P : Program} {w : World} {v : Value} {bs : List UInt8} (h : Row w v (bs.map bV)) (src dst e : TypeId) (hs : P.underlying src = some (.slice e)) (he : P.underlying e = some (.int .u8)) (hd : P.underlying dst = some .string) :
    (convert src dst v).run P w = .ok (.string ⟨bs.toArray⟩) w := by
  obtain ⟨a, cap, rfl, -⟩ := id h
  obtain ⟨hl, -, -, hcell⟩ := h.at
  simp only [List.length_map] at hl ⊢ hcell
  cases a with
  | none =>
    have : bs = [] := by
      cases bs with
      | nil => rfl
      | cons x r =>
        obtain ⟨b, off, he, -⟩ := hcell 0 0 (by simp)
        cases he
    subst this
    exact run_convert_bytes_nil w src e hs he _ _ dst hd
  | some ad =>
    by_cases h0 : bs = []
    · subst h0
      have hc : (convert src dst (.slice (some ad) 0 cap)).run P w = (Conv.bytesToString (.slice (some ad) 0 cap)).run P w := run_convert_bytes_string w src dst e _ _ _ hs he hd
      simp only [List.length_nil]
      rw [hc, run_bytesToString w ad 0 cap [] (by simp [loadCells, loadCellsFrom])]
      rfl
    · have hp : 0 < bs.length := List.length_pos_iff.2 h0
      obtain ⟨b, off, he2, hcl⟩ := hcell 0 0 hp
      cases he2
      have := run_convert_bytes_arg (P := P) w src e hs he b off bs.length cap (bs.map fun x => ((x.toNat : Nat) : Int)) (by simp) (fun i hi => by
        rw [hcl i hi]
        simp [List.getD_eq_getElem?_getD, hi]) dst hd
      rw [this]
      unfold strOfNums
      rw [map_ofNat_bytes]

theorem below_step {w0 w w1 : World} {o : Obj} (hb : Below w0.heap.size w0 w) (h : Below (w.alloc o).heap.size (w.alloc o) w1) : Below w0.heap.size w0 w1 :=
  (hb.alloc hb.size o).trans (h.mono (by simp; have := hb.size; omega))
theorem below_then {w0 w w1 : World} (hb : Below w0.heap.size w0 w) (h : Below w.heap.size w w1) : Below w0.heap.size w0 w1 :=
  hb.trans (h.mono hb.size)

theorem get_b (v : Value) (bs : List UInt8) (n : Int) (w : World) (N : Int) (ok : Bool) (hn : -9223372036854775808 ≤ n ∧ n ≤ 9223372036854775807) (hv : Row w v (bs.map bV)) (h1 : getN bs n = N) (h2 : getOk bs n = ok) :
    Calls Try.prog 11 #[v, .int .i64 n] w fun e w' => e = .returned (.tuple #[.int .i64 N, .bool ok]) ∧ Below w.heap.size w w' := by
  subst h1 h2
  refine (get_any v bs n w hn hv).mono ?_
  rintro e w' ⟨rfl, nq, rfl⟩
  exact ⟨rfl, below_drewn0 _ _ _⟩

theorem open_b (v : Value) (bs : List UInt8) (n : Int) (w : World) (p : List Bool) (ok : Bool) (hn : -9223372036854775808 ≤ n ∧ n ≤ 9223372036854775807) (hv : Row w v (bs.map bV)) (hr : 8 * bs.length ≤ 140737488355328) (h1 : openR bs n = p) (h2 : openOk bs n = ok) :
    Calls Try.prog 13 #[v, .int .i64 n] w fun e w' => ∃ v', e = .returned (.tuple #[v', .bool ok]) ∧ Row w' v' (p.map Value.bool) ∧ Below w.heap.size w w' := by
  subst h1 h2; exact open_any v bs n w hn hv hr

theorem words_b (v : Value) (bs : List UInt8) (w : World) (p : List UInt16) (ok : Bool) (hv : Row w v (bs.map bV)) (hr : bs.length ≤ 140737488351232) (h1 : wordsR bs = p) (h2 : (bs.length % 2 == 0) = ok) :
    Calls Try.prog 15 #[v] w fun e w' => ∃ v', e = .returned (.tuple #[v', .bool ok]) ∧ Row w' v' (p.map wV) ∧ Below w.heap.size w w' := by
  subst h1 h2; exact words_any v bs w hv hr

/-- a row of one word, its cell -/
theorem row_one {w : World} {v : Value} {x : Value} (h : Row w v [x]) : ∃ b off cap, v = .slice (some ⟨b, off, none⟩) 1 cap ∧ w.cell? ⟨b, off, none⟩ = some x := by
  obtain ⟨a, cap, rfl, -, -, -, h3⟩ := h
  rcases h3 with h3 | ⟨b, off, rfl, hc⟩
  · cases h3
  · exact ⟨b, off, cap, rfl, by simpa using hc 0 (by simp)⟩

end Go.Proofs.Ytgoiokbeohbdnaa
