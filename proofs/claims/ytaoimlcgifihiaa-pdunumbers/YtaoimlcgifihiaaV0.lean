/- What the laws of chapter 3 begin with: a tape made of a slice of numbers. -/
import Derived.Test.YtaoimlcgifihiaaT1
import Derived.Test.YtaoimlcgifihiaaT3
namespace Go.Proofs.Ytaoimlcgifihiaa
open Go.RowKit

theorem open_i64s {H : Type} {enc : TypeId × Value → H} {P : Program} {w : World} {base : Nat} {held : Bool} {t e : TypeId} {a : Option Addr} {len cap : Nat} {d : DataW H} {p : List MemPlace} (ht : P.underlying t = some (.slice e)) (he : P.underlying e = some (.int .i64)) (hc : P.cellsOf e = 1)
    (h : DataW.Trod enc P w base (fun _ => true) held t (.slice a len cap) d p) : ∃ xs : List Int, Row w (.slice a len cap) (xs.map iV) ∧ lenIs d xs.length ∧ ∀ n ∈ xs, -9223372036854775808 ≤ n ∧ n ≤ 9223372036854775807 := by
  obtain ⟨zs, hr, hd, hw⟩ := open_row ht he hc h
  exact ⟨zs, hr, hd, fun n hn => bounds_i64 (hw n hn)⟩

/-- the contract of Request, as a hypothesis (it is proved in T2) -/
def ReqOk : Prop := ∀ (B g : Nat) (l : List Int) (w : World), Tap B w g l → B ≤ w.heap.size →
    Calls Try.prog 8 #[.pointer (some ⟨g, 0, none⟩)] w fun e w' => ∃ v', e = .returned v' ∧ ∃ q, IsRq w' v' q ∧ rightE q = 0 ∧ q.bits.length ≤ 30 ∧ (q.vals.length ≤ 30 ∧ q.cnt ≤ 30) ∧ NewQ B v' ∧ Dev B g w w'

theorem tap_new (w : World) (a : Option Addr) (n cap : Nat) (l : List Int) (h : Row w (.slice a n cap) (l.map iV)) (hi : ∀ x ∈ l, -9223372036854775808 ≤ x ∧ x ≤ 9223372036854775807) :
    Tap (w.heap.size + 1) (w.alloc (.cells #[.slice a n cap, .int .i64 0] 31)) w.heap.size l := by
  have hb : Below w.heap.size w (w.alloc (.cells #[.slice a n cap, .int .i64 0] 31)) := (Below.refl _ _).alloc (Nat.le_refl _) _
  refine ⟨⟨.slice a n cap, 0, Nat.zero_le _, Blk.new w 31 [.slice a n cap, .int .i64 0], h.below hb, ?_⟩, fun i hl => ?_, by omega⟩
  · by_cases h0 : l = []
    · left; rw [h0]; rfl
    · right
      intro a' n' c' e
      simp only [Value.slice.injEq] at e
      obtain ⟨rfl, -, -⟩ := e
      obtain ⟨a2, cap2, e, -, -, -, h4⟩ := h
      simp only [Value.slice.injEq] at e
      obtain ⟨rfl, -, -⟩ := e
      rcases h4 with h4 | ⟨b, off, e, hc⟩
      · exact absurd (by simpa using h4) h0
      · cases e
        have hp : 0 < (l.map iV).length := by rw [List.length_map]; exact List.length_pos_iff.2 h0
        have := hc 0 hp
        rw [List.getElem?_eq_getElem hp] at this
        have := lt_of_cell this
        exact ⟨by simp only; omega, by simp only; omega⟩
  · have : l.getD i 0 ∈ l := by
      rw [List.getD_eq_getElem?_getD, List.getElem?_eq_getElem hl]; exact List.getElem_mem hl
    exact hi _ this

end Go.Proofs.Ytaoimlcgifihiaa
