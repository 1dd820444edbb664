/- Small facts on slices in memory, over any program: what a slice holds, and that it goes on holding it. -/
import Derived.WalkKit
import Derived.WalkSpells
import Derived.WalkLawsBesides
import Derived.Laws.CopyOwn
import Derived.Laws.AppendOwnNone
import Derived.ProofKit
import Derived.OpenShut
import Derived.ShutString
import Derived.ChangeOld
import Derived.Deep.Grids
import Derived.SizedLaws
import Derived.JoinedCond
import Derived.OrdersHeld
import Derived.Laws.BitsAllLaws
import Derived.Laws.BitsLemmas
import Derived.Test.YtejcigeccmfeeaaRows
import Derived.Deep.QuietTactic
import Derived.Deep.RegionLaw
import Derived.BigQuiet
import Derived.Laws.BytesArg
import Derived.Lib.SlBytesConst
import Derived.Lib.AppendZeros
import Derived.Maps.AppendAt
namespace Go.Proofs.Ytejcigeccmfeeaa
open Go.RowKit

/-- a fact kept from the walk -/
theorem hidden {p : Prop} (h : p) : Hid p := h

/-- v is a slice with the elements xs, one cell each. -/
def Row (w : World) (v : Value) (xs : List Value) : Prop :=
  ∃ a cap, v = .slice a xs.length cap ∧ xs.length ≤ cap ∧ cap ≤ maxLen ∧ (a = none → cap = 0) ∧
    (xs = [] ∨ ∃ b off, a = some ⟨b, off, none⟩ ∧ ∀ i, i < xs.length → w.cell? ⟨b, off + i, none⟩ = xs[i]?)

theorem lt_of_cell {w : World} {b o : Nat} {u : Value} (h : w.cell? ⟨b, o, none⟩ = some u) : b < w.heap.size := by
  unfold World.cell? at h
  cases hb : w.heap[b]? with
  | none => simp [hb] at h
  | some x => exact (Array.getElem?_eq_some_iff.1 hb).1

theorem Row.below {w w' : World} {v : Value} {xs : List Value} (h : Row w v xs) (hb : Below w.heap.size w w') : Row w' v xs := by
  obtain ⟨a, cap, rfl, h1, h2, h0, h3⟩ := h
  refine ⟨a, cap, rfl, h1, h2, h0, ?_⟩
  rcases h3 with h3 | ⟨b, off, rfl, hc⟩
  · exact .inl h3
  · refine .inr ⟨b, off, rfl, fun i hi => ?_⟩
    have := hc i hi
    have hlt : b < w.heap.size := by
      rw [List.getElem?_eq_getElem hi] at this
      exact lt_of_cell this
    rw [hb.cell (p := ⟨b, off + i, none⟩) hlt]
    exact this

theorem Row.nil (w : World) : Row w (.slice none 0 0) [] := ⟨none, 0, rfl, Nat.le_refl _, Nat.zero_le _, fun _ => rfl, .inl rfl⟩

theorem Row.of_owns {w : World} {base : Nat} {e : TypeId} {v : Value} {n : Nat} {xs : List Value} (h : w.ownsRow base e 1 v n xs) : Row w v xs := by
  have hn : xs.length = n := by have := h.1; omega
  rcases h.2 with ⟨rfl, rfl⟩ | ⟨g, cap, cur, rfl, hb, hg, hle, hm, hs, ht⟩
  · have : xs = [] := List.eq_nil_of_length_eq_zero hn
    subst this
    exact Row.nil w
  · refine ⟨some ⟨g, 0, none⟩, cap, by rw [hn], by omega, hm, (fun h => by cases h), .inr ⟨g, 0, rfl, fun i hi => ?_⟩⟩
    have := h.cellAt i (by omega)
    simpa using this

theorem bcell {W w1 : World} (hb : Below W.heap.size W w1) : (∀ b o, b < W.heap.size → w1.cell? ⟨b, o, none⟩ = W.cell? ⟨b, o, none⟩) ∧ (∀ b o, b < W.heap.size → w1.frozen? ⟨b, o, none⟩ = W.frozen? ⟨b, o, none⟩) :=
  ⟨fun b o h => hb.cell (p := ⟨b, o, none⟩) h, fun b o h => hb.frozen (p := ⟨b, o, none⟩) h⟩

/-- block g holds the cells xs, whole, none of them frozen. -/
def Blk (w : World) (g : Nat) (e : TypeId) (xs : List Value) : Prop := w.heap[g]? = some (.cells xs.toArray e (0, 0))

theorem Blk.cell {w : World} {g : Nat} {e : TypeId} {xs : List Value} (h : Blk w g e xs) (i : Nat) : w.cell? ⟨g, i, none⟩ = xs[i]? := by
  unfold Blk at h; simp [World.cell?, h]
theorem Blk.frozen {w : World} {g : Nat} {e : TypeId} {xs : List Value} (h : Blk w g e xs) (i : Nat) : w.frozen? ⟨g, i, none⟩ = false := by
  unfold Blk at h; simp [World.frozen?, h]
theorem Blk.lt {w : World} {g : Nat} {e : TypeId} {xs : List Value} (h : Blk w g e xs) : g < w.heap.size := (Array.getElem?_eq_some_iff.1 h).1
theorem Blk.set {w : World} {g : Nat} {e : TypeId} {xs : List Value} (h : Blk w g e xs) (i : Nat) (v : Value) : Blk (w.setCell ⟨g, i, none⟩ v) g e (xs.set i v) := by
  unfold Blk at h ⊢
  simp only [World.setCell, Array.getElem?_modify, h, if_true]
  simp
theorem Blk.below {w w' : World} {B g : Nat} {e : TypeId} {xs : List Value} (h : Blk w g e xs) (hb : Below B w w') (hg : g < B) : Blk w' g e xs := (hb.block g hg).trans h
theorem Blk.new (w : World) (e : TypeId) (xs : List Value) : Blk (w.alloc (.cells xs.toArray e)) w.heap.size e xs := heap_alloc_new w _
theorem Blk.alloc {w : World} {g : Nat} {e : TypeId} {xs : List Value} (h : Blk w g e xs) (o : Obj) : Blk (w.alloc o) g e xs := (Below.heap_alloc w o g h.lt).trans h
theorem Blk.drewN {w : World} {g : Nat} {e : TypeId} {xs : List Value} (h : Blk w g e xs) (n : Nat) : Blk (w.drewN n) g e xs := h
theorem Blk.drew {w : World} {g : Nat} {e : TypeId} {xs : List Value} (h : Blk w g e xs) : Blk w.drew g e xs := h
theorem Blk.row {w : World} {g : Nat} {e : TypeId} {xs : List Value} (h : Blk w g e xs) (cap : Nat) (h1 : xs.length ≤ cap) (h2 : cap ≤ maxLen) : Row w (.slice (some ⟨g, 0, none⟩) xs.length cap) xs :=
  ⟨_, cap, rfl, h1, h2, fun h => (by cases h), .inr ⟨g, 0, rfl, fun i _ => by rw [Nat.zero_add]; exact h.cell i⟩⟩
theorem below_drewn {B : Nat} {a w : World} (h : Below B a w) (n : Nat) : Below B a (w.drewN n) := ⟨h.os, h.tape, h.output, h.size, h.block⟩
theorem below_drewn0 (B : Nat) (w : World) (n : Nat) : Below B w (w.drewN n) := below_drewn (Below.refl B w) n
theorem Row.drew {w : World} {v : Value} {xs : List Value} (h : Row w v xs) : Row w.drew v xs := h.below (Below.refl _ _).drew
theorem Row.drewN {w : World} {v : Value} {xs : List Value} (h : Row w v xs) (n : Nat) : Row (w.drewN n) v xs := h.below (below_drewn0 _ _ _)

theorem Blk.some {w : World} {g : Nat} {e : TypeId} {xs : List Value} (h : Blk w g e xs) (i : Nat) (hi : i < xs.length) : ∃ u, w.cell? ⟨g, i, none⟩ = some u :=
  ⟨xs[i], by rw [h.cell i, List.getElem?_eq_getElem hi]⟩

/-- copy(dst, src), dst in a block that is known whole, src a row of any elements of one cell: as a run. -/
theorem copy_run {P : Program} {w0 w : World} {B : Nat} (hb : Below B w0 w) (dT sT ty elem : TypeId) (hu : P.underlying dT = some (.slice elem)) (hsz : (P.info? elem).map (·.size) = some 1)
    (g off dLen dCap : Nat) (a : Option Addr) (sLen sCap : Nat) (cur : List Value) (t : TypeId) (hg : Blk w g t cur) (hBg : B ≤ g) (src : List Value) (hs : Row w (.slice a sLen sCap) src) (h1 : ∀ v ∈ src, v.oneCell' = true)
    (hfit : off + dLen ≤ cur.length) :
    ∃ w', (Builtin.copy_ #[dT, sT] ty #[.slice (some ⟨g, off, none⟩) dLen dCap, .slice a sLen sCap]).run P w = .ok (goInt ((min src.length dLen : Nat) : Int)) w' ∧ Blk w' g t (splice cur off (src.take dLen)) ∧ Below B w0 w' := by
  obtain ⟨a', cap', e, h2, h3, -, h4⟩ := hs
  simp only [Value.slice.injEq] at e
  obtain ⟨rfl, rfl, rfl⟩ := e
  have hlen : (src.take dLen).length = min src.length dLen := by rw [List.length_take, Nat.min_comm]
  by_cases h0 : min src.length dLen = 0
  · refine ⟨w, ?_, ?_, hb⟩
    · rw [h0]
      exact run_copy_none (P := P) w dT sT ty elem _ a dLen dCap src.length sCap hu hsz h0
    · have : src.take dLen = [] := List.eq_nil_of_length_eq_zero (by omega)
      rw [this]
      simpa [splice] using hg
  · rcases h4 with h4 | ⟨b, o, rfl, hc⟩
    · subst h4; simp at h0
    · have hrun := run_copy_row (P := P) w dT sT ty elem g off dLen dCap ⟨b, o, none⟩ src.length sCap cur.toArray t (src.take dLen) hu hsz hg hlen (fun j v hj => by
        have hj' : j < (src.take dLen).length := by
          rcases Nat.lt_or_ge j (src.take dLen).length with h | h
          · exact h
          · rw [List.getElem?_eq_none h] at hj; cases hj
        have hadd : (⟨b, o, none⟩ : Addr).add j = ⟨b, o + j, none⟩ := by unfold Addr.add; split <;> simp_all
        rw [hadd, hc j (by omega)]
        rw [List.getElem?_take] at hj
        split at hj
        · exact hj
        · cases hj) (by simp; omega) (fun v hv => h1 v (List.mem_of_mem_take hv))
      rw [hlen] at hrun
      refine ⟨_, hrun, ?_, below_setRow hb hBg _⟩
      show _ = _
      rw [setRow_heap w g _ _ t _ hg]
      simp [splice, hlen]

/-- append(v, sv...), v the call's own, sv whatever: as a run. -/
theorem app_run {P : Program} {w : World} {base : Nat} (t ty e : TypeId) (z : Value) (bytes : Nat) (ht : P.underlying t = some (.slice e)) (hi : (P.info? e).map (fun i => (i.zero, i.size, i.bytes)) = some (some z, 1, bytes)) (hzs : z.cells.size = 1)
    {v : Value} {n : Nat} {xs : List Value} (hown : w.ownsRow base e 1 v n xs) {sv : Value} {news : List Value} (hs : Row w sv news) (h1 : ∀ u ∈ news, u.oneCell' = true)
    (h63 : n + news.length ≤ maxLen) (hbytes : (n + news.length) * bytes ≤ 140737488355328) (hbase : base ≤ w.heap.size) :
    ∃ v' w', (Builtin.append_ #[t, t] ty #[v, sv]).run P w = .ok v' w' ∧ w'.ownsRow base e 1 v' (n + news.length) (xs ++ news) ∧ w.grownBy w' v.ownBlock := by
  obtain ⟨i, hi, hz, hsz, hby⟩ := info_parts hi
  obtain ⟨a, cap, rfl, h2, h3, h5, h4⟩ := hs
  have some_case : ∀ ad, a = some ad → (∀ j u, news[j]? = some u → w.cell? (ad.add j) = some u) → ∃ v' w', (Builtin.append_ #[t, t] ty #[v, .slice a news.length cap]).run P w = .ok v' w' ∧ w'.ownsRow base e 1 v' (n + news.length) (xs ++ news) ∧ w.grownBy w' v.ownBlock := by
    rintro ad rfl hc
    obtain ⟨v', w', hr, r1, r2, -⟩ := run_append_own (P := P) w base t ty e i z 1 bytes ht hi hz hsz hby hzs (by decide) v n xs hown ad news.length cap news (by omega) hc h1 h63 hbytes hbase
    exact ⟨v', w', hr, r1, r2⟩
  rcases h4 with rfl | ⟨b, o, rfl, hc⟩
  · cases a with
    | some ad => exact some_case ad rfl (fun j u hj => by simp at hj)
    | none =>
      refine ⟨v, w, ?_, by simpa using hown, World.grownBy.refl _ _⟩
      obtain rfl := h5 rfl
      exact run_append_owned_none (P := P) (w := w) base t ty e i 1 ht hi v n xs hown
  · refine some_case _ rfl (fun j u hj => ?_)
    have hadd : (⟨b, o, none⟩ : Addr).add j = ⟨b, o + j, none⟩ := by unfold Addr.add; split <;> simp_all
    have hj' : j < news.length := by
      rcases Nat.lt_or_ge j news.length with h | h
      · exact h
      · rw [List.getElem?_eq_none h] at hj; cases hj
    rw [hadd, hc j hj', hj]

theorem wpList_app {P : Program} {w : World} {ops : Array Oper} {rest : List Oper} {o : Oper} {a : Act} {Q : Exit → Act → World → Prop} (hgd : o.guard = none) (s x : Operand) (t : TypeId)
    (ho : o.op = .call { callee := .builtin .append, args := #[s, x], argTypes := #[t, t] })
    (base : Nat) (e : TypeId) (z : Value) (bytes : Nat) (ht : P.underlying t = some (.slice e)) (hi : (P.info? e).map (fun i => (i.zero, i.size, i.bytes)) = some (some z, 1, bytes)) (hzs : z.cells.size = 1)
    {v : Value} {n : Nat} {xs : List Value} (hsv : a.eval s = v) (hown : w.ownsRow base e 1 v n xs) {sv : Value} {news : List Value} (hxv : a.eval x = sv) (hs : Row w sv news) (h1 : ∀ u ∈ news, u.oneCell' = true)
    (h63 : n + news.length ≤ maxLen) (hbytes : (n + news.length) * bytes ≤ 140737488355328) (hbase : base ≤ w.heap.size)
    (h : ∀ v' w', w'.ownsRow base e 1 v' (n + news.length) (xs ++ news) → w.grownBy w' v.ownBlock → wpList P ops Q rest (a.put o.dst v') w') : wpList P ops Q (o :: rest) a w := by
  refine wpList_plain hgd fun K hK => ?_
  obtain ⟨v', w', hrun, r1, r2⟩ := app_run (P := P) t o.type e z bytes ht hi hzs hown hs h1 h63 hbytes hbase
  unfold Oper.wp
  simp [execOp, ho, resolve, invoke, builtin, hsv, hxv, hrun, Result.andThen]
  exact hK _ _ (h v' w' r1 r2)

/-- the same of the operation alone -/
theorem wp_app {P : Program} {w : World} {o : Oper} {a : Act} {K : Act → World → Prop} {Q : Exit → Act → World → Prop} (s x : Operand) (t : TypeId)
    (ho : o.op = .call { callee := .builtin .append, args := #[s, x], argTypes := #[t, t] })
    (base : Nat) (e : TypeId) (z : Value) (bytes : Nat) (ht : P.underlying t = some (.slice e)) (hi : (P.info? e).map (fun i => (i.zero, i.size, i.bytes)) = some (some z, 1, bytes)) (hzs : z.cells.size = 1)
    {v : Value} {n : Nat} {xs : List Value} (hsv : a.eval s = v) (hown : w.ownsRow base e 1 v n xs) {sv : Value} {news : List Value} (hxv : a.eval x = sv) (hs : Row w sv news) (h1 : ∀ u ∈ news, u.oneCell' = true)
    (h63 : n + news.length ≤ maxLen) (hbytes : (n + news.length) * bytes ≤ 140737488355328) (hbase : base ≤ w.heap.size)
    (h : ∀ v' w', w'.ownsRow base e 1 v' (n + news.length) (xs ++ news) → w.grownBy w' v.ownBlock → K (a.put o.dst v') w') : o.wp P a w K Q := by
  obtain ⟨v', w', hrun, r1, r2⟩ := app_run (P := P) t o.type e z bytes ht hi hzs hown hs h1 h63 hbytes hbase
  unfold Oper.wp
  simp [execOp, ho, resolve, invoke, builtin, hsv, hxv, hrun, Result.andThen]
  exact h v' w' r1 r2

/-- the same as one step of a region that draws its order -/
theorem step_app {P : Program} {w : World} {ops : Array Oper} {o : Oper} {a : Act} {K : Act → World → Prop} {Q : Exit → Act → World → Prop} {E : Prop} (hgd : o.guard = none) (s x : Operand) (t : TypeId)
    (ho : o.op = .call { callee := .builtin .append, args := #[s, x], argTypes := #[t, t] })
    (base : Nat) (e : TypeId) (z : Value) (bytes : Nat) (ht : P.underlying t = some (.slice e)) (hi : (P.info? e).map (fun i => (i.zero, i.size, i.bytes)) = some (some z, 1, bytes)) (hzs : z.cells.size = 1)
    {v : Value} {n : Nat} {xs : List Value} (hsv : a.eval s = v) (hown : w.ownsRow base e 1 v n xs) {sv : Value} {news : List Value} (hxv : a.eval x = sv) (hs : Row w sv news) (h1 : ∀ u ∈ news, u.oneCell' = true)
    (h63 : n + news.length ≤ maxLen) (hbytes : (n + news.length) * bytes ≤ 140737488355328) (hbase : base ≤ w.heap.size)
    (h : ∀ v' w', w'.ownsRow base e 1 v' (n + news.length) (xs ++ news) → w.grownBy w' v.ownBlock → K (a.put o.dst v') w') :
    if Region.wanted o (yielded ops a.tmps) = true then Oper.wp P o a w K Q else E := by
  have hw : Region.wanted o (yielded ops a.tmps) = true := by simp [Region.wanted, hgd]
  rw [if_pos hw]
  obtain ⟨v', w', hrun, r1, r2⟩ := app_run (P := P) t o.type e z bytes ht hi hzs hown hs h1 h63 hbytes hbase
  unfold Oper.wp
  simp [execOp, ho, resolve, invoke, builtin, hsv, hxv, hrun, Result.andThen]
  exact h v' w' r1 r2

theorem Row.take {w : World} {a : Option Addr} {n cap : Nat} {xs : List Value} (h : Row w (.slice a n cap) xs) (k : Nat) (hk : k ≤ n) : Row w (.slice a k cap) (xs.take k) := by
  obtain ⟨a', cap', e, h1, h2, h3, h4⟩ := h
  simp only [Value.slice.injEq] at e
  obtain ⟨rfl, rfl, rfl⟩ := e
  have hl : (xs.take k).length = k := by simp; omega
  refine ⟨a, cap, by rw [hl], by omega, h2, h3, ?_⟩
  rcases h4 with rfl | ⟨b, off, rfl, hc⟩
  · exact .inl (by simp)
  · refine .inr ⟨b, off, rfl, fun i hi => ?_⟩
    rw [hc i (by omega), List.getElem?_take, if_pos (by omega)]

/-- a row in a block that has just been laid -/
theorem row_new (w : World) (xs : List Value) (e : TypeId) (n : Nat) (hn : n = xs.length) (h : n ≤ maxLen) : Row (w.alloc (.cells xs.toArray e)) (.slice (some ⟨w.heap.size, 0, none⟩) n n) xs := by
  subst hn; exact (Blk.new w e xs).row _ (Nat.le_refl _) h

end Go.Proofs.Ytejcigeccmfeeaa

namespace Go.Proofs.Ytejcigeccmfeeaa
open Go.RowKit Go.ChangeShapes Go.WideShapes Go.ChangeAt Go.Deep

abbrev bV (x : UInt8) : Value := .int .u8 (x.toNat : Int)
abbrev wV (x : UInt16) : Value := .int .u16 (x.toNat : Int)

/-- what a slice's datum holds -/
def lenIs {H : Type} (d : DataW H) (n : Nat) : Prop := (d = .nil ∧ n = 0) ∨ ∃ el sp, d = .slice el sp ∧ el.length = n

section
variable {H : Type} {enc : TypeId × Value → H} {P : Program} {w : World} {base : Nat} {held : Bool}

theorem Row.of_cells {a : Addr} {len cap : Nat} {xs : List Value} (hl : len ≤ cap) (hm : cap ≤ maxLen) (hx : xs.length = len) (hc : ∀ i, i < len → w.cell? (a.add i) = xs[i]?) : Row w (.slice (some a) len cap) xs := by
  subst hx
  refine ⟨some a, cap, rfl, hl, hm, (fun h => by cases h), ?_⟩
  by_cases h0 : xs = []
  · exact .inl h0
  · right
    obtain ⟨b, off, spot⟩ := a
    have hp : 0 < xs.length := List.length_pos_iff.2 h0
    have h1 := hc 0 hp
    rw [List.getElem?_eq_getElem hp] at h1
    have hspot : spot = none := by simpa [Addr.add] using World.cell?_spot h1
    subst hspot
    refine ⟨b, off, rfl, fun i hi => ?_⟩
    have hadd : (⟨b, off, none⟩ : Addr).add i = ⟨b, off + i, none⟩ := by unfold Addr.add; split <;> simp_all
    rw [← hadd]
    exact hc i hi

theorem open_row {t e : TypeId} {k : IntKind} {a : Option Addr} {len cap : Nat} {d : DataW H} {p : List MemPlace} (ht : P.underlying t = some (.slice e)) (he : P.underlying e = some (.int k)) (hc : P.cellsOf e = 1)
    (h : DataW.Trod enc P w base (fun _ => true) held t (.slice a len cap) d p) :
    ∃ zs : List Int, Row w (.slice a len cap) (zs.map (Value.int k)) ∧ lenIs d zs.length ∧ ∀ n ∈ zs, (Lit.int k n).wf = true := by
  obtain ⟨fuel, hf⟩ := h
  rcases open_ints ht he hc hf with ⟨hcs, hx⟩ | ⟨x, l, c, zs, hcs, _, hl, hm, hz, hx, hcell, hwz⟩
  · simp [Value.cells] at hcs
    obtain ⟨rfl, rfl, rfl⟩ := hcs
    simp only [Prod.mk.injEq] at hx
    exact ⟨[], Row.nil w, .inl ⟨hx.1, rfl⟩, by simp⟩
  · simp [Value.cells] at hcs
    obtain ⟨rfl, rfl, rfl⟩ := hcs
    simp only [Prod.mk.injEq] at hx
    simp only [if_true] at hz
    refine ⟨zs.take len, Row.of_cells hl hm (by simp; omega) (fun i hi => ?_), .inr ⟨_, _, hx.1, by simp [lits]⟩, fun n hn => hwz n (List.mem_of_mem_take hn)⟩
    rw [hcell i (by omega)]
    simp [hi, List.getD_eq_getElem?_getD, List.getElem?_eq_getElem (show i < zs.length by omega)]

theorem open_u8s {t e : TypeId} {a : Option Addr} {len cap : Nat} {d : DataW H} {p : List MemPlace} (ht : P.underlying t = some (.slice e)) (he : P.underlying e = some (.int .u8)) (hc : P.cellsOf e = 1)
    (h : DataW.Trod enc P w base (fun _ => true) held t (.slice a len cap) d p) : ∃ xs : List UInt8, Row w (.slice a len cap) (xs.map bV) ∧ lenIs d xs.length := by
  obtain ⟨zs, hr, hd, hw⟩ := open_row ht he hc h
  refine ⟨zs.map fun n => UInt8.ofNat n.toNat, ?_, by simpa using hd⟩
  have e : (zs.map fun n => UInt8.ofNat n.toNat).map bV = zs.map (Value.int .u8) := by
    rw [List.map_map]
    apply List.map_congr_left
    intro n hn
    have := bounds_u8 (hw n hn)
    simp only [Function.comp_apply, bV, UInt8.toNat_ofNat']
    congr 1
    omega
  rw [e]; exact hr

theorem open_u16s {t e : TypeId} {a : Option Addr} {len cap : Nat} {d : DataW H} {p : List MemPlace} (ht : P.underlying t = some (.slice e)) (he : P.underlying e = some (.int .u16)) (hc : P.cellsOf e = 1)
    (h : DataW.Trod enc P w base (fun _ => true) held t (.slice a len cap) d p) : ∃ xs : List UInt16, Row w (.slice a len cap) (xs.map wV) ∧ lenIs d xs.length := by
  obtain ⟨zs, hr, hd, hw⟩ := open_row ht he hc h
  refine ⟨zs.map fun n => UInt16.ofNat n.toNat, ?_, by simpa using hd⟩
  have e : (zs.map fun n => UInt16.ofNat n.toNat).map wV = zs.map (Value.int .u16) := by
    rw [List.map_map]
    apply List.map_congr_left
    intro n hn
    have := bounds_u16 (hw n hn)
    simp only [Function.comp_apply, wV, UInt16.toNat_ofNat']
    congr 1
    omega
  rw [e]; exact hr

theorem open_boolrow {t e : TypeId} {a : Option Addr} {len cap : Nat} {d : DataW H} {p : List MemPlace} (ht : P.underlying t = some (.slice e)) (he : P.underlying e = some .bool) (hc : P.cellsOf e = 1)
    (h : DataW.Trod enc P w base (fun _ => true) held t (.slice a len cap) d p) : ∃ xs : List Bool, Row w (.slice a len cap) (xs.map Value.bool) ∧ lenIs d xs.length := by
  obtain ⟨fuel, hf⟩ := h
  rcases open_bools ht he hc hf with ⟨hcs, hx⟩ | ⟨x, l, c, B, hcs, _, hl, hm, hx, hcell⟩
  · simp [Value.cells] at hcs
    obtain ⟨rfl, rfl, rfl⟩ := hcs
    simp only [Prod.mk.injEq] at hx
    exact ⟨[], Row.nil w, .inl ⟨hx.1, rfl⟩⟩
  · simp [Value.cells] at hcs
    obtain ⟨rfl, rfl, rfl⟩ := hcs
    simp only [Prod.mk.injEq] at hx
    refine ⟨(List.range len).map B, Row.of_cells hl hm (by simp) (fun i hi => ?_), .inr ⟨_, _, hx.1, by simp⟩⟩
    rw [hcell i (by omega)]
    simp [hi]

/-- the form's own reach, of a slice -/
theorem reach_slice {ts : List TypeId} {ds : List (DataW H)} (h : (DataW.weightsEach P ts ds).all (· ≤ reachBytes) = true) {j : Nat} {t e : TypeId} {d : DataW H} {n b : Nat} (ht : ts[j]? = some t) (hd : ds[j]? = some d) (hu : P.underlying t = some (.slice e)) (hl : lenIs d n) (hb : P.bytesOf e = b) :
    n * b ≤ 140737488351232 := by
  rcases hl with ⟨-, rfl⟩ | ⟨el, sp, rfl, rfl⟩
  · simp
  · have := sized_slice h ht hd hu
    rw [hb] at this
    have h2 : el.length * b ≤ (el.length + sp.length) * b := Nat.mul_le_mul_right _ (by omega)
    have h3 : reachBytes = 140737488351232 := by decide
    omega
end
end Go.Proofs.Ytejcigeccmfeeaa

namespace Go.Proofs.Ytejcigeccmfeeaa
open Go.RowKit

abbrev Ext (w w' : World) : Prop := Below w.heap.size w w'
theorem Ext.refl (w : World) : Ext w w := Below.refl _ _
theorem Ext.trans {a b c : World} (h : Ext a b) (k : Ext b c) : Ext a c := Below.trans h (k.mono h.size)

section
variable {P : Program} {ops : Array Oper} {Q : Exit → Act → World → Prop} {md : Region.Mode}

theorem held_mono {S S' : World → Prop} (hS : ∀ w, S' w → S w) : ∀ (n : Nat) (listed : Array Bool) (a : Act) (w : World), wpAnyH P md ops Q S' n listed a w → wpAnyH P md ops Q S n listed a w
  | 0, _, _, _, h => h
  | n + 1, _, _, _, h => ⟨h.1, fun i hi => wpOp_mono (fun a' w' h' => ⟨hS _ h'.1, held_mono hS n _ a' w' h'.2⟩) (h.2 i hi)⟩

/-- the walk in the one order: true marks a reader; s: the world at the last look into memory, all of which must stay -/
def wpPi (P : Program) (ops : Array Oper) (Q : Exit → Act → World → Prop) : List (Nat × Bool) → World → Act → World → Prop
  | [], _, a, w => Q .normal a w
  | (i, true) :: r, s, a, w => ∃ o v s', ops[i]? = some o ∧ Ext s s' ∧ Ext s' w ∧ YieldsIf P ops (Ext s') o v a ∧ wpPi P ops Q r s' (a.put o.dst v) w
  | (i, false) :: r, s, a, w => wpOp P ops Q i (fun a' w' => Ext s w' ∧ wpPi P ops Q r s a' w') a w

/-- may the region be walked in this order? -/
def piOk (md : Region.Mode) (ops : Array Oper) : List (Nat × Bool) → Array Bool → Bool
  | [], listed => (Region.ready md ops listed).isEmpty
  | (i, true) :: r, listed => Region.free md ops listed i && (Region.ready md ops listed).contains i && piOk md ops r (listed.setIfInBounds i true)
  | (i, false) :: r, listed => (Region.ready md ops listed == [i]) && piOk md ops r (listed.setIfInBounds i true)

theorem held_pi (hs : Region.noSelect ops = true) (hQ : ∀ c a w d v, Q (.panic c) (Act.put a d v) w → Q (.panic c) a w) :
    ∀ (pi : List (Nat × Bool)) (listed : Array Bool) (s : World) (a : Act) (w : World) (n : Nat), n = pi.length → piOk md ops pi listed = true → Ext s w → wpPi P ops Q pi s a w → wpAnyH P md ops Q (Ext s) n listed a w
  | [], listed, s, a, w, n, hn, hc, _, h => by
    subst hn
    exact ⟨by simpa [piOk] using hc, h⟩
  | (i, true) :: r, listed, s, a, w, n, hn, hc, _, h => by
    subst hn
    simp only [piOk, Bool.and_eq_true] at hc
    obtain ⟨o, v, s', hi, h1, h2, hy, hr⟩ := h
    exact held_mono (fun u hu => Ext.trans h1 hu) _ _ _ _ (wpAnyH_first hi (Region.noSelect_spec hs) (fun c a w => hQ c a w o.dst v) r.length listed a w (Region.free_spec hi hc.1.1) (by simpa using hc.1.2) hy h2 (held_pi hs hQ r _ _ _ _ _ rfl hc.2 h2 hr))
  | (i, false) :: r, listed, s, a, w, n, hn, hc, _, h => by
    subst hn
    simp only [piOk, Bool.and_eq_true, beq_iff_eq] at hc
    refine ⟨fun h0 => (by rw [hc.1] at h0; cases h0), fun j hj => ?_⟩
    rw [hc.1] at hj
    obtain rfl : j = i := by simpa using hj
    exact wpOp_mono (fun a' w' h' => ⟨h'.1, held_pi hs hQ r _ _ _ _ _ rfl hc.2 h'.1 h'.2⟩) h

theorem wp_region_pi {id : Nat} {a : Act} {w : World} (pi : List (Nat × Bool)) (hm : P.follows .mixedOrders = true) (hs : Region.noSelect ops = true) (hc : (piOk .any ops pi (Array.replicate ops.size false) && (pi.length == ops.size)) = true)
    (hQ : ∀ c a w d v, Q (.panic c) (Act.put a d v) w → Q (.panic c) a w) (h : wpPi P ops Q pi w.drew a w.drew) : (Code.region id ops true).wp P Q a w := by
  simp only [Bool.and_eq_true, beq_iff_eq] at hc
  exact wp_region_held (S := Ext w.drew) hm (held_pi hs hQ pi _ _ a _ _ hc.2.symm hc.1 (Ext.refl _) h)

theorem pi_nil {s : World} {a : Act} {w : World} (h : Q .normal a w) : wpPi P ops Q [] s a w := h
section
variable {i : Nat} {r : List (Nat × Bool)} {s w : World} {a : Act} {dst : Option Tmp} {op : Op} {ty : TypeId} {pos : String} {after : Array Edge} {guard : Option (Nat × Bool)} {v : Value}
/-- what yields in whatever world -/
theorem pi_pure (hx : Ext s w) (hi : ops[i]? = some ⟨dst, op, ty, pos, after, guard⟩) (hw : Region.wanted ⟨dst, op, ty, pos, after, guard⟩ (yielded ops a.tmps) = true)
    (hv : ∀ w', (execOp a.eval ⟨dst, op, ty, pos, after, guard⟩).run P w' = .ok (.value v) w') (h : wpPi P ops Q r s (a.put dst v) w) : wpPi P ops Q ((i, true) :: r) s a w := ⟨_, v, s, hi, Ext.refl s, hx, .inl ⟨hw, fun w' _ => hv w'⟩, h⟩
/-- what looks into memory -/
theorem pi_read (hx : Ext s w) (hi : ops[i]? = some ⟨dst, op, ty, pos, after, guard⟩) (hw : Region.wanted ⟨dst, op, ty, pos, after, guard⟩ (yielded ops a.tmps) = true)
    (hv : ∀ w', Ext w w' → (execOp a.eval ⟨dst, op, ty, pos, after, guard⟩).run P w' = .ok (.value v) w') (h : wpPi P ops Q r w (a.put dst v) w) : wpPi P ops Q ((i, true) :: r) s a w := ⟨_, v, w, hi, hx, Ext.refl w, .inl ⟨hw, hv⟩, h⟩
theorem pi_skip (hx : Ext s w) (hi : ops[i]? = some ⟨dst, op, ty, pos, after, guard⟩) (hw : Region.wanted ⟨dst, op, ty, pos, after, guard⟩ (yielded ops a.tmps) = false)
    (h : wpPi P ops Q r s (a.put dst undef) w) : wpPi P ops Q ((i, true) :: r) s a w := ⟨_, undef, s, hi, Ext.refl s, hx, .inr ⟨hw, rfl⟩, h⟩
theorem pi_move (hi : ops[i]? = some ⟨dst, op, ty, pos, after, guard⟩) (hw : Region.wanted ⟨dst, op, ty, pos, after, guard⟩ (yielded ops a.tmps) = true)
    (h : ∀ K : Act → World → Prop, Hid (∀ a' w', Ext s w' → wpPi P ops Q r s a' w' → K a' w') → Oper.wp P ⟨dst, op, ty, pos, after, guard⟩ a w K Q) : wpPi P ops Q ((i, false) :: r) s a w := by
  show wpOp _ _ _ _ _ _ _
  unfold wpOp
  simp only [hi, hw, if_true]
  exact .inl (h _ (fun a' w' h1 h2 => ⟨h1, h2⟩))
theorem pi_pass (hx : Ext s w) (hi : ops[i]? = some ⟨dst, op, ty, pos, after, guard⟩) (hw : Region.wanted ⟨dst, op, ty, pos, after, guard⟩ (yielded ops a.tmps) = false)
    (h : wpPi P ops Q r s (a.put dst undef) w) : wpPi P ops Q ((i, false) :: r) s a w := by
  show wpOp _ _ _ _ _ _ _
  unfold wpOp
  simp only [hi, hw]
  exact ⟨hx, h⟩
end
end
end Go.Proofs.Ytejcigeccmfeeaa

namespace Go.Proofs.Ytejcigeccmfeeaa

theorem ofInt_i64 (a : Nat) (ha : a < 4611686018427387904) : (BitVec.ofInt 64 (a : Int)).toNat = a := by
  rw [BitVec.ofInt_natCast, BitVec.toNat_ofNat]; exact Nat.mod_eq_of_lt (by omega)
theorem i64_or_nat (a b : Nat) (ha : a < 4611686018427387904) (hb : b < 4611686018427387904) : bits .or .i64 (a : Int) (b : Int) = ((a ||| b : Nat) : Int) := by
  have hx : a ||| b < 2 ^ 62 := Nat.or_lt_two_pow (by omega) (by omega)
  show IntKind.i64.wrap ((BitVec.ofInt 64 (a : Int) ||| BitVec.ofInt 64 (b : Int)).toNat : Int) = _
  rw [BitVec.toNat_or, ofInt_i64 a ha, ofInt_i64 b hb, IntKind.wrap_i64]
  omega
/-- n & 2^k-1 on an int, whatever its sign -/
theorem i64_and_mask (n : Int) (k : Nat) (hk : k < 62) : bits .and .i64 n ((2 ^ k - 1 : Nat) : Int) = n % ((2 ^ k : Nat) : Int) := by
  have hp : 2 ^ k ≤ 2 ^ 61 := Nat.pow_le_pow_right (by decide) (by omega)
  have hp0 : 0 < 2 ^ k := Nat.two_pow_pos k
  have hm : (BitVec.ofInt 64 ((2 ^ k - 1 : Nat) : Int)).toNat = 2 ^ k - 1 := by
    rw [BitVec.ofInt_natCast, BitVec.toNat_ofNat]; exact Nat.mod_eq_of_lt (by omega)
  have key : (BitVec.ofInt 64 n &&& BitVec.ofInt 64 ((2 ^ k - 1 : Nat) : Int)).toNat = (n % ((2 ^ 64 : Nat) : Int)).toNat % 2 ^ k := by
    rw [BitVec.toNat_and, BitVec.toNat_ofInt, hm, Nat.and_two_pow_sub_one_eq_mod]
  show IntKind.i64.wrap ((BitVec.ofInt 64 n &&& BitVec.ofInt 64 ((2 ^ k - 1 : Nat) : Int)).toNat : Nat) = _
  have hlt : (n % ((2 ^ 64 : Nat) : Int)).toNat % 2 ^ k < 2 ^ k := Nat.mod_lt _ hp0
  have e1 : (((n % ((2 ^ 64 : Nat) : Int)).toNat % 2 ^ k : Nat) : Int) = n % ((2 ^ k : Nat) : Int) := by
    rw [Int.natCast_emod, Int.toNat_of_nonneg (Int.emod_nonneg _ (by decide))]
    exact Int.emod_emod_of_dvd n (Int.natCast_dvd_natCast.2 (Nat.pow_dvd_pow 2 (by omega)))
  rw [key, IntKind.wrap_i64, ← e1]
  omega

def hiB (x : UInt16) : UInt8 := UInt8.ofNat (x.toNat / 256)
def loB (x : UInt16) : UInt8 := UInt8.ofNat (x.toNat % 256)
def mkW (a b : UInt8) : UInt16 := UInt16.ofNat (a.toNat * 256 + b.toNat)

theorem hiB_nat (x : UInt16) : (hiB x).toNat = x.toNat / 256 := by
  have := x.toNat_lt; unfold hiB; rw [UInt8.toNat_ofNat']; omega
theorem loB_nat (x : UInt16) : (loB x).toNat = x.toNat % 256 := by
  unfold loB; rw [UInt8.toNat_ofNat']; omega
theorem mkW_nat (a b : UInt8) : (mkW a b).toNat = a.toNat * 256 + b.toNat := by
  have := a.toNat_lt; have := b.toNat_lt; unfold mkW; rw [UInt16.toNat_ofNat']; omega
theorem mkW_hi_lo (x : UInt16) : mkW (hiB x) (loB x) = x := by
  apply UInt16.toNat_inj.1; rw [mkW_nat, hiB_nat, loB_nat]; omega
theorem hi_mkW (a b : UInt8) : hiB (mkW a b) = a := by
  apply UInt8.toNat_inj.1; rw [hiB_nat, mkW_nat]; have := b.toNat_lt; omega
theorem lo_mkW (a b : UInt8) : loB (mkW a b) = b := by
  apply UInt8.toNat_inj.1; rw [loB_nat, mkW_nat]; have := b.toNat_lt; omega

/-- the lowest sixteen bits of a number -/
def wOf (n : Int) : UInt16 := UInt16.ofNat (n % 65536).toNat
theorem wOf_nat (n : Int) : ((wOf n).toNat : Int) = n % 65536 := by
  unfold wOf; rw [UInt16.toNat_ofNat']; omega

def bytesL (l : List UInt16) : List UInt8 := l.flatMap fun x => [hiB x, loB x]
def wordsL : List UInt8 → List UInt16
  | a :: b :: r => mkW a b :: wordsL r
  | _ => []

theorem bytesL_len (l : List UInt16) : (bytesL l).length = 2 * l.length := by
  induction l with
  | nil => rfl
  | cons x r ih => simp [bytesL] at ih ⊢; omega
theorem bytesL_append (a b : List UInt16) : bytesL (a ++ b) = bytesL a ++ bytesL b := by simp [bytesL]
theorem wordsL_bytesL (l : List UInt16) : wordsL (bytesL l) = l := by
  induction l with
  | nil => rfl
  | cons x r ih => simp [bytesL, wordsL, mkW_hi_lo] at ih ⊢; exact ih

theorem wordsL_eq : ∀ (b : List UInt8), wordsL b = (List.range (b.length / 2)).map fun i => mkW (b.getD (2 * i) 0) (b.getD (2 * i + 1) 0)
  | [] => rfl
  | [_] => by simp [wordsL]
  | a :: b :: r => by
    have hl : (a :: b :: r).length / 2 = r.length / 2 + 1 := by simp; omega
    rw [wordsL, wordsL_eq r, hl, List.range_succ_eq_map, List.map_cons, List.map_map]
    congr 1
theorem wordsL_len (b : List UInt8) : (wordsL b).length = b.length / 2 := by rw [wordsL_eq]; simp

theorem bytesL_take_succ (l : List UInt16) (k : Nat) (h : k < l.length) : bytesL (l.take (k + 1)) = bytesL (l.take k) ++ [hiB l[k], loB l[k]] := by
  rw [List.take_succ_eq_append_getElem h, bytesL_append]; rfl

/-- the number whose bits are l, the first one lowest -/
def ofBits : List Bool → Nat
  | [] => 0
  | b :: r => b.toNat + 2 * ofBits r

theorem ofBits_testBit : ∀ (l : List Bool) (t : Nat), (ofBits l).testBit t = l.getD t false
  | [], t => by simp [ofBits]
  | b :: r, 0 => by cases b <;> simp [ofBits, Nat.testBit_zero] <;> omega
  | b :: r, t + 1 => by
    rw [ofBits, Nat.testBit_succ]
    have : (b.toNat + 2 * ofBits r) / 2 = ofBits r := by cases b <;> simp <;> omega
    rw [this, ofBits_testBit r t]
    simp

theorem ofBits_lt : ∀ (l : List Bool), ofBits l < 2 ^ l.length
  | [] => by simp [ofBits]
  | b :: r => by
    have := ofBits_lt r
    simp only [ofBits, List.length_cons, Nat.pow_succ]
    cases b <;> simp <;> omega

/-- byte j of the bits l -/
def packB (l : List Bool) (j : Nat) : UInt8 := UInt8.ofNat (ofBits ((l.drop (8 * j)).take 8))

theorem packB_nat (l : List Bool) (j : Nat) : (packB l j).toNat = ofBits ((l.drop (8 * j)).take 8) := by
  have h := ofBits_lt ((l.drop (8 * j)).take 8)
  have h2 : ((l.drop (8 * j)).take 8).length ≤ 8 := List.length_take_le _ _
  have h3 : 2 ^ ((l.drop (8 * j)).take 8).length ≤ 2 ^ 8 := Nat.pow_le_pow_right (by decide) h2
  unfold packB; rw [UInt8.toNat_ofNat']; exact Nat.mod_eq_of_lt (by omega)

theorem packB_bit (l : List Bool) (j t : Nat) : (packB l j).toNat.testBit t = (decide (t < 8) && l.getD (8 * j + t) false) := by
  rw [packB_nat, ofBits_testBit]
  by_cases h : t < 8
  · simp [List.getD_eq_getElem?_getD, h, List.getElem?_drop]
  · simp [List.getD_eq_getElem?_getD, List.getElem?_take, h]

theorem u8_ext {a b : UInt8} (h : ∀ t, t < 8 → a.toNat.testBit t = b.toNat.testBit t) : a = b := by
  apply UInt8.toNat_inj.1
  apply Nat.eq_of_testBit_eq
  intro t
  by_cases ht : t < 8
  · exact h t ht
  · have e1 : a.toNat < 2 ^ t := Nat.lt_of_lt_of_le a.toNat_lt (Nat.pow_le_pow_right (by decide) (by omega))
    have e2 : b.toNat < 2 ^ t := Nat.lt_of_lt_of_le b.toNat_lt (Nat.pow_le_pow_right (by decide) (by omega))
    rw [Nat.testBit_lt_two_pow e1, Nat.testBit_lt_two_pow e2]

def packL (l : List Bool) : List UInt8 := (List.range ((l.length + 7) / 8)).map (packB l)

theorem packL_len (l : List Bool) : (packL l).length = (l.length + 7) / 8 := by simp [packL]

/-- one bit more -/
theorem packB_step (l : List Bool) (k j : Nat) (hk : k < l.length) :
    (packB (l.take (k + 1)) j).toNat = if j = k / 8 ∧ l[k] = true then (packB (l.take k) j).toNat ||| 2 ^ (k % 8) else (packB (l.take k) j).toNat := by
  apply Nat.eq_of_testBit_eq
  intro t
  have e : ∀ n, (l.take n).getD (8 * j + t) false = (decide (8 * j + t < n) && l.getD (8 * j + t) false) := by
    intro n
    simp [List.getD_eq_getElem?_getD, List.getElem?_take]
    by_cases h : 8 * j + t < n <;> simp [h]
  split
  · rename_i h
    rw [Nat.testBit_or, packB_bit, packB_bit, e, e, Nat.testBit_two_pow]
    by_cases ht : t < 8
    · by_cases hkt : 8 * j + t = k
      · have : k % 8 = t := by omega
        have hg : l.getD k false = true := by rw [List.getD_eq_getElem?_getD, List.getElem?_eq_getElem hk]; simpa using h.2
        rw [hkt]
        rw [hg]; simp [ht, this]
      · have h1 : ¬ k % 8 = t := by omega
        have h2 : (8 * j + t < k + 1) ↔ (8 * j + t < k) := by omega
        simp [ht, h1, h2]
    · have h1 : ¬ k % 8 = t := by omega
      simp [ht, h1]
  · rename_i h
    rw [packB_bit, packB_bit, e, e]
    by_cases ht : t < 8
    · by_cases hkt : 8 * j + t = k
      · have hj : j = k / 8 := by omega
        have hf : l[k] = false := by
          cases hb : l[k] with
          | false => rfl
          | true => exact absurd ⟨hj, hb⟩ h
        have hg : l.getD k false = false := by rw [List.getD_eq_getElem?_getD, List.getElem?_eq_getElem hk]; simpa using hf
        rw [hkt, hg]; simp
      · have h2 : (8 * j + t < k + 1) ↔ (8 * j + t < k) := by omega
        simp [h2]
    · simp [ht]

/-- bit i of the bytes b -/
def bitAt (b : List UInt8) (i : Nat) : Bool := (b.getD (i / 8) 0).toNat.testBit (i % 8)
def openL (b : List UInt8) (n : Nat) : List Bool := (List.range n).map (bitAt b)
/-- may b be n bits? -/
def openOk (b : List UInt8) (n : Int) : Bool := decide (0 ≤ n) && decide ((b.length : Int) = (n + 7) / 8) && (List.range (8 * b.length)).all fun i => decide ((i : Int) < n) || !bitAt b i

theorem bitAt_packL (l : List Bool) (i : Nat) (h : i < 8 * (packL l).length) : bitAt (packL l) i = l.getD i false := by
  rw [packL_len] at h
  unfold bitAt packL
  rw [List.getD_eq_getElem?_getD, List.getElem?_map, List.getElem?_range (by omega)]
  simp only [Option.map_some, Option.getD_some]
  rw [packB_bit]
  have : 8 * (i / 8) + i % 8 = i := by omega
  rw [this]
  simp
  intro h2; omega

theorem openL_packL (l : List Bool) : openL (packL l) l.length = l := by
  apply List.ext_getElem
  · simp [openL]
  · intro i h1 h2
    simp only [openL, List.getElem_map, List.getElem_range]
    rw [bitAt_packL l i (by rw [packL_len]; omega), List.getD_eq_getElem?_getD, List.getElem?_eq_getElem h2]
    rfl

theorem openOk_packL (l : List Bool) : openOk (packL l) l.length = true := by
  unfold openOk
  simp only [Bool.and_eq_true, decide_eq_true_eq, List.all_eq_true, List.mem_range]
  refine ⟨⟨by omega, by rw [packL_len]; omega⟩, fun i hi => ?_⟩
  rw [bitAt_packL l i hi]
  by_cases h : i < l.length
  · simp [h]
  · simp [List.getD_eq_getElem?_getD, h]

theorem packL_append (x m : List Bool) (h : x.length % 8 = 0) : packL (x ++ m) = packL x ++ packL m := by
  apply List.ext_getElem
  · simp [packL_len]; omega
  · intro i h1 h2
    apply u8_ext
    intro t ht
    rw [packL_len] at h1
    simp only [List.length_append] at h1
    have a1 : ∀ (l : List Bool) (j : Nat) (hj : j < (packL l).length), (packL l)[j] = packB l j := by
      intro l j hj; simp [packL]
    rw [a1]
    by_cases hi : i < (packL x).length
    · rw [List.getElem_append_left hi, a1, packB_bit, packB_bit]
      rw [packL_len] at hi
      have : 8 * i + t < x.length := by omega
      simp [List.getD_eq_getElem?_getD, List.getElem?_append_left this]
    · rw [List.getElem_append_right (by omega), a1, packB_bit, packB_bit]
      rw [packL_len] at hi
      have e1 : x.length ≤ 8 * i + t := by omega
      have e2 : 8 * i + t - x.length = 8 * (i - (packL x).length) + t := by rw [packL_len]; omega
      simp [List.getD_eq_getElem?_getD, List.getElem?_append_right e1, e2]

end Go.Proofs.Ytejcigeccmfeeaa

namespace Go.Proofs.Ytejcigeccmfeeaa
open Go.RowKit

theorem ret_int {k : IntKind} {a b : Int} (h : a = b) : Ending.returned (.int k a) = .returned (.int k b) := by rw [h]
theorem ret_bool {a b : Bool} (h : a = b) : Ending.returned (.bool a) = .returned (.bool b) := by rw [h]
theorem cast_div (a b : Nat) : ((a / b : Nat) : Int) = (a : Int) / (b : Int) := by simp
/-- the cells of a row of bytes -/
theorem Row.at {w : World} {a : Option Addr} {n cap : Nat} {α : Type} {f : α → Value} {xs : List α} (h : Row w (.slice a n cap) (xs.map f)) :
    n = xs.length ∧ n ≤ cap ∧ cap ≤ maxLen ∧ ∀ i (d : α), i < n → ∃ b off, a = some ⟨b, off, none⟩ ∧ ∀ j, j < n → w.cell? ⟨b, off + j, none⟩ = some (f (xs.getD j d)) := by
  obtain ⟨a', cap', e, h1, h2, -, h3⟩ := h
  simp only [Value.slice.injEq, List.length_map] at e
  obtain ⟨rfl, rfl, rfl⟩ := e
  refine ⟨rfl, by simpa using h1, h2, fun i d hi => ?_⟩
  rcases h3 with h3 | ⟨b, off, rfl, hc⟩
  · have : xs = [] := by simpa using h3
    subst this
    simp at hi
  · refine ⟨b, off, rfl, fun j hj => ?_⟩
    have := hc j (by simpa using hj)
    simpa [List.getD_eq_getElem?_getD, hj] using this
theorem ret_int_bool {k : IntKind} {a b : Int} {c : Bool} (h : a = b) : Ending.returned (.tuple #[.int k a, .bool c]) = .returned (.tuple #[.int k b, .bool c]) := by rw [h]
theorem info_u8 : (Try.prog.info? 5).map (fun i => (i.zero, i.size, i.bytes)) = some (some (.int .u8 0), 1, 1) := by kernel_rfl
theorem info_bool : (Try.prog.info? 4).map (fun i => (i.zero, i.size, i.bytes)) = some (some (.bool false), 1, 1) := by kernel_rfl
/-- make([]T, n), the new block written out -/
theorem mk_run (t e : TypeId) (z : Value) (by_ : Nat) (hu : Try.prog.underlying t = some (.slice e)) (hi : (Try.prog.info? e).map (fun i => (i.zero, i.size, i.bytes)) = some (some z, 1, by_)) (hz : z.cells = #[z])
    (n : Int) (k : Nat) (hn : n = (k : Int)) (h1 : by_ * k ≤ 281474976710656) (h2 : k ≤ 9223372036854775807) (u : World) :
    (Instr.makeSlice t (.int .i64 n) (.int .i64 n)).run Try.prog u = .ok (.slice (some ⟨u.heap.size, 0, none⟩) k k) (u.alloc (.cells (List.replicate k z).toArray e)) := by
  obtain ⟨i0, hi, hz0, hz1, hz2⟩ := info_parts hi
  subst hn
  have h := run_make (P := Try.prog) u t e i0 z hu hi hz0 .i64 .i64 (k : Int) (k : Int) (by omega) (Int.le_refl _) (by rw [hz2]; omega) (by omega)
  rw [hz1, hz, Nat.mul_one, Int.toNat_natCast] at h
  have e2 : madeCells #[z] k = (List.replicate k z).toArray := by
    rw [← toList_madeCells_one]
  rw [e2] at h
  exact h
/-- the zero cells of a new block, under a name -/
def zer (k : Nat) (z : Value) : Array Value := (List.replicate k z).toArray
theorem zer_blk (w : World) (k : Nat) (z : Value) (e : TypeId) : Blk (w.alloc (.cells (zer k z) e)) w.heap.size e (List.replicate k z) := heap_alloc_new w _
theorem mk_zer (t e : TypeId) (z : Value) (by_ : Nat) (hu : Try.prog.underlying t = some (.slice e)) (hi : (Try.prog.info? e).map (fun i => (i.zero, i.size, i.bytes)) = some (some z, 1, by_)) (hz : z.cells = #[z])
    (n : Int) (k : Nat) (hn : n = (k : Int)) (h1 : by_ * k ≤ 281474976710656) (h2 : k ≤ 9223372036854775807) (u : World) :
    (Instr.makeSlice t (.int .i64 n) (.int .i64 n)).run Try.prog u = .ok (.slice (some ⟨u.heap.size, 0, none⟩) k k) (u.alloc (.cells (zer k z) e)) := mk_run t e z by_ hu hi hz n k hn h1 h2 u
theorem map_get {α : Type} (f : α → Value) (xs : List α) (i : Nat) : (xs.map f)[i]? = xs[i]?.map f := by simp
theorem one_bytes (bs : List UInt8) : ∀ v ∈ bs.map bV, v.oneCell' = true := by
  intro u hu; simp at hu; obtain ⟨x, _, rfl⟩ := hu; rfl
theorem row_app {w w' : World} {v : Value} {xs : List Value} {row : Option Nat} (h : Row w v xs) (hg : w.grownBy w' row) (hr : ∀ k, row = some k → w.heap.size ≤ k) : Row w' v xs :=
  h.below ((Below.refl _ _).grown hg (Nat.le_refl _) hr)
theorem below_grown {w w' : World} (hg : w.grownBy w' none) : Below w.heap.size w w' := (Below.refl _ _).grown hg (Nat.le_refl _) (fun _ h => by cases h)
theorem map_ofNat_bytes (bs : List UInt8) : (bs.map fun x => ((x.toNat : Nat) : Int)).map (fun n => UInt8.ofNat n.toNat) = bs := by
  rw [List.map_map]
  conv => rhs; rw [← List.map_id bs]
  apply List.map_congr_left
  intro x _
  simp
/-- string(v) of a row of bytes -/
theorem conv_row {P : Program} {w : World} {v : Value} {bs : List UInt8} (h : Row w v (bs.map bV)) (src dst e : TypeId) (hs : P.underlying src = some (.slice e)) (he : P.underlying e = some (.int .u8)) (hd : P.underlying dst = some .string) :
    (convert src dst v).run P w = .ok (.string ⟨bs.toArray⟩) w := by
  obtain ⟨a, cap, rfl, -⟩ := id h
  obtain ⟨hl, -, -, hcell⟩ := h.at
  simp only [List.length_map] at hl ⊢ hcell
  cases a with
  | none =>
    have : bs = [] := by
      cases bs with
      | nil => rfl
      | cons x r =>
        obtain ⟨b, off, he, -⟩ := hcell 0 0 (by simp)
        cases he
    subst this
    exact run_convert_bytes_nil w src e hs he _ _ dst hd
  | some ad =>
    by_cases h0 : bs = []
    · subst h0
      have hc : (convert src dst (.slice (some ad) 0 cap)).run P w = (Conv.bytesToString (.slice (some ad) 0 cap)).run P w := run_convert_bytes_string w src dst e _ _ _ hs he hd
      simp only [List.length_nil]
      rw [hc, run_bytesToString w ad 0 cap [] (by simp [loadCells, loadCellsFrom])]
      rfl
    · have hp : 0 < bs.length := List.length_pos_iff.2 h0
      obtain ⟨b, off, he2, hcl⟩ := hcell 0 0 hp
      cases he2
      have := run_convert_bytes_arg (P := P) w src e hs he b off bs.length cap (bs.map fun x => ((x.toNat : Nat) : Int)) (by simp) (fun i hi => by
        rw [hcl i hi]
        simp [List.getD_eq_getElem?_getD, hi]) dst hd
      rw [this]
      unfold strOfNums
      rw [map_ofNat_bytes]
theorem below_step {w0 w w1 : World} {o : Obj} (hb : Below w0.heap.size w0 w) (h : Below (w.alloc o).heap.size (w.alloc o) w1) : Below w0.heap.size w0 w1 :=
  (hb.alloc hb.size o).trans (h.mono (by simp; have := hb.size; omega))
theorem below_then {w0 w w1 : World} (hb : Below w0.heap.size w0 w) (h : Below w.heap.size w w1) : Below w0.heap.size w0 w1 :=
  hb.trans (h.mono hb.size)
/-- a row of one word, its cell -/
theorem row_one {w : World} {v : Value} {x : Value} (h : Row w v [x]) : ∃ b off cap, v = .slice (some ⟨b, off, none⟩) 1 cap ∧ w.cell? ⟨b, off, none⟩ = some x := by
  obtain ⟨a, cap, rfl, -, -, -, h3⟩ := h
  rcases h3 with h3 | ⟨b, off, rfl, hc⟩
  · cases h3
  · exact ⟨b, off, cap, rfl, by simpa using hc 0 (by simp)⟩
theorem owns_some {w : World} {base : Nat} {e : TypeId} {v : Value} {n : Nat} {xs : List Value} (h : w.ownsRow base e 1 v n xs) (hn : 0 < n) : ∃ g cap, v = .slice (some ⟨g, 0, none⟩) n cap ∧ base ≤ g := by
  rcases h.2 with ⟨rfl, rfl⟩ | ⟨g, cap, cur, rfl, hb, -⟩
  · omega
  · exact ⟨g, cap, rfl, hb⟩
theorem xor_u8 (x y : UInt8) : bits BinOp.xor IntKind.u8 (x.toNat : Int) (y.toNat : Int) = ((x.toNat ^^^ y.toNat : Nat) : Int) := u8_xor_nat _ _ x.toNat_lt y.toNat_lt
theorem wrap_bV (n : Int) : ∃ x : UInt8, Value.int .u8 (n % 256) = bV x := by
  refine ⟨UInt8.ofNat (n % 256).toNat, ?_⟩
  have : (((UInt8.ofNat (n % 256).toNat).toNat : Nat) : Int) = n % 256 := by rw [UInt8.toNat_ofNat']; omega
  rw [bV, this]
theorem wrap_wV (n : Int) : ∃ x : UInt16, Value.int .u16 (n % 65536) = wV x := by
  refine ⟨UInt16.ofNat (n % 65536).toNat, ?_⟩
  have : (((UInt16.ofNat (n % 65536).toNat).toNat : Nat) : Int) = n % 65536 := by rw [UInt16.toNat_ofNat']; omega
  rw [wV, this]
theorem owns_below {w w' : World} {base : Nat} {e : TypeId} {v : Value} {n : Nat} {xs : List Value} (h : w.ownsRow base e 1 v n xs) (hb : Below w.heap.size w w') : w'.ownsRow base e 1 v n xs :=
  h.kept (w' := w') (row := none) ⟨hb.os, hb.tape, hb.output, hb.size, fun k hk _ => hb.block k hk⟩ (by cases v.ownBlock <;> simp)
theorem owns_apart {w : World} {base e1 e2 : Nat} {v1 v2 : Value} {n1 n2 : Nat} {xs ys : List Value} (h1 : w.ownsRow base e1 1 v1 n1 xs) (h2 : w.ownsRow base e2 1 v2 n2 ys) (he : e1 ≠ e2) : v1.ownBlock = none ∨ v1.ownBlock ≠ v2.ownBlock := by
  rcases h1.2 with ⟨rfl, -⟩ | ⟨g, cap, cur, rfl, -, hg, -⟩
  · exact .inl rfl
  · right
    rcases h2.2 with ⟨rfl, -⟩ | ⟨g', cap', cur', rfl, -, hg', -⟩
    · simp [Value.ownBlock]
    · simp only [Value.ownBlock, ne_eq, Option.some.injEq]
      intro h
      rw [h, hg'] at hg
      simp at hg
      exact he hg.2.symm

/-- []byte("..") of a constant: the row is laid, then marked -/
theorem kc (w : World) (C : Array Value) (n c : Nat) : (convert 27 27 (.slice (some ⟨w.heap.size, 0, none⟩) n c)).run Try.prog (w.alloc (.cells C 5)) = .ok (.slice (some ⟨w.heap.size, 0, none⟩) n c) (w.alloc (.cells C 5 (C.size, C.size + 1))) :=
  Lib.run_convert_bytes_const (P := Try.prog) w 27 5 C n c Try.underlying27 Try.underlying5
theorem row_mark (w : World) (xs : List Value) (e : TypeId) (fr : Nat × Nat) (n : Nat) (hn : n = xs.length) (h : n ≤ maxLen) : Row (w.alloc (.cells xs.toArray e fr)) (.slice (some ⟨w.heap.size, 0, none⟩) n n) xs := by
  subst hn
  refine ⟨_, _, rfl, Nat.le_refl _, h, fun h => (by cases h), .inr ⟨_, 0, rfl, fun i _ => ?_⟩⟩
  rw [Nat.zero_add, World.cell?_alloc_mark]
  simp

theorem pow8 (t : Nat) (h : t < 8) : ((2 : Int) ^ t % 256) = ((2 ^ t : Nat) : Int) ∧ 2 ^ t < 256 := by
  match t, h with
  | 0, _ => decide
  | 1, _ => decide
  | 2, _ => decide
  | 3, _ => decide
  | 4, _ => decide
  | 5, _ => decide
  | 6, _ => decide
  | 7, _ => decide

end Go.Proofs.Ytejcigeccmfeeaa

namespace Go.Proofs.Ytejcigeccmfeeaa
open Go.RowKit

/-- a slice of new memory, or none -/
def NewV (base : Nat) (v : Value) : Prop := ∀ a n c, v = .slice (some a) n c → base ≤ a.block
theorem NewV.none (base n c : Nat) : NewV base (.slice .none n c) := fun _ _ _ h => by cases h
theorem NewV.some (base g o n c : Nat) (h : base ≤ g) : NewV base (.slice (some ⟨g, o, .none⟩) n c) := fun _ _ _ e => by
  simp only [Value.slice.injEq, Option.some.injEq] at e
  rw [← e.1]; exact h
theorem NewV.le {base base' : Nat} {v : Value} (h : NewV base v) (hb : base' ≤ base) : NewV base' v := fun a n c e => Nat.le_trans hb (h a n c e)
theorem NewV.of_owns {w : World} {base : Nat} {e : TypeId} {v : Value} {n : Nat} {xs : List Value} (h : w.ownsRow base e 1 v n xs) : NewV base v := by
  rcases h.2 with ⟨rfl, -⟩ | ⟨g, cap, cur, rfl, hb, -⟩
  · exact NewV.none _ _ _
  · exact NewV.some _ _ _ _ _ hb
theorem Row.setCell_new {w : World} {v u : Value} {xs : List Value} {base g o : Nat} (h : Row w v xs) (hn : NewV base v) (hg : g < base) : Row (w.setCell ⟨g, o, .none⟩ u) v xs := by
  obtain ⟨a, cap, rfl, h1, h2, h3, h4⟩ := h
  refine ⟨_, _, rfl, h1, h2, h3, ?_⟩
  rcases h4 with rfl | ⟨b, off, rfl, hc⟩
  · exact .inl rfl
  · have hb := hn _ _ _ rfl
    simp only at hb
    refine .inr ⟨_, _, rfl, fun i hi => ?_⟩
    rw [← hc i hi]
    have hne : g ≠ b := by omega
    simp only [World.cell?, World.setCell, Array.getElem?_modify, hne, if_false]

theorem or_word (x y : UInt8) : bits BinOp.or IntKind.u16 ((x.toNat : Int) * 256) (y.toNat : Int) = ((mkW x y).toNat : Int) := by
  have hx' := x.toNat_lt
  have hy' := y.toNat_lt
  rw [mkW_nat, show ((x.toNat : Int) * 256) = ((x.toNat * 256 : Nat) : Int) by omega, u16_or_nat _ _ (by omega) (by omega), nat_join 8 _ _ (by omega) (by omega)]

set_option maxHeartbeats 400000 in
theorem number_any (b off len cap : Nat) (n : Int) (i : Nat) (x y : UInt8) (w : World) (hn : n = (i : Int)) (hi : i + 1 < len) (hlc : len ≤ maxLen)
    (hx : w.cell? ⟨b, off + i, none⟩ = some (bV x)) (hy : w.cell? ⟨b, off + (i + 1), none⟩ = some (bV y)) :
    Calls Try.prog 41 #[.slice (some ⟨b, off, none⟩) len cap, .int .i64 n] w fun e w' => e = .returned (wV (mkW x y)) ∧ ∃ nq, w' = w.drewN nq := by
  subst hn
  have hx' := x.toNat_lt
  have hy' := y.toNat_lt
  unfold maxLen at hlc
  have h1 : (i : Int) < (len : Int) := by omega
  have h2 : (i : Int) + 1 < (len : Int) := by omega
  go_enter Try.func41, Try.ntmps41
  go_wp2
  go_quiet (fail)
  go_wp2
  go_ret
  exact ⟨ret_int (or_word x y), _, rfl⟩

set_option maxHeartbeats 400000 in
theorem lay_any (b off len cap : Nat) (n m : Int) (i : Nat) (x : UInt16) (u0 u1 : Value) (w : World) (hn : n = (i : Int)) (hm : m = (x.toNat : Int)) (hi : i + 1 < len) (hlc : len ≤ maxLen)
    (hx : w.cell? ⟨b, off + i, none⟩ = some u0) (hy : w.cell? ⟨b, off + (i + 1), none⟩ = some u1)
    (fx : w.frozen? ⟨b, off + i, none⟩ = false) (fy : w.frozen? ⟨b, off + (i + 1), none⟩ = false) :
    Calls Try.prog 34 #[.slice (some ⟨b, off, none⟩) len cap, .int .i64 n, .int .u16 m] w fun e w' => e = .returned (.tuple #[]) ∧ (w.setCell ⟨b, off + i, none⟩ (bV (hiB x))).setCell ⟨b, off + (i + 1), none⟩ (bV (loB x)) = w' := by
  subst hn hm
  have hx' := x.toNat_lt
  unfold maxLen at hlc
  have h1 : (i : Int) < (len : Int) := by omega
  have h2 : (i : Int) + 1 < (len : Int) := by omega
  have e1 : ((hiB x).toNat : Int) = (x.toNat : Int) / 256 := by rw [hiB_nat]; omega
  have e2 : ((loB x).toNat : Int) = (x.toNat : Int) % 256 := by rw [loB_nat]; omega
  have H1 := Hid.out e1
  have H2 := Hid.out e2
  clear e1 e2
  rw [bV, bV, H1, H2]
  clear H1 H2
  go_enter Try.func34, Try.ntmps34
  go_wp2
  go_end0
  exact ⟨rfl, rfl⟩

theorem lay_blk (g len cap : Nat) (n m : Int) (i : Nat) (x : UInt16) (w : World) (t : TypeId) (xs : List Value) (h : Blk w g t xs) (hl : len = xs.length) (hn : n = (i : Int)) (hm : m = (x.toNat : Int)) (hi : i + 1 < len) (hlc : len ≤ maxLen) :
    Calls Try.prog 34 #[.slice (some ⟨g, 0, none⟩) len cap, .int .i64 n, .int .u16 m] w fun e w' => e = .returned (.tuple #[]) ∧ Blk w' g t ((xs.set i (bV (hiB x))).set (i + 1) (bV (loB x))) ∧ Below g w w' := by
  obtain ⟨u0, c0⟩ := h.some (0 + i) (by omega)
  obtain ⟨u1, c1⟩ := h.some (0 + (i + 1)) (by omega)
  refine (lay_any g 0 len cap n m i x u0 u1 w hn hm hi hlc c0 c1 (h.frozen _) (h.frozen _)).mono ?_
  rintro e w2 ⟨rfl, rfl⟩
  refine ⟨rfl, ?_, ((Below.refl _ _).setCell (p := ⟨g, 0 + i, none⟩) (Nat.le_refl g) _).setCell (p := ⟨g, 0 + (i + 1), none⟩) (Nat.le_refl g) _⟩
  have := (h.set (0 + i) (bV (hiB x))).set (0 + (i + 1)) (bV (loB x))
  simpa using this

def getOk (bs : List UInt8) (n : Int) : Bool := decide (0 ≤ n ∧ n + 2 ≤ bs.length)
def getN (bs : List UInt8) (n : Int) : Int := if 0 ≤ n ∧ n + 2 ≤ bs.length then (mkW (bs.getD n.toNat 0) (bs.getD (n.toNat + 1) 0)).toNat else 0

set_option maxHeartbeats 400000 in
theorem get_any (v : Value) (bs : List UInt8) (n : Int) (w : World) (hn : -9223372036854775808 ≤ n ∧ n ≤ 9223372036854775807) (hv : Row w v (bs.map bV)) :
    Calls Try.prog 36 #[v, .int .i64 n] w fun e w' => e = .returned (.tuple #[.int .i64 (getN bs n), .bool (getOk bs n)]) ∧ ∃ nq, w' = w.drewN nq := by
  obtain ⟨a, cap, rfl, -⟩ := id hv
  obtain ⟨hl, hc, hm, hcell⟩ := hv.at
  simp only [List.length_map] at hl hc ⊢
  by_cases h : 0 ≤ n ∧ n + 2 ≤ bs.length
  · obtain ⟨b, off, rfl, hcl⟩ := hcell n.toNat 0 (by simp; omega)
    have hm' : bs.length ≤ maxLen := by omega
    have c0 := hcl n.toNat (by simp; omega)
    have c1 := hcl (n.toNat + 1) (by simp; omega)
    have ok : getOk bs n = true := by simp [getOk]; omega
    have gn : getN bs n = (mkW (bs.getD n.toNat 0) (bs.getD (n.toNat + 1) 0)).toNat := by simp [getN, h]
    rw [ok, gn]
    obtain ⟨g1, g2⟩ := h
    clear hcell hcl hv ok gn
    unfold maxLen at hm hm'
    have hmx := hm'
    generalize bs.getD n.toNat 0 = x at *
    generalize bs.getD (n.toNat + 1) 0 = y at *
    have hw := (mkW x y).toNat_lt
    have t1 : ¬ n < 0 := by omega
    have t2 : ¬ (bs.length : Int) - 2 < n := by omega
    go_enter Try.func36, Try.ntmps36
    go_wp2_with (go_at_call 41; refine (number_any b off _ _ n n.toNat x y _ (by omega) (by omega) (by unfold maxLen; omega) c0 c1).mono ?_; rintro e w' ⟨rfl, nq, rfl⟩)
    go_ret2
    exact ⟨rfl, nq, rfl⟩
  · have ok : getOk bs n = false := by simp [getOk]; omega
    have gn : getN bs n = 0 := by simp [getN]; omega
    rw [ok, gn]
    clear hcell hv ok gn
    unfold maxLen at hm
    have hmx : bs.length ≤ 9223372036854775807 := by omega
    by_cases t1 : n < 0
    · go_enter Try.func36, Try.ntmps36
      go_wp2
      go_ret2
      exact ⟨rfl, 0, rfl⟩
    · have t2 : (bs.length : Int) - 2 < n := by omega
      go_enter Try.func36, Try.ntmps36
      go_wp2
      go_ret2
      exact ⟨rfl, 0, rfl⟩

end Go.Proofs.Ytejcigeccmfeeaa

namespace Go.Proofs.Ytejcigeccmfeeaa

structure Ms where
  id : Int
  unit : Int
  pdu : List UInt8
structure Sm where
  wait : List UInt8
  shut : Bool
  out : List Ms

def soundB (b : List UInt8) : Bool := decide (getN b 2 = 0) && decide (2 ≤ getN b 4) && decide (getN b 4 ≤ 254)
def wholeB (b : List UInt8) : Bool := getOk b 4 && decide ((b.length : Int) = 6 + getN b 4)
def badB (b : List UInt8) : Bool := decide (b.length = 6) && !soundB b
def msgOf (b : List UInt8) : Ms := ⟨getN b 0, ((b.getD 6 0).toNat : Int), b.drop 7⟩
def smStep (s : Sm) (x : UInt8) : Sm :=
  if s.shut = true then s
  else if badB (s.wait ++ [x]) = true then ⟨[], true, s.out⟩
  else if wholeB (s.wait ++ [x]) = true then ⟨[], false, s.out ++ [msgOf (s.wait ++ [x])]⟩
  else ⟨s.wait ++ [x], false, s.out⟩
def smRun (s : Sm) (bs : List UInt8) : Sm := bs.foldl smStep s

theorem smRun_nil (s : Sm) : smRun s [] = s := rfl
theorem smRun_app (s : Sm) (a b : List UInt8) : smRun s (a ++ b) = smRun (smRun s a) b := by simp [smRun]
theorem smRun_one (s : Sm) (a : List UInt8) (x : UInt8) : smRun s (a ++ [x]) = smStep (smRun s a) x := by simp [smRun]
theorem smStep_shut (s : Sm) (x : UInt8) (h : s.shut = true) : smStep s x = s := by simp [smStep, h]
theorem smRun_shut (s : Sm) (h : s.shut = true) : ∀ b, smRun s b = s
  | [] => rfl
  | x :: b => by
    show smRun (smStep s x) b = s
    rw [smStep_shut s x h]; exact smRun_shut s h b
theorem smStep_bad {w : List UInt8} {o : List Ms} {x : UInt8} (h : badB (w ++ [x]) = true) : smStep ⟨w, false, o⟩ x = ⟨[], true, o⟩ := by simp [smStep, h]
theorem smStep_whole {w : List UInt8} {o : List Ms} {x : UInt8} (h : badB (w ++ [x]) = false) (h2 : wholeB (w ++ [x]) = true) : smStep ⟨w, false, o⟩ x = ⟨[], false, o ++ [msgOf (w ++ [x])]⟩ := by simp [smStep, h, h2]
theorem smStep_wait {w : List UInt8} {o : List Ms} {x : UInt8} (h : badB (w ++ [x]) = false) (h2 : wholeB (w ++ [x]) = false) : smStep ⟨w, false, o⟩ x = ⟨w ++ [x], false, o⟩ := by simp [smStep, h, h2]

/-- what came ahead is told ahead -/
theorem smStep_out (s : Sm) (p : List Ms) (x : UInt8) : smStep ⟨s.wait, s.shut, p ++ s.out⟩ x = ⟨(smStep s x).wait, (smStep s x).shut, p ++ (smStep s x).out⟩ := by
  unfold smStep
  simp only
  split
  · rfl
  · split
    · rfl
    · split
      · simp
      · rfl
theorem smRun_out (p : List Ms) : ∀ (b : List UInt8) (s : Sm), smRun ⟨s.wait, s.shut, p ++ s.out⟩ b = ⟨(smRun s b).wait, (smRun s b).shut, p ++ (smRun s b).out⟩
  | [], _ => rfl
  | x :: b, s => by
    show smRun (smStep _ x) b = _
    rw [smStep_out]
    exact smRun_out p b (smStep s x)

/-- bytes that a stream may keep -/
def OkW (w : List UInt8) : Prop := ∀ o, smRun ⟨[], false, o⟩ w = ⟨w, false, o⟩
theorem OkW.nil : OkW [] := fun _ => rfl
theorem OkW.run {w : List UInt8} (h : OkW w) (o : List Ms) (b : List UInt8) : smRun ⟨w, false, o⟩ b = smRun ⟨[], false, o⟩ (w ++ b) := by rw [smRun_app, h o]
theorem OkW.step {w : List UInt8} (h : OkW w) (x : UInt8) (o : List Ms) : OkW (smStep ⟨w, false, o⟩ x).wait := by
  cases hb : badB (w ++ [x])
  · cases hw : wholeB (w ++ [x])
    · rw [smStep_wait hb hw]
      intro o'
      rw [smRun_one, h o', smStep_wait hb hw]
    · rw [smStep_whole hb hw]; exact OkW.nil
  · rw [smStep_bad hb]; exact OkW.nil
theorem OkW.many : ∀ (b : List UInt8) (s : Sm), OkW s.wait → OkW (smRun s b).wait
  | [], _, h => h
  | x :: b, s, h => by
    show OkW (smRun (smStep s x) b).wait
    refine OkW.many b _ ?_
    obtain ⟨w, c, o⟩ := s
    cases c
    · exact h.step x o
    · rw [smStep_shut _ _ rfl]; exact h

theorem getN_app (a b : List UInt8) (n : Int) (h : n + 2 ≤ a.length) : getN (a ++ b) n = getN a n := by
  unfold getN
  by_cases h0 : 0 ≤ n
  · rw [if_pos ⟨h0, by simp; omega⟩, if_pos ⟨h0, h⟩]
    have e1 : (a ++ b).getD n.toNat 0 = a.getD n.toNat 0 := by rw [List.getD_eq_getElem?_getD, List.getElem?_append_left (by omega), ← List.getD_eq_getElem?_getD]
    have e2 : (a ++ b).getD (n.toNat + 1) 0 = a.getD (n.toNat + 1) 0 := by rw [List.getD_eq_getElem?_getD, List.getElem?_append_left (by omega), ← List.getD_eq_getElem?_getD]
    rw [e1, e2]
  · rw [if_neg (fun h => h0 h.1), if_neg (fun h => h0 h.1)]
theorem getN_nn (b : List UInt8) (n : Int) : 0 ≤ getN b n := by unfold getN; split <;> omega
theorem getN_le (b : List UInt8) (n : Int) : getN b n ≤ 65535 := by
  unfold getN
  split
  · have := (mkW (b.getD n.toNat 0) (b.getD (n.toNat + 1) 0)).toNat_lt; omega
  · omega

/-- bytes that come to no end of a message wait -/
theorem run_wait (o : List Ms) : ∀ (t w : List UInt8), (∀ k, k < t.length → badB (w ++ t.take (k + 1)) = false ∧ wholeB (w ++ t.take (k + 1)) = false) → smRun ⟨w, false, o⟩ t = ⟨w ++ t, false, o⟩
  | [], w, _ => by simp [smRun]
  | x :: t, w, h => by
    have h0 := h 0 (by simp)
    simp only [Nat.zero_add, List.take_succ_cons, List.take_zero] at h0
    show smRun (smStep _ x) t = _
    rw [smStep_wait h0.1 h0.2, run_wait o t (w ++ [x]) (fun k hk => by
      have := h (k + 1) (by simp; omega)
      simpa using this)]
    simp

theorem run_short (o : List Ms) (B : List UInt8) (h : B.length < 6) : smRun ⟨[], false, o⟩ B = ⟨B, false, o⟩ := by
  have := run_wait o B [] (fun k hk => by
    simp only [List.nil_append]
    have hl : (B.take (k + 1)).length = k + 1 := by simp; omega
    constructor
    · unfold badB; rw [hl]; simp; omega
    · unfold wholeB getOk; rw [hl]; simp; omega)
  simpa using this

theorem run_bad (o : List Ms) (B : List UInt8) (h : 6 ≤ B.length) (hs : soundB B = false) : smRun ⟨[], false, o⟩ B = ⟨[], true, o⟩ := by
  have e : B = (B.take 5 ++ [B[5]]) ++ B.drop 6 := by
    rw [← List.take_succ_eq_append_getElem]; simp
  have e6 : B.take 6 = B.take 5 ++ [B[5]] := by rw [← List.take_succ_eq_append_getElem]
  have hs6 : soundB (B.take 6) = false := by
    rw [← hs]
    have hh := List.take_append_drop 6 B
    have hl : (B.take 6).length = 6 := by simp; omega
    unfold soundB
    rw [← getN_app (B.take 6) (B.drop 6) 2 (by omega), ← getN_app (B.take 6) (B.drop 6) 4 (by omega), hh]
  rw [e, smRun_app, smRun_one, run_short o _ (by simp; omega), smStep_bad (by unfold badB; rw [← e6, hs6]; simp; omega)]
  exact smRun_shut _ rfl _

theorem sound_bounds {B : List UInt8} (h : soundB B = true) : getN B 2 = 0 ∧ 2 ≤ getN B 4 ∧ getN B 4 ≤ 254 := by
  unfold soundB at h; simpa [and_assoc] using h
theorem pre_get (B : List UInt8) (k : Nat) (n : Int) (h : n + 2 ≤ k) (hk : k ≤ B.length) : getN (B.take k) n = getN B n := by
  have := getN_app (B.take k) (B.drop k) n (by simp; omega)
  rw [List.take_append_drop] at this
  exact this.symm
theorem pre_sound (B : List UInt8) (k : Nat) (h : 6 ≤ k) (hk : k ≤ B.length) : soundB (B.take k) = soundB B := by
  unfold soundB; rw [pre_get B k 2 (by omega) hk, pre_get B k 4 (by omega) hk]
theorem pre_bad (B : List UInt8) (k : Nat) (hk : k ≤ B.length) (hs : soundB B = true) : badB (B.take k) = false := by
  unfold badB
  by_cases h : k = 6
  · subst h; rw [pre_sound B 6 (by omega) hk, hs]; simp
  · have : (B.take k).length = k := by simp; omega
    rw [this]; simp [h]
theorem pre_whole (B : List UInt8) (k : Nat) (hk : k ≤ B.length) (h : 6 ≤ k → (k : Int) ≠ 6 + getN B 4) : wholeB (B.take k) = false := by
  have hl : (B.take k).length = k := by simp; omega
  unfold wholeB getOk
  rw [hl]
  by_cases h6 : 6 ≤ k
  · rw [pre_get B k 4 (by omega) hk]
    simp [h h6]
  · simp; omega

theorem run_part (o : List Ms) (B : List UInt8) (hs : soundB B = true) (h2 : (B.length : Int) < 6 + getN B 4) : smRun ⟨[], false, o⟩ B = ⟨B, false, o⟩ := by
  have := run_wait o B [] (fun k hk => by
    simp only [List.nil_append]
    exact ⟨pre_bad B _ (by omega) hs, pre_whole B _ (by omega) (fun _ => by omega)⟩)
  simpa using this

theorem run_msg (o : List Ms) (B : List UInt8) (n : Nat) (hs : soundB B = true) (hn : getN B 4 = (n : Int)) (h2 : 6 + n ≤ B.length) :
    smRun ⟨[], false, o⟩ B = smRun ⟨[], false, o ++ [msgOf (B.take (6 + n))]⟩ (B.drop (6 + n)) := by
  obtain ⟨-, h3, h4⟩ := sound_bounds hs
  have hlt : 5 + n < B.length := by omega
  have e1 : B.take (6 + n) = B.take (5 + n) ++ [B[5 + n]] := by
    rw [show 6 + n = 5 + n + 1 by omega, ← List.take_succ_eq_append_getElem hlt]
  have e : B = (B.take (5 + n) ++ [B[5 + n]]) ++ B.drop (6 + n) := by rw [← e1]; simp
  have hw : smRun ⟨[], false, o⟩ (B.take (5 + n)) = ⟨B.take (5 + n), false, o⟩ := by
    have := run_wait o (B.take (5 + n)) [] (fun k hk => by
      simp only [List.nil_append]
      have hk' : k + 1 ≤ 5 + n := by simp at hk; omega
      rw [List.take_take, Nat.min_eq_left hk']
      exact ⟨pre_bad B _ (by omega) hs, pre_whole B _ (by omega) (fun _ => by omega)⟩)
    simpa using this
  have hwh : wholeB (B.take (6 + n)) = true := by
    have hl : (B.take (6 + n)).length = 6 + n := by simp; omega
    unfold wholeB getOk
    rw [hl, pre_get B (6 + n) 4 (by omega) h2, hn]
    simp; omega
  conv => lhs; rw [e]
  rw [smRun_app, smRun_one, hw, smStep_whole (by rw [← e1]; exact pre_bad B _ h2 hs) (by rw [← e1]; exact hwh), ← e1]

end Go.Proofs.Ytejcigeccmfeeaa

namespace Go.Proofs.Ytejcigeccmfeeaa
open Go.RowKit Go.ChangeShapes Go.WideShapes Go.ChangeAt Go.Deep

/-- a list of rows of bytes -/
def RowsB (w : World) (v : Value) (xss : List (List UInt8)) : Prop :=
  ∃ vs, Row w v vs ∧ vs.length = xss.length ∧ ∀ i, i < xss.length → ∃ u, vs[i]? = some u ∧ Row w u ((xss.getD i []).map bV)
theorem RowsB.ext {w w' : World} {v : Value} {xss : List (List UInt8)} (h : RowsB w v xss) (hb : Below w.heap.size w w') : RowsB w' v xss := by
  obtain ⟨vs, h1, h2, h3⟩ := h
  refine ⟨vs, h1.below hb, h2, fun i hi => ?_⟩
  obtain ⟨u, e, o⟩ := h3 i hi
  exact ⟨u, e, o.below hb⟩
/-- the slice, and what lies at each place -/
theorem RowsB.at {w : World} {v : Value} {xss : List (List UInt8)} (h : RowsB w v xss) : ∃ a cap, v = .slice a xss.length cap ∧ xss.length ≤ cap ∧ cap ≤ maxLen ∧
    ∀ i, i < xss.length → ∃ b off, a = some ⟨b, off, none⟩ ∧ ∀ j, j < xss.length → ∃ u, w.cell? ⟨b, off + j, none⟩ = some u ∧ Row w u ((xss.getD j []).map bV) := by
  obtain ⟨vs, ⟨a, cap, rfl, h1, h2, -, h4⟩, hl, h3⟩ := h
  rw [hl] at h1 h4 ⊢
  refine ⟨a, cap, rfl, h1, h2, fun i hi => ?_⟩
  rcases h4 with rfl | ⟨b, off, rfl, hc⟩
  · simp at hl; omega
  · refine ⟨b, off, rfl, fun j hj => ?_⟩
    obtain ⟨u, e, o⟩ := h3 j hj
    exact ⟨u, by rw [hc j hj, e], o⟩

theorem open_int64s {H : Type} {enc : TypeId × Value → H} {P : Program} {w : World} {base : Nat} {held : Bool} {t e : TypeId} {a : Option Addr} {len cap : Nat} {d : DataW H} {p : List MemPlace} (ht : P.underlying t = some (.slice e)) (he : P.underlying e = some (.int .i64)) (hc : P.cellsOf e = 1)
    (h : DataW.Trod enc P w base (fun _ => true) held t (.slice a len cap) d p) : ∃ xs : List Int, Row w (.slice a len cap) (xs.map (Value.int .i64)) ∧ lenIs d xs.length ∧ ∀ n ∈ xs, -9223372036854775808 ≤ n ∧ n ≤ 9223372036854775807 := by
  obtain ⟨zs, hr, hd, hw⟩ := open_row ht he hc h
  exact ⟨zs, hr, hd, fun n hn => bounds_i64 (hw n hn)⟩
theorem mem_getD {xs : List Int} {lo hi : Int} (h : ∀ n ∈ xs, lo ≤ n ∧ n ≤ hi) : ∀ i, i < xs.length → lo ≤ xs.getD i 0 ∧ xs.getD i 0 ≤ hi := fun i hi => by
  rw [List.getD_eq_getElem?_getD, List.getElem?_eq_getElem hi]; exact h _ (List.getElem_mem hi)

theorem open_rows8 {H : Type} {enc : TypeId × Value → H} {P : Program} {w : World} {base : Nat} {held : Bool} {t e q : TypeId} {a : Option Addr} {len cap : Nat} {d : DataW H} {p : List MemPlace} (ht : P.underlying t = some (.slice e)) (he : P.underlying e = some (.slice q)) (hq : P.underlying q = some (.int .u8)) (ce : P.cellsOf e = 1) (cq : P.cellsOf q = 1)
    (h : DataW.Trod enc P w base (fun _ => true) held t (.slice a len cap) d p) : ∃ xss : List (List UInt8), RowsB w (.slice a len cap) xss ∧ lenIs d xss.length := by
  obtain ⟨fuel, hf⟩ := h
  rcases open_slice1 ht ce hf with ⟨hcs, hx⟩ | ⟨a', len', cap', m, n, V, D, Pl, hcs, hb, hl, hm, hmm, hx0, hx⟩
  · simp [Value.cells] at hcs
    obtain ⟨rfl, rfl, rfl⟩ := hcs
    simp only [Prod.mk.injEq] at hx
    exact ⟨[], ⟨[], Row.nil w, rfl, fun i hi => by simp at hi⟩, .inl ⟨hx.1, rfl⟩⟩
  · simp [Value.cells] at hcs
    obtain ⟨rfl, rfl, rfl⟩ := hcs
    simp only [if_true] at hmm
    subst hmm
    have each : ∀ r, r < m → ∃ xs : List UInt8, Row w (V r) (xs.map bV) := by
      intro r hr
      have h2 := (hx r hr).2
      have hV : ∃ a l c, V r = .slice a l c := by
        rcases open_ints he hq cq h2 with ⟨hcs, -⟩ | ⟨x, l, c, zs, hcs, -⟩
        · exact ⟨none, 0, 0, by simpa using hcs⟩
        · exact ⟨some x, l, c, by simpa using hcs⟩
      obtain ⟨a2, l2, c2, e2⟩ := hV
      rw [e2] at h2 ⊢
      obtain ⟨xs, h3, -⟩ := open_u8s he hq cq ⟨n, h2⟩
      exact ⟨xs, h3⟩
    obtain ⟨y, hy⟩ := choose_lt each
    simp only [Prod.mk.injEq] at hx0
    have hV : Row w (.slice (some a') len m) ((List.range len).map V) := Row.of_cells hl hm (by simp) (fun i hi => by
      rw [(hx i (by omega)).1]; simp [hi])
    refine ⟨(List.range len).map y, ⟨(List.range len).map V, hV, by simp, fun i hi => ?_⟩, .inr ⟨_, _, hx0.1, by simp⟩⟩
    have hi' : i < len := by simpa using hi
    refine ⟨V i, by simp [hi'], ?_⟩
    have e : ((List.range len).map y).getD i [] = y i := by simp [List.getD_eq_getElem?_getD, hi']
    rw [e]
    exact hy i (by omega)

end Go.Proofs.Ytejcigeccmfeeaa

namespace Go.Proofs.Ytejcigeccmfeeaa
open Go.RowKit

set_option maxHeartbeats 1000000 in
theorem grow_nil (n : Int) (k : Nat) (w : World) (hn : n = (k : Int)) (h0 : 0 < k) (h1 : k ≤ 140737488355328) :
    Calls Try.prog 35 #[.slice none 0 0, .int .i64 n] w fun e w' => ∃ v', e = .returned v' ∧ w'.ownsRow w.heap.size 5 1 v' 0 [] ∧ Below w.heap.size w w' := by
  subst hn
  obtain ⟨i, hi, hz, hsz, hby⟩ := info_parts info_u8
  have hrz : ∀ ty, (Builtin.append_ #[27, 3] ty #[.slice none 0 0, .int .i64 (k : Int)]).run Try.prog w = _ := fun ty => Lib.run_append_nil_zeros w 27 3 ty 5 i _ .i64 .i64 Try.underlying27 Try.underlying3 hi hz k h0 (by omega) (by omega) (by rw [hby]; omega)
  have hGn : k ≤ grownCap w k 0 5 := grownCap_ge w _ _ _
  have hG63 := grownCap_le_maxLen w k 0 5 (by unfold maxLen; omega)
  unfold maxLen at hG63
  have hB : Hid (∀ o, Below w.heap.size w (w.drew.alloc o)) := fun o => (Below.refl w.heap.size w).drew.alloc (Nat.le_refl _) o
  have hO : Hid (∀ C : Array Value, C.size = grownCap w k 0 5 → (w.drew.alloc (.cells C 5)).ownsRow w.heap.size 5 1 (.slice (some ⟨w.heap.size, 0, none⟩) 0 (grownCap w k 0 5)) 0 []) := fun C hC =>
    ⟨rfl, .inr ⟨w.heap.size, _, C, rfl, Nat.le_refl _, heap_alloc_new w.drew _, Nat.zero_le _, by unfold maxLen; omega, by omega, by simp⟩⟩
  have hS : Hid (∀ G, k ≤ G → (Builtin.zeroCells (Value.int .u8 0).cells k ++ Builtin.zeroCells (Value.int .u8 0).cells (G - k)).size = G) := fun G hG => by
    simp [Builtin.zeroCells, Value.cells]; omega
  generalize grownCap w k 0 5 = G at *
  have t1 : ¬ ((k : Int) < 0) := by omega
  have t2 : (0 : Int) < (k : Int) := by omega
  have HG := hidden hGn
  go_enter Try.func35, Try.ntmps35
  go_wp2_with (at_builtin; refine Lib.wpList_append_run _ rfl _ _ _ _ rfl _ _ rfl rfl _ _ (hrz _) ?_)
  go_ret
  exact ⟨_, rfl, hO.out _ (hS.out _ HG.out), hB.out _⟩

/-- the first k rows, one behind the other -/
def flatTo (xss : List (List UInt8)) (k : Nat) : List UInt8 := (xss.take k).flatten
theorem flat_all (xss : List (List UInt8)) : flatTo xss xss.length = xss.flatten := by simp [flatTo]
theorem flat_take (xss : List (List UInt8)) (k : Nat) (h : k < xss.length) : flatTo xss (k + 1) = flatTo xss k ++ xss.getD k [] := by
  unfold flatTo
  rw [List.take_succ_eq_append_getElem h, List.flatten_append]; simp [List.getD_eq_getElem?_getD, h]
theorem flat_le (xss : List (List UInt8)) (k : Nat) : (flatTo xss k).length ≤ (flatTo xss xss.length).length := by
  rw [flat_all]
  have := congrArg (fun l => l.flatten.length) (List.take_append_drop k xss)
  simp only [List.flatten_append, List.length_append] at this
  unfold flatTo
  omega

set_option maxHeartbeats 1000000 in
theorem concat_any (g : Nat) (vs : List Value) (xss : List (List UInt8)) (w : World) (hg : Blk w g 27 vs) (hl : vs.length = xss.length) (hr : ∀ i, i < vs.length → ∃ v, vs[i]? = some v ∧ Row w v ((xss.getD i []).map bV)) (h0 : 0 < (flatTo xss xss.length).length) (h1 : (flatTo xss xss.length).length ≤ 1000000) (h2 : vs.length ≤ 1000) :
    Calls Try.prog 25 #[.slice (some ⟨g, 0, none⟩) vs.length vs.length] w fun e w' => ∃ v', e = .returned v' ∧ Row w' v' ((flatTo xss xss.length).map bV) ∧ Below w.heap.size w w' := by
  have hlt := hg.lt
  have HR := hidden hr
  have HL := hidden hl
  have FL := hidden (flat_le xss)
  have FT := hidden (flat_take xss)
  clear hr hl
  generalize hn : vs.length = n at *
  have HN := hidden hn
  clear hn
  go_enter Try.func25, Try.ntmps25
  go_wp2
  go_loopw [3, 11] (fun z i wr => ∃ k : Nat, k ≤ n ∧ i = .int .i64 k ∧ z = .int .i64 ((flatTo xss k).length : Nat) ∧ w = wr) (fun _ i _ => n - (intOf i).toNat)
  case atStart => exact ⟨0, Nat.zero_le _, rfl, by simp [flatTo], rfl⟩
  case round =>
    obtain ⟨k, hk, rfl, rfl, rfl⟩ := hrel
    by_cases hkn : k < n
    · obtain ⟨v, e1, e2⟩ := HR.out k hkn
      obtain ⟨a, cap, rfl, -⟩ := e2
      have c0 : w.cell? ⟨g, k, none⟩ = _ := (hg.cell k).trans e1
      have S := FT.out k (by have := HL.out; omega)
      have Le := FL.out k
      have Le2 := FL.out (k + 1)
      rw [S, List.length_append] at Le2
      have S2 := hidden S
      clear e1 S
      simp only [List.length_map] at c0
      generalize xss.getD k [] = y at *
      generalize flatTo xss k = ys at *
      have u1 : ¬ ((ys.length : Int) + (y.length : Int) < 0) := by omega
      have hkn' : (k : Int) < (n : Int) := by omega
      go_wp2
      go_roundw
      case rel =>
        refine ⟨k + 1, by omega, by go_num, ?_, trivial⟩
        rw [S2.out, List.length_append]; simp
      case measure => simp [intOf]; omega
    · obtain rfl : k = n := by omega
      have HL' := HL.out
      rw [← HL'] at h0 h1
      have T := hidden HL'
      clear HL'
      have S3 : ((flatTo xss k).length : Int) < 1000001 := by omega
      have hkn' : ¬ (k : Int) < (k : Int) := by omega
      clear hkn
      go_wp2_with fail
      refine (grow_nil _ (flatTo xss k).length _ rfl h0 (by omega)).mono ?_
      rintro e w1 ⟨v1, rfl, ho1, b1⟩
      go_wp2
      go_loopw [6, 27] (fun z i wr => ∃ j : Nat, j ≤ k ∧ i = .int .i64 j ∧ wr.ownsRow w.heap.size 5 1 z (flatTo xss j).length ((flatTo xss j).map bV) ∧ Below w.heap.size w wr) (fun _ i _ => k - (intOf i).toNat)
      case atStart => exact ⟨0, Nat.zero_le _, rfl, by simpa [flatTo] using ho1, b1⟩
      case round =>
        obtain ⟨j, hj, rfl, ho, hb⟩ := hrel
        clear ho1 b1
        by_cases hjn : j < k
        · obtain ⟨v, e1, e2⟩ := HR.out j hjn
          have R2 := e2.below hb
          obtain ⟨a, cap, rfl, -⟩ := e2
          have c0 : wr.cell? ⟨g, j, none⟩ = _ := ((hg.below hb hlt).cell j).trans e1
          have S := FT.out j (by have := HL.out; omega)
          have Le := FL.out j
          have Le2 := FL.out (j + 1)
          rw [← T.out] at Le Le2
          rw [S, List.length_append] at Le2
          have S2 := hidden S
          clear e1 S
          simp only [List.length_map] at c0 R2
          generalize xss.getD j [] = y at *
          generalize flatTo xss j = ys at *
          have hjn' : (j : Int) < (k : Int) := by omega
          have hsz := hb.size
          go_wp2_with (at_builtin; refine wpList_app rfl (.tmp 31) (.tmp 32) 27 rfl w.heap.size 5 (.int .u8 0) 1 Try.underlying27 info_u8 rfl rfl ho rfl R2 ?k0 ?k1 ?k2 ?k3 ?_)
          case k0 => exact one_bytes y
          case k1 => simp [maxLen]; omega
          case k2 => simp; omega
          case k3 => exact hsz
          intro v2 w2 ho2 hg2
          have q := hb.grown hg2 hsz (fun k hk => (ho.lt k hk).1)
          go_wp2
          go_roundw
          case rel =>
            refine ⟨j + 1, by omega, by go_num, ?_, q⟩
            rw [S2.out, List.length_append]
            simpa using ho2
          case measure => simp [intOf]; omega
        · obtain rfl : j = k := by omega
          have hjn' : ¬ (j : Int) < (j : Int) := by omega
          clear hjn
          go_wp2
          go_ret
          rw [← T.out]
          exact ⟨_, rfl, Row.of_owns ho, hb⟩

end Go.Proofs.Ytejcigeccmfeeaa

namespace Go.Proofs.Ytejcigeccmfeeaa
open Go.RowKit

/-- memory in which no more than the blocks of F have changed -/
structure Kp (F : Nat → Prop) (w w' : World) : Prop where
  os : w'.os = w.os
  tape : w'.tape = w.tape
  output : w'.output = w.output
  size : w.heap.size ≤ w'.heap.size
  block : ∀ k, k < w.heap.size → ¬ F k → w'.heap[k]? = w.heap[k]?
theorem Kp.refl (F : Nat → Prop) (w : World) : Kp F w w := ⟨rfl, rfl, rfl, Nat.le_refl _, fun _ _ _ => rfl⟩
theorem Kp.of_below {F : Nat → Prop} {w w' : World} (h : Below w.heap.size w w') : Kp F w w' := ⟨h.os, h.tape, h.output, h.size, fun k hk _ => h.block k hk⟩
theorem Kp.then {F F' : Nat → Prop} {a b c : World} (h : Kp F a b) (k : Kp F' b c) (hf : ∀ i, i < a.heap.size → F' i → F i) : Kp F a c :=
  ⟨k.os.trans h.os, k.tape.trans h.tape, k.output.trans h.output, Nat.le_trans h.size k.size, fun i h1 h2 => (k.block i (Nat.lt_of_lt_of_le h1 h.size) (fun x => h2 (hf i h1 x))).trans (h.block i h1 h2)⟩
theorem Kp.ext {F : Nat → Prop} {a b c : World} (h : Kp F a b) (k : Below b.heap.size b c) : Kp F a c := h.then (Kp.of_below (F := F) k) (fun _ _ h => h)
theorem Kp.below {F : Nat → Prop} {a b : World} (h : Kp F a b) (B : Nat) (hB : B ≤ a.heap.size) (hF : ∀ k, F k → B ≤ k) : Below B a b :=
  ⟨h.os, h.tape, h.output, h.size, fun k hk => h.block k (by omega) (fun x => by have := hF k x; omega)⟩
theorem Kp.grown {F : Nat → Prop} {a b c : World} {row : Option Nat} (h : Kp F a b) (hg : b.grownBy c row) (hr : ∀ k, k < a.heap.size → row = some k → F k) : Kp F a c := by
  refine ⟨hg.os.trans h.os, hg.tape.trans h.tape, hg.output.trans h.output, Nat.le_trans h.size hg.size, fun i h1 h2 => ?_⟩
  rw [← h.block i h1 h2]
  exact hg.block i (Nat.lt_of_lt_of_le h1 h.size) (fun e => h2 (hr i h1 (by simp [e])))
theorem Kp.set {F : Nat → Prop} {a b : World} (h : Kp F a b) {p : Addr} (hp : p.block < a.heap.size → F p.block) (v : Value) : Kp F a (b.setCell p v) :=
  ⟨h.os, h.tape, h.output, by simpa [World.setCell] using h.size, fun k hk hF => by
    rw [← h.block k hk hF]
    have : p.block ≠ k := fun e => hF (e ▸ hp (e ▸ hk))
    simp [World.setCell, Array.getElem?_modify, this]⟩
theorem Blk.kp {F : Nat → Prop} {w w' : World} {g : Nat} {e : TypeId} {xs : List Value} (h : Blk w g e xs) (k : Kp F w w') (hF : ¬ F g) : Blk w' g e xs := (k.block g h.lt hF).trans h
/-- a row that lies in none of the blocks -/
def Off (F : Nat → Prop) (v : Value) : Prop := ∀ k, v.ownBlock = some k → ¬ F k
theorem Off.nil (F : Nat → Prop) (n c : Nat) : Off F (.slice none n c) := fun _ h => by cases h
theorem Off.sub {F F' : Nat → Prop} {v : Value} (h : Off F v) (hs : ∀ k, F' k → F k) : Off F' v := fun k hk x => h k hk (hs k x)
theorem Row.lt {w : World} {b off n c : Nat} {xs : List Value} (h : Row w (.slice (some ⟨b, off, none⟩) n c) xs) (h0 : 0 < xs.length) : b < w.heap.size := by
  obtain ⟨a, cap, e, -, -, -, h3⟩ := h
  rcases h3 with rfl | ⟨b', off', e2, hc⟩
  · simp at h0
  · simp only [Value.slice.injEq] at e
    rw [← e.1, Option.some.injEq] at e2
    cases e2
    have := hc 0 h0
    rw [List.getElem?_eq_getElem h0] at this
    exact lt_of_cell this
theorem Row.kp {F : Nat → Prop} {w w' : World} {v : Value} {xs : List Value} (h : Row w v xs) (k : Kp F w w') (hF : Off F v) : Row w' v xs := by
  obtain ⟨a, cap, rfl, h1, h2, h0, h3⟩ := h
  refine ⟨a, cap, rfl, h1, h2, h0, ?_⟩
  rcases h3 with h3 | ⟨b, off, rfl, hc⟩
  · exact .inl h3
  · refine .inr ⟨b, off, rfl, fun i hi => ?_⟩
    have := hc i hi
    have hlt : b < w.heap.size := by
      rw [List.getElem?_eq_getElem hi] at this
      exact lt_of_cell this
    rw [← this]
    exact World.cell?_of_block (a := ⟨b, off + i, none⟩) (k.block b hlt (hF b rfl))
theorem owns_lt {w : World} {base : Nat} {e : TypeId} {s : Nat} {v : Value} {n : Nat} {xs : List Value} (h : w.ownsRow base e s v n xs) {k : Nat} (hk : v.ownBlock = some k) : base ≤ k ∧ k < w.heap.size := h.lt k hk
theorem owns_kp {F : Nat → Prop} {w w' : World} {base : Nat} {e : TypeId} {s : Nat} {v : Value} {n : Nat} {xs : List Value} (h : w.ownsRow base e s v n xs) (k : Kp F w w') (hF : Off F v) : w'.ownsRow base e s v n xs := by
  refine ⟨h.1, ?_⟩
  rcases h.2 with h2 | ⟨g, cap, cur, rfl, hb, hg, rest⟩
  · exact .inl h2
  · exact .inr ⟨g, cap, cur, rfl, hb, (k.block g (Array.getElem?_eq_some_iff.1 hg).1 (hF g rfl)).trans hg, rest⟩
theorem owns_from {w : World} {base base' : Nat} {e : TypeId} {s : Nat} {v : Value} {n : Nat} {xs : List Value} (h : w.ownsRow base e s v n xs) (hb : base' ≤ base) : w.ownsRow base' e s v n xs := by
  refine ⟨h.1, ?_⟩
  rcases h.2 with hn | ⟨g, cap, cur, hv, hg, rest⟩
  · exact .inl hn
  · exact .inr ⟨g, cap, cur, hv, Nat.le_trans hb hg, rest⟩
/-- a row of another type lies elsewhere -/
theorem owns_blk {w : World} {base : Nat} {e t : TypeId} {s : Nat} {v : Value} {n g : Nat} {xs ys : List Value} (h : w.ownsRow base e s v n xs) (hb : Blk w g t ys) (he : e ≠ t) : v.ownBlock ≠ some g := by
  rcases h.2 with ⟨rfl, -⟩ | ⟨g', cap, cur, rfl, -, hg, -⟩
  · simp [Value.ownBlock]
  · intro e2
    simp only [Value.ownBlock, Option.some.injEq] at e2
    subst e2
    rw [hb] at hg
    simp at hg
    exact he hg.2.symm

abbrev ptrS (g : Nat) : Value := .pointer (some ⟨g, 0, none⟩)
/-- the blocks of a stream -/
def Ft (g : Nat) (v : Value) (k : Nat) : Prop := k = g ∨ v.ownBlock = some k
/-- block g is a stream (of type t) on which wait waits -/
structure Str (t : TypeId) (w : World) (base g : Nat) (v : Value) (wait : List UInt8) (shut : Bool) : Prop where
  blk : Blk w g t [v, .bool shut]
  own : w.ownsRow base 5 1 v wait.length (wait.map bV)
theorem Str.kp {F : Nat → Prop} {t : TypeId} {w w' : World} {base g : Nat} {v : Value} {wait : List UInt8} {shut : Bool} (h : Str t w base g v wait shut) (k : Kp F w w') (hg : ¬ F g) (hv : Off F v) : Str t w' base g v wait shut :=
  ⟨h.blk.kp k hg, owns_kp h.own k hv⟩
theorem Str.ext {t : TypeId} {w w' : World} {base g : Nat} {v : Value} {wait : List UInt8} {shut : Bool} (h : Str t w base g v wait shut) (k : Below w.heap.size w w') : Str t w' base g v wait shut :=
  ⟨h.blk.below k h.blk.lt, owns_below h.own k⟩
theorem Str.slice {t : TypeId} {w : World} {base g : Nat} {v : Value} {wait : List UInt8} {shut : Bool} (h : Str t w base g v wait shut) : ∃ a c, v = .slice a wait.length c := by
  obtain ⟨a, cap, e, -⟩ := Row.of_owns h.own
  exact ⟨a, cap, by simpa using e⟩

theorem new_any (w : World) : Calls Try.prog 14 #[] w fun e w' => e = .returned (ptrS w.heap.size) ∧ w.alloc (.cells #[.slice none 0 0, .bool false] 58) = w' := by
  go_enter Try.func14, Try.ntmps14
  go_wp2
  go_ret
  exact ⟨rfl, rfl⟩
theorem Str.new (w : World) (t : TypeId) (base : Nat) : Str t (w.alloc (.cells #[.slice none 0 0, .bool false] t)) base w.heap.size (.slice none 0 0) [] false :=
  ⟨Blk.new w t [.slice none 0 0, .bool false], World.ownsRow_nil _ _ _ _⟩

theorem closed_any (g : Nat) (v : Value) (b : Bool) (w : World) (h : Blk w g 58 [v, .bool b]) :
    Calls Try.prog 16 #[ptrS g] w fun e w' => e = .returned (.bool b) ∧ w = w' := by
  have c1 : w.cell? ⟨g, 1, none⟩ = some (.bool b) := h.cell 1
  clear h
  go_enter Try.func16, Try.ntmps16
  go_wp2
  go_ret
  exact ⟨rfl, rfl⟩
theorem len_any (g : Nat) (a : Option Addr) (n c : Nat) (b : Value) (w : World) (h : Blk w g 58 [.slice a n c, b]) :
    Calls Try.prog 17 #[ptrS g] w fun e w' => e = .returned (.int .i64 n) ∧ w = w' := by
  have c1 : w.cell? ⟨g, 0, none⟩ = some (.slice a n c) := h.cell 0
  clear h
  go_enter Try.func17, Try.ntmps17
  go_wp2
  go_ret
  exact ⟨rfl, rfl⟩
theorem open_any (g : Nat) (v : Value) (b : Bool) (w : World) (h : Blk w g 58 [v, .bool b]) :
    Calls Try.prog 18 #[ptrS g] w fun e w' => e = .returned (.tuple #[]) ∧ w.setCell ⟨g, 1, none⟩ (.bool false) = w' := by
  have c1 : w.cell? ⟨g, 1, none⟩ = some (.bool b) := h.cell 1
  have f1 := h.frozen 1
  clear h
  go_enter Try.func18, Try.ntmps18
  go_wp2
  go_end0
  exact ⟨rfl, rfl⟩

set_option maxHeartbeats 1000000 in
theorem sound_any (v : Value) (bs : List UInt8) (w : World) (hv : Row w v (bs.map bV)) :
    Calls Try.prog 27 #[v] w fun e w' => e = .returned (.bool (soundB bs)) ∧ ∃ nq, w' = w.drewN nq := by
  have C2 := hidden (get_any v bs 2 w (by decide) hv)
  have C4 := hidden (fun nq => get_any v bs 4 (w.drewN nq) (by decide) (hv.drewN nq))
  have e : soundB bs = ((getN bs 2 == 0) && decide (2 ≤ getN bs 4) && decide (getN bs 4 ≤ 254)) := by unfold soundB; congr 1
  rw [e]
  clear e hv
  generalize getN bs 2 = z at *
  generalize getN bs 4 = n at *
  generalize getOk bs 2 = k2 at *
  generalize getOk bs 4 = k4 at *
  cases h0 : (z == 0)
  · have t0 := h0
    go_enter Try.func27, Try.ntmps27
    go_wp2_with fail
    refine C2.out.mono ?_
    rintro e w1 ⟨rfl, n1, rfl⟩
    go_wp2_with fail
    refine (C4.out n1).mono ?_
    rintro e w2 ⟨rfl, n2, rfl⟩
    go_wp2
    go_ret
    exact ⟨by simp, n1 + n2, by simp [World.drewN]⟩
  · by_cases h1 : 2 ≤ n
    · by_cases h2 : n ≤ 254
      all_goals
        have t0 := h0
        go_enter Try.func27, Try.ntmps27
        go_wp2_with fail
        refine C2.out.mono ?_
        rintro e w1 ⟨rfl, n1, rfl⟩
        go_wp2_with fail
        refine (C4.out n1).mono ?_
        rintro e w2 ⟨rfl, n2, rfl⟩
        go_wp2
        go_ret
        exact ⟨by first | (simp [h1, h2]; done) | (simp; omega), n1 + n2, by simp [World.drewN]⟩
    · have t0 := h0
      go_enter Try.func27, Try.ntmps27
      go_wp2_with fail
      refine C2.out.mono ?_
      rintro e w1 ⟨rfl, n1, rfl⟩
      go_wp2_with fail
      refine (C4.out n1).mono ?_
      rintro e w2 ⟨rfl, n2, rfl⟩
      go_wp2
      go_ret
      exact ⟨by simp; omega, n1 + n2, by simp [World.drewN]⟩

set_option maxHeartbeats 1000000 in
theorem whole_any (v : Value) (bs : List UInt8) (w : World) (hv : Row w v (bs.map bV)) :
    Calls Try.prog 28 #[v] w fun e w' => e = .returned (.bool (wholeB bs)) ∧ ∃ nq, w' = w.drewN nq := by
  have C4 := hidden (get_any v bs 4 w (by decide) hv)
  have e : wholeB bs = (getOk bs 4 && ((bs.length : Int) == 6 + getN bs 4)) := by unfold wholeB; congr 1
  rw [e]
  obtain ⟨a, cap, rfl, h1, h2, -⟩ := hv
  unfold maxLen at h2
  simp only [List.length_map] at h1 C4 ⊢
  clear e
  have b1 := getN_nn bs 4
  have b2 := getN_le bs 4
  generalize getN bs 4 = n at *
  generalize bs.length = lb at *
  cases hk : getOk bs 4
  · rw [hk] at C4
    go_enter Try.func28, Try.ntmps28
    go_wp2_with fail
    refine C4.out.mono ?_
    rintro e w1 ⟨rfl, n1, rfl⟩
    go_wp2
    go_ret
    exact ⟨by simp, n1, rfl⟩
  · rw [hk] at C4
    go_enter Try.func28, Try.ntmps28
    go_wp2_with fail
    refine C4.out.mono ?_
    rintro e w1 ⟨rfl, n1, rfl⟩
    go_wp2
    go_ret
    exact ⟨by simp, n1, rfl⟩

end Go.Proofs.Ytejcigeccmfeeaa

namespace Go.Proofs.Ytejcigeccmfeeaa
open Go.RowKit

/-- does operation j wait for operation i? -/
def waitsFor (ops : Array Oper) (j i : Nat) : Bool := match ops[j]? with
  | some o => o.after.any fun e => Region.binds .any e && e.on == i
  | none => false
abbrev Cond := Nat × (World → Prop)
def keepC (ops : Array Oper) (j : Nat) (C : List Cond) : List Cond := C.filter fun p => !waitsFor ops j p.1
def allC : List Cond → World → Prop
  | [], _ => True
  | p :: r, w => p.2 w ∧ allC r w

section
variable {P : Program} {ops : Array Oper} {Q : Exit → Act → World → Prop}

def wpC (P : Program) (ops : Array Oper) (Q : Exit → Act → World → Prop) : Nat → Array Bool → List Cond → Act → World → Prop
  | 0, listed, _, a, w => Region.ready .any ops listed = [] ∧ Q .normal a w
  | n + 1, listed, C, a, w => (Region.ready .any ops listed = [] → Q .normal a w) ∧
    ∀ j ∈ Region.ready .any ops listed, wpOp P ops Q j (fun a' w' => allC (keepC ops j C) w' ∧ wpC P ops Q n (listed.setIfInBounds j true) (keepC ops j C) a' w') a w

theorem wpAny_of_C : ∀ (n : Nat) (listed : Array Bool) (C : List Cond) (a : Act) (w : World), wpC P ops Q n listed C a w → wpAny P .any ops Q n listed a w
  | 0, _, _, _, _, h => h
  | n + 1, _, _, _, _, h => ⟨h.1, fun i hi => wpOp_mono (fun a' w' h' => wpAny_of_C n _ _ a' w' h'.2) (h.2 i hi)⟩

theorem allC_sub {C C' : List Cond} (hs : C'.Sublist C) {w : World} (h : allC C w) : allC C' w := by
  induction hs with
  | slnil => exact h
  | cons p _ ih => exact ih h.2
  | cons_cons p _ ih => exact ⟨h.1, ih h.2⟩

theorem wpC_sub : ∀ (n : Nat) (listed : Array Bool) (C C' : List Cond) (a : Act) (w : World), C'.Sublist C → wpC P ops Q n listed C a w → wpC P ops Q n listed C' a w
  | 0, _, _, _, _, _, _, h => h
  | n + 1, _, _, _, _, _, hs, h => ⟨h.1, fun i hi => wpOp_mono (fun a' w' h' => ⟨allC_sub (hs.filter _) h'.1, wpC_sub n _ _ _ a' w' (hs.filter _) h'.2⟩) (h.2 i hi)⟩

theorem wpC_first {i : Nat} {oi : Oper} {v : Value} {R : World → Prop} (hi : ops[i]? = some oi) (hsel : ∀ (j : Nat) (o : Oper) cs b, ops[j]? = some o → o.op ≠ .select cs b)
    (hQ : ∀ c a w, Q (.panic c) (a.put oi.dst v) w → Q (.panic c) a w) :
    ∀ (fuel : Nat) (listed : Array Bool) (C : List Cond) (a : Act) (w : World),
      (∀ j oj, ops[j]? = some oj → j ≠ i → listed.getD j true = false → (∀ e ∈ oj.after, Region.binds .any e = true → e.on ≠ i) → oi.apart ops oj = true) →
      i ∈ Region.ready .any ops listed → YieldsIf P ops R oi v a → R w → allC C w →
      wpC P ops Q fuel (listed.setIfInBounds i true) ((i, R) :: C) (a.put oi.dst v) w → wpC P ops Q (fuel + 1) listed C a w := by
  intro fuel
  have own : ∀ (fuel : Nat) (listed : Array Bool) (C : List Cond) (a : Act) (w : World), allC C w → wpC P ops Q fuel (listed.setIfInBounds i true) ((i, R) :: C) (a.put oi.dst v) w →
      allC (keepC ops i C) w ∧ wpC P ops Q fuel (listed.setIfInBounds i true) (keepC ops i C) (a.put oi.dst v) w := fun fuel listed C a w hC H =>
    ⟨allC_sub List.filter_sublist hC, wpC_sub fuel _ _ _ _ _ (List.filter_sublist.trans (List.sublist_cons_self _ _)) H⟩
  induction fuel with
  | zero =>
    intro listed C a w _ hr hy hS hC H
    refine ⟨fun h => (by rw [h] at hr; cases hr), fun j hj => ?_⟩
    by_cases hji : j = i
    · subst hji; exact hy.wpOp hi hS (own 0 listed C a w hC H)
    · have := ready_mono hj hji
      rw [H.1] at this
      cases this
  | succ fuel ih =>
    intro listed C a w hfree hr hy hS hC H
    refine ⟨fun h => (by rw [h] at hr; cases hr), fun j hj => ?_⟩
    by_cases hji : j = i
    · subst hji; exact hy.wpOp hi hS (own _ listed C a w hC H)
    · have h1 := H.2 j (ready_mono hj hji)
      obtain ⟨hjun, oj, hoj, hall⟩ := mem_ready.1 hj
      have hnot : ∀ e ∈ oj.after, Region.binds .any e = true → e.on ≠ i := fun e he hb heq => by
        have h1 := hall e he hb
        have h0 := (mem_ready.1 hr).1
        rw [heq] at h1
        rcases Nat.lt_or_ge i listed.size with h' | h'
        · simp [h'] at h0 h1; rw [h0] at h1; cases h1
        · simp [Array.getElem?_eq_none h'] at h1
      have hwait : waitsFor ops j i = false := by
        unfold waitsFor
        rw [hoj]
        simp only
        rw [Bool.eq_false_iff]
        intro hc
        obtain ⟨k, hk, h2⟩ := Array.any_eq_true.1 hc
        simp only [Bool.and_eq_true, beq_iff_eq] at h2
        exact hnot _ (Array.getElem_mem hk) h2.1 h2.2
      have hkeep : keepC ops j ((i, R) :: C) = (i, R) :: keepC ops j C := by
        unfold keepC
        rw [List.filter_cons_of_pos (by simp [hwait])]
      rw [hkeep] at h1
      have h2 := wpOp_putIf hoj (hfree j oj hoj hji hjun hnot) (fun cs b => hsel i oi cs b hi) (fun cs b => hsel j oj cs b hoj) hQ hy h1
      have hfree' : ∀ k ok, ops[k]? = some ok → k ≠ i → (listed.setIfInBounds j true).getD k true = false →
          (∀ e ∈ ok.after, Region.binds .any e = true → e.on ≠ i) → oi.apart ops ok = true := fun k ok hk hki hun hno => by
        refine hfree k ok hk hki ?_ hno
        by_cases hjk : j = k
        · subst hjk; exact hjun
        · rw [getD_set_ne true hjk] at hun; exact hun
      refine wpOp_mono (fun a' w' h3 => ⟨h3.2.1.2, ih (listed.setIfInBounds j true) _ a' w' hfree' (ready_mono hr (Ne.symm hji)) h3.1 h3.2.1.1 h3.2.1.2 ?_⟩) h2
      rw [Array.setIfInBounds_comm _ _ hji]
      exact h3.2.2

theorem allC_true {D C : List Cond} (hD : ∀ p ∈ D, ∀ w, p.2 w) {w : World} (h : allC C w) : allC (D ++ C) w := by
  induction D with
  | nil => exact h
  | cons p r ih => exact ⟨hD p (by simp) w, ih (fun q hq => hD q (by simp [hq]))⟩
theorem keepC_true {D : List Cond} (hD : ∀ p ∈ D, ∀ w, p.2 w) (j : Nat) : ∀ p ∈ keepC ops j D, ∀ w, p.2 w := fun p hp => hD p (List.mem_filter.1 hp).1
theorem wpC_true : ∀ (n : Nat) (listed : Array Bool) (D C : List Cond) (a : Act) (w : World), (∀ p ∈ D, ∀ w, p.2 w) → wpC P ops Q n listed C a w → wpC P ops Q n listed (D ++ C) a w
  | 0, _, _, _, _, _, _, h => h
  | n + 1, _, D, C, _, _, hD, h => ⟨h.1, fun j hj => wpOp_mono (fun a' w' h' => by
      have e : keepC ops j (D ++ C) = keepC ops j D ++ keepC ops j C := List.filter_append ..
      rw [e]
      exact ⟨allC_true (keepC_true hD j) h'.1, wpC_true n _ _ _ a' w' (keepC_true hD j) h'.2⟩) (h.2 j hj)⟩

variable {n : Nat} {listed : Array Bool} {C : List Cond} {a : Act} {w : World}
  {dst : Option Tmp} {op : Op} {ty : TypeId} {pos : String} {after : Array Edge} {guard : Option (Nat × Bool)} {v : Value}

theorem c_begin {id : Nat} (k : Nat) (hk : ops.size = k) (hm : P.follows .mixedOrders = true) (h : wpC P ops Q k (Array.replicate k false) [] a w.drew) : (Code.region id ops true).wp P Q a w := by
  subst hk
  exact wp_region_any hm (wpAny_of_C _ _ _ _ _ h)

theorem c_pure (hC : allC C w) (hs : Region.noSelect ops = true) (hQ : ∀ c a w d v, Q (.panic c) (Act.put a d v) w → Q (.panic c) a w) (i : Nat) (hi : ops[i]? = some ⟨dst, op, ty, pos, after, guard⟩)
    (hc : (Region.free .any ops listed i && (Region.ready .any ops listed).contains i) = true) (hw : Region.wanted ⟨dst, op, ty, pos, after, guard⟩ (yielded ops a.tmps) = true)
    (hv : ∀ w', (execOp a.eval ⟨dst, op, ty, pos, after, guard⟩).run P w' = .ok (.value v) w') (h : wpC P ops Q n (listed.setIfInBounds i true) C (a.put dst v) w) : wpC P ops Q (n + 1) listed C a w := by
  simp only [Bool.and_eq_true] at hc
  exact wpC_first (R := fun _ => True) hi (Region.noSelect_spec hs) (fun c a w => hQ c a w _ _) n listed C a w (Region.free_spec hi hc.1) (by simpa using hc.2) (.inl ⟨hw, fun w' _ => hv w'⟩) trivial hC
    (wpC_true n _ [(i, fun _ => True)] C _ _ (by simp) h)

theorem c_skip (hC : allC C w) (hs : Region.noSelect ops = true) (hQ : ∀ c a w d v, Q (.panic c) (Act.put a d v) w → Q (.panic c) a w) (i : Nat) (hi : ops[i]? = some ⟨dst, op, ty, pos, after, guard⟩)
    (hc : (Region.free .any ops listed i && (Region.ready .any ops listed).contains i) = true) (hw : Region.wanted ⟨dst, op, ty, pos, after, guard⟩ (yielded ops a.tmps) = false)
    (h : wpC P ops Q n (listed.setIfInBounds i true) C (a.put dst undef) w) : wpC P ops Q (n + 1) listed C a w := by
  simp only [Bool.and_eq_true] at hc
  exact wpC_first (R := fun _ => True) hi (Region.noSelect_spec hs) (fun c a w => hQ c a w _ _) n listed C a w (Region.free_spec hi hc.1) (by simpa using hc.2) (.inr ⟨hw, rfl⟩) trivial hC
    (wpC_true n _ [(i, fun _ => True)] C _ _ (by simp) h)

/-- a reader, under the condition R -/
theorem c_read (R : World → Prop) (hR : R w) (hC : allC C w) (hs : Region.noSelect ops = true) (hQ : ∀ c a w d v, Q (.panic c) (Act.put a d v) w → Q (.panic c) a w) (i : Nat) (hi : ops[i]? = some ⟨dst, op, ty, pos, after, guard⟩)
    (hc : (Region.free .any ops listed i && (Region.ready .any ops listed).contains i) = true) (hw : Region.wanted ⟨dst, op, ty, pos, after, guard⟩ (yielded ops a.tmps) = true)
    (hv : ∀ w', R w' → (execOp a.eval ⟨dst, op, ty, pos, after, guard⟩).run P w' = .ok (.value v) w') (h : wpC P ops Q n (listed.setIfInBounds i true) ((i, R) :: C) (a.put dst v) w) : wpC P ops Q (n + 1) listed C a w := by
  simp only [Bool.and_eq_true] at hc
  exact wpC_first hi (Region.noSelect_spec hs) (fun c a w => hQ c a w _ _) n listed C a w (Region.free_spec hi hc.1) (by simpa using hc.2) (.inl ⟨hw, hv⟩) hR hC h

theorem c_op (j : Nat) (C' : List Cond) (hk : keepC ops j C = C') (hi : ops[j]? = some ⟨dst, op, ty, pos, after, guard⟩) (hw : Region.wanted ⟨dst, op, ty, pos, after, guard⟩ (yielded ops a.tmps) = true)
    (h : ∀ K : Act → World → Prop, Hid (∀ a' w', allC C' w' → wpC P ops Q n (listed.setIfInBounds j true) C' a' w' → K a' w') → Oper.wp P ⟨dst, op, ty, pos, after, guard⟩ a w K Q) :
    wpOp P ops Q j (fun a' w' => allC (keepC ops j C) w' ∧ wpC P ops Q n (listed.setIfInBounds j true) (keepC ops j C) a' w') a w := by
  rw [hk]
  unfold wpOp
  simp only [hi, hw, if_true]
  exact .inl (h _ (fun a' w' h1 h2 => ⟨h1, h2⟩))

theorem c_all {rs : List Nat} (hr : Region.ready .any ops listed = rs) (hne : rs ≠ [])
    (h : ∀ j ∈ rs, wpOp P ops Q j (fun a' w' => allC (keepC ops j C) w' ∧ wpC P ops Q n (listed.setIfInBounds j true) (keepC ops j C) a' w') a w) : wpC P ops Q (n + 1) listed C a w :=
  ⟨fun h0 => absurd (hr ▸ h0) hne, hr ▸ h⟩
theorem c_move (j : Nat) (hr : Region.ready .any ops listed = [j]) (h : wpOp P ops Q j (fun a' w' => allC (keepC ops j C) w' ∧ wpC P ops Q n (listed.setIfInBounds j true) (keepC ops j C) a' w') a w) : wpC P ops Q (n + 1) listed C a w :=
  c_all hr (by simp) (fun k hk => by simp only [List.mem_singleton] at hk; subst hk; exact h)
theorem c_move2 (i j : Nat) (hr : Region.ready .any ops listed = [i, j]) (h : wpOp P ops Q i (fun a' w' => allC (keepC ops i C) w' ∧ wpC P ops Q n (listed.setIfInBounds i true) (keepC ops i C) a' w') a w)
    (h2 : wpOp P ops Q j (fun a' w' => allC (keepC ops j C) w' ∧ wpC P ops Q n (listed.setIfInBounds j true) (keepC ops j C) a' w') a w) : wpC P ops Q (n + 1) listed C a w :=
  c_all hr (by simp) (fun k hk => by
    simp only [List.mem_cons, List.not_mem_nil, or_false] at hk
    rcases hk with rfl | rfl
    · exact h
    · exact h2)
theorem c_done (hr : Region.ready .any ops listed = []) (h : Q .normal a w) : wpC P ops Q n listed C a w := by
  cases n with
  | zero => exact ⟨hr, h⟩
  | succ n => exact ⟨fun _ => h, by rw [hr]; simp⟩
end
end Go.Proofs.Ytejcigeccmfeeaa

namespace Go.Proofs.Ytejcigeccmfeeaa
open Go.RowKit

theorem Row.from {w : World} {b off n cap : Nat} {xs : List Value} (h : Row w (.slice (some ⟨b, off, none⟩) n cap) xs) (f : Nat) (hf : f ≤ n) : Row w (.slice (some ⟨b, off + f, none⟩) (n - f) (cap - f)) (xs.drop f) := by
  obtain ⟨a', cap', e, h1, h2, h3, h4⟩ := h
  simp only [Value.slice.injEq] at e
  obtain ⟨rfl, rfl, rfl⟩ := e
  have hl : (xs.drop f).length = xs.length - f := by simp
  refine ⟨_, cap - f, by rw [hl], by omega, by omega, (fun h => by cases h), ?_⟩
  rcases h4 with rfl | ⟨b', off', e', hc⟩
  · exact .inl (by simp)
  · simp only [Option.some.injEq, Addr.mk.injEq] at e'
    obtain ⟨rfl, rfl, -⟩ := e'
    refine .inr ⟨b, off + f, rfl, fun i hi => ?_⟩
    rw [Nat.add_assoc, hc (f + i) (by omega)]
    simp

set_option maxHeartbeats 1000000 in
/-- Clone: a row of its own, in new memory -/
theorem clone_own (v : Value) (bs : List UInt8) (w : World) (hv : Row w v (bs.map bV)) (hl : bs.length ≤ 140737488355328) (h0 : 0 < bs.length) :
    Calls Try.prog 37 #[v] w fun e w' => ∃ v', e = .returned v' ∧ w'.ownsRow w.heap.size 5 1 v' bs.length (bs.map bV) ∧ Below w.heap.size w w' := by
  obtain ⟨a, cap, rfl, -, -, hz, -⟩ := id hv
  obtain ⟨h1, h2, h3, h4⟩ := hv.at
  simp only [List.length_map] at hv h1 h4 ⊢
  obtain ⟨b, off, rfl, -⟩ := h4 0 0 h0
  have R1 := hv.below ((Below.refl w.heap.size w).alloc (Nat.le_refl _) (.cells #[] 5))
  have O1 : (w.alloc (.cells #[] 5)).ownsRow w.heap.size 5 1 (.slice (some ⟨w.heap.size, 0, none⟩) 0 0) 0 [] :=
    ⟨rfl, .inr ⟨w.heap.size, 0, #[], rfl, Nat.le_refl _, heap_alloc_new w _, Nat.zero_le _, by unfold maxLen; omega, by simp, by simp⟩⟩
  have en : (binOp BinOp.eql 27 (.slice (some ⟨b, off, none⟩) bs.length cap) (.slice none 0 0)).run Try.prog w = .ok (.bool false) w := by kernel_rfl
  go_enter Try.func37, Try.ntmps37
  go_wp2_with (at_builtin; refine wpList_app rfl (.tmp 5) (.tmp 6) 27 rfl w.heap.size 5 (.int .u8 0) 1 Try.underlying27 info_u8 rfl rfl O1 rfl R1 (one_bytes bs) (by simp [maxLen]; omega) (by simp; omega) (by simp) ?_)
  intro v2 w2 ho2 hg2
  have q := ((Below.refl w.heap.size w).alloc (Nat.le_refl _) (.cells #[] 5)).grown hg2 (by simp) (fun k hk => (O1.lt k hk).1)
  go_wp2
  go_ret
  exact ⟨_, rfl, by simpa using ho2, q⟩

set_option maxHeartbeats 1000000 in
theorem message_any (v : Value) (bs : List UInt8) (w : World) (hv : Row w v (bs.map bV)) (h8 : 8 ≤ bs.length) (hl : bs.length ≤ 1000) :
    Calls Try.prog 29 #[v] w fun e w' => ∃ u, e = .returned (.agg #[.int .i64 (getN bs 0), .int .i64 ((bs.getD 6 0).toNat : Int), u]) ∧ w'.ownsRow w.heap.size 5 1 u (bs.length - 7) ((bs.drop 7).map bV) ∧ Below w.heap.size w w' := by
  obtain ⟨a, cap, rfl, -⟩ := id hv
  obtain ⟨h1, h2, h3, h4⟩ := hv.at
  unfold maxLen at h3
  simp only [List.length_map] at hv h1 h2 h4 ⊢
  obtain ⟨b, off, rfl, hcl⟩ := h4 0 0 (by omega)
  have c6 := hcl 6 (by omega)
  have hlt := lt_of_cell c6
  clear h4 hcl
  have W0 := hidden (fun o => (Below.refl w.heap.size w).alloc (Nat.le_refl _) o)
  have CG := hidden (fun w' (h : Row w' (.slice (some ⟨b, off, none⟩) bs.length cap) (bs.map bV)) => get_any _ bs 0 w' (by decide) h)
  have hd : (bs.drop 7).length = bs.length - 7 := by simp
  have HF : Hid (∀ w', Row w' (.slice (some ⟨b, off, none⟩) bs.length cap) (bs.map bV) → Row w' (.slice (some ⟨b, off + 7, none⟩) (bs.length - 7) (cap - 7)) ((bs.drop 7).map bV)) := fun w' h => by
    have := h.from 7 (by omega)
    rwa [← List.map_drop] at this
  have hx := (bs.getD 6 0).toNat_lt
  generalize bs.getD 6 0 = x at *
  generalize getN bs 0 = i at *
  have k6 : (6 : Int) < (bs.length : Int) := by omega
  have k7 : (7 : Int) ≤ (bs.length : Int) := by omega
  have k8 : ¬ cap = 7 := by omega
  go_enter Try.func29, Try.ntmps29
  go_wp2_with fail
  refine (CG.out _ (hv.below (W0.out _))).mono ?_
  rintro e w1 ⟨rfl, nq, rfl⟩
  go_wp2
  have X0 := ((Blk.new w 30 [.int .i64 0, .int .i64 0, .slice none 0 0]).drewN nq).drew
  have B0 : Below w.heap.size w ((w.alloc (.cells #[.int .i64 0, .int .i64 0, .slice none 0 0] 30)).drewN nq).drew := (below_drewn (W0.out _) nq).drew
  refine c_begin 10 rfl (by kernel_rfl) ?_
  have R0 := hv.below B0
  have S0 := B0.size
  have c6' : ((w.alloc (.cells #[.int .i64 0, .int .i64 0, .slice none 0 0] 30)).drewN nq).drew.cell? ⟨b, off + 6, none⟩ = some (bV x) := by
    rw [← c6]; exact B0.cell (p := ⟨b, off + 6, none⟩) hlt
  generalize ((w.alloc (.cells #[.int .i64 0, .int .i64 0, .slice none 0 0] 30)).drewN nq).drew = w2 at *
  clear c6
  have hlt2 := lt_of_cell c6'
  refine c_pure trivial (by kernel_rfl) (fun _ _ _ d _ h => by cases d <;> exact h) 0 rfl (by kernel_rfl) (by kernel_rfl) (fun w' => by go_simp; with_reducible rfl) ?_; try simp only [Act.put, List.setIfInBounds_toArray, List.set_cons_zero, List.set_cons_succ]
  refine c_pure trivial (by kernel_rfl) (fun _ _ _ d _ h => by cases d <;> exact h) 1 rfl (by kernel_rfl) (by kernel_rfl) (fun w' => by go_simp; with_reducible rfl) ?_; try simp only [Act.put, List.setIfInBounds_toArray, List.set_cons_zero, List.set_cons_succ]
  refine c_pure trivial (by kernel_rfl) (fun _ _ _ d _ h => by cases d <;> exact h) 2 rfl (by kernel_rfl) (by kernel_rfl) (fun w' => by go_simp; with_reducible rfl) ?_; try simp only [Act.put, List.setIfInBounds_toArray, List.set_cons_zero, List.set_cons_succ]
  refine c_read (fun w' => w'.cell? ⟨b, off + 6, none⟩ = some (bV x)) c6' trivial (by kernel_rfl) (fun _ _ _ d _ h => by cases d <;> exact h) 3 rfl (by kernel_rfl) (by kernel_rfl) (fun w' hx => by go_simp; with_reducible rfl) ?_; try simp only [Act.put, List.setIfInBounds_toArray, List.set_cons_zero, List.set_cons_succ]
  refine c_pure ⟨c6', trivial⟩ (by kernel_rfl) (fun _ _ _ d _ h => by cases d <;> exact h) 4 rfl (by kernel_rfl) (by kernel_rfl) (fun w' => by go_simp; with_reducible rfl) ?_; try simp only [Act.put, List.setIfInBounds_toArray, List.set_cons_zero, List.set_cons_succ]
  refine c_pure ⟨c6', trivial⟩ (by kernel_rfl) (fun _ _ _ d _ h => by cases d <;> exact h) 5 rfl (by kernel_rfl) (by kernel_rfl) (fun w' => by go_simp; with_reducible rfl) ?_; try simp only [Act.put, List.setIfInBounds_toArray, List.set_cons_zero, List.set_cons_succ]
  refine c_pure ⟨c6', trivial⟩ (by kernel_rfl) (fun _ _ _ d _ h => by cases d <;> exact h) 6 rfl (by kernel_rfl) (by kernel_rfl) (fun w' => by go_simp; with_reducible rfl) ?_; try simp only [Act.put, List.setIfInBounds_toArray, List.set_cons_zero, List.set_cons_succ]
  refine c_move 7 (by kernel_rfl) (c_op 7 [(3, (fun w' => w'.cell? ⟨b, off + 6, none⟩ = some (bV x)))] (by kernel_rfl) rfl (by kernel_rfl) (fun K hK => ?_))
  go_wp2_with fail
  have CC := clone_own _ (bs.drop 7) _ (HF.out _ R0) (by omega) (by omega)
  refine CC.mono ?_
  rintro e w3 ⟨u, rfl, hu, B3⟩
  have X3 := X0.below B3 X0.lt
  obtain ⟨ug, uc, rfl, hug⟩ := owns_some hu (by omega)
  rw [hd] at hu
  rw [hd]
  have c63 : w3.cell? ⟨b, off + 6, none⟩ = some (bV x) := by rw [← c6']; exact B3.cell (p := ⟨b, off + 6, none⟩) hlt2
  go_simp
  refine hK.out _ _ ⟨c63, trivial⟩ ?_
  clear K hK
  try simp only [Act.put, List.setIfInBounds_toArray, List.set_cons_zero, List.set_cons_succ]
  refine c_pure ⟨c63, trivial⟩ (by kernel_rfl) (fun _ _ _ d _ h => by cases d <;> exact h) 8 rfl (by kernel_rfl) (by kernel_rfl) (fun w' => by go_simp; with_reducible rfl) ?_; try simp only [Act.put, List.setIfInBounds_toArray, List.set_cons_zero, List.set_cons_succ]
  have d0 : w3.cell? ⟨w.heap.size, 0, none⟩ = some (.int .i64 0) := X3.cell 0
  have d1 : w3.cell? ⟨w.heap.size, 1, none⟩ = some (.int .i64 0) := X3.cell 1
  have d2 : w3.cell? ⟨w.heap.size, 2, none⟩ = some (.slice none 0 0) := X3.cell 2
  have f0 := X3.frozen
  have gq := X3.lt
  have wx : IntKind.i64.wrap (x.toNat : Int) = (x.toNat : Int) := by rw [IntKind.wrap_i64]; omega
  refine c_move 9 (by kernel_rfl) (c_op 9 [] (by kernel_rfl) rfl (by kernel_rfl) (fun K hK => ?_))
  go_simp
  refine hK.out _ _ trivial ?_
  clear K hK
  try simp only [Act.put, List.setIfInBounds_toArray, List.set_cons_zero, List.set_cons_succ]
  refine c_done (by kernel_rfl) ?_
  have Y0 := ((X3.set 0 (.int .i64 i)).set 1 (.int .i64 (x.toNat : Int))).set 2 (.slice (some ⟨ug, 0, none⟩) (bs.length - 7) uc)
  have KB : Below w.heap.size w3 (((w3.setCell ⟨w.heap.size, 0, none⟩ (.int .i64 i)).setCell ⟨w.heap.size, 1, none⟩ (.int .i64 (x.toNat : Int))).setCell ⟨w.heap.size, 2, none⟩ (.slice (some ⟨ug, 0, none⟩) (bs.length - 7) uc)) :=
    (((Below.refl _ _).setCell (p := ⟨w.heap.size, 0, none⟩) (Nat.le_refl _) _).setCell (p := ⟨w.heap.size, 1, none⟩) (Nat.le_refl _) _).setCell (p := ⟨w.heap.size, 2, none⟩) (Nat.le_refl _) _
  have KU : Kp (fun k => k = w.heap.size) w3 (((w3.setCell ⟨w.heap.size, 0, none⟩ (.int .i64 i)).setCell ⟨w.heap.size, 1, none⟩ (.int .i64 (x.toNat : Int))).setCell ⟨w.heap.size, 2, none⟩ (.slice (some ⟨ug, 0, none⟩) (bs.length - 7) uc)) :=
    Kp.set (Kp.set (Kp.set (Kp.refl (fun k => k = w.heap.size) w3) (p := ⟨w.heap.size, 0, none⟩) (fun _ => rfl) _) (p := ⟨w.heap.size, 1, none⟩) (fun _ => rfl) _) (p := ⟨w.heap.size, 2, none⟩) (fun _ => rfl) _
  have hg2 := X0.lt
  have hz : w.heap.size ≤ w2.heap.size := by omega
  have HU := owns_from (owns_kp hu KU (fun k hk => by
    simp only [Value.ownBlock, Option.some.injEq] at hk
    omega)) hz
  have HB := (below_then B0 B3).trans KB
  have q0 := Y0.cell 0
  have q1 := Y0.cell 1
  have q2 := Y0.cell 2
  simp at q0 q1 q2
  clear Y0 KB KU hu X0 X3 B3 B0 d0 d1 d2 f0 gq c63 c6' R0
  generalize ((w3.setCell ⟨w.heap.size, 0, none⟩ (.int .i64 i)).setCell ⟨w.heap.size, 1, none⟩ (.int .i64 (x.toNat : Int))).setCell ⟨w.heap.size, 2, none⟩ (.slice (some ⟨ug, 0, none⟩) (bs.length - 7) uc) = w4 at *
  go_wp2
  refine bodyPost_ret (v := _) (by simp [results, Try.results29, go_sem, q0, q1, q2]; with_reducible rfl) rfl ?_
  exact ⟨_, rfl, HU, HB⟩

end Go.Proofs.Ytejcigeccmfeeaa

namespace Go.Proofs.Ytejcigeccmfeeaa
open Go.RowKit

theorem smStep_le (s : Sm) (x : UInt8) : s.out.length ≤ (smStep s x).out.length ∧ (smStep s x).out.length ≤ s.out.length + 1 := by
  unfold smStep
  split
  · simp
  · split
    · simp
    · split <;> simp
theorem smRun_le : ∀ (b : List UInt8) (s : Sm), s.out.length ≤ (smRun s b).out.length ∧ (smRun s b).out.length ≤ s.out.length + b.length
  | [], s => by simp [smRun]
  | x :: b, s => by
    have h1 := smStep_le s x
    have h2 := smRun_le b (smStep s x)
    have e : smRun s (x :: b) = smRun (smStep s x) b := rfl
    rw [e]
    simp only [List.length_cons]
    omega
theorem OkW.sound {w : List UInt8} (h : OkW w) (h6 : 6 ≤ w.length) : soundB w = true := by
  cases hs : soundB w
  · have := h []
    rw [run_bad [] w h6 hs] at this
    simp at this
  · rfl
theorem OkW.len {w : List UInt8} (h : OkW w) : w.length < 260 := by
  by_cases h6 : 6 ≤ w.length
  · have hs := h.sound h6
    obtain ⟨-, b1, b2⟩ := sound_bounds hs
    by_cases h2 : (w.length : Int) < 6 + getN w 4
    · omega
    · obtain ⟨n, hn⟩ : ∃ n : Nat, getN w 4 = (n : Int) := ⟨(getN w 4).toNat, by omega⟩
      have := h []
      rw [run_msg [] w n hs hn (by omega)] at this
      have h3 := (smRun_le (w.drop (6 + n)) ⟨[], false, [] ++ [msgOf (w.take (6 + n))]⟩).1
      rw [this] at h3
      simp at h3
  · omega
theorem whole_len {w : List UInt8} {x : UInt8} (h : OkW w) (hb : badB (w ++ [x]) = false) (hw : wholeB (w ++ [x]) = true) : 8 ≤ (w ++ [x]).length ∧ (w ++ [x]).length ≤ 260 := by
  have hl := h.len
  have e : (w ++ [x]).length = w.length + 1 := by simp
  unfold wholeB at hw
  simp only [Bool.and_eq_true, decide_eq_true_eq] at hw
  obtain ⟨h1, h2⟩ := hw
  have h6 : 6 ≤ (w ++ [x]).length := by unfold getOk at h1; simp at h1; omega
  have hs : soundB (w ++ [x]) = true := by
    by_cases h5 : (w ++ [x]).length = 6
    · unfold badB at hb
      rw [h5] at hb
      simpa using hb
    · have := h.sound (by omega)
      rw [← this]
      have := pre_sound (w ++ [x]) w.length (by omega) (by omega)
      rw [← this]; simp
  obtain ⟨-, b1, b2⟩ := sound_bounds hs
  omega
theorem bad_six {w : List UInt8} (h : w.length = 6) : badB w = !soundB w := by simp [badB, h]
theorem bad_not {w : List UInt8} (h : w.length ≠ 6) : badB w = false := by simp [badB, h]

/-- the cells of messages -/
def mcs : List Ms → List Value → List Value
  | m :: ms, u :: us => .int .i64 m.id :: .int .i64 m.unit :: u :: mcs ms us
  | _, _ => []
theorem mcs_app : ∀ (ms : List Ms) (us : List Value) (m : Ms) (u : Value), us.length = ms.length → mcs (ms ++ [m]) (us ++ [u]) = mcs ms us ++ [.int .i64 m.id, .int .i64 m.unit, u]
  | [], [], _, _, _ => rfl
  | [], _ :: _, _, _, h => by simp at h
  | _ :: _, [], _, _, h => by simp at h
  | a :: ms, b :: us, m, u, h => by
    have := mcs_app ms us m u (by simpa using h)
    simp [mcs, this]
theorem mcs_len : ∀ (ms : List Ms) (us : List Value), us.length = ms.length → (mcs ms us).length = ms.length * 3
  | [], [], _ => rfl
  | [], _ :: _, h => by simp at h
  | _ :: _, [], h => by simp at h
  | a :: ms, b :: us, h => by
    have := mcs_len ms us (by simpa using h)
    simp [mcs, this]; omega
theorem mcs_get : ∀ (ms : List Ms) (us : List Value) (i : Nat) (m : Ms) (u : Value), ms[i]? = some m → us[i]? = some u → (mcs ms us)[3 * i]? = some (.int .i64 m.id) ∧ (mcs ms us)[3 * i + 1]? = some (.int .i64 m.unit) ∧ (mcs ms us)[3 * i + 2]? = some u
  | [], _, _, _, _, h, _ => by simp at h
  | _ :: _, [], _, _, _, _, h => by simp at h
  | a :: ms, b :: us, 0, m, u, h1, h2 => by
    simp at h1 h2
    subst h1 h2
    exact ⟨rfl, rfl, rfl⟩
  | a :: ms, b :: us, i + 1, m, u, h1, h2 => by
    have := mcs_get ms us i m u (by simpa using h1) (by simpa using h2)
    rw [show 3 * (i + 1) = 3 * i + 1 + 1 + 1 by omega]
    simpa [mcs] using this

/-- a list of messages (of type t) with all that they lead to, of one's own, in none of the blocks of N -/
def Mss (t : TypeId) (N : Nat → Prop) (w : World) (base : Nat) (v : Value) (ms : List Ms) : Prop :=
  ∃ us, us.length = ms.length ∧ w.ownsRow base t 3 v ms.length (mcs ms us) ∧ Off N v ∧
    ∀ (i : Nat) (m : Ms), ms[i]? = some m → ∃ u, us[i]? = some u ∧ Off N u ∧ w.ownsRow base 5 1 u m.pdu.length (m.pdu.map bV)
theorem owns_nil3 (w : World) (base : Nat) (t : TypeId) : w.ownsRow base t 3 (.slice none 0 0) 0 [] := ⟨rfl, .inl ⟨rfl, rfl⟩⟩
theorem Mss.nil (t : TypeId) (N : Nat → Prop) (w : World) (base : Nat) : Mss t N w base (.slice none 0 0) [] := ⟨[], rfl, owns_nil3 _ _ _, Off.nil _ _ _, fun i m h => by simp at h⟩
theorem Mss.kp {t : TypeId} {N F : Nat → Prop} {w w' : World} {base : Nat} {v : Value} {ms : List Ms} (h : Mss t N w base v ms) (k : Kp F w w') (hF : ∀ i, F i → N i) : Mss t N w' base v ms := by
  obtain ⟨us, h1, h2, h3, h4⟩ := h
  refine ⟨us, h1, owns_kp h2 k (h3.sub hF), h3, fun i m hm => ?_⟩
  obtain ⟨u, e, o, r⟩ := h4 i m hm
  exact ⟨u, e, o, owns_kp r k (o.sub hF)⟩
theorem Mss.ext {t : TypeId} {N : Nat → Prop} {w w' : World} {base : Nat} {v : Value} {ms : List Ms} (h : Mss t N w base v ms) (k : Below w.heap.size w w') : Mss t N w' base v ms := h.kp (F := fun _ => False) (Kp.of_below k) (fun _ h => h.elim)
/-- blocks that are new do no harm -/
theorem Mss.off {t : TypeId} {N N' : Nat → Prop} {w : World} {base : Nat} {v : Value} {ms : List Ms} (h : Mss t N w base v ms) (hN : ∀ i, i < w.heap.size → N' i → N i) : Mss t N' w base v ms := by
  obtain ⟨us, h1, h2, h3, h4⟩ := h
  refine ⟨us, h1, h2, fun k hk hn => h3 k hk (hN k (owns_lt h2 hk).2 hn), fun i m hm => ?_⟩
  obtain ⟨u, e, o, r⟩ := h4 i m hm
  exact ⟨u, e, fun k hk hn => o k hk (hN k (owns_lt r hk).2 hn), r⟩
theorem Mss.base {t : TypeId} {N : Nat → Prop} {w : World} {base base' : Nat} {v : Value} {ms : List Ms} (h : Mss t N w base v ms) (hb : base' ≤ base) : Mss t N w base' v ms := by
  obtain ⟨us, h1, h2, h3, h4⟩ := h
  refine ⟨us, h1, owns_from h2 hb, h3, fun i m hm => ?_⟩
  obtain ⟨u, e, o, r⟩ := h4 i m hm
  exact ⟨u, e, o, owns_from r hb⟩
theorem owns_apart3 {w : World} {base b2 e1 e2 s1 s2 : Nat} {v1 v2 : Value} {n1 n2 : Nat} {xs ys : List Value} (h1 : w.ownsRow base e1 s1 v1 n1 xs) (h2 : w.ownsRow b2 e2 s2 v2 n2 ys) (he : e1 ≠ e2) : v1.ownBlock = none ∨ v1.ownBlock ≠ v2.ownBlock := by
  rcases h1.2 with ⟨rfl, -⟩ | ⟨g, cap, cur, rfl, -, hg, -⟩
  · exact .inl rfl
  · right
    rcases h2.2 with ⟨rfl, -⟩ | ⟨g', cap', cur', rfl, -, hg', -⟩
    · simp [Value.ownBlock]
    · simp only [Value.ownBlock, ne_eq, Option.some.injEq]
      intro h
      rw [h, hg'] at hg
      simp at hg
      exact he hg.2.symm
theorem Mss.push {t : TypeId} {N : Nat → Prop} {w w' : World} {base n : Nat} {v v' u : Value} {ms : List Ms} {us : List Value} {m : Ms} (ht : 5 ≠ t) (hl : us.length = ms.length) (h2 : w.ownsRow base t 3 v ms.length (mcs ms us)) (_h3 : Off N v)
    (h4 : ∀ (i : Nat) (m : Ms), ms[i]? = some m → ∃ u, us[i]? = some u ∧ Off N u ∧ w.ownsRow base 5 1 u m.pdu.length (m.pdu.map bV))
    (hu : w.ownsRow base 5 1 u m.pdu.length (m.pdu.map bV)) (hN : Off N u) (ho : w'.ownsRow base t 3 v' n (mcs ms us ++ [.int .i64 m.id, .int .i64 m.unit, u])) (hn : n = ms.length + 1) (hg : w.grownBy w' v.ownBlock) (hv' : Off N v') : Mss t N w' base v' (ms ++ [m]) := by
  subst hn
  have keep : ∀ {u n ys}, w.ownsRow base 5 1 u n ys → w'.ownsRow base 5 1 u n ys := fun h => h.kept hg (owns_apart3 h h2 ht)
  refine ⟨us ++ [u], by simp [hl], by rw [mcs_app ms us m u hl]; simpa using ho, hv', fun i m' hm => ?_⟩
  by_cases hlt : i < ms.length
  · rw [List.getElem?_append_left hlt] at hm
    obtain ⟨y, e, o, r⟩ := h4 i m' hm
    exact ⟨y, by rw [List.getElem?_append_left (by omega)]; exact e, o, keep r⟩
  · have hi : i = ms.length := by
      rcases Nat.lt_or_ge i (ms ++ [m]).length with h | h
      · simp at h; omega
      · rw [List.getElem?_eq_none h] at hm; cases hm
    subst hi
    simp at hm
    subst hm
    exact ⟨u, by rw [← hl]; simp, hN, keep hu⟩
theorem info_msg : (Try.prog.info? 30).map (fun i => (i.zero, i.size, i.bytes)) = some (some (.agg #[.int .i64 0, .int .i64 0, .slice none 0 0]), 3, 40) := by kernel_rfl
theorem info_rmsg : (Try.prog.info? 33).map (fun i => (i.zero, i.size, i.bytes)) = some (some (.agg #[.int .i64 0, .int .i64 0, .slice none 0 0]), 3, 40) := by kernel_rfl

end Go.Proofs.Ytejcigeccmfeeaa
