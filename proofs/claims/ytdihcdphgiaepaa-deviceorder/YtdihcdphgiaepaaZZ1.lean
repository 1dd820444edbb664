/- Opening the arguments: a slice that came in, as a list. Over any program. -/
import Derived.WalkKit
import Derived.WalkSpells
import Derived.WalkLawsBesides
import Derived.Laws.CopyOwn
import Derived.Laws.AppendOwnNone
import Derived.ProofKit
import Derived.OpenShut
import Derived.ShutString
import Derived.ChangeOld
import Derived.Deep.Grids
import Derived.SizedLaws
import Derived.JoinedCond
namespace Go.Proofs.Ytdihcdphgiaepaa
open Go.RowKit
theorem hidden {p : Prop} (h : p) : Hid p := h
def Row (w : World) (v : Value) (xs : List Value) : Prop :=
 ∃ a cap, v = .slice a xs.length cap ∧ xs.length ≤ cap ∧ cap ≤ maxLen ∧ (a = none → cap = 0) ∧
  (xs = [] ∨ ∃ b off, a = some ⟨b, off, none⟩ ∧ ∀ i, i < xs.length → w.cell? ⟨b, off + i, none⟩ = xs[i]?)
theorem lt_of_cell {w : World} {b o : Nat} {u : Value} (h : w.cell? ⟨b, o, none⟩ = some u) : b < w.heap.size := by
 unfold World.cell? at h
 cases hb : w.heap[b]? with
 | none => simp [hb] at h
 | some x => exact (Array.getElem?_eq_some_iff.1 hb).1
theorem Row.below {w w' : World} {v : Value} {xs : List Value} (h : Row w v xs) (hb : Below w.heap.size w w') : Row w' v xs := by
 obtain ⟨a, cap, rfl, h1, h2, h0, h3⟩ := h
 refine ⟨a, cap, rfl, h1, h2, h0, ?_⟩
 rcases h3 with h3 | ⟨b, off, rfl, hc⟩
 ·
  exact .inl h3
 ·
  refine .inr ⟨b, off, rfl, fun i hi => ?_⟩
  have := hc i hi
  have hlt : b < w.heap.size := by
   rw [List.getElem?_eq_getElem hi] at this
   exact lt_of_cell this
  rw [hb.cell (p := ⟨b, off + i, none⟩) hlt]
  exact this
theorem Row.nil (w : World) : Row w (.slice none 0 0) [] := ⟨none, 0, rfl, Nat.le_refl _, Nat.zero_le _, fun _ => rfl, .inl rfl⟩
theorem Row.of_owns {w : World} {base : Nat} {e : TypeId} {v : Value} {n : Nat} {xs : List Value} (h : w.ownsRow base e 1 v n xs) : Row w v xs := by
 have hn : xs.length = n := by have := h.1; omega
 rcases h.2 with ⟨rfl, rfl⟩ | ⟨g, cap, cur, rfl, hb, hg, hle, hm, hs, ht⟩
 ·
  have : xs = [] := List.eq_nil_of_length_eq_zero hn
  subst this
  exact Row.nil w
 ·
  refine ⟨some ⟨g, 0, none⟩, cap, by rw [hn], by omega, hm, (fun h => by cases h), .inr ⟨g, 0, rfl, fun i hi => ?_⟩⟩
  have := h.cellAt i (by omega)
  simpa using this
def Blk (w : World) (g : Nat) (e : TypeId) (xs : List Value) : Prop := w.heap[g]? = some (.cells xs.toArray e (0, 0))
theorem Blk.cell {w : World} {g : Nat} {e : TypeId} {xs : List Value} (h : Blk w g e xs) (i : Nat) : w.cell? ⟨g, i, none⟩ = xs[i]? := by
 unfold Blk at h; simp [World.cell?, h]
theorem Blk.frozen {w : World} {g : Nat} {e : TypeId} {xs : List Value} (h : Blk w g e xs) (i : Nat) : w.frozen? ⟨g, i, none⟩ = false := by
 unfold Blk at h; simp [World.frozen?, h]
theorem Blk.lt {w : World} {g : Nat} {e : TypeId} {xs : List Value} (h : Blk w g e xs) : g < w.heap.size := (Array.getElem?_eq_some_iff.1 h).1
theorem Blk.set {w : World} {g : Nat} {e : TypeId} {xs : List Value} (h : Blk w g e xs) (i : Nat) (v : Value) : Blk (w.setCell ⟨g, i, none⟩ v) g e (xs.set i v) := by
 unfold Blk at h ⊢
 simp only [World.setCell, Array.getElem?_modify, h, if_true]
 simp
theorem Blk.below {w w' : World} {B g : Nat} {e : TypeId} {xs : List Value} (h : Blk w g e xs) (hb : Below B w w') (hg : g < B) : Blk w' g e xs := (hb.block g hg).trans h
theorem Blk.new (w : World) (e : TypeId) (xs : List Value) : Blk (w.alloc (.cells xs.toArray e)) w.heap.size e xs := heap_alloc_new w _
theorem Blk.alloc {w : World} {g : Nat} {e : TypeId} {xs : List Value} (h : Blk w g e xs) (o : Obj) : Blk (w.alloc o) g e xs := (Below.heap_alloc w o g h.lt).trans h
theorem Blk.drewN {w : World} {g : Nat} {e : TypeId} {xs : List Value} (h : Blk w g e xs) (n : Nat) : Blk (w.drewN n) g e xs := h
theorem Blk.drew {w : World} {g : Nat} {e : TypeId} {xs : List Value} (h : Blk w g e xs) : Blk w.drew g e xs := h
theorem Blk.row {w : World} {g : Nat} {e : TypeId} {xs : List Value} (h : Blk w g e xs) (cap : Nat) (h1 : xs.length ≤ cap) (h2 : cap ≤ maxLen) : Row w (.slice (some ⟨g, 0, none⟩) xs.length cap) xs :=
 ⟨_, cap, rfl, h1, h2, fun h => (by cases h), .inr ⟨g, 0, rfl, fun i _ => by rw [Nat.zero_add]; exact h.cell i⟩⟩
theorem below_drewn {B : Nat} {a w : World} (h : Below B a w) (n : Nat) : Below B a (w.drewN n) := ⟨h.os, h.tape, h.output, h.size, h.block⟩
theorem below_drewn0 (B : Nat) (w : World) (n : Nat) : Below B w (w.drewN n) := below_drewn (Below.refl B w) n
theorem Row.drew {w : World} {v : Value} {xs : List Value} (h : Row w v xs) : Row w.drew v xs := h.below (Below.refl _ _).drew
theorem Row.drewN {w : World} {v : Value} {xs : List Value} (h : Row w v xs) (n : Nat) : Row (w.drewN n) v xs := h.below (below_drewn0 _ _ _)
theorem Blk.some {w : World} {g : Nat} {e : TypeId} {xs : List Value} (h : Blk w g e xs) (i : Nat) (hi : i < xs.length) : ∃ u, w.cell? ⟨g, i, none⟩ = some u :=
 ⟨xs[i], by rw [h.cell i, List.getElem?_eq_getElem hi]⟩
theorem copy_run {P : Program} {w0 w : World} {B : Nat} (hb : Below B w0 w) (dT sT ty elem : TypeId) (hu : P.underlying dT = some (.slice elem)) (hsz : (P.info? elem).map (·.size) = some 1)
  (g off dLen dCap : Nat) (a : Option Addr) (sLen sCap : Nat) (cur : List Value) (t : TypeId) (hg : Blk w g t cur) (hBg : B ≤ g) (src : List Value) (hs : Row w (.slice a sLen sCap) src) (h1 : ∀ v ∈ src, v.oneCell' = true)
  (hfit : off + dLen ≤ cur.length) :
  ∃ w', (Builtin.copy_ #[dT, sT] ty #[.slice (some ⟨g, off, none⟩) dLen dCap, .slice a sLen sCap]).run P w = .ok (goInt ((min src.length dLen : Nat) : Int)) w' ∧ Blk w' g t (splice cur off (src.take dLen)) ∧ Below B w0 w' := by
 obtain ⟨a', cap', e, h2, h3, -, h4⟩ := hs
 simp only [Value.slice.injEq] at e
 obtain ⟨rfl, rfl, rfl⟩ := e
 have hlen : (src.take dLen).length = min src.length dLen := by rw [List.length_take, Nat.min_comm]
 by_cases h0 : min src.length dLen = 0
 ·
  refine ⟨w, ?_, ?_, hb⟩
  ·
   rw [h0]
   exact run_copy_none (P := P) w dT sT ty elem _ a dLen dCap src.length sCap hu hsz h0
  ·
   have : src.take dLen = [] := List.eq_nil_of_length_eq_zero (by omega)
   rw [this]
   simpa [splice] using hg
 ·
  rcases h4 with h4 | ⟨b, o, rfl, hc⟩
  ·
   subst h4; simp at h0
  ·
   have hrun := run_copy_row (P := P) w dT sT ty elem g off dLen dCap ⟨b, o, none⟩ src.length sCap cur.toArray t (src.take dLen) hu hsz hg hlen (fun j v hj => by
    have hj' : j < (src.take dLen).length := by
     rcases Nat.lt_or_ge j (src.take dLen).length with h | h
     ·
      exact h
     ·
      rw [List.getElem?_eq_none h] at hj; cases hj
    have hadd : (⟨b, o, none⟩ : Addr).add j = ⟨b, o + j, none⟩ := by unfold Addr.add; split <;> simp_all
    rw [hadd, hc j (by omega)]
    rw [List.getElem?_take] at hj
    split at hj
    ·
     exact hj
    ·
     cases hj) (by simp; omega) (fun v hv => h1 v (List.mem_of_mem_take hv))
   rw [hlen] at hrun
   refine ⟨_, hrun, ?_, below_setRow hb hBg _⟩
   show _ = _
   rw [setRow_heap w g _ _ t _ hg]
   simp [splice, hlen]
theorem app_run {P : Program} {w : World} {base : Nat} (t ty e : TypeId) (z : Value) (bytes : Nat) (ht : P.underlying t = some (.slice e)) (hi : (P.info? e).map (fun i => (i.zero, i.size, i.bytes)) = some (some z, 1, bytes)) (hzs : z.cells.size = 1)
  {v : Value} {n : Nat} {xs : List Value} (hown : w.ownsRow base e 1 v n xs) {sv : Value} {news : List Value} (hs : Row w sv news) (h1 : ∀ u ∈ news, u.oneCell' = true)
  (h63 : n + news.length ≤ maxLen) (hbytes : (n + news.length) * bytes ≤ 140737488355328) (hbase : base ≤ w.heap.size) :
  ∃ v' w', (Builtin.append_ #[t, t] ty #[v, sv]).run P w = .ok v' w' ∧ w'.ownsRow base e 1 v' (n + news.length) (xs ++ news) ∧ w.grownBy w' v.ownBlock := by
 obtain ⟨i, hi, hz, hsz, hby⟩ := info_parts hi
 obtain ⟨a, cap, rfl, h2, h3, h5, h4⟩ := hs
 have some_case : ∀ ad, a = some ad → (∀ j u, news[j]? = some u → w.cell? (ad.add j) = some u) → ∃ v' w', (Builtin.append_ #[t, t] ty #[v, .slice a news.length cap]).run P w = .ok v' w' ∧ w'.ownsRow base e 1 v' (n + news.length) (xs ++ news) ∧ w.grownBy w' v.ownBlock := by
  rintro ad rfl hc
  obtain ⟨v', w', hr, r1, r2, -⟩ := run_append_own (P := P) w base t ty e i z 1 bytes ht hi hz hsz hby hzs (by decide) v n xs hown ad news.length cap news (by omega) hc h1 h63 hbytes hbase
  exact ⟨v', w', hr, r1, r2⟩
 rcases h4 with rfl | ⟨b, o, rfl, hc⟩
 ·
  cases a with
  | some ad => exact some_case ad rfl (fun j u hj => by simp at hj)
  | none =>
   refine ⟨v, w, ?_, by simpa using hown, World.grownBy.refl _ _⟩
   obtain rfl := h5 rfl
   exact run_append_owned_none (P := P) (w := w) base t ty e i 1 ht hi v n xs hown
 ·
  refine some_case _ rfl (fun j u hj => ?_)
  have hadd : (⟨b, o, none⟩ : Addr).add j = ⟨b, o + j, none⟩ := by unfold Addr.add; split <;> simp_all
  have hj' : j < news.length := by
   rcases Nat.lt_or_ge j news.length with h | h
   ·
    exact h
   ·
    rw [List.getElem?_eq_none h] at hj; cases hj
  rw [hadd, hc j hj', hj]
theorem wpList_app {P : Program} {w : World} {ops : Array Oper} {rest : List Oper} {o : Oper} {a : Act} {Q : Exit → Act → World → Prop} (hgd : o.guard = none) (s x : Operand) (t : TypeId)
  (ho : o.op = .call { callee := .builtin .append, args := #[s, x], argTypes := #[t, t] })
  (base : Nat) (e : TypeId) (z : Value) (bytes : Nat) (ht : P.underlying t = some (.slice e)) (hi : (P.info? e).map (fun i => (i.zero, i.size, i.bytes)) = some (some z, 1, bytes)) (hzs : z.cells.size = 1)
  {v : Value} {n : Nat} {xs : List Value} (hsv : a.eval s = v) (hown : w.ownsRow base e 1 v n xs) {sv : Value} {news : List Value} (hxv : a.eval x = sv) (hs : Row w sv news) (h1 : ∀ u ∈ news, u.oneCell' = true)
  (h63 : n + news.length ≤ maxLen) (hbytes : (n + news.length) * bytes ≤ 140737488355328) (hbase : base ≤ w.heap.size)
  (h : ∀ v' w', w'.ownsRow base e 1 v' (n + news.length) (xs ++ news) → w.grownBy w' v.ownBlock → wpList P ops Q rest (a.put o.dst v') w') : wpList P ops Q (o :: rest) a w := by
 refine wpList_plain hgd fun K hK => ?_
 obtain ⟨v', w', hrun, r1, r2⟩ := app_run (P := P) t o.type e z bytes ht hi hzs hown hs h1 h63 hbytes hbase
 unfold Oper.wp
 simp [execOp, ho, resolve, invoke, builtin, hsv, hxv, hrun, Result.andThen]
 exact hK _ _ (h v' w' r1 r2)
theorem Row.take {w : World} {a : Option Addr} {n cap : Nat} {xs : List Value} (h : Row w (.slice a n cap) xs) (k : Nat) (hk : k ≤ n) : Row w (.slice a k cap) (xs.take k) := by
 obtain ⟨a', cap', e, h1, h2, h3, h4⟩ := h
 simp only [Value.slice.injEq] at e
 obtain ⟨rfl, rfl, rfl⟩ := e
 have hl : (xs.take k).length = k := by simp; omega
 refine ⟨a, cap, by rw [hl], by omega, h2, h3, ?_⟩
 rcases h4 with rfl | ⟨b, off, rfl, hc⟩
 ·
  exact .inl (by simp)
 ·
  refine .inr ⟨b, off, rfl, fun i hi => ?_⟩
  rw [hc i (by omega), List.getElem?_take, if_pos (by omega)]
theorem row_new (w : World) (xs : List Value) (e : TypeId) (n : Nat) (hn : n = xs.length) (h : n ≤ maxLen) : Row (w.alloc (.cells xs.toArray e)) (.slice (some ⟨w.heap.size, 0, none⟩) n n) xs := by
 subst hn; exact (Blk.new w e xs).row _ (Nat.le_refl _) h
end Go.Proofs.Ytdihcdphgiaepaa
namespace Go.Proofs.Ytdihcdphgiaepaa
open Go.RowKit Go.ChangeShapes Go.WideShapes Go.ChangeAt Go.Deep
abbrev bV (x : UInt8) : Value := .int .u8 (x.toNat : Int)
abbrev wV (x : UInt16) : Value := .int .u16 (x.toNat : Int)
def lenIs {H : Type} (d : DataW H) (n : Nat) : Prop := (d = .nil ∧ n = 0) ∨ ∃ el sp, d = .slice el sp ∧ el.length = n
section
variable {H : Type} {enc : TypeId × Value → H} {P : Program} {w : World} {base : Nat} {held : Bool}
theorem Row.of_cells {a : Addr} {len cap : Nat} {xs : List Value} (hl : len ≤ cap) (hm : cap ≤ maxLen) (hx : xs.length = len) (hc : ∀ i, i < len → w.cell? (a.add i) = xs[i]?) : Row w (.slice (some a) len cap) xs := by
 subst hx
 refine ⟨some a, cap, rfl, hl, hm, (fun h => by cases h), ?_⟩
 by_cases h0 : xs = []
 ·
  exact .inl h0
 ·
  right
  obtain ⟨b, off, spot⟩ := a
  have hp : 0 < xs.length := List.length_pos_iff.2 h0
  have h1 := hc 0 hp
  rw [List.getElem?_eq_getElem hp] at h1
  have hspot : spot = none := by simpa [Addr.add] using World.cell?_spot h1
  subst hspot
  refine ⟨b, off, rfl, fun i hi => ?_⟩
  have hadd : (⟨b, off, none⟩ : Addr).add i = ⟨b, off + i, none⟩ := by unfold Addr.add; split <;> simp_all
  rw [← hadd]
  exact hc i hi
theorem open_row {t e : TypeId} {k : IntKind} {a : Option Addr} {len cap : Nat} {d : DataW H} {p : List MemPlace} (ht : P.underlying t = some (.slice e)) (he : P.underlying e = some (.int k)) (hc : P.cellsOf e = 1)
  (h : DataW.Trod enc P w base (fun _ => true) held t (.slice a len cap) d p) :
  ∃ zs : List Int, Row w (.slice a len cap) (zs.map (Value.int k)) ∧ lenIs d zs.length ∧ ∀ n ∈ zs, (Lit.int k n).wf = true := by
 obtain ⟨fuel, hf⟩ := h
 rcases open_ints ht he hc hf with ⟨hcs, hx⟩ | ⟨x, l, c, zs, hcs, _, hl, hm, hz, hx, hcell, hwz⟩
 ·
  simp [Value.cells] at hcs
  obtain ⟨rfl, rfl, rfl⟩ := hcs
  simp only [Prod.mk.injEq] at hx
  exact ⟨[], Row.nil w, .inl ⟨hx.1, rfl⟩, by simp⟩
 ·
  simp [Value.cells] at hcs
  obtain ⟨rfl, rfl, rfl⟩ := hcs
  simp only [Prod.mk.injEq] at hx
  simp only [if_true] at hz
  refine ⟨zs.take len, Row.of_cells hl hm (by simp; omega) (fun i hi => ?_), .inr ⟨_, _, hx.1, by simp [lits]⟩, fun n hn => hwz n (List.mem_of_mem_take hn)⟩
  rw [hcell i (by omega)]
  simp [hi, List.getD_eq_getElem?_getD, List.getElem?_eq_getElem (show i < zs.length by omega)]
theorem open_u16s {t e : TypeId} {a : Option Addr} {len cap : Nat} {d : DataW H} {p : List MemPlace} (ht : P.underlying t = some (.slice e)) (he : P.underlying e = some (.int .u16)) (hc : P.cellsOf e = 1)
  (h : DataW.Trod enc P w base (fun _ => true) held t (.slice a len cap) d p) : ∃ xs : List UInt16, Row w (.slice a len cap) (xs.map wV) ∧ lenIs d xs.length := by
 obtain ⟨zs, hr, hd, hw⟩ := open_row ht he hc h
 refine ⟨zs.map fun n => UInt16.ofNat n.toNat, ?_, by simpa using hd⟩
 have e : (zs.map fun n => UInt16.ofNat n.toNat).map wV = zs.map (Value.int .u16) := by
  rw [List.map_map]
  apply List.map_congr_left
  intro n hn
  have := bounds_u16 (hw n hn)
  simp only [Function.comp_apply, wV, UInt16.toNat_ofNat']
  congr 1
  omega
 rw [e]; exact hr
theorem open_boolrow {t e : TypeId} {a : Option Addr} {len cap : Nat} {d : DataW H} {p : List MemPlace} (ht : P.underlying t = some (.slice e)) (he : P.underlying e = some .bool) (hc : P.cellsOf e = 1)
  (h : DataW.Trod enc P w base (fun _ => true) held t (.slice a len cap) d p) : ∃ xs : List Bool, Row w (.slice a len cap) (xs.map Value.bool) ∧ lenIs d xs.length := by
 obtain ⟨fuel, hf⟩ := h
 rcases open_bools ht he hc hf with ⟨hcs, hx⟩ | ⟨x, l, c, B, hcs, _, hl, hm, hx, hcell⟩
 ·
  simp [Value.cells] at hcs
  obtain ⟨rfl, rfl, rfl⟩ := hcs
  simp only [Prod.mk.injEq] at hx
  exact ⟨[], Row.nil w, .inl ⟨hx.1, rfl⟩⟩
 ·
  simp [Value.cells] at hcs
  obtain ⟨rfl, rfl, rfl⟩ := hcs
  simp only [Prod.mk.injEq] at hx
  refine ⟨(List.range len).map B, Row.of_cells hl hm (by simp) (fun i hi => ?_), .inr ⟨_, _, hx.1, by simp⟩⟩
  rw [hcell i (by omega)]
  simp [hi]
theorem reach_slice {ts : List TypeId} {ds : List (DataW H)} (h : (DataW.weightsEach P ts ds).all (· ≤ reachBytes) = true) {j : Nat} {t e : TypeId} {d : DataW H} {n b : Nat} (ht : ts[j]? = some t) (hd : ds[j]? = some d) (hu : P.underlying t = some (.slice e)) (hl : lenIs d n) (hb : P.bytesOf e = b) :
  n * b ≤ 140737488351232 := by
 rcases hl with ⟨-, rfl⟩ | ⟨el, sp, rfl, rfl⟩
 ·
  simp
 ·
  have := sized_slice h ht hd hu
  rw [hb] at this
  have h2 : el.length * b ≤ (el.length + sp.length) * b := Nat.mul_le_mul_right _ (by omega)
  have h3 : reachBytes = 140737488351232 := by decide
  omega
end
end Go.Proofs.Ytdihcdphgiaepaa
