/- Plain mathematics of chapter 1: bytes, words, bits as lists. Nothing of the program. -/
import Derived.WalkKit
import Derived.WalkSpells
import Derived.WalkLawsBesides
import Derived.Laws.CopyOwn
import Derived.Laws.AppendOwnNone
import Derived.ProofKit
import Derived.OpenShut
import Derived.ShutString
import Derived.ChangeOld
import Derived.Deep.Grids
import Derived.SizedLaws
import Derived.JoinedCond
import Derived.OrdersHeld
import Derived.Tactics2
import Derived.Laws.BitsAllLaws
import Derived.Laws.BitsLemmas
namespace Go.Proofs.YtdihcdphgiaepaaGreat
open Go.RowKit
theorem hidden {p : Prop} (h : p) : Hid p := h
def Row (w : World) (v : Value) (xs : List Value) : Prop :=
 ∃ a cap, v = .slice a xs.length cap ∧ xs.length ≤ cap ∧ cap ≤ maxLen ∧ (a = none → cap = 0) ∧
  (xs = [] ∨ ∃ b off, a = some ⟨b, off, none⟩ ∧ ∀ i, i < xs.length → w.cell? ⟨b, off + i, none⟩ = xs[i]?)
theorem lt_of_cell {w : World} {b o : Nat} {u : Value} (h : w.cell? ⟨b, o, none⟩ = some u) : b < w.heap.size := by
 unfold World.cell? at h;cases hb : w.heap[b]? with
 | none => simp [hb] at h
 | some x => exact (Array.getElem?_eq_some_iff.1 hb).1
theorem Row.below {w w' : World} {v : Value} {xs : List Value} (h : Row w v xs) (hb : Below w.heap.size w w') : Row w' v xs := by
 obtain ⟨a, cap, rfl, h1, h2, h0, h3⟩ := h;refine ⟨a, cap, rfl, h1, h2, h0, ?_⟩;rcases h3 with h3 | ⟨b, off, rfl, hc⟩
 ·
  exact .inl h3
 ·
  refine .inr ⟨b, off, rfl, fun i hi => ?_⟩;have := hc i hi;have hlt : b < w.heap.size := by
   rw [List.getElem?_eq_getElem hi] at this;exact lt_of_cell this
  rw [hb.cell (p := ⟨b, off + i, none⟩) hlt];exact this
theorem Row.nil (w : World) : Row w (.slice none 0 0) [] := ⟨none, 0, rfl, Nat.le_refl _, Nat.zero_le _, fun _ => rfl, .inl rfl⟩
theorem Row.of_owns {w : World} {base : Nat} {e : TypeId} {v : Value} {n : Nat} {xs : List Value} (h : w.ownsRow base e 1 v n xs) : Row w v xs := by
 have hn : xs.length = n := by have := h.1; omega
 rcases h.2 with ⟨rfl, rfl⟩ | ⟨g, cap, cur, rfl, hb, hg, hle, hm, hs, ht⟩
 ·
  have : xs = [] := List.eq_nil_of_length_eq_zero hn;subst this;exact Row.nil w
 ·
  refine ⟨some ⟨g, 0, none⟩, cap, by rw [hn], by omega, hm, (fun h => by cases h), .inr ⟨g, 0, rfl, fun i hi => ?_⟩⟩;have := h.cellAt i (by omega)
  simpa using this
def Blk (w : World) (g : Nat) (e : TypeId) (xs : List Value) : Prop := w.heap[g]? = some (.cells xs.toArray e (0, 0))
theorem Blk.cell {w : World} {g : Nat} {e : TypeId} {xs : List Value} (h : Blk w g e xs) (i : Nat) : w.cell? ⟨g, i, none⟩ = xs[i]? := by
 unfold Blk at h; simp [World.cell?, h]
theorem Blk.frozen {w : World} {g : Nat} {e : TypeId} {xs : List Value} (h : Blk w g e xs) (i : Nat) : w.frozen? ⟨g, i, none⟩ = false := by
 unfold Blk at h; simp [World.frozen?, h]
theorem Blk.lt {w : World} {g : Nat} {e : TypeId} {xs : List Value} (h : Blk w g e xs) : g < w.heap.size := (Array.getElem?_eq_some_iff.1 h).1
theorem Blk.set {w : World} {g : Nat} {e : TypeId} {xs : List Value} (h : Blk w g e xs) (i : Nat) (v : Value) : Blk (w.setCell ⟨g, i, none⟩ v) g e (xs.set i v) := by
 unfold Blk at h ⊢;simp only [World.setCell, Array.getElem?_modify, h, if_true];simp
theorem Blk.below {w w' : World} {B g : Nat} {e : TypeId} {xs : List Value} (h : Blk w g e xs) (hb : Below B w w') (hg : g < B) : Blk w' g e xs := (hb.block g hg).trans h
theorem Blk.new (w : World) (e : TypeId) (xs : List Value) : Blk (w.alloc (.cells xs.toArray e)) w.heap.size e xs := heap_alloc_new w _
theorem Blk.alloc {w : World} {g : Nat} {e : TypeId} {xs : List Value} (h : Blk w g e xs) (o : Obj) : Blk (w.alloc o) g e xs := (Below.heap_alloc w o g h.lt).trans h
theorem Blk.drewN {w : World} {g : Nat} {e : TypeId} {xs : List Value} (h : Blk w g e xs) (n : Nat) : Blk (w.drewN n) g e xs := h
theorem Blk.drew {w : World} {g : Nat} {e : TypeId} {xs : List Value} (h : Blk w g e xs) : Blk w.drew g e xs := h
theorem Blk.row {w : World} {g : Nat} {e : TypeId} {xs : List Value} (h : Blk w g e xs) (cap : Nat) (h1 : xs.length ≤ cap) (h2 : cap ≤ maxLen) : Row w (.slice (some ⟨g, 0, none⟩) xs.length cap) xs :=
 ⟨_, cap, rfl, h1, h2, fun h => (by cases h), .inr ⟨g, 0, rfl, fun i _ => by rw [Nat.zero_add]; exact h.cell i⟩⟩
theorem below_drewn {B : Nat} {a w : World} (h : Below B a w) (n : Nat) : Below B a (w.drewN n) := ⟨h.os, h.tape, h.output, h.size, h.block⟩
theorem below_drewn0 (B : Nat) (w : World) (n : Nat) : Below B w (w.drewN n) := below_drewn (Below.refl B w) n
theorem Row.drew {w : World} {v : Value} {xs : List Value} (h : Row w v xs) : Row w.drew v xs := h.below (Below.refl _ _).drew
theorem Row.drewN {w : World} {v : Value} {xs : List Value} (h : Row w v xs) (n : Nat) : Row (w.drewN n) v xs := h.below (below_drewn0 _ _ _)
theorem Blk.some {w : World} {g : Nat} {e : TypeId} {xs : List Value} (h : Blk w g e xs) (i : Nat) (hi : i < xs.length) : ∃ u, w.cell? ⟨g, i, none⟩ = some u :=
 ⟨xs[i], by rw [h.cell i, List.getElem?_eq_getElem hi]⟩
theorem copy_run {P : Program} {w0 w : World} {B : Nat} (hb : Below B w0 w) (dT sT ty elem : TypeId) (hu : P.underlying dT = some (.slice elem)) (hsz : (P.info? elem).map (·.size) = some 1)
  (g off dLen dCap : Nat) (a : Option Addr) (sLen sCap : Nat) (cur : List Value) (t : TypeId) (hg : Blk w g t cur) (hBg : B ≤ g) (src : List Value) (hs : Row w (.slice a sLen sCap) src) (h1 : ∀ v ∈ src, v.oneCell' = true)
  (hfit : off + dLen ≤ cur.length) :
  ∃ w', (Builtin.copy_ #[dT, sT] ty #[.slice (some ⟨g, off, none⟩) dLen dCap, .slice a sLen sCap]).run P w = .ok (goInt ((min src.length dLen : Nat) : Int)) w' ∧ Blk w' g t (splice cur off (src.take dLen)) ∧ Below B w0 w' := by
 obtain ⟨a', cap', e, h2, h3, -, h4⟩ := hs;simp only [Value.slice.injEq] at e;obtain ⟨rfl, rfl, rfl⟩ := e;have hlen : (src.take dLen).length = min src.length dLen := by rw [List.length_take, Nat.min_comm]
 by_cases h0 : min src.length dLen = 0
 ·
  refine ⟨w, ?_, ?_, hb⟩
  ·
   rw [h0];exact run_copy_none (P := P) w dT sT ty elem _ a dLen dCap src.length sCap hu hsz h0
  ·
   have : src.take dLen = [] := List.eq_nil_of_length_eq_zero (by omega);rw [this]
   simpa [splice] using hg
 ·
  rcases h4 with h4 | ⟨b, o, rfl, hc⟩
  ·
   subst h4; simp at h0
  ·
   have hrun := run_copy_row (P := P) w dT sT ty elem g off dLen dCap ⟨b, o, none⟩ src.length sCap cur.toArray t (src.take dLen) hu hsz hg hlen (fun j v hj => by
    have hj' : j < (src.take dLen).length := by
     rcases Nat.lt_or_ge j (src.take dLen).length with h | h
     ·
      exact h
     ·
      rw [List.getElem?_eq_none h] at hj; cases hj
    have hadd : (⟨b, o, none⟩ : Addr).add j = ⟨b, o + j, none⟩ := by unfold Addr.add; split <;> simp_all
    rw [hadd, hc j (by omega)];rw [List.getElem?_take] at hj
    split at hj
    ·
     exact hj
    ·
     cases hj) (by simp; omega) (fun v hv => h1 v (List.mem_of_mem_take hv))
   rw [hlen] at hrun;refine ⟨_, hrun, ?_, below_setRow hb hBg _⟩;show _ = _;rw [setRow_heap w g _ _ t _ hg];simp [splice, hlen]
theorem app_run {P : Program} {w : World} {base : Nat} (t ty e : TypeId) (z : Value) (bytes : Nat) (ht : P.underlying t = some (.slice e)) (hi : (P.info? e).map (fun i => (i.zero, i.size, i.bytes)) = some (some z, 1, bytes)) (hzs : z.cells.size = 1)
  {v : Value} {n : Nat} {xs : List Value} (hown : w.ownsRow base e 1 v n xs) {sv : Value} {news : List Value} (hs : Row w sv news) (h1 : ∀ u ∈ news, u.oneCell' = true)
  (h63 : n + news.length ≤ maxLen) (hbytes : (n + news.length) * bytes ≤ 140737488355328) (hbase : base ≤ w.heap.size) :
  ∃ v' w', (Builtin.append_ #[t, t] ty #[v, sv]).run P w = .ok v' w' ∧ w'.ownsRow base e 1 v' (n + news.length) (xs ++ news) ∧ w.grownBy w' v.ownBlock := by
 obtain ⟨i, hi, hz, hsz, hby⟩ := info_parts hi;obtain ⟨a, cap, rfl, h2, h3, h5, h4⟩ := hs;have some_case : ∀ ad, a = some ad → (∀ j u, news[j]? = some u → w.cell? (ad.add j) = some u) → ∃ v' w', (Builtin.append_ #[t, t] ty #[v, .slice a news.length cap]).run P w = .ok v' w' ∧ w'.ownsRow base e 1 v' (n + news.length) (xs ++ news) ∧ w.grownBy w' v.ownBlock := by
  rintro ad rfl hc;obtain ⟨v', w', hr, r1, r2, -⟩ := run_append_own (P := P) w base t ty e i z 1 bytes ht hi hz hsz hby hzs (by decide) v n xs hown ad news.length cap news (by omega) hc h1 h63 hbytes hbase;exact ⟨v', w', hr, r1, r2⟩
 rcases h4 with rfl | ⟨b, o, rfl, hc⟩
 ·
  cases a with
  | some ad => exact some_case ad rfl (fun j u hj => by simp at hj)
  | none =>
   refine ⟨v, w, ?_, by simpa using hown, World.grownBy.refl _ _⟩;obtain rfl := h5 rfl;exact run_append_owned_none (P := P) (w := w) base t ty e i 1 ht hi v n xs hown
 ·
  refine some_case _ rfl (fun j u hj => ?_);have hadd : (⟨b, o, none⟩ : Addr).add j = ⟨b, o + j, none⟩ := by unfold Addr.add; split <;> simp_all
  have hj' : j < news.length := by
   rcases Nat.lt_or_ge j news.length with h | h
   ·
    exact h
   ·
    rw [List.getElem?_eq_none h] at hj; cases hj
  rw [hadd, hc j hj', hj]
theorem wpList_app {P : Program} {w : World} {ops : Array Oper} {rest : List Oper} {o : Oper} {a : Act} {Q : Exit → Act → World → Prop} (hgd : o.guard = none) (s x : Operand) (t : TypeId)
  (ho : o.op = .call { callee := .builtin .append, args := #[s, x], argTypes := #[t, t] })
  (base : Nat) (e : TypeId) (z : Value) (bytes : Nat) (ht : P.underlying t = some (.slice e)) (hi : (P.info? e).map (fun i => (i.zero, i.size, i.bytes)) = some (some z, 1, bytes)) (hzs : z.cells.size = 1)
  {v : Value} {n : Nat} {xs : List Value} (hsv : a.eval s = v) (hown : w.ownsRow base e 1 v n xs) {sv : Value} {news : List Value} (hxv : a.eval x = sv) (hs : Row w sv news) (h1 : ∀ u ∈ news, u.oneCell' = true)
  (h63 : n + news.length ≤ maxLen) (hbytes : (n + news.length) * bytes ≤ 140737488355328) (hbase : base ≤ w.heap.size)
  (h : ∀ v' w', w'.ownsRow base e 1 v' (n + news.length) (xs ++ news) → w.grownBy w' v.ownBlock → wpList P ops Q rest (a.put o.dst v') w') : wpList P ops Q (o :: rest) a w := by
 refine wpList_plain hgd fun K hK => ?_;obtain ⟨v', w', hrun, r1, r2⟩ := app_run (P := P) t o.type e z bytes ht hi hzs hown hs h1 h63 hbytes hbase;unfold Oper.wp;simp [execOp, ho, resolve, invoke, builtin, hsv, hxv, hrun, Result.andThen];exact hK _ _ (h v' w' r1 r2)
theorem wp_app {P : Program} {w : World} {o : Oper} {a : Act} {K : Act → World → Prop} {Q : Exit → Act → World → Prop} (s x : Operand) (t : TypeId)
  (ho : o.op = .call { callee := .builtin .append, args := #[s, x], argTypes := #[t, t] })
  (base : Nat) (e : TypeId) (z : Value) (bytes : Nat) (ht : P.underlying t = some (.slice e)) (hi : (P.info? e).map (fun i => (i.zero, i.size, i.bytes)) = some (some z, 1, bytes)) (hzs : z.cells.size = 1)
  {v : Value} {n : Nat} {xs : List Value} (hsv : a.eval s = v) (hown : w.ownsRow base e 1 v n xs) {sv : Value} {news : List Value} (hxv : a.eval x = sv) (hs : Row w sv news) (h1 : ∀ u ∈ news, u.oneCell' = true)
  (h63 : n + news.length ≤ maxLen) (hbytes : (n + news.length) * bytes ≤ 140737488355328) (hbase : base ≤ w.heap.size)
  (h : ∀ v' w', w'.ownsRow base e 1 v' (n + news.length) (xs ++ news) → w.grownBy w' v.ownBlock → K (a.put o.dst v') w') : o.wp P a w K Q := by
 obtain ⟨v', w', hrun, r1, r2⟩ := app_run (P := P) t o.type e z bytes ht hi hzs hown hs h1 h63 hbytes hbase;unfold Oper.wp;simp [execOp, ho, resolve, invoke, builtin, hsv, hxv, hrun, Result.andThen];exact h v' w' r1 r2
theorem step_app {P : Program} {w : World} {ops : Array Oper} {o : Oper} {a : Act} {K : Act → World → Prop} {Q : Exit → Act → World → Prop} {E : Prop} (hgd : o.guard = none) (s x : Operand) (t : TypeId)
  (ho : o.op = .call { callee := .builtin .append, args := #[s, x], argTypes := #[t, t] })
  (base : Nat) (e : TypeId) (z : Value) (bytes : Nat) (ht : P.underlying t = some (.slice e)) (hi : (P.info? e).map (fun i => (i.zero, i.size, i.bytes)) = some (some z, 1, bytes)) (hzs : z.cells.size = 1)
  {v : Value} {n : Nat} {xs : List Value} (hsv : a.eval s = v) (hown : w.ownsRow base e 1 v n xs) {sv : Value} {news : List Value} (hxv : a.eval x = sv) (hs : Row w sv news) (h1 : ∀ u ∈ news, u.oneCell' = true)
  (h63 : n + news.length ≤ maxLen) (hbytes : (n + news.length) * bytes ≤ 140737488355328) (hbase : base ≤ w.heap.size)
  (h : ∀ v' w', w'.ownsRow base e 1 v' (n + news.length) (xs ++ news) → w.grownBy w' v.ownBlock → K (a.put o.dst v') w') :
  if Region.wanted o (yielded ops a.tmps) = true then Oper.wp P o a w K Q else E := by
 have hw : Region.wanted o (yielded ops a.tmps) = true := by simp [Region.wanted, hgd]
 rw [if_pos hw];obtain ⟨v', w', hrun, r1, r2⟩ := app_run (P := P) t o.type e z bytes ht hi hzs hown hs h1 h63 hbytes hbase;unfold Oper.wp;simp [execOp, ho, resolve, invoke, builtin, hsv, hxv, hrun, Result.andThen];exact h v' w' r1 r2
theorem Row.take {w : World} {a : Option Addr} {n cap : Nat} {xs : List Value} (h : Row w (.slice a n cap) xs) (k : Nat) (hk : k ≤ n) : Row w (.slice a k cap) (xs.take k) := by
 obtain ⟨a', cap', e, h1, h2, h3, h4⟩ := h;simp only [Value.slice.injEq] at e;obtain ⟨rfl, rfl, rfl⟩ := e;have hl : (xs.take k).length = k := by simp; omega
 refine ⟨a, cap, by rw [hl], by omega, h2, h3, ?_⟩;rcases h4 with rfl | ⟨b, off, rfl, hc⟩
 ·
  exact .inl (by simp)
 ·
  refine .inr ⟨b, off, rfl, fun i hi => ?_⟩;rw [hc i (by omega), List.getElem?_take, if_pos (by omega)]
theorem row_new (w : World) (xs : List Value) (e : TypeId) (n : Nat) (hn : n = xs.length) (h : n ≤ maxLen) : Row (w.alloc (.cells xs.toArray e)) (.slice (some ⟨w.heap.size, 0, none⟩) n n) xs := by
 subst hn; exact (Blk.new w e xs).row _ (Nat.le_refl _) h
end Go.Proofs.YtdihcdphgiaepaaGreat
namespace Go.Proofs.YtdihcdphgiaepaaGreat
open Go.RowKit Go.ChangeShapes Go.WideShapes Go.ChangeAt Go.Deep
abbrev bV (x : UInt8) : Value := .int .u8 (x.toNat : Int)
abbrev wV (x : UInt16) : Value := .int .u16 (x.toNat : Int)
def lenIs {H : Type} (d : DataW H) (n : Nat) : Prop := (d = .nil ∧ n = 0) ∨ ∃ el sp, d = .slice el sp ∧ el.length = n
section
variable {H : Type} {enc : TypeId × Value → H} {P : Program} {w : World} {base : Nat} {held : Bool}
theorem Row.of_cells {a : Addr} {len cap : Nat} {xs : List Value} (hl : len ≤ cap) (hm : cap ≤ maxLen) (hx : xs.length = len) (hc : ∀ i, i < len → w.cell? (a.add i) = xs[i]?) : Row w (.slice (some a) len cap) xs := by
 subst hx;refine ⟨some a, cap, rfl, hl, hm, (fun h => by cases h), ?_⟩;by_cases h0 : xs = []
 ·
  exact .inl h0
 ·
  right
  obtain ⟨b, off, spot⟩ := a;have hp : 0 < xs.length := List.length_pos_iff.2 h0;have h1 := hc 0 hp;rw [List.getElem?_eq_getElem hp] at h1;have hspot : spot = none := by simpa [Addr.add] using World.cell?_spot h1
  subst hspot;refine ⟨b, off, rfl, fun i hi => ?_⟩;have hadd : (⟨b, off, none⟩ : Addr).add i = ⟨b, off + i, none⟩ := by unfold Addr.add; split <;> simp_all
  rw [← hadd];exact hc i hi
theorem open_row {t e : TypeId} {k : IntKind} {a : Option Addr} {len cap : Nat} {d : DataW H} {p : List MemPlace} (ht : P.underlying t = some (.slice e)) (he : P.underlying e = some (.int k)) (hc : P.cellsOf e = 1)
  (h : DataW.Trod enc P w base (fun _ => true) held t (.slice a len cap) d p) :
  ∃ zs : List Int, Row w (.slice a len cap) (zs.map (Value.int k)) ∧ lenIs d zs.length ∧ ∀ n ∈ zs, (Lit.int k n).wf = true := by
 obtain ⟨fuel, hf⟩ := h;rcases open_ints ht he hc hf with ⟨hcs, hx⟩ | ⟨x, l, c, zs, hcs, _, hl, hm, hz, hx, hcell, hwz⟩
 ·
  simp [Value.cells] at hcs;obtain ⟨rfl, rfl, rfl⟩ := hcs;simp only [Prod.mk.injEq] at hx;exact ⟨[], Row.nil w, .inl ⟨hx.1, rfl⟩, by simp⟩
 ·
  simp [Value.cells] at hcs;obtain ⟨rfl, rfl, rfl⟩ := hcs;simp only [Prod.mk.injEq] at hx;simp only [if_true] at hz;refine ⟨zs.take len, Row.of_cells hl hm (by simp; omega) (fun i hi => ?_), .inr ⟨_, _, hx.1, by simp [lits]⟩, fun n hn => hwz n (List.mem_of_mem_take hn)⟩;rw [hcell i (by omega)];simp [hi, List.getD_eq_getElem?_getD, List.getElem?_eq_getElem (show i < zs.length by omega)]
theorem open_u8s {t e : TypeId} {a : Option Addr} {len cap : Nat} {d : DataW H} {p : List MemPlace} (ht : P.underlying t = some (.slice e)) (he : P.underlying e = some (.int .u8)) (hc : P.cellsOf e = 1)
  (h : DataW.Trod enc P w base (fun _ => true) held t (.slice a len cap) d p) : ∃ xs : List UInt8, Row w (.slice a len cap) (xs.map bV) ∧ lenIs d xs.length := by
 obtain ⟨zs, hr, hd, hw⟩ := open_row ht he hc h;refine ⟨zs.map fun n => UInt8.ofNat n.toNat, ?_, by simpa using hd⟩;have e : (zs.map fun n => UInt8.ofNat n.toNat).map bV = zs.map (Value.int .u8) := by
  rw [List.map_map]
  apply List.map_congr_left
  intro n hn;have := bounds_u8 (hw n hn);simp only [Function.comp_apply, bV, UInt8.toNat_ofNat']
  congr 1
  omega
 rw [e]; exact hr
theorem reach_slice {ts : List TypeId} {ds : List (DataW H)} (h : (DataW.weightsEach P ts ds).all (· ≤ reachBytes) = true) {j : Nat} {t e : TypeId} {d : DataW H} {n b : Nat} (ht : ts[j]? = some t) (hd : ds[j]? = some d) (hu : P.underlying t = some (.slice e)) (hl : lenIs d n) (hb : P.bytesOf e = b) :
  n * b ≤ 140737488351232 := by
 rcases hl with ⟨-, rfl⟩ | ⟨el, sp, rfl, rfl⟩
 ·
  simp
 ·
  have := sized_slice h ht hd hu;rw [hb] at this;have h2 : el.length * b ≤ (el.length + sp.length) * b := Nat.mul_le_mul_right _ (by omega);have h3 : reachBytes = 140737488351232 := by decide
  omega
end
theorem PuA {α : Type} (l : List α) (i : Nat) (a : α) : l.toArray.setIfInBounds i a = (l.set i a).toArray := List.setIfInBounds_toArray l i a
theorem PuB {α : Type} {a b : α} {l : List α} : (a :: l).set 0 b = b :: l := List.set_cons_zero
theorem PuC {α : Type} {a b : α} {l : List α} {n : Nat} : (a :: l).set (n + 1) b = a :: l.set n b := List.set_cons_succ
abbrev Ext (w w' : World) : Prop := Below w.heap.size w w'
theorem Ext.refl (w : World) : Ext w w := Below.refl _ _
theorem Ext.trans {a b c : World} (h : Ext a b) (k : Ext b c) : Ext a c := Below.trans h (k.mono h.size)
section
variable {P : Program} {ops : Array Oper} {Q : Exit → Act → World → Prop} {md : Region.Mode}
theorem held_mono {S S' : World → Prop} (hS : ∀ w, S' w → S w) : ∀ (n : Nat) (listed : Array Bool) (a : Act) (w : World), wpAnyH P md ops Q S' n listed a w → wpAnyH P md ops Q S n listed a w
 | 0, _, _, _, h => h
 | n + 1, _, _, _, h => ⟨h.1, fun i hi => wpOp_mono (fun a' w' h' => ⟨hS _ h'.1, held_mono hS n _ a' w' h'.2⟩) (h.2 i hi)⟩
def wpPi (P : Program) (ops : Array Oper) (Q : Exit → Act → World → Prop) : List (Nat × Bool) → World → Act → World → Prop
 | [], _, a, w => Q .normal a w
 | (i, true) :: r, s, a, w => ∃ o v s', ops[i]? = some o ∧ Ext s s' ∧ Ext s' w ∧ YieldsIf P ops (Ext s') o v a ∧ wpPi P ops Q r s' (a.put o.dst v) w
 | (i, false) :: r, s, a, w => wpOp P ops Q i (fun a' w' => Ext s w' ∧ wpPi P ops Q r s a' w') a w
def piOk (md : Region.Mode) (ops : Array Oper) : List (Nat × Bool) → Array Bool → Bool
 | [], listed => (Region.ready md ops listed).isEmpty
 | (i, true) :: r, listed => Region.free md ops listed i && (Region.ready md ops listed).contains i && piOk md ops r (listed.setIfInBounds i true)
 | (i, false) :: r, listed => (Region.ready md ops listed == [i]) && piOk md ops r (listed.setIfInBounds i true)
theorem held_pi (hs : Region.noSelect ops = true) (hQ : ∀ c a w d v, Q (.panic c) (Act.put a d v) w → Q (.panic c) a w) :
  ∀ (pi : List (Nat × Bool)) (listed : Array Bool) (s : World) (a : Act) (w : World) (n : Nat), n = pi.length → piOk md ops pi listed = true → Ext s w → wpPi P ops Q pi s a w → wpAnyH P md ops Q (Ext s) n listed a w
 | [], listed, s, a, w, n, hn, hc, _, h => by
  subst hn;exact ⟨by simpa [piOk] using hc, h⟩
 | (i, true) :: r, listed, s, a, w, n, hn, hc, _, h => by
  subst hn;simp only [piOk, Bool.and_eq_true] at hc;obtain ⟨o, v, s', hi, h1, h2, hy, hr⟩ := h;exact held_mono (fun u hu => Ext.trans h1 hu) _ _ _ _ (wpAnyH_first hi (Region.noSelect_spec hs) (fun c a w => hQ c a w o.dst v) r.length listed a w (Region.free_spec hi hc.1.1) (by simpa using hc.1.2) hy h2 (held_pi hs hQ r _ _ _ _ _ rfl hc.2 h2 hr))
 | (i, false) :: r, listed, s, a, w, n, hn, hc, _, h => by
  subst hn;simp only [piOk, Bool.and_eq_true, beq_iff_eq] at hc;refine ⟨fun h0 => (by rw [hc.1] at h0; cases h0), fun j hj => ?_⟩;rw [hc.1] at hj;obtain rfl : j = i := by simpa using hj
  exact wpOp_mono (fun a' w' h' => ⟨h'.1, held_pi hs hQ r _ _ _ _ _ rfl hc.2 h'.1 h'.2⟩) h
theorem wp_region_pi {id : Nat} {a : Act} {w : World} (pi : List (Nat × Bool)) (hm : P.follows .mixedOrders = true) (hs : Region.noSelect ops = true) (hc : (piOk .any ops pi (Array.replicate ops.size false) && (pi.length == ops.size)) = true)
  (hQ : ∀ c a w d v, Q (.panic c) (Act.put a d v) w → Q (.panic c) a w) (h : wpPi P ops Q pi w.drew a w.drew) : (Code.region id ops true).wp P Q a w := by
 simp only [Bool.and_eq_true, beq_iff_eq] at hc;exact wp_region_held (S := Ext w.drew) hm (held_pi hs hQ pi _ _ a _ _ hc.2.symm hc.1 (Ext.refl _) h)
theorem pi_nil {s : World} {a : Act} {w : World} (h : Q .normal a w) : wpPi P ops Q [] s a w := h
section
variable {i : Nat} {r : List (Nat × Bool)} {s w : World} {a : Act} {dst : Option Tmp} {op : Op} {ty : TypeId} {pos : String} {after : Array Edge} {guard : Option (Nat × Bool)} {v : Value}
theorem pi_pure (hx : Ext s w) (hi : ops[i]? = some ⟨dst, op, ty, pos, after, guard⟩) (hw : Region.wanted ⟨dst, op, ty, pos, after, guard⟩ (yielded ops a.tmps) = true)
  (hv : ∀ w', (execOp a.eval ⟨dst, op, ty, pos, after, guard⟩).run P w' = .ok (.value v) w') (h : wpPi P ops Q r s (a.put dst v) w) : wpPi P ops Q ((i, true) :: r) s a w := ⟨_, v, s, hi, Ext.refl s, hx, .inl ⟨hw, fun w' _ => hv w'⟩, h⟩
theorem pi_read (hx : Ext s w) (hi : ops[i]? = some ⟨dst, op, ty, pos, after, guard⟩) (hw : Region.wanted ⟨dst, op, ty, pos, after, guard⟩ (yielded ops a.tmps) = true)
  (hv : ∀ w', Ext w w' → (execOp a.eval ⟨dst, op, ty, pos, after, guard⟩).run P w' = .ok (.value v) w') (h : wpPi P ops Q r w (a.put dst v) w) : wpPi P ops Q ((i, true) :: r) s a w := ⟨_, v, w, hi, hx, Ext.refl w, .inl ⟨hw, hv⟩, h⟩
theorem pi_skip (hx : Ext s w) (hi : ops[i]? = some ⟨dst, op, ty, pos, after, guard⟩) (hw : Region.wanted ⟨dst, op, ty, pos, after, guard⟩ (yielded ops a.tmps) = false)
  (h : wpPi P ops Q r s (a.put dst undef) w) : wpPi P ops Q ((i, true) :: r) s a w := ⟨_, undef, s, hi, Ext.refl s, hx, .inr ⟨hw, rfl⟩, h⟩
theorem pi_move (hi : ops[i]? = some ⟨dst, op, ty, pos, after, guard⟩) (hw : Region.wanted ⟨dst, op, ty, pos, after, guard⟩ (yielded ops a.tmps) = true)
  (h : ∀ K : Act → World → Prop, Hid (∀ a' w', Ext s w' → wpPi P ops Q r s a' w' → K a' w') → Oper.wp P ⟨dst, op, ty, pos, after, guard⟩ a w K Q) : wpPi P ops Q ((i, false) :: r) s a w := by
 show wpOp _ _ _ _ _ _ _;unfold wpOp;simp only [hi, hw, if_true];exact .inl (h _ (fun a' w' h1 h2 => ⟨h1, h2⟩))
theorem pi_pass (hx : Ext s w) (hi : ops[i]? = some ⟨dst, op, ty, pos, after, guard⟩) (hw : Region.wanted ⟨dst, op, ty, pos, after, guard⟩ (yielded ops a.tmps) = false)
  (h : wpPi P ops Q r s (a.put dst undef) w) : wpPi P ops Q ((i, false) :: r) s a w := by
 show wpOp _ _ _ _ _ _ _;unfold wpOp;simp only [hi, hw];exact ⟨hx, h⟩
theorem pi_P (hx : Ext s w) (hi : ops[i]? = some ⟨dst, op, ty, pos, after, guard⟩) {a' : Act} (h : wpPi P ops Q r s a' w) (hw : Region.wanted ⟨dst, op, ty, pos, after, guard⟩ (yielded ops a.tmps) = true := by kernel_rfl)
  (hv : ∀ w', (execOp a.eval ⟨dst, op, ty, pos, after, guard⟩).run P w' = .ok (.value v) w' := by intro w'; go_simp; with_reducible rfl) (ha : a.put dst v = a' := by (try simp only [Act.put, PuA, PuB, PuC]); exact rfl) : wpPi P ops Q ((i, true) :: r) s a w := pi_pure hx hi hw hv (ha ▸ h)
theorem pi_R (hx : Ext s w) (hi : ops[i]? = some ⟨dst, op, ty, pos, after, guard⟩) (hv : ∀ w', Ext w w' → (execOp a.eval ⟨dst, op, ty, pos, after, guard⟩).run P w' = .ok (.value v) w') {a' : Act} (h : wpPi P ops Q r w a' w)
  (hw : Region.wanted ⟨dst, op, ty, pos, after, guard⟩ (yielded ops a.tmps) = true := by kernel_rfl) (ha : a.put dst v = a' := by (try simp only [Act.put, PuA, PuB, PuC]); exact rfl) : wpPi P ops Q ((i, true) :: r) s a w := pi_read hx hi hw hv (ha ▸ h)
theorem pi_S (hx : Ext s w) (hi : ops[i]? = some ⟨dst, op, ty, pos, after, guard⟩) {a' : Act} (h : wpPi P ops Q r s a' w) (hw : Region.wanted ⟨dst, op, ty, pos, after, guard⟩ (yielded ops a.tmps) = false := by kernel_rfl)
  (ha : a.put dst undef = a' := by (try simp only [Act.put, PuA, PuB, PuC]); exact rfl) : wpPi P ops Q ((i, true) :: r) s a w := pi_skip hx hi hw (ha ▸ h)
end
end
end Go.Proofs.YtdihcdphgiaepaaGreat
namespace Go.Proofs.YtdihcdphgiaepaaGreat
theorem ofInt_i64 (a : Nat) (ha : a < 4611686018427387904) : (BitVec.ofInt 64 (a : Int)).toNat = a := by
 rw [BitVec.ofInt_natCast, BitVec.toNat_ofNat]; exact Nat.mod_eq_of_lt (by omega)
theorem i64_or_nat (a b : Nat) (ha : a < 4611686018427387904) (hb : b < 4611686018427387904) : bits .or .i64 (a : Int) (b : Int) = ((a ||| b : Nat) : Int) := by
 have hx : a ||| b < 2 ^ 62 := Nat.or_lt_two_pow (by omega) (by omega);show IntKind.i64.wrap ((BitVec.ofInt 64 (a : Int) ||| BitVec.ofInt 64 (b : Int)).toNat : Int) = _;rw [BitVec.toNat_or, ofInt_i64 a ha, ofInt_i64 b hb, IntKind.wrap_i64];omega
theorem i64_and_mask (n : Int) (k : Nat) (hk : k < 62) : bits .and .i64 n ((2 ^ k - 1 : Nat) : Int) = n % ((2 ^ k : Nat) : Int) := by
 have hp : 2 ^ k ≤ 2 ^ 61 := Nat.pow_le_pow_right (by decide) (by omega);have hp0 : 0 < 2 ^ k := Nat.two_pow_pos k;have hm : (BitVec.ofInt 64 ((2 ^ k - 1 : Nat) : Int)).toNat = 2 ^ k - 1 := by
  rw [BitVec.ofInt_natCast, BitVec.toNat_ofNat]; exact Nat.mod_eq_of_lt (by omega)
 have key : (BitVec.ofInt 64 n &&& BitVec.ofInt 64 ((2 ^ k - 1 : Nat) : Int)).toNat = (n % ((2 ^ 64 : Nat) : Int)).toNat % 2 ^ k := by
  rw [BitVec.toNat_and, BitVec.toNat_ofInt, hm, Nat.and_two_pow_sub_one_eq_mod]
 show IntKind.i64.wrap ((BitVec.ofInt 64 n &&& BitVec.ofInt 64 ((2 ^ k - 1 : Nat) : Int)).toNat : Nat) = _;have hlt : (n % ((2 ^ 64 : Nat) : Int)).toNat % 2 ^ k < 2 ^ k := Nat.mod_lt _ hp0;have e1 : (((n % ((2 ^ 64 : Nat) : Int)).toNat % 2 ^ k : Nat) : Int) = n % ((2 ^ k : Nat) : Int) := by
  rw [Int.natCast_emod, Int.toNat_of_nonneg (Int.emod_nonneg _ (by decide))];exact Int.emod_emod_of_dvd n (Int.natCast_dvd_natCast.2 (Nat.pow_dvd_pow 2 (by omega)))
 rw [key, IntKind.wrap_i64, ← e1];omega
def hiB (x : UInt16) : UInt8 := UInt8.ofNat (x.toNat / 256)
def loB (x : UInt16) : UInt8 := UInt8.ofNat (x.toNat % 256)
def mkW (a b : UInt8) : UInt16 := UInt16.ofNat (a.toNat * 256 + b.toNat)
theorem hiB_nat (x : UInt16) : (hiB x).toNat = x.toNat / 256 := by
 have := x.toNat_lt; unfold hiB; rw [UInt8.toNat_ofNat']; omega
theorem loB_nat (x : UInt16) : (loB x).toNat = x.toNat % 256 := by
 unfold loB; rw [UInt8.toNat_ofNat']; omega
theorem mkW_nat (a b : UInt8) : (mkW a b).toNat = a.toNat * 256 + b.toNat := by
 have := a.toNat_lt; have := b.toNat_lt; unfold mkW; rw [UInt16.toNat_ofNat']; omega
theorem mkW_hi_lo (x : UInt16) : mkW (hiB x) (loB x) = x := by
 apply UInt16.toNat_inj.1; rw [mkW_nat, hiB_nat, loB_nat]; omega
def wOf (n : Int) : UInt16 := UInt16.ofNat (n % 65536).toNat
theorem wOf_nat (n : Int) : ((wOf n).toNat : Int) = n % 65536 := by
 unfold wOf; rw [UInt16.toNat_ofNat']; omega
def bytesL (l : List UInt16) : List UInt8 := l.flatMap fun x => [hiB x, loB x]
def wordsL : List UInt8 → List UInt16
 | a :: b :: r => mkW a b :: wordsL r
 | _ => []
theorem bytesL_len (l : List UInt16) : (bytesL l).length = 2 * l.length := by
 induction l with
 | nil => rfl
 | cons x r ih => simp [bytesL] at ih ⊢; omega
theorem bytesL_append (a b : List UInt16) : bytesL (a ++ b) = bytesL a ++ bytesL b := by simp [bytesL]
theorem wordsL_bytesL (l : List UInt16) : wordsL (bytesL l) = l := by
 induction l with
 | nil => rfl
 | cons x r ih => simp [bytesL, wordsL, mkW_hi_lo] at ih ⊢; exact ih
theorem wordsL_eq : ∀ (b : List UInt8), wordsL b = (List.range (b.length / 2)).map fun i => mkW (b.getD (2 * i) 0) (b.getD (2 * i + 1) 0)
 | [] => rfl
 | [_] => by simp [wordsL]
 | a :: b :: r => by
  have hl : (a :: b :: r).length / 2 = r.length / 2 + 1 := by simp; omega
  rw [wordsL, wordsL_eq r, hl, List.range_succ_eq_map, List.map_cons, List.map_map]
  congr 1
theorem wordsL_len (b : List UInt8) : (wordsL b).length = b.length / 2 := by rw [wordsL_eq]; simp
theorem bytesL_take_succ (l : List UInt16) (k : Nat) (h : k < l.length) : bytesL (l.take (k + 1)) = bytesL (l.take k) ++ [hiB l[k], loB l[k]] := by
 rw [List.take_succ_eq_append_getElem h, bytesL_append]; rfl
def ofBits : List Bool → Nat
 | [] => 0
 | b :: r => b.toNat + 2 * ofBits r
theorem ofBits_testBit : ∀ (l : List Bool) (t : Nat), (ofBits l).testBit t = l.getD t false
 | [], t => by simp [ofBits]
 | b :: r, 0 => by cases b <;> simp [ofBits, Nat.testBit_zero] <;> omega
 | b :: r, t + 1 => by
  rw [ofBits, Nat.testBit_succ];have : (b.toNat + 2 * ofBits r) / 2 = ofBits r := by cases b <;> simp <;> omega
  rw [this, ofBits_testBit r t];simp
theorem ofBits_lt : ∀ (l : List Bool), ofBits l < 2 ^ l.length
 | [] => by simp [ofBits]
 | b :: r => by
  have := ofBits_lt r;simp only [ofBits, List.length_cons, Nat.pow_succ];cases b <;> simp <;> omega
def packB (l : List Bool) (j : Nat) : UInt8 := UInt8.ofNat (ofBits ((l.drop (8 * j)).take 8))
theorem packB_nat (l : List Bool) (j : Nat) : (packB l j).toNat = ofBits ((l.drop (8 * j)).take 8) := by
 have h := ofBits_lt ((l.drop (8 * j)).take 8);have h2 : ((l.drop (8 * j)).take 8).length ≤ 8 := List.length_take_le _ _;have h3 : 2 ^ ((l.drop (8 * j)).take 8).length ≤ 2 ^ 8 := Nat.pow_le_pow_right (by decide) h2;unfold packB; rw [UInt8.toNat_ofNat']; exact Nat.mod_eq_of_lt (by omega)
theorem packB_bit (l : List Bool) (j t : Nat) : (packB l j).toNat.testBit t = (decide (t < 8) && l.getD (8 * j + t) false) := by
 rw [packB_nat, ofBits_testBit];by_cases h : t < 8
 ·
  simp [List.getD_eq_getElem?_getD, h, List.getElem?_drop]
 ·
  simp [List.getD_eq_getElem?_getD, List.getElem?_take, h]
def packL (l : List Bool) : List UInt8 := (List.range ((l.length + 7) / 8)).map (packB l)
theorem packL_len (l : List Bool) : (packL l).length = (l.length + 7) / 8 := by simp [packL]
theorem packB_step (l : List Bool) (k j : Nat) (hk : k < l.length) :
  (packB (l.take (k + 1)) j).toNat = if j = k / 8 ∧ l[k] = true then (packB (l.take k) j).toNat ||| 2 ^ (k % 8) else (packB (l.take k) j).toNat := by
 apply Nat.eq_of_testBit_eq
 intro t;have e : ∀ n, (l.take n).getD (8 * j + t) false = (decide (8 * j + t < n) && l.getD (8 * j + t) false) := by
  intro n;simp [List.getD_eq_getElem?_getD, List.getElem?_take];by_cases h : 8 * j + t < n <;> simp [h]
 split
 ·
  rename_i h
  rw [Nat.testBit_or, packB_bit, packB_bit, e, e, Nat.testBit_two_pow];by_cases ht : t < 8
  ·
   by_cases hkt : 8 * j + t = k
   ·
    have : k % 8 = t := by omega
    have hg : l.getD k false = true := by rw [List.getD_eq_getElem?_getD, List.getElem?_eq_getElem hk]; simpa using h.2
    rw [hkt];rw [hg]; simp [ht, this]
   ·
    have h1 : ¬ k % 8 = t := by omega
    have h2 : (8 * j + t < k + 1) ↔ (8 * j + t < k) := by omega
    simp [ht, h1, h2]
  ·
   have h1 : ¬ k % 8 = t := by omega
   simp [ht, h1]
 ·
  rename_i h
  rw [packB_bit, packB_bit, e, e];by_cases ht : t < 8
  ·
   by_cases hkt : 8 * j + t = k
   ·
    have hj : j = k / 8 := by omega
    have hf : l[k] = false := by
     cases hb : l[k] with
     | false => rfl
     | true => exact absurd ⟨hj, hb⟩ h
    have hg : l.getD k false = false := by rw [List.getD_eq_getElem?_getD, List.getElem?_eq_getElem hk]; simpa using hf
    rw [hkt, hg]; simp
   ·
    have h2 : (8 * j + t < k + 1) ↔ (8 * j + t < k) := by omega
    simp [h2]
  ·
   simp [ht]
def bitAt (b : List UInt8) (i : Nat) : Bool := (b.getD (i / 8) 0).toNat.testBit (i % 8)
def openL (b : List UInt8) (n : Nat) : List Bool := (List.range n).map (bitAt b)
def openOk (b : List UInt8) (n : Int) : Bool := decide (0 ≤ n) && decide ((b.length : Int) = (n + 7) / 8) && (List.range (8 * b.length)).all fun i => decide ((i : Int) < n) || !bitAt b i
theorem bitAt_packL (l : List Bool) (i : Nat) (h : i < 8 * (packL l).length) : bitAt (packL l) i = l.getD i false := by
 rw [packL_len] at h;unfold bitAt packL;rw [List.getD_eq_getElem?_getD, List.getElem?_map, List.getElem?_range (by omega)];simp only [Option.map_some, Option.getD_some];rw [packB_bit];have : 8 * (i / 8) + i % 8 = i := by omega
 rw [this];simp;intro h2; omega
theorem openL_packL (l : List Bool) : openL (packL l) l.length = l := by
 apply List.ext_getElem
 ·
  simp [openL]
 ·
  intro i h1 h2;simp only [openL, List.getElem_map, List.getElem_range];rw [bitAt_packL l i (by rw [packL_len]; omega), List.getD_eq_getElem?_getD, List.getElem?_eq_getElem h2]
  rfl
theorem openOk_packL (l : List Bool) : openOk (packL l) l.length = true := by
 unfold openOk;simp only [Bool.and_eq_true, decide_eq_true_eq, List.all_eq_true, List.mem_range];refine ⟨⟨by omega, by rw [packL_len]; omega⟩, fun i hi => ?_⟩;rw [bitAt_packL l i hi];by_cases h : i < l.length
 ·
  simp [h]
 ·
  simp [List.getD_eq_getElem?_getD, h]
end Go.Proofs.YtdihcdphgiaepaaGreat
