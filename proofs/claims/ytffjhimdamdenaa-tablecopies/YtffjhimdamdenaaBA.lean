/- Tables: mathematics; lists of tenants in memory. -/
import Derived.Test.YtffjhimdamdenaaWF
import Derived.Test.YtffjhimdamdenaaWH
import Derived.Test.YtffjhimdamdenaaWI
namespace Go.Proofs.Ytffjhimdamdenaa
open Go.RowKit

/-- a tenant -/
structure Tn where
  u : Int
  f : Int
  q : Int
  ws : WL
  ss : SL
  deriving DecidableEq
/-- v is a list of slots -/
abbrev Sts (w : World) (v : Value) (l : SL) : Prop := Lsf 2 sf w v l
theorem sf_len (x : Int × Int) : (sf x).length = 2 := rfl
theorem Lsf.st {w : World} {a : Option Addr} {n cap : Nat} {l : SL} (h : Sts w (.slice a n cap) l) {i : Nat} {p q : Int} (hx : l[i]? = some (p, q)) : ∃ b off, a = some ⟨b, off, none⟩ ∧
    w.cell? ⟨b, off + i * 2, none⟩ = some (.int .i64 p) ∧ w.cell? ⟨b, off + i * 2 + 1, none⟩ = some (.int .i64 q) := by
  obtain ⟨-, -, -, h4⟩ := h.at
  obtain ⟨b, off, e, hc⟩ := h4 i _ hx
  exact ⟨b, off, e, hc 0 _ rfl, hc 1 _ rfl⟩
/-- a tenant and where its lists lie -/
abbrev TE := Tn × Value × Value
abbrev tnV (x : Tn) (vw vs : Value) : Value := .agg #[.int .i64 x.u, .int .u32 x.f, .int .i64 x.q, vw, vs]
abbrev tnC (x : Tn) (vw vs : Value) : List Value := [.int .i64 x.u, .int .u32 x.f, .int .i64 x.q, vw, vs]
def tf (e : TE) : List Value := tnC e.1 e.2.1 e.2.2
theorem tf_len (e : TE) : (tf e).length = 5 := rfl
def tcs (es : List TE) : List Value := es.flatMap tf
theorem tcs_len (l : List TE) : (tcs l).length = l.length * 5 := flatMap_len tf_len l
theorem tcs_app (l m : List TE) : tcs (l ++ m) = tcs l ++ tcs m := by simp [tcs]
/-- v is a list of tenants -/
def Tns (w : World) (v : Value) (l : List Tn) : Prop := ∃ es : List TE, es.map (·.1) = l ∧ Lsf 5 tf w v es ∧ ∀ e ∈ es, Wns w e.2.1 e.1.ws ∧ Sts w e.2.2 e.1.ss
theorem Tns.ext {w w' : World} {v : Value} {l : List Tn} (h : Tns w v l) (hb : Below w.heap.size w w') : Tns w' v l := by
  obtain ⟨es, h1, h2, h3⟩ := h
  exact ⟨es, h1, h2.ext hb, fun e he => ⟨(h3 e he).1.ext hb, (h3 e he).2.ext hb⟩⟩
theorem Tns.drew {w : World} {v : Value} {l : List Tn} (h : Tns w v l) : Tns w.drew v l := h.ext (Below.refl _ _).drew
theorem Tns.sl {w : World} {v : Value} {l : List Tn} (h : Tns w v l) : ∃ a cap, v = .slice a l.length cap ∧ l.length ≤ cap ∧ cap ≤ maxLen := by
  obtain ⟨es, rfl, ⟨a, cap, rfl, h1, h2, -⟩, -⟩ := h
  exact ⟨a, cap, by simp, by simpa using h1, h2⟩
theorem Tns.at {w : World} {a : Option Addr} {n cap : Nat} {l : List Tn} (h : Tns w (.slice a n cap) l) {i : Nat} {x : Tn} (hx : l[i]? = some x) : ∃ b off vw vs, a = some ⟨b, off, none⟩ ∧
    w.cell? ⟨b, off + i * 5, none⟩ = some (.int .i64 x.u) ∧ w.cell? ⟨b, off + i * 5 + 1, none⟩ = some (.int .u32 x.f) ∧ w.cell? ⟨b, off + i * 5 + 2, none⟩ = some (.int .i64 x.q) ∧
    w.cell? ⟨b, off + i * 5 + 3, none⟩ = some vw ∧ w.cell? ⟨b, off + i * 5 + 4, none⟩ = some vs ∧ Wns w vw x.ws ∧ Sts w vs x.ss := by
  obtain ⟨es, rfl, h2, h3⟩ := h
  simp only [List.getElem?_map, Option.map_eq_some_iff] at hx
  obtain ⟨e, he, rfl⟩ := hx
  obtain ⟨-, -, -, h4⟩ := h2.at
  obtain ⟨b, off, rfl, hc⟩ := h4 i _ he
  have hm := h3 e (List.mem_of_getElem? he)
  exact ⟨b, off, e.2.1, e.2.2, rfl, hc 0 _ rfl, hc 1 _ rfl, hc 2 _ rfl, hc 3 _ rfl, hc 4 _ rfl, hm.1, hm.2⟩
theorem Tns.take {w : World} {a : Option Addr} {n cap : Nat} {l : List Tn} (h : Tns w (.slice a n cap) l) (m : Nat) (hm : m ≤ n) : Tns w (.slice a m cap) (l.take m) := by
  obtain ⟨es, rfl, h2, h3⟩ := h
  exact ⟨es.take m, by simp, h2.take m hm, fun e he => h3 e (List.mem_of_mem_take he)⟩
theorem Tns.nil (w : World) : Tns w (.slice none 0 0) [] := ⟨[], rfl, Lsf.nil w, fun e he => by cases he⟩

/-- a tenant whose numbers are numbers of Go, its lists not long -/
structure OkT (x : Tn) : Prop where
  u : i64 x.u
  f : 0 ≤ x.f ∧ x.f < 4294967296
  q : i64 x.q
  ws : OkW x.ws
  ss : OkL x.ss
  wl : x.ws.length ≤ 1000
  sl : x.ss.length ≤ 1000
def OkTs (l : List Tn) : Prop := (∀ x ∈ l, OkT x) ∧ l.length ≤ 1000
theorem OkTs.at {l : List Tn} (h : OkTs l) {i : Nat} {x : Tn} (hx : l[i]? = some x) : OkT x := h.1 _ (List.mem_of_getElem? hx)
theorem OkTs.take {l : List Tn} (h : OkTs l) (k : Nat) : OkTs (l.take k) := ⟨fun x hx => h.1 x (List.mem_of_mem_take hx), by have := h.2; simp; omega⟩
theorem OkL.get {l : SL} (h : OkL l) {i : Nat} {p q : Int} (hx : l[i]? = some (p, q)) : i64 p ∧ i64 q := h _ (List.mem_of_getElem? hx)

/-- do two slots meet -/
def mE (s x : Int × Int) : Bool := meetE s.1 s.2 x.1 x.2
def wsB (l : WL) : Bool := l.all wR && ownB l
def slB (l : SL) (fr : Int) : Bool := l.all fun s => decide (72 ≤ s.2) && okR s.1 s.2 fr
def inB2 (n m : Int) : Bool := decide (1 ≤ n) && decide (n ≤ m)
/-- what a tenant has that may not be, by itself -/
def aloneE (x : Tn) (fr : Int) : Int :=
  if inB2 x.u 247 = false then 21 else if inB2 x.q 6 = false then 22 else if 6 < x.ws.length ∨ inB2 x.ss.length 3 = false then 26 else if wsB x.ws = false then 23 else if slB x.ss fr = false then 25 else 0
/-- does a slot meet one of its own ahead, or one of those ahead -/
def hitB (ss : SL) (ah : List Tn) (i : Nat) (s : Int × Int) : Bool := (ss.take i).any (mE s) || ah.any fun y => y.ss.any (mE s)
def hitsB (ss : SL) (ah : List Tn) (k : Nat) : Bool := (List.range k).any fun i => match ss[i]? with | some s => hitB ss ah i s | none => false
def besideE (x : Tn) (ah : List Tn) : Int := if ah.any (fun y => meetsB x.ws y.ws) then 24 else if hitsB x.ss ah x.ss.length then 25 else 0
def tenE (fr : Int) (ah : List Tn) (x : Tn) : Int := if aloneE x fr = 0 then besideE x ah else aloneE x fr
def tenI (fr : Int) (l : List Tn) (i : Nat) : Int := match l[i]? with | some x => tenE fr (l.take i) x | none => 0
def firstE (fr : Int) (l : List Tn) (k : Nat) : Option Nat := (List.range k).find? fun i => decide (tenI fr l i ≠ 0)
def whereE (fr : Int) (l : List Tn) : Int × Int :=
  if inB2 fr 2000 = false then (20, -1) else if inB2 l.length 4 = false then (26, -1) else match firstE fr l l.length with | some i => (tenI fr l i, (i : Int)) | none => (0, -1)
theorem hits_succ {ss : SL} {ah : List Tn} {k : Nat} {s : Int × Int} (h : ss[k]? = some s) : hitsB ss ah (k + 1) = (hitsB ss ah k || hitB ss ah k s) := by
  unfold hitsB
  rw [List.range_succ, List.any_append]
  simp [h]
theorem hits_le {ss : SL} {ah : List Tn} {k m : Nat} (hk : k ≤ m) (h : hitsB ss ah k = true) : hitsB ss ah m = true := by
  unfold hitsB at *
  rw [List.any_eq_true] at *
  obtain ⟨i, hi, e⟩ := h
  exact ⟨i, by simp at *; omega, e⟩
theorem first_succ {fr : Int} {l : List Tn} {k : Nat} (h : firstE fr l k = none) (ht : tenI fr l k = 0) : firstE fr l (k + 1) = none := by
  unfold firstE at *
  rw [List.range_succ, List.find?_append, h]
  simp [ht]
theorem first_hit {fr : Int} {l : List Tn} {k m : Nat} (hk : k < m) (h : firstE fr l k = none) (ht : tenI fr l k ≠ 0) : firstE fr l m = some k := by
  unfold firstE at *
  have e : List.range m = List.range (k + 1) ++ (List.range' (k + 1) (m - (k + 1))) := by
    have := List.range'_append_1 (s := 0) (m := k + 1) (n := m - (k + 1))
    rw [List.range_eq_range', List.range_eq_range', Nat.zero_add] at *
    rw [this]
    congr 1; omega
  rw [e, List.find?_append, List.range_succ, List.find?_append, h]
  simp [ht]
/-- are two tenants alike -/
def sameB (x y : Tn) : Bool := decide (x.u = y.u) && decide (x.f = y.f) && decide (x.q = y.q) && decide (x.ws = y.ws) && decide (x.ss = y.ss)
theorem sameB_iff {x y : Tn} : sameB x y = true ↔ x = y := by
  cases x; cases y; simp [sameB, Tn.mk.injEq, and_assoc]
def equalB (fr gr : Int) (l m : List Tn) : Bool := decide (fr = gr) && decide (l.length = m.length) && (List.range l.length).all fun i => match l[i]?, m[i]? with | some x, some y => sameB x y | _, _ => false

end Go.Proofs.Ytffjhimdamdenaa
