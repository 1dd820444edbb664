/- Small facts over this program, of no function of it: making slices, strings of bytes, what stays below. -/
import Derived.OrdersHeld
import Derived.Tactics2
import Derived.Test.YtdihcdphgiaepaaZZ1
import Derived.Laws.BitsAllLaws
import Derived.Laws.BitsLemmas
import Derived.Test.YtdihcdphgiaepaaRows
import Derived.Deep.QuietTactic
import Derived.Deep.RegionLaw
import Derived.BigQuiet
import Derived.Laws.BytesArg
import Derived.Lib.SlBytesConst
namespace Go.Proofs.Ytdihcdphgiaepaa
open Go.RowKit
theorem PuA {α : Type} (l : List α) (i : Nat) (a : α) : l.toArray.setIfInBounds i a = (l.set i a).toArray := List.setIfInBounds_toArray l i a
theorem PuB {α : Type} {a b : α} {l : List α} : (a :: l).set 0 b = b :: l := List.set_cons_zero
theorem PuC {α : Type} {a b : α} {l : List α} {n : Nat} : (a :: l).set (n + 1) b = a :: l.set n b := List.set_cons_succ
abbrev Ext (w w' : World) : Prop := Below w.heap.size w w'
theorem Ext.refl (w : World) : Ext w w := Below.refl _ _
theorem Ext.trans {a b c : World} (h : Ext a b) (k : Ext b c) : Ext a c := Below.trans h (k.mono h.size)
section
variable {P : Program} {ops : Array Oper} {Q : Exit → Act → World → Prop} {md : Region.Mode}
theorem held_mono {S S' : World → Prop} (hS : ∀ w, S' w → S w) : ∀ (n : Nat) (listed : Array Bool) (a : Act) (w : World), wpAnyH P md ops Q S' n listed a w → wpAnyH P md ops Q S n listed a w
 | 0, _, _, _, h => h
 | n + 1, _, _, _, h => ⟨h.1, fun i hi => wpOp_mono (fun a' w' h' => ⟨hS _ h'.1, held_mono hS n _ a' w' h'.2⟩) (h.2 i hi)⟩
def wpPi (P : Program) (ops : Array Oper) (Q : Exit → Act → World → Prop) : List (Nat × Bool) → World → Act → World → Prop
 | [], _, a, w => Q .normal a w
 | (i, true) :: r, s, a, w => ∃ o v s', ops[i]? = some o ∧ Ext s s' ∧ Ext s' w ∧ YieldsIf P ops (Ext s') o v a ∧ wpPi P ops Q r s' (a.put o.dst v) w
 | (i, false) :: r, s, a, w => wpOp P ops Q i (fun a' w' => Ext s w' ∧ wpPi P ops Q r s a' w') a w
def piOk (md : Region.Mode) (ops : Array Oper) : List (Nat × Bool) → Array Bool → Bool
 | [], listed => (Region.ready md ops listed).isEmpty
 | (i, true) :: r, listed => Region.free md ops listed i && (Region.ready md ops listed).contains i && piOk md ops r (listed.setIfInBounds i true)
 | (i, false) :: r, listed => (Region.ready md ops listed == [i]) && piOk md ops r (listed.setIfInBounds i true)
theorem held_pi (hs : Region.noSelect ops = true) (hQ : ∀ c a w d v, Q (.panic c) (Act.put a d v) w → Q (.panic c) a w) :
  ∀ (pi : List (Nat × Bool)) (listed : Array Bool) (s : World) (a : Act) (w : World) (n : Nat), n = pi.length → piOk md ops pi listed = true → Ext s w → wpPi P ops Q pi s a w → wpAnyH P md ops Q (Ext s) n listed a w
 | [], listed, s, a, w, n, hn, hc, _, h => by
  subst hn
  exact ⟨by simpa [piOk] using hc, h⟩
 | (i, true) :: r, listed, s, a, w, n, hn, hc, _, h => by
  subst hn
  simp only [piOk, Bool.and_eq_true] at hc
  obtain ⟨o, v, s', hi, h1, h2, hy, hr⟩ := h
  exact held_mono (fun u hu => Ext.trans h1 hu) _ _ _ _ (wpAnyH_first hi (Region.noSelect_spec hs) (fun c a w => hQ c a w o.dst v) r.length listed a w (Region.free_spec hi hc.1.1) (by simpa using hc.1.2) hy h2 (held_pi hs hQ r _ _ _ _ _ rfl hc.2 h2 hr))
 | (i, false) :: r, listed, s, a, w, n, hn, hc, _, h => by
  subst hn
  simp only [piOk, Bool.and_eq_true, beq_iff_eq] at hc
  refine ⟨fun h0 => (by rw [hc.1] at h0; cases h0), fun j hj => ?_⟩
  rw [hc.1] at hj
  obtain rfl : j = i := by simpa using hj
  exact wpOp_mono (fun a' w' h' => ⟨h'.1, held_pi hs hQ r _ _ _ _ _ rfl hc.2 h'.1 h'.2⟩) h
theorem wp_region_pi {id : Nat} {a : Act} {w : World} (pi : List (Nat × Bool)) (hm : P.follows .mixedOrders = true) (hs : Region.noSelect ops = true) (hc : (piOk .any ops pi (Array.replicate ops.size false) && (pi.length == ops.size)) = true)
  (hQ : ∀ c a w d v, Q (.panic c) (Act.put a d v) w → Q (.panic c) a w) (h : wpPi P ops Q pi w.drew a w.drew) : (Code.region id ops true).wp P Q a w := by
 simp only [Bool.and_eq_true, beq_iff_eq] at hc
 exact wp_region_held (S := Ext w.drew) hm (held_pi hs hQ pi _ _ a _ _ hc.2.symm hc.1 (Ext.refl _) h)
theorem pi_nil {s : World} {a : Act} {w : World} (h : Q .normal a w) : wpPi P ops Q [] s a w := h
section
variable {i : Nat} {r : List (Nat × Bool)} {s w : World} {a : Act} {dst : Option Tmp} {op : Op} {ty : TypeId} {pos : String} {after : Array Edge} {guard : Option (Nat × Bool)} {v : Value}
theorem pi_pure (hx : Ext s w) (hi : ops[i]? = some ⟨dst, op, ty, pos, after, guard⟩) (hw : Region.wanted ⟨dst, op, ty, pos, after, guard⟩ (yielded ops a.tmps) = true)
  (hv : ∀ w', (execOp a.eval ⟨dst, op, ty, pos, after, guard⟩).run P w' = .ok (.value v) w') (h : wpPi P ops Q r s (a.put dst v) w) : wpPi P ops Q ((i, true) :: r) s a w := ⟨_, v, s, hi, Ext.refl s, hx, .inl ⟨hw, fun w' _ => hv w'⟩, h⟩
theorem pi_read (hx : Ext s w) (hi : ops[i]? = some ⟨dst, op, ty, pos, after, guard⟩) (hw : Region.wanted ⟨dst, op, ty, pos, after, guard⟩ (yielded ops a.tmps) = true)
  (hv : ∀ w', Ext w w' → (execOp a.eval ⟨dst, op, ty, pos, after, guard⟩).run P w' = .ok (.value v) w') (h : wpPi P ops Q r w (a.put dst v) w) : wpPi P ops Q ((i, true) :: r) s a w := ⟨_, v, w, hi, hx, Ext.refl w, .inl ⟨hw, hv⟩, h⟩
theorem pi_move (hi : ops[i]? = some ⟨dst, op, ty, pos, after, guard⟩) (hw : Region.wanted ⟨dst, op, ty, pos, after, guard⟩ (yielded ops a.tmps) = true)
  (h : ∀ K : Act → World → Prop, Hid (∀ a' w', Ext s w' → wpPi P ops Q r s a' w' → K a' w') → Oper.wp P ⟨dst, op, ty, pos, after, guard⟩ a w K Q) : wpPi P ops Q ((i, false) :: r) s a w := by
 show wpOp _ _ _ _ _ _ _
 unfold wpOp
 simp only [hi, hw, if_true]
 exact .inl (h _ (fun a' w' h1 h2 => ⟨h1, h2⟩))
theorem pi_P (hx : Ext s w) (hi : ops[i]? = some ⟨dst, op, ty, pos, after, guard⟩) {a' : Act} (h : wpPi P ops Q r s a' w) (hw : Region.wanted ⟨dst, op, ty, pos, after, guard⟩ (yielded ops a.tmps) = true := by kernel_rfl)
  (hv : ∀ w', (execOp a.eval ⟨dst, op, ty, pos, after, guard⟩).run P w' = .ok (.value v) w' := by intro w'; go_simp; with_reducible rfl) (ha : a.put dst v = a' := by (try simp only [Act.put, PuA, PuB, PuC]); exact rfl) : wpPi P ops Q ((i, true) :: r) s a w := pi_pure hx hi hw hv (ha ▸ h)
theorem pi_R (hx : Ext s w) (hi : ops[i]? = some ⟨dst, op, ty, pos, after, guard⟩) (hv : ∀ w', Ext w w' → (execOp a.eval ⟨dst, op, ty, pos, after, guard⟩).run P w' = .ok (.value v) w') {a' : Act} (h : wpPi P ops Q r w a' w)
  (hw : Region.wanted ⟨dst, op, ty, pos, after, guard⟩ (yielded ops a.tmps) = true := by kernel_rfl) (ha : a.put dst v = a' := by (try simp only [Act.put, PuA, PuB, PuC]); exact rfl) : wpPi P ops Q ((i, true) :: r) s a w := pi_read hx hi hw hv (ha ▸ h)
end
end
end Go.Proofs.Ytdihcdphgiaepaa
namespace Go.Proofs.Ytdihcdphgiaepaa
theorem i64_and_mask (n : Int) (k : Nat) (hk : k < 62) : bits .and .i64 n ((2 ^ k - 1 : Nat) : Int) = n % ((2 ^ k : Nat) : Int) := by
 have hp : 2 ^ k ≤ 2 ^ 61 := Nat.pow_le_pow_right (by decide) (by omega)
 have hp0 : 0 < 2 ^ k := Nat.two_pow_pos k
 have hm : (BitVec.ofInt 64 ((2 ^ k - 1 : Nat) : Int)).toNat = 2 ^ k - 1 := by
  rw [BitVec.ofInt_natCast, BitVec.toNat_ofNat]; exact Nat.mod_eq_of_lt (by omega)
 have key : (BitVec.ofInt 64 n &&& BitVec.ofInt 64 ((2 ^ k - 1 : Nat) : Int)).toNat = (n % ((2 ^ 64 : Nat) : Int)).toNat % 2 ^ k := by
  rw [BitVec.toNat_and, BitVec.toNat_ofInt, hm, Nat.and_two_pow_sub_one_eq_mod]
 show IntKind.i64.wrap ((BitVec.ofInt 64 n &&& BitVec.ofInt 64 ((2 ^ k - 1 : Nat) : Int)).toNat : Nat) = _
 have hlt : (n % ((2 ^ 64 : Nat) : Int)).toNat % 2 ^ k < 2 ^ k := Nat.mod_lt _ hp0
 have e1 : (((n % ((2 ^ 64 : Nat) : Int)).toNat % 2 ^ k : Nat) : Int) = n % ((2 ^ k : Nat) : Int) := by
  rw [Int.natCast_emod, Int.toNat_of_nonneg (Int.emod_nonneg _ (by decide))]
  exact Int.emod_emod_of_dvd n (Int.natCast_dvd_natCast.2 (Nat.pow_dvd_pow 2 (by omega)))
 rw [key, IntKind.wrap_i64, ← e1]
 omega
def hiB (x : UInt16) : UInt8 := UInt8.ofNat (x.toNat / 256)
def loB (x : UInt16) : UInt8 := UInt8.ofNat (x.toNat % 256)
def mkW (a b : UInt8) : UInt16 := UInt16.ofNat (a.toNat * 256 + b.toNat)
theorem hiB_nat (x : UInt16) : (hiB x).toNat = x.toNat / 256 := by
 have := x.toNat_lt; unfold hiB; rw [UInt8.toNat_ofNat']; omega
theorem loB_nat (x : UInt16) : (loB x).toNat = x.toNat % 256 := by
 unfold loB; rw [UInt8.toNat_ofNat']; omega
theorem mkW_nat (a b : UInt8) : (mkW a b).toNat = a.toNat * 256 + b.toNat := by
 have := a.toNat_lt; have := b.toNat_lt; unfold mkW; rw [UInt16.toNat_ofNat']; omega
theorem mkW_hi_lo (x : UInt16) : mkW (hiB x) (loB x) = x := by
 apply UInt16.toNat_inj.1; rw [mkW_nat, hiB_nat, loB_nat]; omega
def wOf (n : Int) : UInt16 := UInt16.ofNat (n % 65536).toNat
theorem wOf_nat (n : Int) : ((wOf n).toNat : Int) = n % 65536 := by
 unfold wOf; rw [UInt16.toNat_ofNat']; omega
def bytesL (l : List UInt16) : List UInt8 := l.flatMap fun x => [hiB x, loB x]
def wordsL : List UInt8 → List UInt16
 | a :: b :: r => mkW a b :: wordsL r
 | _ => []
theorem bytesL_len (l : List UInt16) : (bytesL l).length = 2 * l.length := by
 induction l with
 | nil => rfl
 | cons x r ih => simp [bytesL] at ih ⊢; omega
theorem bytesL_append (a b : List UInt16) : bytesL (a ++ b) = bytesL a ++ bytesL b := by simp [bytesL]
theorem wordsL_bytesL (l : List UInt16) : wordsL (bytesL l) = l := by
 induction l with
 | nil => rfl
 | cons x r ih => simp [bytesL, wordsL, mkW_hi_lo] at ih ⊢; exact ih
theorem wordsL_eq : ∀ (b : List UInt8), wordsL b = (List.range (b.length / 2)).map fun i => mkW (b.getD (2 * i) 0) (b.getD (2 * i + 1) 0)
 | [] => rfl
 | [_] => by simp [wordsL]
 | a :: b :: r => by
  have hl : (a :: b :: r).length / 2 = r.length / 2 + 1 := by simp; omega
  rw [wordsL, wordsL_eq r, hl, List.range_succ_eq_map, List.map_cons, List.map_map]
  congr 1
theorem wordsL_len (b : List UInt8) : (wordsL b).length = b.length / 2 := by rw [wordsL_eq]; simp
theorem bytesL_take_succ (l : List UInt16) (k : Nat) (h : k < l.length) : bytesL (l.take (k + 1)) = bytesL (l.take k) ++ [hiB l[k], loB l[k]] := by
 rw [List.take_succ_eq_append_getElem h, bytesL_append]; rfl
def ofBits : List Bool → Nat
 | [] => 0
 | b :: r => b.toNat + 2 * ofBits r
theorem ofBits_testBit : ∀ (l : List Bool) (t : Nat), (ofBits l).testBit t = l.getD t false
 | [], t => by simp [ofBits]
 | b :: r, 0 => by cases b <;> simp [ofBits, Nat.testBit_zero] <;> omega
 | b :: r, t + 1 => by
  rw [ofBits, Nat.testBit_succ]
  have : (b.toNat + 2 * ofBits r) / 2 = ofBits r := by cases b <;> simp <;> omega
  rw [this, ofBits_testBit r t]
  simp
theorem ofBits_lt : ∀ (l : List Bool), ofBits l < 2 ^ l.length
 | [] => by simp [ofBits]
 | b :: r => by
  have := ofBits_lt r
  simp only [ofBits, List.length_cons, Nat.pow_succ]
  cases b <;> simp <;> omega
def packB (l : List Bool) (j : Nat) : UInt8 := UInt8.ofNat (ofBits ((l.drop (8 * j)).take 8))
theorem packB_nat (l : List Bool) (j : Nat) : (packB l j).toNat = ofBits ((l.drop (8 * j)).take 8) := by
 have h := ofBits_lt ((l.drop (8 * j)).take 8)
 have h2 : ((l.drop (8 * j)).take 8).length ≤ 8 := List.length_take_le _ _
 have h3 : 2 ^ ((l.drop (8 * j)).take 8).length ≤ 2 ^ 8 := Nat.pow_le_pow_right (by decide) h2
 unfold packB; rw [UInt8.toNat_ofNat']; exact Nat.mod_eq_of_lt (by omega)
theorem packB_bit (l : List Bool) (j t : Nat) : (packB l j).toNat.testBit t = (decide (t < 8) && l.getD (8 * j + t) false) := by
 rw [packB_nat, ofBits_testBit]
 by_cases h : t < 8
 ·
  simp [List.getD_eq_getElem?_getD, h, List.getElem?_drop]
 ·
  simp [List.getD_eq_getElem?_getD, List.getElem?_take, h]
def packL (l : List Bool) : List UInt8 := (List.range ((l.length + 7) / 8)).map (packB l)
theorem packL_len (l : List Bool) : (packL l).length = (l.length + 7) / 8 := by simp [packL]
theorem packB_step (l : List Bool) (k j : Nat) (hk : k < l.length) :
  (packB (l.take (k + 1)) j).toNat = if j = k / 8 ∧ l[k] = true then (packB (l.take k) j).toNat ||| 2 ^ (k % 8) else (packB (l.take k) j).toNat := by
 apply Nat.eq_of_testBit_eq
 intro t
 have e : ∀ n, (l.take n).getD (8 * j + t) false = (decide (8 * j + t < n) && l.getD (8 * j + t) false) := by
  intro n
  simp [List.getD_eq_getElem?_getD, List.getElem?_take]
  by_cases h : 8 * j + t < n <;> simp [h]
 split
 ·
  rename_i h
  rw [Nat.testBit_or, packB_bit, packB_bit, e, e, Nat.testBit_two_pow]
  by_cases ht : t < 8
  ·
   by_cases hkt : 8 * j + t = k
   ·
    have : k % 8 = t := by omega
    have hg : l.getD k false = true := by rw [List.getD_eq_getElem?_getD, List.getElem?_eq_getElem hk]; simpa using h.2
    rw [hkt]
    rw [hg]; simp [ht, this]
   ·
    have h1 : ¬ k % 8 = t := by omega
    have h2 : (8 * j + t < k + 1) ↔ (8 * j + t < k) := by omega
    simp [ht, h1, h2]
  ·
   have h1 : ¬ k % 8 = t := by omega
   simp [ht, h1]
 ·
  rename_i h
  rw [packB_bit, packB_bit, e, e]
  by_cases ht : t < 8
  ·
   by_cases hkt : 8 * j + t = k
   ·
    have hj : j = k / 8 := by omega
    have hf : l[k] = false := by
     cases hb : l[k] with
     | false => rfl
     | true => exact absurd ⟨hj, hb⟩ h
    have hg : l.getD k false = false := by rw [List.getD_eq_getElem?_getD, List.getElem?_eq_getElem hk]; simpa using hf
    rw [hkt, hg]; simp
   ·
    have h2 : (8 * j + t < k + 1) ↔ (8 * j + t < k) := by omega
    simp [h2]
  ·
   simp [ht]
def bitAt (b : List UInt8) (i : Nat) : Bool := (b.getD (i / 8) 0).toNat.testBit (i % 8)
def openL (b : List UInt8) (n : Nat) : List Bool := (List.range n).map (bitAt b)
def openOk (b : List UInt8) (n : Int) : Bool := decide (0 ≤ n) && decide ((b.length : Int) = (n + 7) / 8) && (List.range (8 * b.length)).all fun i => decide ((i : Int) < n) || !bitAt b i
theorem bitAt_packL (l : List Bool) (i : Nat) (h : i < 8 * (packL l).length) : bitAt (packL l) i = l.getD i false := by
 rw [packL_len] at h
 unfold bitAt packL
 rw [List.getD_eq_getElem?_getD, List.getElem?_map, List.getElem?_range (by omega)]
 simp only [Option.map_some, Option.getD_some]
 rw [packB_bit]
 have : 8 * (i / 8) + i % 8 = i := by omega
 rw [this]
 simp
 intro h2; omega
theorem openL_packL (l : List Bool) : openL (packL l) l.length = l := by
 apply List.ext_getElem
 ·
  simp [openL]
 ·
  intro i h1 h2
  simp only [openL, List.getElem_map, List.getElem_range]
  rw [bitAt_packL l i (by rw [packL_len]; omega), List.getD_eq_getElem?_getD, List.getElem?_eq_getElem h2]
  rfl
theorem openOk_packL (l : List Bool) : openOk (packL l) l.length = true := by
 unfold openOk
 simp only [Bool.and_eq_true, decide_eq_true_eq, List.all_eq_true, List.mem_range]
 refine ⟨⟨by omega, by rw [packL_len]; omega⟩, fun i hi => ?_⟩
 rw [bitAt_packL l i hi]
 by_cases h : i < l.length
 ·
  simp [h]
 ·
  simp [List.getD_eq_getElem?_getD, h]
end Go.Proofs.Ytdihcdphgiaepaa
namespace Go.Proofs.Ytdihcdphgiaepaa
open Go.RowKit
theorem ret_int {k : IntKind} {a b : Int} (h : a = b) : Ending.returned (.int k a) = .returned (.int k b) := by rw [h]
theorem ret_bool {a b : Bool} (h : a = b) : Ending.returned (.bool a) = .returned (.bool b) := by rw [h]
theorem Row.at {w : World} {a : Option Addr} {n cap : Nat} {α : Type} {f : α → Value} {xs : List α} (h : Row w (.slice a n cap) (xs.map f)) :
  n = xs.length ∧ n ≤ cap ∧ cap ≤ maxLen ∧ ∀ i (d : α), i < n → ∃ b off, a = some ⟨b, off, none⟩ ∧ ∀ j, j < n → w.cell? ⟨b, off + j, none⟩ = some (f (xs.getD j d)) := by
 obtain ⟨a', cap', e, h1, h2, -, h3⟩ := h
 simp only [Value.slice.injEq, List.length_map] at e
 obtain ⟨rfl, rfl, rfl⟩ := e
 refine ⟨rfl, by simpa using h1, h2, fun i d hi => ?_⟩
 rcases h3 with h3 | ⟨b, off, rfl, hc⟩
 ·
  have : xs = [] := by simpa using h3
  subst this
  simp at hi
 ·
  refine ⟨b, off, rfl, fun j hj => ?_⟩
  have := hc j (by simpa using hj)
  simpa [List.getD_eq_getElem?_getD, hj] using this
theorem info_u8 : (Try.prog.info? 5).map (fun i => (i.zero, i.size, i.bytes)) = some (some (.int .u8 0), 1, 1) := by kernel_rfl
theorem info_bool : (Try.prog.info? 4).map (fun i => (i.zero, i.size, i.bytes)) = some (some (.bool false), 1, 1) := by kernel_rfl
theorem mk_run (t e : TypeId) (z : Value) (by_ : Nat) (hu : Try.prog.underlying t = some (.slice e)) (hi : (Try.prog.info? e).map (fun i => (i.zero, i.size, i.bytes)) = some (some z, 1, by_)) (hz : z.cells = #[z])
  (n : Int) (k : Nat) (hn : n = (k : Int)) (h1 : by_ * k ≤ 281474976710656) (h2 : k ≤ 9223372036854775807) (u : World) :
  (Instr.makeSlice t (.int .i64 n) (.int .i64 n)).run Try.prog u = .ok (.slice (some ⟨u.heap.size, 0, none⟩) k k) (u.alloc (.cells (List.replicate k z).toArray e)) := by
 obtain ⟨i0, hi, hz0, hz1, hz2⟩ := info_parts hi
 subst hn
 have h := run_make (P := Try.prog) u t e i0 z hu hi hz0 .i64 .i64 (k : Int) (k : Int) (by omega) (Int.le_refl _) (by rw [hz2]; omega) (by omega)
 rw [hz1, hz, Nat.mul_one, Int.toNat_natCast] at h
 have e2 : madeCells #[z] k = (List.replicate k z).toArray := by
  rw [← toList_madeCells_one]
 rw [e2] at h
 exact h
def zer (k : Nat) (z : Value) : Array Value := (List.replicate k z).toArray
theorem zer_blk (w : World) (k : Nat) (z : Value) (e : TypeId) : Blk (w.alloc (.cells (zer k z) e)) w.heap.size e (List.replicate k z) := heap_alloc_new w _
theorem mk_zer (t e : TypeId) (z : Value) (by_ : Nat) (hu : Try.prog.underlying t = some (.slice e)) (hi : (Try.prog.info? e).map (fun i => (i.zero, i.size, i.bytes)) = some (some z, 1, by_)) (hz : z.cells = #[z])
  (n : Int) (k : Nat) (hn : n = (k : Int)) (h1 : by_ * k ≤ 281474976710656) (h2 : k ≤ 9223372036854775807) (u : World) :
  (Instr.makeSlice t (.int .i64 n) (.int .i64 n)).run Try.prog u = .ok (.slice (some ⟨u.heap.size, 0, none⟩) k k) (u.alloc (.cells (zer k z) e)) := mk_run t e z by_ hu hi hz n k hn h1 h2 u
theorem one_bytes (bs : List UInt8) : ∀ v ∈ bs.map bV, v.oneCell' = true := by
 intro u hu; simp at hu; obtain ⟨x, _, rfl⟩ := hu; rfl
theorem map_ofNat_bytes (bs : List UInt8) : (bs.map fun x => ((x.toNat : Nat) : Int)).map (fun n => UInt8.ofNat n.toNat) = bs := by
 rw [List.map_map]
 conv => rhs; rw [← List.map_id bs]
 apply List.map_congr_left
 intro x _
 simp
theorem conv_row {P : Program} {w : World} {v : Value} {bs : List UInt8} (h : Row w v (bs.map bV)) (src dst e : TypeId) (hs : P.underlying src = some (.slice e)) (he : P.underlying e = some (.int .u8)) (hd : P.underlying dst = some .string) :
  (convert src dst v).run P w = .ok (.string ⟨bs.toArray⟩) w := by
 obtain ⟨a, cap, rfl, -⟩ := id h
 obtain ⟨hl, -, -, hcell⟩ := h.at
 simp only [List.length_map] at hl ⊢ hcell
 cases a with
 | none =>
  have : bs = [] := by
   cases bs with
   | nil => rfl
   | cons x r =>
    obtain ⟨b, off, he, -⟩ := hcell 0 0 (by simp)
    cases he
  subst this
  exact run_convert_bytes_nil w src e hs he _ _ dst hd
 | some ad =>
  by_cases h0 : bs = []
  ·
   subst h0
   have hc : (convert src dst (.slice (some ad) 0 cap)).run P w = (Conv.bytesToString (.slice (some ad) 0 cap)).run P w := run_convert_bytes_string w src dst e _ _ _ hs he hd
   simp only [List.length_nil]
   rw [hc, run_bytesToString w ad 0 cap [] (by simp [loadCells, loadCellsFrom])]
   rfl
  ·
   have hp : 0 < bs.length := List.length_pos_iff.2 h0
   obtain ⟨b, off, he2, hcl⟩ := hcell 0 0 hp
   cases he2
   have := run_convert_bytes_arg (P := P) w src e hs he b off bs.length cap (bs.map fun x => ((x.toNat : Nat) : Int)) (by simp) (fun i hi => by
    rw [hcl i hi]
    simp [List.getD_eq_getElem?_getD, hi]) dst hd
   rw [this]
   unfold strOfNums
   rw [map_ofNat_bytes]
theorem below_then {w0 w w1 : World} (hb : Below w0.heap.size w0 w) (h : Below w.heap.size w w1) : Below w0.heap.size w0 w1 :=
 hb.trans (h.mono hb.size)
theorem row_one {w : World} {v : Value} {x : Value} (h : Row w v [x]) : ∃ b off cap, v = .slice (some ⟨b, off, none⟩) 1 cap ∧ w.cell? ⟨b, off, none⟩ = some x := by
 obtain ⟨a, cap, rfl, -, -, -, h3⟩ := h
 rcases h3 with h3 | ⟨b, off, rfl, hc⟩
 ·
  cases h3
 ·
  exact ⟨b, off, cap, rfl, by simpa using hc 0 (by simp)⟩
theorem pow8 (t : Nat) (h : t < 8) : ((2 : Int) ^ t % 256) = ((2 ^ t : Nat) : Int) ∧ 2 ^ t < 256 := by
 match t, h with
 | 0, _ => decide
 | 1, _ => decide
 | 2, _ => decide
 | 3, _ => decide
 | 4, _ => decide
 | 5, _ => decide
 | 6, _ => decide
 | 7, _ => decide
end Go.Proofs.Ytdihcdphgiaepaa
