/- Contract of pdu.Bytes, by function. -/
import Derived.Test.YtdihcdphgiaepaaGreatZZ5
namespace Go.Proofs.YtdihcdphgiaepaaGreat
open Go.RowKit
set_option maxHeartbeats 1000000 in
theorem counted_pdu (u v : Value) (xs ys : List UInt8) (w : World) (hu : Row w u (xs.map bV)) (hv : Row w v (ys.map bV)) (h1 : xs.length ≤ 100000) (h2 : ys.length ≤ 100000) :
  Calls Tryz.prog 113 #[u, v] w fun e w' => ∃ v', e = .returned v' ∧ Row w' v' ((xs ++ cntL ys).map bV) ∧ Below w.heap.size w w' := by
 obtain ⟨a, cap, rfl, -⟩ := id hu;obtain ⟨a2, cap2, rfl, -⟩ := id hv;simp only [List.length_map] at hu hv ⊢;have W0 := hidden (fun o1 o2 => ((Below.refl w.heap.size w).alloc (Nat.le_refl _) o1).alloc (by simp) o2);have ef : flatTo [xs, [UInt8.ofNat ys.length], ys] 3 = xs ++ cntL ys := by simp [flatTo, cntL]
 have EF := hidden ef;clear ef;have e8 : ((UInt8.ofNat ys.length).toNat : Int) = (ys.length : Int) % 256 := by rw [UInt8.toNat_ofNat']; omega
 have E8 := hidden e8;clear e8;have R1 := hidden (row_new w [.int .u8 ((ys.length : Int) % 256)] 5 1 rfl (by decide));go_enter Tryz.func113, Tryz.ntmps113;go_wp2_with fail
 have C := concat_any (w.heap.size + 1) [.slice a xs.length cap, .slice (some ⟨w.heap.size, 0, none⟩) 1 1, .slice a2 ys.length cap2] [xs, [UInt8.ofNat ys.length], ys]
  ((w.alloc (.cells #[.int .u8 ((ys.length : Int) % 256)] 5)).alloc (.cells #[.slice a xs.length cap, .slice (some ⟨w.heap.size, 0, none⟩) 1 1, .slice a2 ys.length cap2] 27)) (by simpa using Blk.new (w.alloc (.cells #[.int .u8 ((ys.length : Int) % 256)] 5)) 27 [.slice a xs.length cap, .slice (some ⟨w.heap.size, 0, none⟩) 1 1, .slice a2 ys.length cap2]) rfl ?q1 ?q2 ?q3 (by simp)
 case q1 =>
  intro i hi
  match i, hi with
  | 0, _ => exact ⟨_, rfl, hu.below (W0.out _ _)⟩
  | 1, _ =>
   refine ⟨_, rfl, ?_⟩;have : ([UInt8.ofNat ys.length].map bV) = [.int .u8 ((ys.length : Int) % 256)] := by simp only [List.map_cons, List.map_nil, bV, E8.out]
   show Row _ _ ([UInt8.ofNat ys.length].map bV);rw [this];exact R1.out.below ((Below.refl _ _).alloc (Nat.le_refl _) _)
  | 2, _ => exact ⟨_, rfl, hv.below (W0.out _ _)⟩
 case q2 => rw [show [xs, [UInt8.ofNat ys.length], ys].length = 3 from rfl, EF.out]; simp [cntL]; omega
 case q3 => rw [show [xs, [UInt8.ofNat ys.length], ys].length = 3 from rfl, EF.out]; simp [cntL]; omega
 refine C.mono ?_;rintro e w2 ⟨v2, rfl, hr2, B2⟩;rw [show [xs, [UInt8.ofNat ys.length], ys].length = 3 from rfl, EF.out] at hr2;replace B2 := below_then (W0.out _ _) B2;go_wp2;go_ret;exact ⟨_, rfl, hr2, B2⟩
def pwL (l : List Int) : List UInt8 := l.flatMap pw
theorem pwL_len (l : List Int) : (pwL l).length = 2 * l.length := by
 induction l with
 | nil => rfl
 | cons x r ih => simp [pwL, pw] at ih ⊢; omega
theorem pwL_take (l : List Int) (k : Nat) (h : k < l.length) : pwL (l.take (k + 1)) = pwL (l.take k) ++ [hiB (wOf (l.getD k 0)), loB (wOf (l.getD k 0))] := by
 rw [List.take_succ_eq_append_getElem h];unfold pwL;rw [List.flatMap_append];simp [pw, List.getD_eq_getElem?_getD, h]
abbrev iV (n : Int) : Value := .int .i64 n
set_option maxHeartbeats 1000000 in
theorem put_pdu (u v : Value) (xs : List UInt8) (l : List Int) (w : World) (hu : Row w u (xs.map bV)) (hv : Row w v (l.map iV)) (hl : ∀ i, i < l.length → -9223372036854775808 ≤ l.getD i 0 ∧ l.getD i 0 ≤ 9223372036854775807) (h1 : xs.length ≤ 100000) (h2 : l.length ≤ 1000) :
  Calls Tryz.prog 111 #[u, v] w fun e w' => ∃ v', e = .returned v' ∧ Row w' v' ((xs ++ pwL l).map bV) ∧ Below w.heap.size w w' := by
 obtain ⟨a2, cap2, rfl, -⟩ := id hv;simp only [List.length_map] at hv ⊢;have HI := hidden hl;clear hl;have PT := hidden (pwL_take l);go_enter Tryz.func111, Tryz.ntmps111;go_wp2;go_loopw [0, 9] (fun z i wr => ∃ k : Nat, k ≤ l.length ∧ i = .int .i64 k ∧ Row wr z ((xs ++ pwL (l.take k)).map bV) ∧ Below w.heap.size w wr) (fun _ i _ => l.length - (intOf i).toNat)
 case atStart => exact ⟨0, Nat.zero_le _, rfl, by simpa [pwL] using hu, Below.refl _ _⟩
 case round =>
  obtain ⟨k, hk, rfl, hz, hb⟩ := hrel;clear hu;by_cases hkn : k < l.length
  ·
   obtain ⟨-, -, -, hcell⟩ := (hv.below hb).at;obtain ⟨b, off, rfl, hcl⟩ := hcell k 0 hkn;have c0 := hcl k hkn;obtain ⟨n1, n2⟩ := HI.out k hkn;have S := hidden (PT.out k hkn);have Ln : (pwL (l.take k)).length ≤ 2 * l.length := by rw [pwL_len, List.length_take]; omega
   clear hcl hcell hv;generalize l.getD k 0 = x at *;generalize pwL (l.take k) = ys at *;have hkn' : (k : Int) < (l.length : Int) := by omega
   go_wp2_with fail
   refine (put_any _ (xs ++ ys) x _ ⟨n1, n2⟩ hz (by rw [List.length_append]; omega)).mono ?_;rintro e w2 ⟨v2, rfl, hr2, B2⟩;replace B2 := below_then hb B2;go_wp2;go_roundw
   case rel =>
    refine ⟨k + 1, by omega, by go_num, ?_, B2⟩;rw [S.out, ← List.append_assoc];exact hr2
   case measure => simp [intOf]; omega
  ·
   obtain rfl : k = l.length := by omega
   rw [List.take_length] at hz;clear hkn;go_wp2;go_ret;exact ⟨_, rfl, hz, hb⟩
structure Box (w : World) (g : Nat) (f a c p s : Int) (vb vv : Value) (m o : UInt16) : Prop where
 lt : g < w.heap.size
 c0 : w.cell? ⟨g, 0, none⟩ = some (.int .i64 f)
 c1 : w.cell? ⟨g, 1, none⟩ = some (.int .i64 a)
 c2 : w.cell? ⟨g, 2, none⟩ = some (.int .i64 c)
 c3 : w.cell? ⟨g, 3, none⟩ = some (.int .i64 p)
 c4 : w.cell? ⟨g, 4, none⟩ = some (.int .i64 s)
 c5 : w.cell? ⟨g, 5, none⟩ = some vb
 c6 : w.cell? ⟨g, 6, none⟩ = some vv
 c7 : w.cell? ⟨g, 7, none⟩ = some (.int .u16 m.toNat)
 c8 : w.cell? ⟨g, 8, none⟩ = some (.int .u16 o.toNat)
theorem Box.below {w w' : World} {g : Nat} {f a c p s : Int} {vb vv : Value} {m o : UInt16} (h : Box w g f a c p s vb vv m o) {B : Nat} (hb : Below B w w') (hg : g < B) : Box w' g f a c p s vb vv m o := by
 have e : ∀ i, w'.cell? ⟨g, i, none⟩ = w.cell? ⟨g, i, none⟩ := fun i => hb.cell (p := ⟨g, i, none⟩) hg;exact ⟨Nat.lt_of_lt_of_le h.lt hb.size, (e 0).trans h.c0, (e 1).trans h.c1, (e 2).trans h.c2, (e 3).trans h.c3, (e 4).trans h.c4, (e 5).trans h.c5, (e 6).trans h.c6, (e 7).trans h.c7, (e 8).trans h.c8⟩
theorem Box.ext {w w' : World} {g : Nat} {f a c p s : Int} {vb vv : Value} {m o : UInt16} (h : Box w g f a c p s vb vv m o) (hb : Below w.heap.size w w') : Box w' g f a c p s vb vv m o := h.below hb h.lt
theorem Box.new (w : World) (f a c p s : Int) (vb vv : Value) (m o : UInt16) (t : TypeId) : Box (w.alloc (.cells #[.int .i64 f, .int .i64 a, .int .i64 c, .int .i64 p, .int .i64 s, vb, vv, .int .u16 m.toNat, .int .u16 o.toNat] t)) w.heap.size f a c p s vb vv m o := by
 have X := Blk.new w t [.int .i64 f, .int .i64 a, .int .i64 c, .int .i64 p, .int .i64 s, vb, vv, .int .u16 m.toNat, .int .u16 o.toNat];exact ⟨by simp, X.cell 0, X.cell 1, X.cell 2, X.cell 3, X.cell 4, X.cell 5, X.cell 6, X.cell 7, X.cell 8⟩
def bytesR (q : Rq) : List UInt8 := if rightE q = 0 then bytesQ q else []
theorem bytesR_0 {q : Rq} (h : rightE q = 0) : bytesR q = bytesQ q := by simp [bytesR, h]
theorem bytesR_no {q : Rq} (h : rightE q ≠ 0) : bytesR q = [] := by simp [bytesR, h]
end Go.Proofs.YtdihcdphgiaepaaGreat
