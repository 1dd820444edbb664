/- Contracts of pdu's small functions. -/
import Derived.Test.YtdihcdphgiaepaaGreatZZ3
import Derived.Test.YtdihcdphgiaepaaGreatZZ2
namespace Go.Proofs.YtdihcdphgiaepaaGreat
structure Rp where
 fn : Int
 code : Int
 loc : Int
 cnt : Int
 sub : Int
 bits : List Bool
 vals : List UInt16
 land : UInt16
 lor : UInt16
 data : List UInt8
 deriving DecidableEq
def zeroP : Rp := ⟨0, 0, 0, 0, 0, [], [], 0, 0, []⟩
def refP (f k : Int) : Rp := ⟨f, k, 0, 0, 0, [], [], 0, 0, []⟩
def echoQ (r : Rp) : Rq := ⟨r.fn, r.loc, 0, 0, r.sub, r.bits, r.vals, r.land, r.lor⟩
def echoP (q : Rq) : Rp := ⟨q.fn, 0, q.loc, 0, q.sub, q.bits, q.vals, q.land, q.lor, []⟩
def formA (r : Rp) : Prop :=
 ((r.fn = 5 ∨ r.fn = 6 ∨ r.fn = 15 ∨ r.fn = 16 ∨ r.fn = 22) ∨ r.loc = 0) ∧ ((r.fn = 15 ∨ r.fn = 16) ∨ r.cnt = 0) ∧ (r.fn = 8 ∨ r.sub = 0) ∧
 ((r.fn = 1 ∨ r.fn = 2 ∨ r.fn = 5) ∨ r.bits = []) ∧ ((r.fn = 3 ∨ r.fn = 4 ∨ r.fn = 6 ∨ r.fn = 8 ∨ r.fn = 23) ∨ r.vals = []) ∧
 (r.fn = 22 ∨ (r.land = 0 ∧ r.lor = 0)) ∧ (r.fn = 17 ∨ r.data = [])
instance (r : Rp) : Decidable (formA r) := by unfold formA; infer_instance
def listA (r : Rp) : Bool :=
 if r.fn = 1 ∨ r.fn = 2 then decide (r.bits.length ≤ 2040)
 else if r.fn = 3 ∨ r.fn = 4 ∨ r.fn = 23 then decide (r.vals.length ≤ 127)
 else if r.fn = 5 then decide (r.bits.length = 1)
 else if r.fn = 6 ∨ r.fn = 8 then decide (r.vals.length = 1)
 else if r.fn = 17 then decide (r.data.length ≤ 250)
 else true
def codeB (r : Rp) : Bool := decide (r = refP (r.fn % 128) (r.code % 256))
def goodE (r : Rp) : Int :=
 if r.code ≠ 0 then (if codeB r then 0 else 12)
 else if knownB r.fn = false then 15
 else if ¬ formA r then 12
 else if (numB r.loc && numB r.sub && numB r.cnt) = false then 12
 else if listA r = false then 12
 else 0
def bodyA (r : Rp) : List UInt8 :=
 if r.fn = 1 ∨ r.fn = 2 then cntL (packL r.bits)
 else if r.fn = 3 ∨ r.fn = 4 ∨ r.fn = 23 then cntL (bytesL r.vals)
 else if r.fn = 15 ∨ r.fn = 16 then pw r.loc ++ pw r.cnt
 else if r.fn = 17 then cntL r.data
 else bodyQ (echoQ r)
def b8 (n : Int) : UInt8 := UInt8.ofNat (n % 256).toNat
theorem b8_nat (n : Int) : ((b8 n).toNat : Int) = n % 256 := by
 unfold b8; rw [UInt8.toNat_ofNat']; omega
theorem b8_val (n : Int) (h0 : 0 ≤ n) (h1 : n ≤ 255) : ((b8 n).toNat : Int) = n := by rw [b8_nat]; omega
def layA (r : Rp) : List UInt8 := if r.code ≠ 0 then [b8 (r.fn + 128), b8 r.code] else b8 r.fn :: bodyA r
def layR (r : Rp) : List UInt8 := if goodE r = 0 then layA r else []
theorem layR_0 {r : Rp} (h : goodE r = 0) : layR r = layA r := by simp [layR, h]
theorem layR_no {r : Rp} (h : goodE r ≠ 0) : layR r = [] := by simp [layR, h]
theorem codeB_iff (r : Rp) (hc : r.code ≠ 0) : codeB r = true ↔ (1 ≤ r.code ∧ r.code ≤ 255 ∧ 0 ≤ r.fn ∧ r.fn ≤ 127 ∧ r = refP r.fn r.code) := by
 obtain ⟨f, k, a, c, s, bs, vs, m, o, ds⟩ := r;simp only [codeB, refP, decide_eq_true_eq, Rp.mk.injEq, true_and] at hc ⊢;constructor
 ·
  rintro ⟨h1, h2, h3⟩;exact ⟨by omega, by omega, by omega, by omega, h3⟩
 ·
  rintro ⟨h1, h2, h3, h4, h5⟩;exact ⟨by omega, by omega, h5⟩
theorem good_code {r : Rp} (h : goodE r = 0) (hc : r.code ≠ 0) : 1 ≤ r.code ∧ r.code ≤ 255 ∧ 0 ≤ r.fn ∧ r.fn ≤ 127 ∧ r = refP r.fn r.code := by
 unfold goodE at h;rw [if_pos hc] at h
 split at h
 ·
  rename_i h1; exact (codeB_iff r hc).1 h1
 ·
  cases h
theorem good_parts {r : Rp} (h : goodE r = 0) (hc : r.code = 0) : knownB r.fn = true ∧ formA r ∧ (numB r.loc = true ∧ numB r.sub = true ∧ numB r.cnt = true) ∧ listA r = true := by
 unfold goodE at h;rw [if_neg (by simp [hc])] at h
 split at h
 ·
  cases h
 ·
  rename_i h1
  split at h
  ·
   cases h
  ·
   rename_i h2
   split at h
   ·
    cases h
   ·
    rename_i h3
    split at h
    ·
     cases h
    ·
     rename_i h4
     refine ⟨by simpa using h1, Decidable.not_not.1 h2, ?_, by simpa using h4⟩;simp only [Bool.not_eq_false, Bool.and_eq_true] at h3;exact ⟨h3.1.1, h3.1.2, h3.2⟩
theorem goodE_12 {r : Rp} (hc : r.code = 0) (hk : knownB r.fn = true) (h : ¬ formA r ∨ (numB r.loc && numB r.sub && numB r.cnt) = false ∨ listA r = false) : goodE r = 12 := by
 unfold goodE;rw [if_neg (by simp [hc]), if_neg (by rw [hk]; simp)];by_cases h1 : formA r
 ·
  rw [if_neg (by simp [h1])];by_cases h2 : (numB r.loc && numB r.sub && numB r.cnt) = false
  ·
   rw [if_pos h2]
  ·
   rw [if_neg h2];rcases h with h | h | h
   ·
    exact absurd h1 h
   ·
    exact absurd h h2
   ·
    rw [if_pos h]
 ·
  rw [if_pos h1]
theorem goodE_0 {r : Rp} (hc : r.code = 0) (hk : knownB r.fn = true) (h1 : formA r) (h2 : (numB r.loc && numB r.sub && numB r.cnt) = true) (h3 : listA r = true) : goodE r = 0 := by
 unfold goodE;rw [if_neg (by simp [hc]), if_neg (by rw [hk]; simp), if_neg (by simp [h1]), if_neg (by rw [h2]; simp), if_neg (by rw [h3]; simp)]
theorem goodE_15 {r : Rp} (hc : r.code = 0) (hk : knownB r.fn = false) : goodE r = 15 := by
 unfold goodE;rw [if_neg (by simp [hc]), if_pos hk]
theorem goodE_c0 {r : Rp} (hc : r.code ≠ 0) (h : codeB r = true) : goodE r = 0 := by
 unfold goodE; rw [if_pos hc, if_pos h]
theorem goodE_c12 {r : Rp} (hc : r.code ≠ 0) (h : codeB r = false) : goodE r = 12 := by
 unfold goodE; rw [if_pos hc, if_neg (by simp [h])]
theorem echo_right {r : Rp} (h : goodE r = 0) (hc : r.code = 0) (hf : r.fn = 5 ∨ r.fn = 6 ∨ r.fn = 8 ∨ r.fn = 22) : rightE (echoQ r) = 0 ∧ layA r = bytesQ (echoQ r) ∧ echoP (echoQ r) = r := by
 obtain ⟨hk, hform, ⟨n1, n2, n3⟩, hl⟩ := good_parts h hc;clear h;obtain ⟨f, k, a, c, s, bs, vs, m, o, ds⟩ := r;simp only at hf hk n1 n2 n3 hc;subst hc;have z : numB 0 = true := rfl;rcases hf with rfl | rfl | rfl | rfl
 all_goals
  clear hk;simp [formA] at hform;simp [listA] at hl
 ·
  obtain ⟨rfl, rfl, rfl, ⟨rfl, rfl⟩, rfl⟩ := hform;refine ⟨?_, by simp [layA, bytesQ, bodyA, echoQ, b8], by simp [echoP, echoQ]⟩;simp [rightE, echoQ, knownB, formP, n1, z, listB, hl]
 ·
  obtain ⟨rfl, rfl, rfl, ⟨rfl, rfl⟩, rfl⟩ := hform;refine ⟨?_, by simp [layA, bytesQ, bodyA, echoQ, b8], by simp [echoP, echoQ]⟩;simp [rightE, echoQ, knownB, formP, n1, z, listB, hl]
 ·
  obtain ⟨rfl, rfl, rfl, ⟨rfl, rfl⟩, rfl⟩ := hform;refine ⟨?_, by simp [layA, bytesQ, bodyA, echoQ, b8], by simp [echoP, echoQ]⟩;simp [rightE, echoQ, knownB, formP, n2, z, listB, hl]
 ·
  obtain ⟨rfl, rfl, rfl, rfl, rfl⟩ := hform;refine ⟨?_, by simp [layA, bytesQ, bodyA, echoQ, b8], by simp [echoP, echoQ]⟩;simp [rightE, echoQ, knownB, formP, n1, z, listB]
def ansB (x f : Int) : Bool := decide (0 ≤ f ∧ (x = f ∨ x - 128 = f))
def askB (r : Rp) (c : Int) : Bool :=
 if r.code ≠ 0 then true
 else if r.fn = 1 ∨ r.fn = 2 then decide ((r.bits.length : Int) = c)
 else if r.fn = 3 ∨ r.fn = 4 ∨ r.fn = 23 then decide ((r.vals.length : Int) = c)
 else true
def codeL (b : List UInt8) : Int := if b.length < 2 then 0 else (b.getD 1 0).toNat
noncomputable def gA (b : List UInt8) (c : Int) : Rp :=
 if 128 ≤ fnOf b then refP (fnOf b - 128) (codeL b)
 else if fnOf b = 1 ∨ fnOf b = 2 then ⟨fnOf b, 0, 0, 0, 0, openR (tailL b 1) c, [], 0, 0, []⟩
 else if fnOf b = 3 ∨ fnOf b = 4 ∨ fnOf b = 23 then ⟨fnOf b, 0, 0, 0, 0, [], wordsR (tailL b 1), 0, 0, []⟩
 else if fnOf b = 5 ∨ fnOf b = 6 ∨ fnOf b = 8 ∨ fnOf b = 22 then echoP (readQ b)
 else if fnOf b = 15 ∨ fnOf b = 16 then ⟨fnOf b, 0, getN b 1, getN b 3, 0, [], [], 0, 0, []⟩
 else if fnOf b = 17 then ⟨fnOf b, 0, 0, 0, 0, [], [], 0, 0, tailL b 1⟩
 else ⟨fnOf b, 0, 0, 0, 0, [], [], 0, 0, []⟩
def isA (b : List UInt8) (c : Int) (r : Rp) : Prop := goodE r = 0 ∧ layA r = b ∧ askB r c = true
theorem tail1 (f n : UInt8) (l : List UInt8) (h : n.toNat = l.length) : tailL (f :: n :: l) 1 = l := by
 unfold tailL; rw [if_neg (by simp [h])]; simp
theorem fn_lay {b : List UInt8} {c : Int} {r : Rp} (h : isA b c r) : b ≠ [] ∧ (r.code ≠ 0 → fnOf b = r.fn + 128 ∧ b = [b8 (r.fn + 128), b8 r.code]) ∧ (r.code = 0 → fnOf b = r.fn ∧ knownB r.fn = true) := by
 obtain ⟨hg, rfl, -⟩ := h;refine ⟨by unfold layA; split <;> simp, fun hc => ?_, fun hc => ?_⟩
 ·
  obtain ⟨h1, h2, h3, h4, -⟩ := good_code hg hc;have e : layA r = [b8 (r.fn + 128), b8 r.code] := by simp [layA, hc]
  refine ⟨?_, e⟩;rw [e];show ((b8 (r.fn + 128)).toNat : Int) = _;rw [b8_nat]; omega
 ·
  obtain ⟨hk, -⟩ := good_parts hg hc;refine ⟨?_, hk⟩;have := known_cases hk;rw [show layA r = b8 r.fn :: bodyA r by simp [layA, hc]];show ((b8 r.fn).toNat : Int) = _;rw [b8_nat]; omega
theorem gA_lay {b : List UInt8} {c : Int} {r : Rp} (h : isA b c r) : gA b c = r := by
 obtain ⟨-, f1, f2⟩ := fn_lay h;obtain ⟨hg, hb, ha⟩ := h;by_cases hc : r.code = 0
 ·
  obtain ⟨e, -⟩ := f2 hc;obtain ⟨hk, hform, ⟨n1, n2, n3⟩, hl⟩ := good_parts hg hc;have hecho := echo_right hg hc;have lay : layA r = b8 r.fn :: bodyA r := by simp [layA, hc]
  rw [lay] at hb;clear f1 f2 lay hg;unfold gA;rw [e];have m1 := pw_mk r.loc n1;have m3 := pw_mk r.cnt n3;obtain ⟨f, k, a, cn, s, bs, vs, m, o, ds⟩ := r;simp only at hk n1 n2 n3 hc hecho hb e m1 m3 ⊢;subst hc;simp only [askB] at ha;rcases known_cases hk with rfl | rfl | rfl | rfl | rfl | rfl | rfl | rfl | rfl | rfl | rfl | rfl
  all_goals
   clear hk;simp [formA] at hform;simp [listA] at hl;simp at ha
  ·
   obtain ⟨rfl, rfl, rfl, rfl, ⟨rfl, rfl⟩, rfl⟩ := hform;subst ha;simp [bodyA, cntL] at hb;subst hb;have e : (UInt8.ofNat (packL bs).length).toNat = (packL bs).length := by rw [UInt8.toNat_ofNat', packL_len]; omega
   simp;rw [tail1 _ _ _ e, openR_yes (openOk_packL bs)]
   simpa using openL_packL bs
  ·
   obtain ⟨rfl, rfl, rfl, rfl, ⟨rfl, rfl⟩, rfl⟩ := hform;subst ha;simp [bodyA, cntL] at hb;subst hb;have e : (UInt8.ofNat (packL bs).length).toNat = (packL bs).length := by rw [UInt8.toNat_ofNat', packL_len]; omega
   simp;rw [tail1 _ _ _ e, openR_yes (openOk_packL bs)]
   simpa using openL_packL bs
  ·
   obtain ⟨rfl, rfl, rfl, rfl, ⟨rfl, rfl⟩, rfl⟩ := hform;simp [bodyA, cntL] at hb;subst hb;have e : (UInt8.ofNat (bytesL vs).length).toNat = (bytesL vs).length := by rw [UInt8.toNat_ofNat', bytesL_len]; omega
   simp;rw [tail1 _ _ _ e];exact wordsR_bytes vs
  ·
   obtain ⟨rfl, rfl, rfl, rfl, ⟨rfl, rfl⟩, rfl⟩ := hform;simp [bodyA, cntL] at hb;subst hb;have e : (UInt8.ofNat (bytesL vs).length).toNat = (bytesL vs).length := by rw [UInt8.toNat_ofNat', bytesL_len]; omega
   simp;rw [tail1 _ _ _ e];exact wordsR_bytes vs
  ·
   obtain ⟨h1, h2, h3⟩ := hecho (.inl rfl);have hq : isQ b (echoQ ⟨5, 0, a, cn, s, bs, vs, m, o, ds⟩) := ⟨h1, by rw [← h2, ← hb]; simp [layA]⟩;simp;rw [readQ_is hq, h3]
  ·
   obtain ⟨h1, h2, h3⟩ := hecho (.inr (.inl rfl));have hq : isQ b (echoQ ⟨6, 0, a, cn, s, bs, vs, m, o, ds⟩) := ⟨h1, by rw [← h2, ← hb]; simp [layA]⟩;simp;rw [readQ_is hq, h3]
  ·
   obtain ⟨h1, h2, h3⟩ := hecho (.inr (.inr (.inl rfl)));have hq : isQ b (echoQ ⟨8, 0, a, cn, s, bs, vs, m, o, ds⟩) := ⟨h1, by rw [← h2, ← hb]; simp [layA]⟩;simp;rw [readQ_is hq, h3]
  ·
   obtain ⟨rfl, rfl, rfl, ⟨rfl, rfl⟩, rfl⟩ := hform;simp [bodyA, pw] at hb;subst hb;simp [getN1, getN3, m1, m3]
  ·
   obtain ⟨rfl, rfl, rfl, ⟨rfl, rfl⟩, rfl⟩ := hform;simp [bodyA, pw] at hb;subst hb;simp [getN1, getN3, m1, m3]
  ·
   obtain ⟨rfl, rfl, rfl, rfl, rfl, rfl, rfl⟩ := hform;simp [bodyA, cntL] at hb;subst hb;have e : (UInt8.ofNat ds.length).toNat = ds.length := by rw [UInt8.toNat_ofNat']; omega
   simp;rw [tail1 _ _ _ e]
  ·
   obtain ⟨h1, h2, h3⟩ := hecho (.inr (.inr (.inr rfl)));have hq : isQ b (echoQ ⟨22, 0, a, cn, s, bs, vs, m, o, ds⟩) := ⟨h1, by rw [← h2, ← hb]; simp [layA]⟩;simp;rw [readQ_is hq, h3]
  ·
   obtain ⟨rfl, rfl, rfl, rfl, ⟨rfl, rfl⟩, rfl⟩ := hform;simp [bodyA, cntL] at hb;subst hb;have e : (UInt8.ofNat (bytesL vs).length).toNat = (bytesL vs).length := by rw [UInt8.toNat_ofNat', bytesL_len]; omega
   simp;rw [tail1 _ _ _ e];exact wordsR_bytes vs
 ·
  obtain ⟨h1, h2, h3, h4, h5⟩ := good_code hg hc;obtain ⟨e, eb⟩ := f1 hc;unfold gA;rw [e, if_pos (by omega)];have : codeL b = r.code := by
   rw [eb];show ((b8 r.code).toNat : Int) = _;rw [b8_nat]; omega
  rw [this, show r.fn + 128 - 128 = r.fn by omega];exact h5.symm
theorem isA_one {b : List UInt8} {c : Int} {p q : Rp} (hp : isA b c p) (hq : isA b c q) : p = q := by rw [← gA_lay hp, ← gA_lay hq]
open Classical in
noncomputable def takeR (b : List UInt8) (f c : Int) : Rp := if h : ansB (fnOf b) f = true ∧ ∃ r, isA b c r then Classical.choose h.2 else zeroP
open Classical in
noncomputable def takeE (b : List UInt8) (f c : Int) : Int := if b = [] then 13 else if ansB (fnOf b) f = true ∧ ∃ r, isA b c r then 0 else 12
theorem takeR_is {b : List UInt8} {f c : Int} {r : Rp} (ha : ansB (fnOf b) f = true) (h : isA b c r) : takeR b f c = r := by
 have hx : ansB (fnOf b) f = true ∧ ∃ r, isA b c r := ⟨ha, r, h⟩;unfold takeR;rw [dif_pos hx];exact isA_one (Classical.choose_spec hx.2) h
theorem takeE_is {b : List UInt8} {f c : Int} {r : Rp} (ha : ansB (fnOf b) f = true) (h : isA b c r) : takeE b f c = 0 := by
 have hx : ansB (fnOf b) f = true ∧ ∃ r, isA b c r := ⟨ha, r, h⟩;unfold takeE;rw [if_neg (fn_lay h).1, if_pos hx]
theorem takeE_short (f c : Int) : takeE [] f c = 13 := by simp [takeE]
theorem takeR_short (f c : Int) : takeR [] f c = zeroP := by
 unfold takeR;rw [dif_neg];rintro ⟨-, r, h⟩;exact (fn_lay h).1 rfl
theorem takeE_ans {b : List UInt8} {f c : Int} (h0 : b ≠ []) (ha : ansB (fnOf b) f = false) : takeE b f c = 12 := by
 unfold takeE; rw [if_neg h0, if_neg (by simp [ha])]
theorem takeR_ans {b : List UInt8} {f c : Int} (ha : ansB (fnOf b) f = false) : takeR b f c = zeroP := by
 unfold takeR; rw [dif_neg (by simp [ha])]
theorem takeE_no {b : List UInt8} {f c : Int} (h0 : b ≠ []) (h : ¬ ∃ r, isA b c r) : takeE b f c = 12 := by
 unfold takeE; rw [if_neg h0, if_neg (fun x => h x.2)]
theorem takeR_no {b : List UInt8} {f c : Int} (h : ¬ ∃ r, isA b c r) : takeR b f c = zeroP := by
 unfold takeR; rw [dif_neg (fun x => h x.2)]
open Go.RowKit
set_option maxHeartbeats 400000 in
theorem eq_bool (u v : Value) (p q : List Bool) (w : World) (hu : Row w u (p.map Value.bool)) (hv : Row w v (q.map Value.bool)) :
  Calls Tryz.prog 123 #[u, v] w fun e w' => e = .returned (.bool (p == q)) ∧ Below w.heap.size w w' := by
 obtain ⟨a, cap, rfl, -⟩ := id hu;obtain ⟨a2, cap2, rfl, -⟩ := id hv;obtain ⟨hl, hc, hm, -⟩ := hu.at;obtain ⟨hl2, hc2, hm2, -⟩ := hv.at;simp only [List.length_map] at hl hc hl2 hc2 hu hv ⊢;unfold maxLen at hm hm2;by_cases hlen : p.length = q.length
 ·
  have ht : ((p.length : Int) != (q.length : Int)) = false := by simp; omega
  have HL : Hid (p.length = q.length) := hlen;clear hlen;go_enter Tryz.func123, Tryz.ntmps123;go_wp2;go_loopw [13] (fun i wr => ∃ k : Nat, k ≤ p.length ∧ i = .int .i64 k ∧ p.take k = q.take k ∧ Below w.heap.size w wr) (fun i _ => p.length - (intOf i).toNat)
  case atStart => exact ⟨0, Nat.zero_le _, rfl, rfl, Below.refl _ _⟩
  case round =>
   obtain ⟨k, hk, rfl, he, hb⟩ := hrel;have HE : Hid (p.take k = q.take k) := he;clear he;by_cases hlt : k < p.length
   ·
    have hlt2 : k < q.length := by have := HL.out; omega
    obtain ⟨-, -, -, hcell⟩ := (hu.below hb).at;obtain ⟨b, off, rfl, hcl⟩ := hcell k false hlt;obtain ⟨-, -, -, hcell2⟩ := (hv.below hb).at;obtain ⟨b2, off2, rfl, hcl2⟩ := hcell2 k false hlt2;have c0 := hcl k hlt;have c1 := hcl2 k hlt2;clear hcl hcell hcl2 hcell2;have hlt' : (k : Int) < (p.length : Int) := by omega
    have hlt2' : (k : Int) < (q.length : Int) := by omega
    have S1 : Hid (p.take (k + 1) = p.take k ++ [p.getD k false]) := by
     show _ = _; rw [List.take_succ_eq_append_getElem hlt]; simp [hlt]
    have S2 : Hid (q.take (k + 1) = q.take k ++ [q.getD k false]) := by
     show _ = _; rw [List.take_succ_eq_append_getElem hlt2]; simp [hlt2]
    generalize p.getD k false = x at *;generalize q.getD k false = y at *;by_cases hxy : x = y
    ·
     subst hxy;have hne : (x != x) = false := by simp
     go_wp2;go_quiet (fail)
     go_wp2;go_roundw
     case rel => exact ⟨k + 1, by omega, by go_num, by rw [S1.out, S2.out, HE.out], below_drewn hb _⟩
     case measure => simp [intOf]; omega
    ·
     have hpq : Hid ((p == q) = false) := by
      show _ = _;rw [beq_eq_false_iff_ne];intro h;have a1 := S1.out;have a2 := S2.out;rw [h, a2] at a1;simp at a1;exact hxy a1.symm
     rcases (show (x = true ∧ y = false) ∨ (x = false ∧ y = true) by cases x <;> cases y <;> simp at hxy ⊢) with ⟨rfl, rfl⟩ | ⟨rfl, rfl⟩
     all_goals
      clear hxy;go_wp2;go_quiet (fail)
      go_wp2;go_ret;exact ⟨ret_bool hpq.out.symm, below_drewn hb _⟩
   ·
    have h0 : k = p.length := by omega
    subst h0;have e := HE.out;rw [List.take_length, HL.out, List.take_length] at e;have hpq : Hid ((p == q) = true) := by show _ = _; rw [e]; simp
    clear e;go_wp2;go_ret;exact ⟨ret_bool hpq.out.symm, hb⟩
 ·
  have ht : ((p.length : Int) != (q.length : Int)) = true := by simp; omega
  have hne : (p == q) = false := by
   rw [beq_eq_false_iff_ne]; intro h; exact hlen (by rw [h])
  rw [hne];clear hlen hne;go_enter Tryz.func123, Tryz.ntmps123;go_wp2;go_ret;exact ⟨rfl, Below.refl _ _⟩
set_option maxHeartbeats 400000 in
theorem rbits_any (u v : Value) (p q : List Bool) (w : World) (hu : Row w u (p.map Value.bool)) (hv : Row w v (q.map Value.bool)) :
  Calls Tryz.prog 43 #[u, v] w fun e w' => e = .returned (.bool (p == q)) ∧ Below w.heap.size w w' := by
 obtain ⟨a, cap, rfl, -⟩ := id hu;obtain ⟨a2, cap2, rfl, -⟩ := id hv;obtain ⟨hl, hc, hm, -⟩ := hu.at;obtain ⟨hl2, hc2, hm2, -⟩ := hv.at;simp only [List.length_map] at hl hc hl2 hc2 hu hv ⊢;unfold maxLen at hm hm2;by_cases hlen : p.length = q.length
 ·
  have ht : ((p.length : Int) != (q.length : Int)) = false := by simp; omega
  have HL : Hid (p.length = q.length) := hlen;clear hlen;go_enter Tryz.func43, Tryz.ntmps43;go_wp2;go_loopw [13] (fun i wr => ∃ k : Nat, k ≤ p.length ∧ i = .int .i64 k ∧ p.take k = q.take k ∧ Below w.heap.size w wr) (fun i _ => p.length - (intOf i).toNat)
  case atStart => exact ⟨0, Nat.zero_le _, rfl, rfl, Below.refl _ _⟩
  case round =>
   obtain ⟨k, hk, rfl, he, hb⟩ := hrel;have HE : Hid (p.take k = q.take k) := he;clear he;by_cases hlt : k < p.length
   ·
    have hlt2 : k < q.length := by have := HL.out; omega
    obtain ⟨-, -, -, hcell⟩ := (hu.below hb).at;obtain ⟨b, off, rfl, hcl⟩ := hcell k false hlt;obtain ⟨-, -, -, hcell2⟩ := (hv.below hb).at;obtain ⟨b2, off2, rfl, hcl2⟩ := hcell2 k false hlt2;have c0 := hcl k hlt;have c1 := hcl2 k hlt2;clear hcl hcell hcl2 hcell2;have hlt' : (k : Int) < (p.length : Int) := by omega
    have hlt2' : (k : Int) < (q.length : Int) := by omega
    have S1 : Hid (p.take (k + 1) = p.take k ++ [p.getD k false]) := by
     show _ = _; rw [List.take_succ_eq_append_getElem hlt]; simp [hlt]
    have S2 : Hid (q.take (k + 1) = q.take k ++ [q.getD k false]) := by
     show _ = _; rw [List.take_succ_eq_append_getElem hlt2]; simp [hlt2]
    generalize p.getD k false = x at *;generalize q.getD k false = y at *;by_cases hxy : x = y
    ·
     subst hxy;have hne : (x != x) = false := by simp
     go_wp2;go_quiet (fail)
     go_wp2;go_roundw
     case rel => exact ⟨k + 1, by omega, by go_num, by rw [S1.out, S2.out, HE.out], below_drewn hb _⟩
     case measure => simp [intOf]; omega
    ·
     have hpq : Hid ((p == q) = false) := by
      show _ = _;rw [beq_eq_false_iff_ne];intro h;have a1 := S1.out;have a2 := S2.out;rw [h, a2] at a1;simp at a1;exact hxy a1.symm
     rcases (show (x = true ∧ y = false) ∨ (x = false ∧ y = true) by cases x <;> cases y <;> simp at hxy ⊢) with ⟨rfl, rfl⟩ | ⟨rfl, rfl⟩
     all_goals
      clear hxy;go_wp2;go_quiet (fail)
      go_wp2;go_ret;exact ⟨ret_bool hpq.out.symm, below_drewn hb _⟩
   ·
    have h0 : k = p.length := by omega
    subst h0;have e := HE.out;rw [List.take_length, HL.out, List.take_length] at e;have hpq : Hid ((p == q) = true) := by show _ = _; rw [e]; simp
    clear e;go_wp2;go_ret;exact ⟨ret_bool hpq.out.symm, hb⟩
 ·
  have ht : ((p.length : Int) != (q.length : Int)) = true := by simp; omega
  have hne : (p == q) = false := by
   rw [beq_eq_false_iff_ne]; intro h; exact hlen (by rw [h])
  rw [hne];clear hlen hne;go_enter Tryz.func43, Tryz.ntmps43;go_wp2;go_ret;exact ⟨rfl, Below.refl _ _⟩
set_option maxHeartbeats 400000 in
theorem eq_u16 (u v : Value) (p q : List UInt16) (w : World) (hu : Row w u (p.map wV)) (hv : Row w v (q.map wV)) :
  Calls Tryz.prog 124 #[u, v] w fun e w' => e = .returned (.bool (p == q)) ∧ Below w.heap.size w w' := by
 obtain ⟨a, cap, rfl, -⟩ := id hu;obtain ⟨a2, cap2, rfl, -⟩ := id hv;obtain ⟨hl, hc, hm, -⟩ := hu.at;obtain ⟨hl2, hc2, hm2, -⟩ := hv.at;simp only [List.length_map] at hl hc hl2 hc2 hu hv ⊢;unfold maxLen at hm hm2;by_cases hlen : p.length = q.length
 ·
  have ht : ((p.length : Int) != (q.length : Int)) = false := by simp; omega
  have HL : Hid (p.length = q.length) := hlen;clear hlen;go_enter Tryz.func124, Tryz.ntmps124;go_wp2;go_loopw [13] (fun i wr => ∃ k : Nat, k ≤ p.length ∧ i = .int .i64 k ∧ p.take k = q.take k ∧ Below w.heap.size w wr) (fun i _ => p.length - (intOf i).toNat)
  case atStart => exact ⟨0, Nat.zero_le _, rfl, rfl, Below.refl _ _⟩
  case round =>
   obtain ⟨k, hk, rfl, he, hb⟩ := hrel;have HE : Hid (p.take k = q.take k) := he;clear he;by_cases hlt : k < p.length
   ·
    have hlt2 : k < q.length := by have := HL.out; omega
    obtain ⟨-, -, -, hcell⟩ := (hu.below hb).at;obtain ⟨b, off, rfl, hcl⟩ := hcell k 0 hlt;obtain ⟨-, -, -, hcell2⟩ := (hv.below hb).at;obtain ⟨b2, off2, rfl, hcl2⟩ := hcell2 k 0 hlt2;have c0 := hcl k hlt;have c1 := hcl2 k hlt2;clear hcl hcell hcl2 hcell2;have hlt' : (k : Int) < (p.length : Int) := by omega
    have hlt2' : (k : Int) < (q.length : Int) := by omega
    have S1 : Hid (p.take (k + 1) = p.take k ++ [p.getD k 0]) := by
     show _ = _; rw [List.take_succ_eq_append_getElem hlt]; simp [hlt]
    have S2 : Hid (q.take (k + 1) = q.take k ++ [q.getD k 0]) := by
     show _ = _; rw [List.take_succ_eq_append_getElem hlt2]; simp [hlt2]
    generalize p.getD k 0 = x at *;generalize q.getD k 0 = y at *;by_cases hxy : x = y
    ·
     subst hxy;have hne : ((x.toNat : Int) != (x.toNat : Int)) = false := by simp
     go_wp2;go_quiet (fail)
     go_wp2;go_roundw
     case rel => exact ⟨k + 1, by omega, by go_num, by rw [S1.out, S2.out, HE.out], below_drewn hb _⟩
     case measure => simp [intOf]; omega
    ·
     have hne : ((x.toNat : Int) != (y.toNat : Int)) = true := by simp; intro h; exact hxy (UInt16.toNat_inj.1 (by omega))
     have hpq : Hid ((p == q) = false) := by
      show _ = _;rw [beq_eq_false_iff_ne];intro h;have a1 := S1.out;have a2 := S2.out;rw [h, a2] at a1;simp at a1;exact hxy a1.symm
     go_wp2;go_quiet (fail)
     go_wp2;go_ret;exact ⟨ret_bool hpq.out.symm, below_drewn hb _⟩
   ·
    have h0 : k = p.length := by omega
    subst h0;have e := HE.out;rw [List.take_length, HL.out, List.take_length] at e;have hpq : Hid ((p == q) = true) := by show _ = _; rw [e]; simp
    clear e;go_wp2;go_ret;exact ⟨ret_bool hpq.out.symm, hb⟩
 ·
  have ht : ((p.length : Int) != (q.length : Int)) = true := by simp; omega
  have hne : (p == q) = false := by
   rw [beq_eq_false_iff_ne]; intro h; exact hlen (by rw [h])
  rw [hne];clear hlen hne;go_enter Tryz.func124, Tryz.ntmps124;go_wp2;go_ret;exact ⟨rfl, Below.refl _ _⟩
set_option maxHeartbeats 400000 in
theorem rvals_any (u v : Value) (p q : List UInt16) (w : World) (hu : Row w u (p.map wV)) (hv : Row w v (q.map wV)) :
  Calls Tryz.prog 44 #[u, v] w fun e w' => e = .returned (.bool (p == q)) ∧ Below w.heap.size w w' := by
 obtain ⟨a, cap, rfl, -⟩ := id hu;obtain ⟨a2, cap2, rfl, -⟩ := id hv;obtain ⟨hl, hc, hm, -⟩ := hu.at;obtain ⟨hl2, hc2, hm2, -⟩ := hv.at;simp only [List.length_map] at hl hc hl2 hc2 hu hv ⊢;unfold maxLen at hm hm2;by_cases hlen : p.length = q.length
 ·
  have ht : ((p.length : Int) != (q.length : Int)) = false := by simp; omega
  have HL : Hid (p.length = q.length) := hlen;clear hlen;go_enter Tryz.func44, Tryz.ntmps44;go_wp2;go_loopw [13] (fun i wr => ∃ k : Nat, k ≤ p.length ∧ i = .int .i64 k ∧ p.take k = q.take k ∧ Below w.heap.size w wr) (fun i _ => p.length - (intOf i).toNat)
  case atStart => exact ⟨0, Nat.zero_le _, rfl, rfl, Below.refl _ _⟩
  case round =>
   obtain ⟨k, hk, rfl, he, hb⟩ := hrel;have HE : Hid (p.take k = q.take k) := he;clear he;by_cases hlt : k < p.length
   ·
    have hlt2 : k < q.length := by have := HL.out; omega
    obtain ⟨-, -, -, hcell⟩ := (hu.below hb).at;obtain ⟨b, off, rfl, hcl⟩ := hcell k 0 hlt;obtain ⟨-, -, -, hcell2⟩ := (hv.below hb).at;obtain ⟨b2, off2, rfl, hcl2⟩ := hcell2 k 0 hlt2;have c0 := hcl k hlt;have c1 := hcl2 k hlt2;clear hcl hcell hcl2 hcell2;have hlt' : (k : Int) < (p.length : Int) := by omega
    have hlt2' : (k : Int) < (q.length : Int) := by omega
    have S1 : Hid (p.take (k + 1) = p.take k ++ [p.getD k 0]) := by
     show _ = _; rw [List.take_succ_eq_append_getElem hlt]; simp [hlt]
    have S2 : Hid (q.take (k + 1) = q.take k ++ [q.getD k 0]) := by
     show _ = _; rw [List.take_succ_eq_append_getElem hlt2]; simp [hlt2]
    generalize p.getD k 0 = x at *;generalize q.getD k 0 = y at *;by_cases hxy : x = y
    ·
     subst hxy;have hne : ((x.toNat : Int) != (x.toNat : Int)) = false := by simp
     go_wp2;go_quiet (fail)
     go_wp2;go_roundw
     case rel => exact ⟨k + 1, by omega, by go_num, by rw [S1.out, S2.out, HE.out], below_drewn hb _⟩
     case measure => simp [intOf]; omega
    ·
     have hne : ((x.toNat : Int) != (y.toNat : Int)) = true := by simp; intro h; exact hxy (UInt16.toNat_inj.1 (by omega))
     have hpq : Hid ((p == q) = false) := by
      show _ = _;rw [beq_eq_false_iff_ne];intro h;have a1 := S1.out;have a2 := S2.out;rw [h, a2] at a1;simp at a1;exact hxy a1.symm
     go_wp2;go_quiet (fail)
     go_wp2;go_ret;exact ⟨ret_bool hpq.out.symm, below_drewn hb _⟩
   ·
    have h0 : k = p.length := by omega
    subst h0;have e := HE.out;rw [List.take_length, HL.out, List.take_length] at e;have hpq : Hid ((p == q) = true) := by show _ = _; rw [e]; simp
    clear e;go_wp2;go_ret;exact ⟨ret_bool hpq.out.symm, hb⟩
 ·
  have ht : ((p.length : Int) != (q.length : Int)) = true := by simp; omega
  have hne : (p == q) = false := by
   rw [beq_eq_false_iff_ne]; intro h; exact hlen (by rw [h])
  rw [hne];clear hlen hne;go_enter Tryz.func44, Tryz.ntmps44;go_wp2;go_ret;exact ⟨rfl, Below.refl _ _⟩
set_option maxHeartbeats 400000 in
theorem eq_u8 (u v : Value) (p q : List UInt8) (w : World) (hu : Row w u (p.map bV)) (hv : Row w v (q.map bV)) :
  Calls Tryz.prog 78 #[u, v] w fun e w' => e = .returned (.bool (p == q)) ∧ Below w.heap.size w w' := by
 obtain ⟨a, cap, rfl, -⟩ := id hu;obtain ⟨a2, cap2, rfl, -⟩ := id hv;obtain ⟨hl, hc, hm, -⟩ := hu.at;obtain ⟨hl2, hc2, hm2, -⟩ := hv.at;simp only [List.length_map] at hl hc hl2 hc2 hu hv ⊢;unfold maxLen at hm hm2;by_cases hlen : p.length = q.length
 ·
  have ht : ((p.length : Int) != (q.length : Int)) = false := by simp; omega
  have HL : Hid (p.length = q.length) := hlen;clear hlen;go_enter Tryz.func78, Tryz.ntmps78;go_wp2;go_loopw [13] (fun i wr => ∃ k : Nat, k ≤ p.length ∧ i = .int .i64 k ∧ p.take k = q.take k ∧ Below w.heap.size w wr) (fun i _ => p.length - (intOf i).toNat)
  case atStart => exact ⟨0, Nat.zero_le _, rfl, rfl, Below.refl _ _⟩
  case round =>
   obtain ⟨k, hk, rfl, he, hb⟩ := hrel;have HE : Hid (p.take k = q.take k) := he;clear he;by_cases hlt : k < p.length
   ·
    have hlt2 : k < q.length := by have := HL.out; omega
    obtain ⟨-, -, -, hcell⟩ := (hu.below hb).at;obtain ⟨b, off, rfl, hcl⟩ := hcell k 0 hlt;obtain ⟨-, -, -, hcell2⟩ := (hv.below hb).at;obtain ⟨b2, off2, rfl, hcl2⟩ := hcell2 k 0 hlt2;have c0 := hcl k hlt;have c1 := hcl2 k hlt2;clear hcl hcell hcl2 hcell2;have hlt' : (k : Int) < (p.length : Int) := by omega
    have hlt2' : (k : Int) < (q.length : Int) := by omega
    have S1 : Hid (p.take (k + 1) = p.take k ++ [p.getD k 0]) := by
     show _ = _; rw [List.take_succ_eq_append_getElem hlt]; simp [hlt]
    have S2 : Hid (q.take (k + 1) = q.take k ++ [q.getD k 0]) := by
     show _ = _; rw [List.take_succ_eq_append_getElem hlt2]; simp [hlt2]
    generalize p.getD k 0 = x at *;generalize q.getD k 0 = y at *;by_cases hxy : x = y
    ·
     subst hxy;have hne : ((x.toNat : Int) != (x.toNat : Int)) = false := by simp
     go_wp2;go_quiet (fail)
     go_wp2;go_roundw
     case rel => exact ⟨k + 1, by omega, by go_num, by rw [S1.out, S2.out, HE.out], below_drewn hb _⟩
     case measure => simp [intOf]; omega
    ·
     have hne : ((x.toNat : Int) != (y.toNat : Int)) = true := by simp; intro h; exact hxy (UInt8.toNat_inj.1 (by omega))
     have hpq : Hid ((p == q) = false) := by
      show _ = _;rw [beq_eq_false_iff_ne];intro h;have a1 := S1.out;have a2 := S2.out;rw [h, a2] at a1;simp at a1;exact hxy a1.symm
     go_wp2;go_quiet (fail)
     go_wp2;go_ret;exact ⟨ret_bool hpq.out.symm, below_drewn hb _⟩
   ·
    have h0 : k = p.length := by omega
    subst h0;have e := HE.out;rw [List.take_length, HL.out, List.take_length] at e;have hpq : Hid ((p == q) = true) := by show _ = _; rw [e]; simp
    clear e;go_wp2;go_ret;exact ⟨ret_bool hpq.out.symm, hb⟩
 ·
  have ht : ((p.length : Int) != (q.length : Int)) = true := by simp; omega
  have hne : (p == q) = false := by
   rw [beq_eq_false_iff_ne]; intro h; exact hlen (by rw [h])
  rw [hne];clear hlen hne;go_enter Tryz.func78, Tryz.ntmps78;go_wp2;go_ret;exact ⟨rfl, Below.refl _ _⟩
open Go.RowKit
abbrev rqV (f a c p s : Int) (vb vv : Value) (m o : UInt16) : Value := .agg #[.int .i64 f, .int .i64 a, .int .i64 c, .int .i64 p, .int .i64 s, vb, vv, wV m, wV o]
def IsRq (w : World) (v : Value) (q : Rq) : Prop := ∃ vb vv, v = rqV q.fn q.loc q.cnt q.wat q.sub vb vv q.land q.lor ∧ Row w vb (q.bits.map Value.bool) ∧ Row w vv (q.vals.map wV)
theorem IsRq.below {w w' : World} {v : Value} {q : Rq} (h : IsRq w v q) (hb : Below w.heap.size w w') : IsRq w' v q := by
 obtain ⟨vb, vv, rfl, h1, h2⟩ := h;exact ⟨vb, vv, rfl, h1.below hb, h2.below hb⟩
theorem number_pdu (n : Int) (w : World) : Calls Tryz.prog 88 #[.int .i64 n] w fun e w' => e = .returned (.bool (numB n)) ∧ w = w' := by
 by_cases h1 : 0 ≤ n
 ·
  by_cases h2 : n ≤ 65535
  ·
   have hb : numB n = true := by simp [numB]; omega
   rw [hb];go_enter Tryz.func88, Tryz.ntmps88;go_wp2;go_ret;exact ⟨rfl, rfl⟩
  ·
   have hb : numB n = false := by simp [numB]; omega
   rw [hb];go_enter Tryz.func88, Tryz.ntmps88;go_wp2;go_ret;exact ⟨rfl, rfl⟩
 ·
  have hb : numB n = false := by simp [numB]; omega
  rw [hb];go_enter Tryz.func88, Tryz.ntmps88;go_wp2;go_ret;exact ⟨rfl, rfl⟩
theorem within_pdu (n k : Int) (w : World) : Calls Tryz.prog 90 #[.int .i64 n, .int .i64 k] w fun e w' => e = .returned (.bool (decide (1 ≤ n ∧ n ≤ k))) ∧ w = w' := by
 by_cases h1 : 1 ≤ n
 ·
  by_cases h2 : n ≤ k
  ·
   have hb : decide (1 ≤ n ∧ n ≤ k) = true := by simp; omega
   rw [hb];go_enter Tryz.func90, Tryz.ntmps90;go_wp2;go_ret;exact ⟨rfl, rfl⟩
  ·
   have hb : decide (1 ≤ n ∧ n ≤ k) = false := by simp; omega
   rw [hb];go_enter Tryz.func90, Tryz.ntmps90;go_wp2;go_ret;exact ⟨rfl, rfl⟩
 ·
  have hb : decide (1 ≤ n ∧ n ≤ k) = false := by simp; omega
  rw [hb];go_enter Tryz.func90, Tryz.ntmps90;go_wp2;go_ret;exact ⟨rfl, rfl⟩
theorem coil_pdu (b : Bool) (w : World) : Calls Tryz.prog 112 #[.bool b] w fun e w' => e = .returned (.int .i64 (if b then 65280 else 0)) ∧ w = w' := by
 cases b
 all_goals
  go_enter Tryz.func112, Tryz.ntmps112;go_wp2;go_ret;exact ⟨rfl, rfl⟩
theorem known_no {f : Int} (h : knownB f = false) : (f == 1) = false ∧ (f == 2) = false ∧ (f == 3) = false ∧ (f == 4) = false ∧ (f == 5) = false ∧ (f == 6) = false ∧ (f == 8) = false ∧ (f == 15) = false ∧ (f == 16) = false ∧ (f == 17) = false ∧ (f == 22) = false ∧ (f == 23) = false := by
 have := of_decide_eq_false h;simp only [not_or] at this;simp only [beq_eq_false_iff_ne];exact this
set_option maxHeartbeats 400000 in
theorem known_pdu (f : Int) (w : World) : Calls Tryz.prog 75 #[.int .i64 f] w fun e w' => e = .returned (.bool (knownB f)) ∧ w = w' := by
 cases hb : knownB f
 ·
  obtain ⟨h1, h2, h3, h4, h5, h6, h8, h15, h16, h17, h22, h23⟩ := known_no hb;clear hb;go_enter Tryz.func75, Tryz.ntmps75;go_wp2;go_ret;exact ⟨rfl, rfl⟩
 ·
  rcases known_cases hb with rfl | rfl | rfl | rfl | rfl | rfl | rfl | rfl | rfl | rfl | rfl | rfl
  all_goals
   clear hb;go_enter Tryz.func75, Tryz.ntmps75;go_wp2;go_ret;exact ⟨rfl, rfl⟩
end Go.Proofs.YtdihcdphgiaepaaGreat
