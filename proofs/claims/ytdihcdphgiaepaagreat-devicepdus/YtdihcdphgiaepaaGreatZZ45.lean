/- What burgageref3.Take begins with. -/
import Derived.Test.YtdihcdphgiaepaaGreatZZ40
import Derived.Test.YtdihcdphgiaepaaGreatZZ41
import Derived.Test.YtdihcdphgiaepaaGreatZZ42
import Derived.Test.YtdihcdphgiaepaaGreatZZ43
import Derived.Test.YtdihcdphgiaepaaGreatZZ44
import Derived.Test.YtdihcdphgiaepaaGreatZZ4
import Derived.Deep.Cut
import Derived.Deep.CutRange
import Derived.Test.YtdihcdphgiaepaaGreatZZ39
namespace Go.Proofs.YtdihcdphgiaepaaGreat
open Go.RowKit
theorem codeB_out {r : Rp} (h : r.code < 1 ∨ 255 < r.code ∨ r.fn < 0 ∨ 127 < r.fn) (hc : r.code ≠ 0) : codeB r = false := by
 unfold codeB;rw [decide_eq_false_iff_not];intro e;have e1 : r.fn = r.fn % 128 := congrArg Rp.fn e;have e2 : r.code = r.code % 256 := congrArg Rp.code e;omega
theorem codeB_in {r : Rp} (h1 : 1 ≤ r.code) (h2 : r.code ≤ 255) (h3 : 0 ≤ r.fn) (h4 : r.fn ≤ 127) : codeB r = decide (r = refP r.fn r.code) := by
 unfold codeB;rw [show r.fn % 128 = r.fn by omega, show r.code % 256 = r.code by omega]
set_option maxRecDepth 100000 in
set_option maxHeartbeats 2000000 in
theorem good_ref_c (v : Value) (r : Rp) (w : World) (h : IsRp w v r) (hc : r.code ≠ 0) :
  Calls Tryz.prog 37 #[v] w fun e w' => e = .returned (.int .i64 (goodE r)) ∧ Below w.heap.size w w' := by
 obtain ⟨ab, capb, av, capv, ad, capd, rfl, -, -, -⟩ := h.slices;have W0 := hidden (fun o => (Below.refl w.heap.size w).alloc (Nat.le_refl _) o);have HQ := hidden (fun w' (hb : Below w.heap.size w w') => h.below hb);have eg : goodE r = if codeB r then 0 else 12 := by simp [goodE, hc]
 rw [eg];have OUT := hidden (fun hh => codeB_out (r := r) hh hc);have INN := hidden (fun h1 h2 h3 h4 => codeB_in (r := r) h1 h2 h3 h4);clear h eg;generalize codeB r = CB at *;have c0 : (r.code != 0) = true := by simpa using hc
 by_cases h1 : r.code < 1
 ·
  rw [OUT.out (.inl h1)];obtain ⟨f, k, a, c, s, bs, vs, m, o, ds⟩ := r;simp only at HQ h1 c0 ⊢;clear OUT INN hc;go_enter Tryz.func37, Tryz.ntmps37;go_wp2;go_ret;exact ⟨rfl, W0.out _⟩
 ·
  by_cases h2 : 255 < r.code
  ·
   rw [OUT.out (.inr (.inl h2))];obtain ⟨f, k, a, c, s, bs, vs, m, o, ds⟩ := r;simp only at HQ h1 h2 c0 ⊢;clear OUT INN hc;go_enter Tryz.func37, Tryz.ntmps37;go_wp2;go_ret;exact ⟨rfl, W0.out _⟩
  ·
   by_cases h3 : r.fn < 0
   ·
    rw [OUT.out (.inr (.inr (.inl h3)))];obtain ⟨f, k, a, c, s, bs, vs, m, o, ds⟩ := r;simp only at HQ h1 h2 h3 c0 ⊢;clear OUT INN hc;go_enter Tryz.func37, Tryz.ntmps37;go_wp2;go_ret;exact ⟨rfl, W0.out _⟩
   ·
    by_cases h4 : 127 < r.fn
    ·
     rw [OUT.out (.inr (.inr (.inr h4)))];obtain ⟨f, k, a, c, s, bs, vs, m, o, ds⟩ := r;simp only at HQ h1 h2 h3 h4 c0 ⊢;clear OUT INN hc;go_enter Tryz.func37, Tryz.ntmps37;go_wp2;go_ret;exact ⟨rfl, W0.out _⟩
    ·
     have EI := hidden (INN.out (by omega) (by omega) (by omega) (by omega));clear OUT INN hc;obtain ⟨f, k, a, c, s, bs, vs, m, o, ds⟩ := r;simp only at HQ h1 h2 h3 h4 c0 EI ⊢;cases CB
     all_goals
      go_enter Tryz.func37, Tryz.ntmps37;go_wp2_with fail
      refine (alike_ref _ _ _ (refP f k) _ (HQ.out _ (W0.out _)) (ref_rp _ _ _)).mono ?_;rintro e w2 ⟨rfl, B2⟩;rw [← EI.out];replace B2 := below_then (W0.out _) B2;go_wp2;go_ret;exact ⟨rfl, B2⟩
set_option maxRecDepth 100000 in
set_option maxHeartbeats 1000000 in
theorem good_ref (v : Value) (r : Rp) (w : World) (h : IsRp w v r) :
  Calls Tryz.prog 37 #[v] w fun e w' => e = .returned (.int .i64 (goodE r)) ∧ Below w.heap.size w w' := by
 by_cases hc : r.code = 0
 ·
  cases hk : knownB r.fn
  ·
   obtain ⟨ab, capb, av, capv, ad, capd, rfl, -, -, -⟩ := h.slices;have W0 := hidden (fun o => (Below.refl w.heap.size w).alloc (Nat.le_refl _) o);have e : goodE r = 15 := by simp [goodE, hc, hk]
   rw [e];have KK := hidden hk;obtain ⟨f, k, a, c, s, bs, vs, m, o, ds⟩ := r;simp only at KK hc ⊢;subst hc;clear hk e h;go_enter Tryz.func37, Tryz.ntmps37;go_wp2_with (go_at_call 48; refine (has_ref _ _).mono ?_; rintro e w1 ⟨rfl, rfl⟩; rw [KK.out])
   go_ret;exact ⟨rfl, W0.out _⟩
  ·
   rcases known_cases hk with e | e | e | e | e | e | e | e | e | e | e | e
   ·
    exact good_ref_1c v r w h hc (.inl e)
   ·
    exact good_ref_1c v r w h hc (.inr e)
   ·
    exact good_ref_3c v r w h hc (.inl e)
   ·
    exact good_ref_3c v r w h hc (.inr (.inl e))
   ·
    exact good_ref_5 v r w h hc e
   ·
    exact good_ref_6 v r w h hc e
   ·
    exact good_ref_8 v r w h hc e
   ·
    exact good_ref_15c v r w h hc (.inl e)
   ·
    exact good_ref_15c v r w h hc (.inr e)
   ·
    exact good_ref_17 v r w h hc e
   ·
    exact good_ref_22 v r w h hc e
   ·
    exact good_ref_3c v r w h hc (.inr (.inr e))
 ·
  exact good_ref_c v r w h hc
end Go.Proofs.YtdihcdphgiaepaaGreat
namespace Go.Proofs.YtdihcdphgiaepaaGreat
def gB (b : List UInt8) (c : Int) : Rp :=
 if 128 ≤ fnOf b then refP (fnOf b - 128) (codeL b)
 else if fnOf b = 1 ∨ fnOf b = 2 then ⟨fnOf b, 0, 0, 0, 0, (if b.length ≤ 1 then [] else openR (b.drop 2) c), [], 0, 0, []⟩
 else if fnOf b = 3 ∨ fnOf b = 4 ∨ fnOf b = 23 then ⟨fnOf b, 0, 0, 0, 0, [], wordsAt b 2, 0, 0, []⟩
 else if fnOf b = 15 ∨ fnOf b = 16 then ⟨fnOf b, 0, getN b 1, getN b 3, 0, [], [], 0, 0, []⟩
 else if fnOf b = 17 then ⟨fnOf b, 0, 0, 0, 0, [], [], 0, 0, (if b.length ≤ 1 then [] else b.drop 2)⟩
 else ⟨fnOf b, 0, (if fnOf b = 8 then 0 else getN b 1), 0, (gR b).sub, (gR b).bits, (gR b).vals, (gR b).land, (gR b).lor, []⟩
theorem drop2 (f n : UInt8) (l : List UInt8) : (f :: n :: l).drop 2 = l := rfl
theorem wordsAt_cnt (f n : UInt8) (vs : List UInt16) : wordsAt (f :: n :: bytesL vs) 2 = vs := by
 cases vs with
 | nil => rfl
 | cons x r =>
  unfold wordsAt;rw [if_neg (by rw [List.length_cons, List.length_cons, bytesL_len, List.length_cons]; omega), drop2];exact wordsR_bytes (x :: r)
theorem echo_gB {b : List UInt8} {q : Rq} (h : rightE q = 0) (hb : bytesQ q = b) : gR b = q := by rw [← hb]; exact gR_bytes q h
theorem gB_lay {b : List UInt8} {c : Int} {r : Rp} (h : isA b c r) : gB b c = r := by
 obtain ⟨-, f1, f2⟩ := fn_lay h;obtain ⟨hg, hb, ha⟩ := h;by_cases hc : r.code = 0
 ·
  obtain ⟨e, -⟩ := f2 hc;obtain ⟨hk, hform, ⟨n1, n2, n3⟩, hl⟩ := good_parts hg hc;have hecho := echo_right hg hc;have hlay := hb;have lay : layA r = b8 r.fn :: bodyA r := by simp [layA, hc]
  rw [lay] at hb;clear f1 f2 lay hg;unfold gB;have m1 := pw_mk r.loc n1;have m3 := pw_mk r.cnt n3;obtain ⟨f, k, a, cn, s, bs, vs, m, o, ds⟩ := r;simp only at hk n1 n2 n3 hc hecho hb hlay e m1 m3 ⊢;subst hc;simp only [askB] at ha;rw [e];rcases known_cases hk with rfl | rfl | rfl | rfl | rfl | rfl | rfl | rfl | rfl | rfl | rfl | rfl
  all_goals
   clear hk;simp [formA] at hform;simp [listA] at hl;simp at ha
  ·
   obtain ⟨rfl, rfl, rfl, rfl, ⟨rfl, rfl⟩, rfl⟩ := hform;subst ha;simp [bodyA, cntL] at hb;subst hb;simp;rw [openR_yes (openOk_packL bs)]
   simpa using openL_packL bs
  ·
   obtain ⟨rfl, rfl, rfl, rfl, ⟨rfl, rfl⟩, rfl⟩ := hform;subst ha;simp [bodyA, cntL] at hb;subst hb;simp;rw [openR_yes (openOk_packL bs)]
   simpa using openL_packL bs
  ·
   obtain ⟨rfl, rfl, rfl, rfl, ⟨rfl, rfl⟩, rfl⟩ := hform;simp [bodyA, cntL] at hb;subst hb;simp [wordsAt_cnt]
  ·
   obtain ⟨rfl, rfl, rfl, rfl, ⟨rfl, rfl⟩, rfl⟩ := hform;simp [bodyA, cntL] at hb;subst hb;simp [wordsAt_cnt]
  ·
   obtain ⟨h1, h2, h3⟩ := hecho (.inl rfl);have hq := echo_gB h1 (h2.symm.trans hlay);have e2 : getN b 1 = (gR b).loc := by simp [gR, e]
   simp;rw [e2, hq]
   simpa [echoP, echoQ] using h3
  ·
   obtain ⟨h1, h2, h3⟩ := hecho (.inr (.inl rfl));have hq := echo_gB h1 (h2.symm.trans hlay);have e2 : getN b 1 = (gR b).loc := by simp [gR, e]
   simp;rw [e2, hq]
   simpa [echoP, echoQ] using h3
  ·
   obtain ⟨h1, h2, h3⟩ := hecho (.inr (.inr (.inl rfl)));have hq := echo_gB h1 (h2.symm.trans hlay);simp;rw [hq]
   simp_all [echoP, echoQ]
  ·
   obtain ⟨rfl, rfl, rfl, ⟨rfl, rfl⟩, rfl⟩ := hform;simp [bodyA, pw] at hb;subst hb;simp [getN1, getN3, m1, m3]
  ·
   obtain ⟨rfl, rfl, rfl, ⟨rfl, rfl⟩, rfl⟩ := hform;simp [bodyA, pw] at hb;subst hb;simp [getN1, getN3, m1, m3]
  ·
   obtain ⟨rfl, rfl, rfl, rfl, rfl, rfl, rfl⟩ := hform;simp [bodyA, cntL] at hb;subst hb;simp
  ·
   obtain ⟨h1, h2, h3⟩ := hecho (.inr (.inr (.inr rfl)));have hq := echo_gB h1 (h2.symm.trans hlay);have e2 : getN b 1 = (gR b).loc := by simp [gR, e]
   simp;rw [e2, hq]
   simpa [echoP, echoQ] using h3
  ·
   obtain ⟨rfl, rfl, rfl, rfl, ⟨rfl, rfl⟩, rfl⟩ := hform;simp [bodyA, cntL] at hb;subst hb;simp [wordsAt_cnt]
 ·
  obtain ⟨h1, h2, h3, h4, h5⟩ := good_code hg hc;obtain ⟨e, eb⟩ := f1 hc;unfold gB;rw [e, if_pos (by omega)];have : codeL b = r.code := by
   rw [eb];show ((b8 r.code).toNat : Int) = _;rw [b8_nat]; omega
  rw [this, show r.fn + 128 - 128 = r.fn by omega];exact h5.symm
theorem noB {b : List UInt8} {c : Int} (h : ¬ isA b c (gB b c)) : ¬ ∃ r, isA b c r := fun ⟨r, hr⟩ => h (by rw [gB_lay hr]; exact hr)
theorem cell_of {w : World} {g i : Nat} {t : TypeId} {xs : List Value} {v : Value} (h : Blk w g t xs) (e : xs[i]? = some v) : w.cell? ⟨g, i, none⟩ = some v := (h.cell i).trans e
theorem blk_to {w : World} {g : Nat} {t : TypeId} {xs ys : List Value} (h : Blk w g t xs) (e : xs = ys) : Blk w g t ys := e ▸ h
theorem row_two {w : World} {b off n cap : Nat} {bs : List UInt8} {ad : Option Addr} (h : Row w (.slice (some ⟨b, off, none⟩) n cap) (bs.map bV)) (hn : 2 ≤ n) (had : (if cap = 2 then some ⟨b, off, none⟩ else some ⟨b, off + 2, none⟩) = ad) : Row w (.slice ad (n - 2) (cap - 2)) ((bs.drop 2).map bV) := by
 have hd := h.drop 2 hn b off rfl;rw [← List.map_drop] at hd;by_cases hc : cap = 2
 ·
  rw [if_pos hc] at had;subst had;obtain ⟨hl, hc2, -, -⟩ := h.at;have hn2 : n = 2 := by omega
  have e : bs.drop 2 = [] := by apply List.eq_nil_of_length_eq_zero; simp only [List.length_drop]; omega
  rw [e];subst hn2 hc;exact ⟨_, 0, rfl, Nat.le_refl _, Nat.zero_le _, (fun h => by cases h), .inl rfl⟩
 ·
  rw [if_neg hc] at had;subst had;exact hd
set_option maxRecDepth 100000 in
theorem or_big (f : Int) (h0 : 128 ≤ f) (h1 : f ≤ 255) : bits BinOp.or IntKind.i64 f 128 = f := by
 obtain ⟨n, rfl⟩ : ∃ n : Nat, f = (n : Int) := ⟨f.toNat, by omega⟩;have h := i64_or_nat n 128 (by omega) (by omega);rw [show (128 : Int) = ((128 : Nat) : Int) from rfl, h];have : n ||| 128 = n := by
  have h2 : ∀ m : Fin 256, 128 ≤ m.val → m.val ||| 128 = m.val := by decide
  exact h2 ⟨n, by omega⟩ (by simp; omega)
 rw [this]
theorem ans_no {x f Y : Int} (hx : 0 ≤ x ∧ x ≤ 255) (ha : ansB x f = false) (h1 : 0 ≤ f → f ≤ 127 → Y = f + 128) (h2 : 128 ≤ f → f ≤ 255 → Y = f) : (x != f) = true ∧ ((x != Y) = true ∨ (x != Y) = false ∧ (f < 0 ∨ ¬ f < 0 ∧ 255 < f)) ∨ (x != f) = false ∧ f < 0 := by
 simp only [ansB, decide_eq_false_iff_not] at ha;simp only [bne_iff_ne, ne_eq, bne_eq_false_iff_eq];by_cases h : f < 0
 ·
  omega
 ·
  have := h1 (by omega);have := h2;by_cases h3 : f ≤ 127
  ·
   omega
  ·
   by_cases h4 : f ≤ 255
   ·
    have := h2 (by omega) h4;omega
   ·
    omega
theorem ans_yes {x f Y : Int} (hx : 0 ≤ x ∧ x ≤ 255) (ha : ansB x f = true) (h1 : 0 ≤ f → f ≤ 127 → Y = f + 128) : ((x != f) = false ∨ (x != f) = true ∧ (x != Y) = false) ∧ ¬ f < 0 ∧ ¬ 255 < f := by
 simp only [ansB, decide_eq_true_eq] at ha;simp only [bne_iff_ne, ne_eq, bne_eq_false_iff_eq];by_cases h3 : f ≤ 127
 ·
  have := h1 ha.1 h3;omega
 ·
  omega
theorem fn_lay0 {b : List UInt8} {r : Rp} (hg : goodE r = 0) (hb : layA r = b) (hc : r.code = 0) : fnOf b = r.fn ∧ knownB r.fn = true := by
 subst hb;obtain ⟨hk, -⟩ := good_parts hg hc;refine ⟨?_, hk⟩;have := known_cases hk;rw [show layA r = b8 r.fn :: bodyA r by simp [layA, hc]];show ((b8 r.fn).toNat : Int) = _;rw [b8_nat]; omega
theorem gB_code {b : List UInt8} {c : Int} (h : fnOf b < 128) : (gB b c).code = 0 := by
 unfold gB;rw [if_neg (by omega)]
 repeat' split
 all_goals rfl
end Go.Proofs.YtdihcdphgiaepaaGreat
