/- The developers' Pdu. -/
import Derived.Test.YtdihcdphgiaepaaGreatZZ26
import Derived.Test.YtdihcdphgiaepaaGreatZZ7
import Derived.Deep.Cut
import Derived.Test.YtdihcdphgiaepaaGreatZZ25
namespace Go.Proofs.YtdihcdphgiaepaaGreat
open Go.RowKit
structure BoxP (w : World) (g : Nat) (f k a c s : Int) (vb vv : Value) (m o : UInt16) (vd : Value) : Prop where
 lt : g < w.heap.size
 c0 : w.cell? ⟨g, 0, none⟩ = some (.int .i64 f)
 c1 : w.cell? ⟨g, 1, none⟩ = some (.int .i64 k)
 c2 : w.cell? ⟨g, 2, none⟩ = some (.int .i64 a)
 c3 : w.cell? ⟨g, 3, none⟩ = some (.int .i64 c)
 c4 : w.cell? ⟨g, 4, none⟩ = some (.int .i64 s)
 c5 : w.cell? ⟨g, 5, none⟩ = some vb
 c6 : w.cell? ⟨g, 6, none⟩ = some vv
 c7 : w.cell? ⟨g, 7, none⟩ = some (.int .u16 m.toNat)
 c8 : w.cell? ⟨g, 8, none⟩ = some (.int .u16 o.toNat)
 c9 : w.cell? ⟨g, 9, none⟩ = some vd
theorem BoxP.below {w w' : World} {g : Nat} {f k a c s : Int} {vb vv : Value} {m o : UInt16} {vd : Value} (h : BoxP w g f k a c s vb vv m o vd) {B : Nat} (hb : Below B w w') (hg : g < B) : BoxP w' g f k a c s vb vv m o vd := by
 have e : ∀ i, w'.cell? ⟨g, i, none⟩ = w.cell? ⟨g, i, none⟩ := fun i => hb.cell (p := ⟨g, i, none⟩) hg;exact ⟨Nat.lt_of_lt_of_le h.lt hb.size, (e 0).trans h.c0, (e 1).trans h.c1, (e 2).trans h.c2, (e 3).trans h.c3, (e 4).trans h.c4, (e 5).trans h.c5, (e 6).trans h.c6, (e 7).trans h.c7, (e 8).trans h.c8, (e 9).trans h.c9⟩
theorem BoxP.ext {w w' : World} {g : Nat} {f k a c s : Int} {vb vv : Value} {m o : UInt16} {vd : Value} (h : BoxP w g f k a c s vb vv m o vd) (hb : Below w.heap.size w w') : BoxP w' g f k a c s vb vv m o vd := h.below hb h.lt
theorem BoxP.new (w : World) (f k a c s : Int) (vb vv : Value) (m o : UInt16) (vd : Value) (t : TypeId) : BoxP (w.alloc (.cells #[.int .i64 f, .int .i64 k, .int .i64 a, .int .i64 c, .int .i64 s, vb, vv, .int .u16 m.toNat, .int .u16 o.toNat, vd] t)) w.heap.size f k a c s vb vv m o vd := by
 have X := Blk.new w t [.int .i64 f, .int .i64 k, .int .i64 a, .int .i64 c, .int .i64 s, vb, vv, .int .u16 m.toNat, .int .u16 o.toNat, vd];exact ⟨by simp, X.cell 0, X.cell 1, X.cell 2, X.cell 3, X.cell 4, X.cell 5, X.cell 6, X.cell 7, X.cell 8, X.cell 9⟩
set_option maxRecDepth 100000 in
set_option maxHeartbeats 1000000 in
theorem refusal_rep (v : Value) (r : Rp) (w : World) (h : IsRp w v r) :
  Calls Tryz.prog 114 #[v] w fun e w' => e = .returned (.bool (codeB r)) ∧ Below w.heap.size w w' := by
 obtain ⟨ab, capb, av, capv, ad, capd, rfl, -, -, -⟩ := h.slices;have W0 := hidden (fun o => (Below.refl w.heap.size w).alloc (Nat.le_refl _) o);have HQ := hidden (fun w' (hb : Below w.heap.size w w') => h.below hb);have E : Hid (codeB r = decide (r = refP (r.fn % 128) (r.code % 256))) := rfl;rw [E.out];obtain ⟨f, k, a, c, s, bs, vs, m, o, ds⟩ := r;simp only at HQ ⊢;clear h E;go_enter Tryz.func114, Tryz.ntmps114;go_wp2;refine wp_region_pi [(0, true), (1, true), (2, true), (3, true), (4, true), (5, false), (6, false), (7, true)] (by kernel_rfl) (by kernel_rfl) (by kernel_rfl) (fun _ _ _ d _ h => by cases d <;> exact h) ?_;have X := hidden ((BoxP.new w f k a c s (.slice ab bs.length capb) (.slice av vs.length capv) m o (.slice ad ds.length capd) 46).ext (Below.refl _ _).drew);have B := (W0.out (.cells #[.int .i64 f, .int .i64 k, .int .i64 a, .int .i64 c, .int .i64 s, .slice ab bs.length capb, .slice av vs.length capv, wV m, wV o, .slice ad ds.length capd] 46)).drew;have x2 := Ext.refl (w.alloc (.cells #[.int .i64 f, .int .i64 k, .int .i64 a, .int .i64 c, .int .i64 s, .slice ab bs.length capb, .slice av vs.length capv, wV m, wV o, .slice ad ds.length capd] 46)).drew;generalize (w.alloc (.cells #[.int .i64 f, .int .i64 k, .int .i64 a, .int .i64 c, .int .i64 s, .slice ab bs.length capb, .slice av vs.length capv, wV m, wV o, .slice ad ds.length capd] 46)).drew = w2 at *;iterate 5 (first | (refine pi_P x2 rfl ?_) | (refine pi_R x2 rfl (fun w' hx => by obtain ⟨d, c0, c1, c2, c3, c4, c5, c6, c7, c8, c9⟩ := X.out.ext hx; go_simp; with_reducible rfl) ?_))
 refine pi_move rfl (by kernel_rfl) (fun K hK => ?_);go_wp2_with fail
 refine (refuse_rep _ _ _).mono ?_;rintro e w3 ⟨rfl, B3⟩;go_simp;refine hK.out _ _ B3 ?_;clear K hK;try simp only [Act.put, PuA, PuB, PuC]
 have E3 := B3;replace B3 := below_then B B3;refine pi_move rfl (by kernel_rfl) (fun K hK => ?_);go_wp2_with fail
 refine (same_rep _ _ _ (refP (f % 128) (k % 256)) _ (HQ.out _ B3) (ref_rp _ _ _)).mono ?_;rintro e w4 ⟨rfl, B4⟩;go_simp;have E4 := Ext.trans E3 B4;refine hK.out _ _ E4 ?_;clear K hK;try simp only [Act.put, PuA, PuB, PuC]
 replace B4 := below_then B3 B4;refine pi_pure E4 rfl (by kernel_rfl) (fun w' => by go_simp; with_reducible rfl) ?_;try simp only [Act.put, PuA, PuB, PuC]
 refine pi_nil ?_;go_wp2;go_ret;exact ⟨rfl, B4⟩
set_option maxRecDepth 100000 in
set_option maxHeartbeats 2000000 in
theorem right_rep (v : Value) (r : Rp) (w : World) (h : IsRp w v r) :
  Calls Tryz.prog 80 #[v] w fun e w' => e = .returned (.int .i64 (goodE r)) ∧ Below w.heap.size w w' := by
 obtain ⟨ab, capb, av, capv, ad, capd, rfl, -, -, -⟩ := h.slices;have W0 := hidden (fun o => (Below.refl w.heap.size w).alloc (Nat.le_refl _) o);have HQ := hidden (fun w' (hb : Below w.heap.size w w') => h.below hb);have HF := hidden (othersA_form r);have HE := hidden (@goodE_12 r);have H0 := hidden (@goodE_0 r);have H15 := hidden (@goodE_15 r);have Hc0 := hidden (@goodE_c0 r);have Hc12 := hidden (@goodE_c12 r);clear h;obtain ⟨f, k, a, c, s, bs, vs, m, o, ds⟩ := r;simp only at HE H0 HF HQ H15 Hc0 Hc12 ⊢;by_cases hk : k = 0
 ·
  subst hk;have z : Hid ((0 : Int) = 0) := rfl;have XB := BoxP.new w f 0 a c s (.slice ab bs.length capb) (.slice av vs.length capv) m o (.slice ad ds.length capd) 46;have XH := hidden XB;obtain ⟨lt, c0, c1, c2, c3, c4, c5, c6, c7, c8, c9⟩ := XB;have WA := W0.out (.cells #[.int .i64 f, .int .i64 0, .int .i64 a, .int .i64 c, .int .i64 s, .slice ab bs.length capb, .slice av vs.length capv, wV m, wV o, .slice ad ds.length capd] 46);cases hf : knownB f
  ·
   have L := hidden (H15.out z.out hf);have KK := hidden hf;clear hf c0 c1 c2 c3 c4 c5 c6 c7 c8 c9;go_enter Tryz.func80, Tryz.ntmps80;go_wp2_with (go_at_call 115; refine (known_rep f _).mono ?_; rintro e w1 ⟨rfl, B1⟩; rw [KK.out])
   go_ret;exact ⟨ret_int L.out.symm, below_then WA B1⟩
  ·
   have KK := hidden hf;clear hf c0 c1 c2 c3 c4 c5 c6 c7 c8 c9 lt;go_enter Tryz.func80, Tryz.ntmps80;go_wp2_with fail
   refine (known_rep f _).mono ?_;rintro e w1 ⟨rfl, B1⟩;rw [KK.out];have X1 := XH.out.ext B1;replace B1 := below_then WA B1;have Y1 := hidden X1;obtain ⟨lt, c0, c1, c2, c3, c4, c5, c6, c7, c8, c9⟩ := X1;go_wp2_with fail
   refine (others_rep _ _ _ (HQ.out _ B1) KK.out).mono ?_;rintro e w2 ⟨v2, rfl, hv2, B2⟩;replace Y1 := hidden (Y1.out.ext B2);replace B2 := below_then B1 B2;clear lt c0 c1 c2 c3 c4 c5 c6 c7 c8 c9 B1;go_wp2_with fail
   refine (same_rep _ _ _ _ _ hv2 (zero_rp _)).mono ?_;rintro e w3 ⟨rfl, B3⟩;have X1 := Y1.out.ext B3;replace B3 := below_then B2 B3;clear B2 hv2 Y1;obtain ⟨lt, c0, c1, c2, c3, c4, c5, c6, c7, c8, c9⟩ := X1;by_cases hf : othersA ⟨f, 0, a, c, s, bs, vs, m, o, ds⟩ = zeroP
   ·
    have F1 := hidden (show decide (othersA ⟨f, 0, a, c, s, bs, vs, m, o, ds⟩ = zeroP) = true by simpa using hf);have G1 := hidden ((HF.out z.out KK.out).1 hf);clear hf;rw [F1.out];cases ha : numB a
    ·
     have L := hidden (HE.out z.out KK.out (.inr (.inl (by rw [ha]; simp))));have Na := hidden ha;clear ha;go_wp2_with (go_at_call 118; refine (number_rep _ _).mono ?_; rintro e w4 ⟨rfl, rfl⟩; first | rw [Na.out])
     go_ret;exact ⟨ret_int L.out.symm, B3⟩
    ·
     have Na := hidden ha;clear ha;cases hs : numB s
     ·
      have L := hidden (HE.out z.out KK.out (.inr (.inl (by rw [hs]; simp))));have Ns := hidden hs;clear hs;go_wp2_with (go_at_call 118; refine (number_rep _ _).mono ?_; rintro e w4 ⟨rfl, rfl⟩; first | rw [Na.out] | rw [Ns.out])
      go_ret;exact ⟨ret_int L.out.symm, B3⟩
     ·
      have Ns := hidden hs;clear hs;cases hc : numB c
      ·
       have L := hidden (HE.out z.out KK.out (.inr (.inl (by rw [hc]; simp))));have Nc := hidden hc;clear hc;go_wp2_with (go_at_call 118; refine (number_rep _ _).mono ?_; rintro e w4 ⟨rfl, rfl⟩; first | rw [Na.out] | rw [Ns.out] | rw [Nc.out])
       go_ret;exact ⟨ret_int L.out.symm, B3⟩
      ·
       have Nc := hidden hc;clear hc;have E2 := hidden (show (numB a && numB s && numB c) = true by rw [Na.out, Ns.out, Nc.out]; rfl);go_wp2_with (go_at_call 118; refine (number_rep _ _).mono ?_; rintro e w4 ⟨rfl, rfl⟩; first | rw [Na.out] | rw [Ns.out] | rw [Nc.out])
       refine (listed_rep _ ⟨f, 0, a, c, s, bs, vs, m, o, ds⟩ _ (HQ.out _ B3) KK.out).mono ?_;rintro e w5 ⟨rfl, B5⟩;cases hl : listA ⟨f, 0, a, c, s, bs, vs, m, o, ds⟩
       ·
        have L := hidden (HE.out z.out KK.out (.inr (.inr hl)));clear hl;go_wp2;go_ret;exact ⟨ret_int L.out.symm, below_then B3 B5⟩
       ·
        have L := hidden (H0.out z.out KK.out G1.out E2.out hl);clear hl;go_wp2;go_ret;exact ⟨ret_int L.out.symm, below_then B3 B5⟩
   ·
    have F1 := hidden (show decide (othersA ⟨f, 0, a, c, s, bs, vs, m, o, ds⟩ = zeroP) = false by simpa using hf);have L := hidden (HE.out z.out KK.out (.inl (fun h => hf ((HF.out z.out KK.out).2 h))));clear hf;rw [F1.out];go_wp2;go_ret;exact ⟨ret_int L.out.symm, B3⟩
 ·
  have t : (k != 0) = true := by simpa using hk
  have XB := BoxP.new w f k a c s (.slice ab bs.length capb) (.slice av vs.length capv) m o (.slice ad ds.length capd) 46;have XH := hidden XB;have WA := W0.out (.cells #[.int .i64 f, .int .i64 k, .int .i64 a, .int .i64 c, .int .i64 s, .slice ab bs.length capb, .slice av vs.length capv, wV m, wV o, .slice ad ds.length capd] 46);have HK := hidden hk;clear hk;clear XB;go_enter Tryz.func80, Tryz.ntmps80;go_wp2_with fail
  refine (refusal_rep _ _ _ (HQ.out _ WA)).mono ?_;rintro e w1 ⟨rfl, B1⟩;have X1 := XH.out.ext B1;replace B1 := below_then WA B1;obtain ⟨lt, c0, c1, c2, c3, c4, c5, c6, c7, c8, c9⟩ := X1;cases hc : codeB ⟨f, k, a, c, s, bs, vs, m, o, ds⟩
  ·
   have L := hidden (Hc12.out HK.out hc);clear hc;go_wp2;go_ret;exact ⟨ret_int L.out.symm, B1⟩
  ·
   have L := hidden (Hc0.out HK.out hc);clear hc;go_wp2;go_ret;exact ⟨ret_int L.out.symm, B1⟩
theorem row_byte2 (w : World) (x y : UInt8) (n k : Int) (h : n = x.toNat) (h' : k = y.toNat) : Row (w.alloc (.cells #[.int .u8 n, .int .u8 k] 5)) (.slice (some ⟨w.heap.size, 0, none⟩) 2 2) ([x, y].map bV) := by
 subst h; subst h'; exact row_new w _ 5 2 rfl (by decide)
theorem ref_rp' (w : World) (f k : Int) : IsRp w (rpV f k 0 0 0 (.slice none 0 0) (.slice none 0 0) 0 0 (.slice none 0 0)) (refP f k) := ⟨_, _, _, rfl, Row.nil w, Row.nil w, Row.nil w⟩
theorem readE_cases (b : List UInt8) (h0 : b ≠ []) : readE b = 0 ∨ readE b = 15 ∨ readE b = 12 := by
 unfold readE;rw [if_neg h0]
 (repeat' split) <;> simp
end Go.Proofs.YtdihcdphgiaepaaGreat
