/- Joined texts. -/
import Derived.Test.YtdihcdphgiaepaaGreatZZ29
import Derived.Test.YtdihcdphgiaepaaGreatZZ32
import Derived.Test.YtdihcdphgiaepaaGreatZZ33
import Derived.Deep.Cut
set_option maxHeartbeats 2000000
namespace Go.Proofs.YtdihcdphgiaepaaGreat
open Go.RowKit
theorem right_ref (v : Value) (q : Rq) (w : World) (h : IsRq w v q) :
  Calls Tryz.prog 29 #[v] w fun e w' => e = .returned (J (rightE q)) ∧ Bo w w' := by
 cases hk : knownB q.fn
 ·
  obtain ⟨ab, capb, av, capv, rfl, -, -⟩ := h.slices;have W0 := Hh (aL w);have e : rightE q = 15 := by simp [rightE, hk]
  rw [e];have KK := Hh hk;obtain ⟨f, a, c, p, s, bs, vs, m, o⟩ := q;simp only at KK ⊢;clear hk e h;go_enter Tryz.func29, Tryz.ntmps29;go_wp2_with (go_at_call 48; refine (has_ref _ _).mono ?_; rintro e w1 ⟨rfl, rfl⟩; rw [KK.out])
  go_ret;exact ⟨rfl, W0.out _⟩
 ·
  rcases known_cases hk with e | e | e | e | e | e | e | e | e | e | e | e
  ·
   exact right_ref_1c v q w h (.inl e)
  ·
   exact right_ref_1c v q w h (.inr (.inl e))
  ·
   exact right_ref_1c v q w h (.inr (.inr (.inl e)))
  ·
   exact right_ref_1c v q w h (.inr (.inr (.inr e)))
  ·
   exact right_ref_5 v q w h e
  ·
   exact right_ref_6 v q w h e
  ·
   exact right_ref_8 v q w h e
  ·
   exact right_ref_15 v q w h e
  ·
   exact right_ref_16 v q w h e
  ·
   exact right_ref_17 v q w h e
  ·
   exact right_ref_22 v q w h e
  ·
   exact right_ref_23 v q w h e
theorem bytes_ref (v : Value) (q : Rq) (w : World) (h : IsRq w v q) :
  Calls Tryz.prog 12 #[v] w fun e w' => ∃ v', e = .returned (.tuple #[v', J (rightE q)]) ∧ w'.ownsRow w.heap.size 5 1 v' (bytesR q).length ((bytesR q).map bV) ∧ Bo w w' := by
 obtain ⟨ab, capb, av, capv, rfl, -, -⟩ := h.slices;have W0 := Hh (aL w);have C := Hh (fun w' (hb : Bo w w') => right_ref _ _ _ (h.below hb));by_cases hr : rightE q = 0
 ·
  rw [bytesR_0 hr];have HQ := Hh (fun w' (hb : Bo w w') => write_ref _ _ _ (h.below hb) hr);rw [hr] at C ⊢;clear hr h;obtain ⟨f, a, c, p, s, bs, vs, m, o⟩ := q;simp only at C HQ ⊢;go_enter Tryz.func12, Tryz.ntmps12;go_wp2_with fail
  refine (C.out _ (W0.out _)).mono ?_;rintro e w1 ⟨rfl, B1⟩;have X := (Box.new w _ _ _ _ _ _ _ _ _ _).ext B1;replace B1 := bT (W0.out _) B1;obtain ⟨lt, c0, c1, c2, c3, c4, c5, c6, c7, c8⟩ := X;have S1 := B1.size;go_wp2_with fail
  refine (HQ.out _ B1).mono ?_;rintro e w2 ⟨v2, rfl, o2, B2⟩;replace B2 := bT B1 B2;replace o2 := owns_base o2 (base' := w.heap.size) S1;go_wp2;go_ret2
  exact ⟨_, rfl, o2, B2⟩
 ·
  rw [bytesR_no hr];have t : (rightE q != 0) = true := by simpa using hr
  generalize rightE q = E at *;clear hr h;go_enter Tryz.func12, Tryz.ntmps12;go_wp2_with fail
  refine (C.out _ (W0.out _)).mono ?_;rintro e w1 ⟨rfl, B1⟩;replace B1 := bT (W0.out _) B1;go_wp2;go_ret2
  exact ⟨_, rfl, World.ownsRow_nil _ _ _ _, B1⟩
theorem counts_ref (v : Value) (q : Rq) (w : World) (h : IsRq w v q) :
  Calls Tryz.prog 50 #[v] w fun e w' => e = .returned (.bool (countsB q)) ∧ Bo w w' := by
 obtain ⟨ab, capb, av, capv, rfl, -, hvl⟩ := h.slices;have W0 := Hh (aL w);have C := Hh (fun w' (hb : Bo w w') => right_ref _ _ _ (h.below hb));by_cases hr : rightE q = 0
 ·
  have hk := (right_parts hr).1;have e : countsB q = cntB q := by simp [countsB, hr]
  rw [e];rw [hr] at C;clear hr e h;obtain ⟨f, a, c, p, s, bs, vs, m, o⟩ := q;simp only at hk C hvl ⊢;rcases known_cases hk with rfl | rfl | rfl | rfl | rfl | rfl | rfl | rfl | rfl | rfl | rfl | rfl
  ·
   clear hk;by_cases k1 : 1 ≤ c
   ·
    by_cases k2 : c ≤ 2000
    ·
     go_enter Tryz.func50, Tryz.ntmps50;go_wp2_with fail
     refine (C.out _ (W0.out _)).mono ?_;rintro e w1 ⟨rfl, B1⟩;have X := (Box.new w _ _ _ _ _ _ _ _ _ _).ext B1;replace B1 := bT (W0.out _) B1;obtain ⟨lt, c0, c1, c2, c3, c4, c5, c6, c7, c8⟩ := X;go_wp2;go_ret;exact ⟨ret_bool (by first | (simp [cntB]; done) | (simp [cntB]; omega) | (simp [cntB] <;> intros <;> omega) | (rw [Bool.eq_iff_iff]; simp [cntB]; omega)), B1⟩
    ·
     go_enter Tryz.func50, Tryz.ntmps50;go_wp2_with fail
     refine (C.out _ (W0.out _)).mono ?_;rintro e w1 ⟨rfl, B1⟩;have X := (Box.new w _ _ _ _ _ _ _ _ _ _).ext B1;replace B1 := bT (W0.out _) B1;obtain ⟨lt, c0, c1, c2, c3, c4, c5, c6, c7, c8⟩ := X;go_wp2;go_ret;exact ⟨ret_bool (by first | (simp [cntB]; done) | (simp [cntB]; omega) | (simp [cntB] <;> intros <;> omega) | (rw [Bool.eq_iff_iff]; simp [cntB]; omega)), B1⟩
   ·
    go_enter Tryz.func50, Tryz.ntmps50;go_wp2_with fail
    refine (C.out _ (W0.out _)).mono ?_;rintro e w1 ⟨rfl, B1⟩;have X := (Box.new w _ _ _ _ _ _ _ _ _ _).ext B1;replace B1 := bT (W0.out _) B1;obtain ⟨lt, c0, c1, c2, c3, c4, c5, c6, c7, c8⟩ := X;go_wp2;go_ret;exact ⟨ret_bool (by first | (simp [cntB]; done) | (simp [cntB]; omega) | (simp [cntB] <;> intros <;> omega) | (rw [Bool.eq_iff_iff]; simp [cntB]; omega)), B1⟩
  ·
   clear hk;by_cases k1 : 1 ≤ c
   ·
    by_cases k2 : c ≤ 2000
    ·
     go_enter Tryz.func50, Tryz.ntmps50;go_wp2_with fail
     refine (C.out _ (W0.out _)).mono ?_;rintro e w1 ⟨rfl, B1⟩;have X := (Box.new w _ _ _ _ _ _ _ _ _ _).ext B1;replace B1 := bT (W0.out _) B1;obtain ⟨lt, c0, c1, c2, c3, c4, c5, c6, c7, c8⟩ := X;go_wp2;go_ret;exact ⟨ret_bool (by first | (simp [cntB]; done) | (simp [cntB]; omega) | (simp [cntB] <;> intros <;> omega) | (rw [Bool.eq_iff_iff]; simp [cntB]; omega)), B1⟩
    ·
     go_enter Tryz.func50, Tryz.ntmps50;go_wp2_with fail
     refine (C.out _ (W0.out _)).mono ?_;rintro e w1 ⟨rfl, B1⟩;have X := (Box.new w _ _ _ _ _ _ _ _ _ _).ext B1;replace B1 := bT (W0.out _) B1;obtain ⟨lt, c0, c1, c2, c3, c4, c5, c6, c7, c8⟩ := X;go_wp2;go_ret;exact ⟨ret_bool (by first | (simp [cntB]; done) | (simp [cntB]; omega) | (simp [cntB] <;> intros <;> omega) | (rw [Bool.eq_iff_iff]; simp [cntB]; omega)), B1⟩
   ·
    go_enter Tryz.func50, Tryz.ntmps50;go_wp2_with fail
    refine (C.out _ (W0.out _)).mono ?_;rintro e w1 ⟨rfl, B1⟩;have X := (Box.new w _ _ _ _ _ _ _ _ _ _).ext B1;replace B1 := bT (W0.out _) B1;obtain ⟨lt, c0, c1, c2, c3, c4, c5, c6, c7, c8⟩ := X;go_wp2;go_ret;exact ⟨ret_bool (by first | (simp [cntB]; done) | (simp [cntB]; omega) | (simp [cntB] <;> intros <;> omega) | (rw [Bool.eq_iff_iff]; simp [cntB]; omega)), B1⟩
  ·
   clear hk;by_cases k1 : 1 ≤ c
   ·
    by_cases k2 : c ≤ 125
    ·
     go_enter Tryz.func50, Tryz.ntmps50;go_wp2_with fail
     refine (C.out _ (W0.out _)).mono ?_;rintro e w1 ⟨rfl, B1⟩;have X := (Box.new w _ _ _ _ _ _ _ _ _ _).ext B1;replace B1 := bT (W0.out _) B1;obtain ⟨lt, c0, c1, c2, c3, c4, c5, c6, c7, c8⟩ := X;go_wp2;go_ret;exact ⟨ret_bool (by first | (simp [cntB]; done) | (simp [cntB]; omega) | (simp [cntB] <;> intros <;> omega) | (rw [Bool.eq_iff_iff]; simp [cntB]; omega)), B1⟩
    ·
     go_enter Tryz.func50, Tryz.ntmps50;go_wp2_with fail
     refine (C.out _ (W0.out _)).mono ?_;rintro e w1 ⟨rfl, B1⟩;have X := (Box.new w _ _ _ _ _ _ _ _ _ _).ext B1;replace B1 := bT (W0.out _) B1;obtain ⟨lt, c0, c1, c2, c3, c4, c5, c6, c7, c8⟩ := X;go_wp2;go_ret;exact ⟨ret_bool (by first | (simp [cntB]; done) | (simp [cntB]; omega) | (simp [cntB] <;> intros <;> omega) | (rw [Bool.eq_iff_iff]; simp [cntB]; omega)), B1⟩
   ·
    go_enter Tryz.func50, Tryz.ntmps50;go_wp2_with fail
    refine (C.out _ (W0.out _)).mono ?_;rintro e w1 ⟨rfl, B1⟩;have X := (Box.new w _ _ _ _ _ _ _ _ _ _).ext B1;replace B1 := bT (W0.out _) B1;obtain ⟨lt, c0, c1, c2, c3, c4, c5, c6, c7, c8⟩ := X;go_wp2;go_ret;exact ⟨ret_bool (by first | (simp [cntB]; done) | (simp [cntB]; omega) | (simp [cntB] <;> intros <;> omega) | (rw [Bool.eq_iff_iff]; simp [cntB]; omega)), B1⟩
  ·
   clear hk;by_cases k1 : 1 ≤ c
   ·
    by_cases k2 : c ≤ 125
    ·
     go_enter Tryz.func50, Tryz.ntmps50;go_wp2_with fail
     refine (C.out _ (W0.out _)).mono ?_;rintro e w1 ⟨rfl, B1⟩;have X := (Box.new w _ _ _ _ _ _ _ _ _ _).ext B1;replace B1 := bT (W0.out _) B1;obtain ⟨lt, c0, c1, c2, c3, c4, c5, c6, c7, c8⟩ := X;go_wp2;go_ret;exact ⟨ret_bool (by first | (simp [cntB]; done) | (simp [cntB]; omega) | (simp [cntB] <;> intros <;> omega) | (rw [Bool.eq_iff_iff]; simp [cntB]; omega)), B1⟩
    ·
     go_enter Tryz.func50, Tryz.ntmps50;go_wp2_with fail
     refine (C.out _ (W0.out _)).mono ?_;rintro e w1 ⟨rfl, B1⟩;have X := (Box.new w _ _ _ _ _ _ _ _ _ _).ext B1;replace B1 := bT (W0.out _) B1;obtain ⟨lt, c0, c1, c2, c3, c4, c5, c6, c7, c8⟩ := X;go_wp2;go_ret;exact ⟨ret_bool (by first | (simp [cntB]; done) | (simp [cntB]; omega) | (simp [cntB] <;> intros <;> omega) | (rw [Bool.eq_iff_iff]; simp [cntB]; omega)), B1⟩
   ·
    go_enter Tryz.func50, Tryz.ntmps50;go_wp2_with fail
    refine (C.out _ (W0.out _)).mono ?_;rintro e w1 ⟨rfl, B1⟩;have X := (Box.new w _ _ _ _ _ _ _ _ _ _).ext B1;replace B1 := bT (W0.out _) B1;obtain ⟨lt, c0, c1, c2, c3, c4, c5, c6, c7, c8⟩ := X;go_wp2;go_ret;exact ⟨ret_bool (by first | (simp [cntB]; done) | (simp [cntB]; omega) | (simp [cntB] <;> intros <;> omega) | (rw [Bool.eq_iff_iff]; simp [cntB]; omega)), B1⟩
  ·
   clear hk;go_enter Tryz.func50, Tryz.ntmps50;go_wp2_with fail
   refine (C.out _ (W0.out _)).mono ?_;rintro e w1 ⟨rfl, B1⟩;have X := (Box.new w _ _ _ _ _ _ _ _ _ _).ext B1;replace B1 := bT (W0.out _) B1;obtain ⟨lt, c0, c1, c2, c3, c4, c5, c6, c7, c8⟩ := X;go_wp2;go_ret;exact ⟨ret_bool (by first | (simp [cntB]; done) | (simp [cntB]; omega) | (simp [cntB] <;> intros <;> omega) | (rw [Bool.eq_iff_iff]; simp [cntB]; omega)), B1⟩
  ·
   clear hk;go_enter Tryz.func50, Tryz.ntmps50;go_wp2_with fail
   refine (C.out _ (W0.out _)).mono ?_;rintro e w1 ⟨rfl, B1⟩;have X := (Box.new w _ _ _ _ _ _ _ _ _ _).ext B1;replace B1 := bT (W0.out _) B1;obtain ⟨lt, c0, c1, c2, c3, c4, c5, c6, c7, c8⟩ := X;go_wp2;go_ret;exact ⟨ret_bool (by first | (simp [cntB]; done) | (simp [cntB]; omega) | (simp [cntB] <;> intros <;> omega) | (rw [Bool.eq_iff_iff]; simp [cntB]; omega)), B1⟩
  ·
   clear hk;go_enter Tryz.func50, Tryz.ntmps50;go_wp2_with fail
   refine (C.out _ (W0.out _)).mono ?_;rintro e w1 ⟨rfl, B1⟩;have X := (Box.new w _ _ _ _ _ _ _ _ _ _).ext B1;replace B1 := bT (W0.out _) B1;obtain ⟨lt, c0, c1, c2, c3, c4, c5, c6, c7, c8⟩ := X;go_wp2;go_ret;exact ⟨ret_bool (by first | (simp [cntB]; done) | (simp [cntB]; omega) | (simp [cntB] <;> intros <;> omega) | (rw [Bool.eq_iff_iff]; simp [cntB]; omega)), B1⟩
  ·
   clear hk;by_cases k1 : 1 ≤ c
   ·
    by_cases k2 : c ≤ 1968
    ·
     go_enter Tryz.func50, Tryz.ntmps50;go_wp2_with fail
     refine (C.out _ (W0.out _)).mono ?_;rintro e w1 ⟨rfl, B1⟩;have X := (Box.new w _ _ _ _ _ _ _ _ _ _).ext B1;replace B1 := bT (W0.out _) B1;obtain ⟨lt, c0, c1, c2, c3, c4, c5, c6, c7, c8⟩ := X;go_wp2;go_ret;exact ⟨ret_bool (by first | (simp [cntB]; done) | (simp [cntB]; omega) | (simp [cntB] <;> intros <;> omega) | (rw [Bool.eq_iff_iff]; simp [cntB]; omega)), B1⟩
    ·
     go_enter Tryz.func50, Tryz.ntmps50;go_wp2_with fail
     refine (C.out _ (W0.out _)).mono ?_;rintro e w1 ⟨rfl, B1⟩;have X := (Box.new w _ _ _ _ _ _ _ _ _ _).ext B1;replace B1 := bT (W0.out _) B1;obtain ⟨lt, c0, c1, c2, c3, c4, c5, c6, c7, c8⟩ := X;go_wp2;go_ret;exact ⟨ret_bool (by first | (simp [cntB]; done) | (simp [cntB]; omega) | (simp [cntB] <;> intros <;> omega) | (rw [Bool.eq_iff_iff]; simp [cntB]; omega)), B1⟩
   ·
    go_enter Tryz.func50, Tryz.ntmps50;go_wp2_with fail
    refine (C.out _ (W0.out _)).mono ?_;rintro e w1 ⟨rfl, B1⟩;have X := (Box.new w _ _ _ _ _ _ _ _ _ _).ext B1;replace B1 := bT (W0.out _) B1;obtain ⟨lt, c0, c1, c2, c3, c4, c5, c6, c7, c8⟩ := X;go_wp2;go_ret;exact ⟨ret_bool (by first | (simp [cntB]; done) | (simp [cntB]; omega) | (simp [cntB] <;> intros <;> omega) | (rw [Bool.eq_iff_iff]; simp [cntB]; omega)), B1⟩
  ·
   clear hk;by_cases k1 : 1 ≤ c
   ·
    by_cases k2 : c ≤ 123
    ·
     go_enter Tryz.func50, Tryz.ntmps50;go_wp2_with fail
     refine (C.out _ (W0.out _)).mono ?_;rintro e w1 ⟨rfl, B1⟩;have X := (Box.new w _ _ _ _ _ _ _ _ _ _).ext B1;replace B1 := bT (W0.out _) B1;obtain ⟨lt, c0, c1, c2, c3, c4, c5, c6, c7, c8⟩ := X;go_wp2;go_ret;exact ⟨ret_bool (by first | (simp [cntB]; done) | (simp [cntB]; omega) | (simp [cntB] <;> intros <;> omega) | (rw [Bool.eq_iff_iff]; simp [cntB]; omega)), B1⟩
    ·
     go_enter Tryz.func50, Tryz.ntmps50;go_wp2_with fail
     refine (C.out _ (W0.out _)).mono ?_;rintro e w1 ⟨rfl, B1⟩;have X := (Box.new w _ _ _ _ _ _ _ _ _ _).ext B1;replace B1 := bT (W0.out _) B1;obtain ⟨lt, c0, c1, c2, c3, c4, c5, c6, c7, c8⟩ := X;go_wp2;go_ret;exact ⟨ret_bool (by first | (simp [cntB]; done) | (simp [cntB]; omega) | (simp [cntB] <;> intros <;> omega) | (rw [Bool.eq_iff_iff]; simp [cntB]; omega)), B1⟩
   ·
    go_enter Tryz.func50, Tryz.ntmps50;go_wp2_with fail
    refine (C.out _ (W0.out _)).mono ?_;rintro e w1 ⟨rfl, B1⟩;have X := (Box.new w _ _ _ _ _ _ _ _ _ _).ext B1;replace B1 := bT (W0.out _) B1;obtain ⟨lt, c0, c1, c2, c3, c4, c5, c6, c7, c8⟩ := X;go_wp2;go_ret;exact ⟨ret_bool (by first | (simp [cntB]; done) | (simp [cntB]; omega) | (simp [cntB] <;> intros <;> omega) | (rw [Bool.eq_iff_iff]; simp [cntB]; omega)), B1⟩
  ·
   clear hk;go_enter Tryz.func50, Tryz.ntmps50;go_wp2_with fail
   refine (C.out _ (W0.out _)).mono ?_;rintro e w1 ⟨rfl, B1⟩;have X := (Box.new w _ _ _ _ _ _ _ _ _ _).ext B1;replace B1 := bT (W0.out _) B1;obtain ⟨lt, c0, c1, c2, c3, c4, c5, c6, c7, c8⟩ := X;go_wp2;go_ret;exact ⟨ret_bool (by first | (simp [cntB]; done) | (simp [cntB]; omega) | (simp [cntB] <;> intros <;> omega) | (rw [Bool.eq_iff_iff]; simp [cntB]; omega)), B1⟩
  ·
   clear hk;go_enter Tryz.func50, Tryz.ntmps50;go_wp2_with fail
   refine (C.out _ (W0.out _)).mono ?_;rintro e w1 ⟨rfl, B1⟩;have X := (Box.new w _ _ _ _ _ _ _ _ _ _).ext B1;replace B1 := bT (W0.out _) B1;obtain ⟨lt, c0, c1, c2, c3, c4, c5, c6, c7, c8⟩ := X;go_wp2;go_ret;exact ⟨ret_bool (by first | (simp [cntB]; done) | (simp [cntB]; omega) | (simp [cntB] <;> intros <;> omega) | (rw [Bool.eq_iff_iff]; simp [cntB]; omega)), B1⟩
  ·
   clear hk;by_cases k1 : 1 ≤ c
   ·
    by_cases k2 : c ≤ 125
    ·
     by_cases k3 : 1 ≤ vs.length
     ·
      have k3' : (1 : Int) ≤ (vs.length : Int) := by omega
      by_cases k4 : vs.length ≤ 121
      ·
       have k4' : (vs.length : Int) ≤ 121 := by omega
       go_enter Tryz.func50, Tryz.ntmps50;go_wp2_with fail
       refine (C.out _ (W0.out _)).mono ?_;rintro e w1 ⟨rfl, B1⟩;have X := (Box.new w _ _ _ _ _ _ _ _ _ _).ext B1;replace B1 := bT (W0.out _) B1;obtain ⟨lt, c0, c1, c2, c3, c4, c5, c6, c7, c8⟩ := X;go_wp2;go_ret;exact ⟨ret_bool (by first | (simp [cntB]; done) | (simp [cntB]; omega) | (simp [cntB] <;> intros <;> omega) | (rw [Bool.eq_iff_iff]; simp [cntB]; omega)), B1⟩
      ·
       have k4' : ¬ (vs.length : Int) ≤ 121 := by omega
       go_enter Tryz.func50, Tryz.ntmps50;go_wp2_with fail
       refine (C.out _ (W0.out _)).mono ?_;rintro e w1 ⟨rfl, B1⟩;have X := (Box.new w _ _ _ _ _ _ _ _ _ _).ext B1;replace B1 := bT (W0.out _) B1;obtain ⟨lt, c0, c1, c2, c3, c4, c5, c6, c7, c8⟩ := X;go_wp2;go_ret;exact ⟨ret_bool (by first | (simp [cntB]; done) | (simp [cntB]; omega) | (simp [cntB] <;> intros <;> omega) | (rw [Bool.eq_iff_iff]; simp [cntB]; omega)), B1⟩
     ·
      have k3' : ¬ (1 : Int) ≤ (vs.length : Int) := by omega
      go_enter Tryz.func50, Tryz.ntmps50;go_wp2_with fail
      refine (C.out _ (W0.out _)).mono ?_;rintro e w1 ⟨rfl, B1⟩;have X := (Box.new w _ _ _ _ _ _ _ _ _ _).ext B1;replace B1 := bT (W0.out _) B1;obtain ⟨lt, c0, c1, c2, c3, c4, c5, c6, c7, c8⟩ := X;go_wp2;go_ret;exact ⟨ret_bool (by first | (simp [cntB]; done) | (simp [cntB]; omega) | (simp [cntB] <;> intros <;> omega) | (rw [Bool.eq_iff_iff]; simp [cntB]; omega)), B1⟩
    ·
     go_enter Tryz.func50, Tryz.ntmps50;go_wp2_with fail
     refine (C.out _ (W0.out _)).mono ?_;rintro e w1 ⟨rfl, B1⟩;have X := (Box.new w _ _ _ _ _ _ _ _ _ _).ext B1;replace B1 := bT (W0.out _) B1;obtain ⟨lt, c0, c1, c2, c3, c4, c5, c6, c7, c8⟩ := X;go_wp2;go_ret;exact ⟨ret_bool (by first | (simp [cntB]; done) | (simp [cntB]; omega) | (simp [cntB] <;> intros <;> omega) | (rw [Bool.eq_iff_iff]; simp [cntB]; omega)), B1⟩
   ·
    go_enter Tryz.func50, Tryz.ntmps50;go_wp2_with fail
    refine (C.out _ (W0.out _)).mono ?_;rintro e w1 ⟨rfl, B1⟩;have X := (Box.new w _ _ _ _ _ _ _ _ _ _).ext B1;replace B1 := bT (W0.out _) B1;obtain ⟨lt, c0, c1, c2, c3, c4, c5, c6, c7, c8⟩ := X;go_wp2;go_ret;exact ⟨ret_bool (by first | (simp [cntB]; done) | (simp [cntB]; omega) | (simp [cntB] <;> intros <;> omega) | (rw [Bool.eq_iff_iff]; simp [cntB]; omega)), B1⟩
 ·
  have e : countsB q = false := by simp [countsB, hr]
  rw [e];have t : (rightE q != 0) = true := by simpa using hr
  generalize rightE q = E at *;clear hr h e;go_enter Tryz.func50, Tryz.ntmps50;go_wp2_with fail
  refine (C.out _ (W0.out _)).mono ?_;rintro e w1 ⟨rfl, B1⟩;replace B1 := bT (W0.out _) B1;go_wp2;go_ret;exact ⟨rfl, B1⟩
set_option maxRecDepth 100000 in
theorem read_ref_new (v : Value) (bs : List UInt8) (w : World) (hv : Row w v (bs.map bV)) (hbl : bs.length ≤ 140737488351232) :
  Calls Tryz.prog 59 #[v] w fun e w' => ∃ v', e = .returned (.tuple #[v', J (readE bs)]) ∧ IsRq w' v' (readQ bs) ∧ Bo w w' ∧ NewQ w.heap.size v' := by
 have W0 := Hh (aL w);by_cases h0 : bs = []
 ·
  subst h0;rw [readE_short, readQ_short];obtain ⟨a, cap, rfl, -⟩ := id hv;simp only [List.map_nil, List.length_nil] at hv ⊢;clear hv;go_enter Tryz.func59, Tryz.ntmps59;go_wp2;refine bodyPost_ret (v := _) (by simp [results, Tryz.results59, go_sem]; with_reducible rfl) rfl ?_;refine ⟨_, rfl, zero_is _, ?_, ⟨_, _, _, _, _, _, _, _, _, rfl, NewV.none _ _ _, NewV.none _ _ _⟩⟩;exact W0.out _
 ·
  have hp : 0 < bs.length := lpi.2 h0;have hp2 : (0 : Int) < (bs.length : Int) := by omega
  have hne : ((bs.length : Int) == 0) = false := by rw [beq_eq_false_iff_ne]; omega
  obtain ⟨a, cap, rfl, -⟩ := id hv;obtain ⟨hl, hc, hm, hcell⟩ := hv.at;simp only [List.length_map] at hl hc hv hcell ⊢;obtain ⟨b, off, rfl, hcl⟩ := hcell 0 0 hp;have c0 := hcl 0 hp;simp only [Nat.add_zero] at c0;have hlt := lt_of_cell c0;have HF : Hid (fnOf bs = ((bs.getD 0 0).toNat : Int)) := rfl;clear hcl hcell;cases hk : knownB (fnOf bs)
  ·
   rw [readE_fn h0 hk, readQ_fn hk];rw [HF.out] at hk;have KK := Hh hk;clear hk;generalize bs.getD 0 0 = x at *;have hx := x.toNat_lt;go_enter Tryz.func59, Tryz.ntmps59;go_wp2_with (go_at_call 48; refine (has_ref _ _).mono ?_; rintro e w1 ⟨rfl, rfl⟩; rw [KK.out])
   refine bodyPost_ret (v := _) (by simp [results, Tryz.results59, go_sem]; with_reducible rfl) rfl ?_;refine ⟨_, rfl, zero_is _, ?_, ⟨_, _, _, _, _, _, _, _, _, rfl, NewV.none _ _ _, NewV.none _ _ _⟩⟩;exact W0.out _
  ·
   have CG := Hh (fun w' (h : Row w' (.slice (some ⟨b, off, none⟩) bs.length cap) (bs.map bV)) => guess_ref _ bs w' h h0 hbl);have E12 := Hh (fun h => readE_form h0 hk (noR (b := bs) h));have Q12 := Hh (fun h => readQ_no (noR (b := bs) h));have E0 := Hh (fun h => readE_is (b := bs) (q := gR bs) h);have Q0 := Hh (fun h => readQ_is (b := bs) (q := gR bs) h);rw [HF.out] at hk;have KK := Hh hk;clear hk HF;generalize bs.getD 0 0 = x at *;have hx := x.toNat_lt;go_enter Tryz.func59, Tryz.ntmps59;go_wp2_with (go_at_call 48; refine (has_ref _ _).mono ?_; rintro e w1 ⟨rfl, rfl⟩; rw [KK.out])
   refine (CG.out _ (hv.below (W0.out _))).mono ?_;rintro e w1 ⟨v1, rfl, h1, B1, nq1⟩;have X0 := (Blk.new w 33 [J 0, J 0, J 0, J 0, J 0, nS, nS, U 0, U 0]).below B1 (by simp);replace B1 := bT (W0.out _) B1;obtain ⟨ab, capb, av, capv, rfl, -, -⟩ := h1.slices;obtain ⟨nb, nv⟩ := nq1.parts;simp at nb nv;have X1 := Blk.new w1 33 [J (gR bs).fn, J (gR bs).loc, J (gR bs).cnt, J (gR bs).wat, J (gR bs).sub, .slice ab (gR bs).bits.length capb, .slice av (gR bs).vals.length capv, U (gR bs).land.toNat, U (gR bs).lor.toNat];have E1 := aL w1 (.cells #[J (gR bs).fn, J (gR bs).loc, J (gR bs).cnt, J (gR bs).wat, J (gR bs).sub, .slice ab (gR bs).bits.length capb, .slice av (gR bs).vals.length capv, U (gR bs).land.toNat, U (gR bs).lor.toNat] 33);replace X0 := X0.below E1 X0.lt;have h1' := h1.below E1;have B2 := bT B1 E1;go_wp2;refine wp_region_pi [(0, true), (1, false), (2, true), (3, true), (4, true), (7, true), (8, true), (5, false), (6, true), (9, true), (10, true)] (by kernel_rfl) (by kernel_rfl) (by kernel_rfl) (fun _ _ _ d _ h => by cases d <;> exact h) ?_;replace X0 := X0.drew;replace X1 := X1.drew;replace h1' := h1'.below (Below.refl _ _).drew;replace B2 := B2.drew;have S1 : w1.heap.size + 1 ≤ (w1.alloc (.cells #[J (gR bs).fn, J (gR bs).loc, J (gR bs).cnt, J (gR bs).wat, J (gR bs).sub, .slice ab (gR bs).bits.length capb, .slice av (gR bs).vals.length capv, U (gR bs).land.toNat, U (gR bs).lor.toNat] 33)).drew.heap.size := by simp [World.drew]
   have szw := B1.size;clear E1 h1 CG;generalize hwq : (w1.alloc (.cells #[J (gR bs).fn, J (gR bs).loc, J (gR bs).cnt, J (gR bs).wat, J (gR bs).sub, .slice ab (gR bs).bits.length capb, .slice av (gR bs).vals.length capv, U (gR bs).land.toNat, U (gR bs).lor.toNat] 33)).drew = w2 at *;clear hwq;have RV := Hh (hv.below B2);have HX : Hid (∀ w', Ext w2 w' → Blk w' w1.heap.size 33 [J (gR bs).fn, J (gR bs).loc, J (gR bs).cnt, J (gR bs).wat, J (gR bs).sub, .slice ab (gR bs).bits.length capb, .slice av (gR bs).vals.length capv, U (gR bs).land.toNat, U (gR bs).lor.toNat]) := fun w' hx => X1.below hx X1.lt;generalize w1.heap.size = gr at *;have x2 := Ext.refl w2;refine pi_R x2 rfl (fun w' hx => by have X9 := HX.out w' hx; have r0 := X9.cell 0; have r1 := X9.cell 1; have r2 := X9.cell 2; have r3 := X9.cell 3; have r4 := X9.cell 4; have r5 := X9.cell 5; have r6 := X9.cell 6; have r7 := X9.cell 7; have r8 := X9.cell 8; simp at r0 r1 r2 r3 r4 r5 r6 r7 r8; clear X9; go_simp; with_reducible rfl) ?_;refine pi_M rfl (fun K hK => ?_);go_wp2_with fail
   refine (right_ref _ (gR bs) _ h1').mono ?_;rintro e w3 ⟨rfl, E3⟩;go_simp;refine hK.out _ _ E3 ?_;clear K hK;try simp only [Pu]
   have x3 := Ext.refl w3;by_cases hr : rightE (gR bs) = 0
   ·
    have HR := Hh hr;have WR := Hh (fun w' (h : Ext w2 w') => write_ref _ _ _ (h1'.below h) hr);rw [hr];clear hr;iterate 2 (refine pi_P E3 rfl ?_)
    refine pi_R E3 rfl (fun w' hx => by have hx := Ext.trans E3 hx; have X9 := HX.out w' hx; have r0 := X9.cell 0; have r1 := X9.cell 1; have r2 := X9.cell 2; have r3 := X9.cell 3; have r4 := X9.cell 4; have r5 := X9.cell 5; have r6 := X9.cell 6; have r7 := X9.cell 7; have r8 := X9.cell 8; simp at r0 r1 r2 r3 r4 r5 r6 r7 r8; clear X9; go_simp; with_reducible rfl) ?_;refine pi_P x3 rfl ?_;refine pi_R x3 rfl (fun w' hx => by have cv := conv_row (P := Tryz.prog) (RV.out.below (Ext.trans E3 hx)) 27 9 5 Tryz.underlying27 Tryz.underlying5 Tryz.underlying9; go_simp; with_reducible rfl) ?_;refine pi_M rfl (fun K hK => ?_);go_wp2_with fail
    refine (WR.out _ E3).mono ?_;rintro e w4 ⟨v4, rfl, o4, E4⟩;have R4 := Hh (Row.of_owns o4);clear o4;go_simp;refine hK.out _ _ E4 ?_;clear K hK;try simp only [Pu]
    have x4 := Ext.refl w4;refine pi_R E4 rfl (fun w' hx => by have cv := conv_row (P := Tryz.prog) (R4.out.below hx) 27 9 5 Tryz.underlying27 Tryz.underlying5 Tryz.underlying9; go_simp; with_reducible rfl) ?_;obtain ⟨tq, htq⟩ : ∃ t, (!(bytesQ (gR bs) == bs)) = t := ⟨_, rfl⟩;have HT := Hh htq;clear htq;iterate 2 (refine pi_pure x4 rfl (by kernel_rfl) (fun w' => by have ht := HT.out; go_simp; with_reducible rfl) ?_; try simp only [Pu])
    refine pi_nil ?_;have E34 := Ext.trans E3 E4;replace X0 := X0.below E34 X0.lt;replace X1 := X1.below E34 X1.lt;replace h1' := h1'.below E34;replace B2 := bT B2 E34;clear HX RV R4 WR;have d0 := X0.cell 0;have d1 := X0.cell 1;have d2 := X0.cell 2;have d3 := X0.cell 3;have d4 := X0.cell 4;have d5 := X0.cell 5;have d6 := X0.cell 6;have d7 := X0.cell 7;have d8 := X0.cell 8;simp at d0 d1 d2 d3 d4 d5 d6 d7 d8;have fd := X0.frozen;have gd := X0.lt;have r0 := X1.cell 0;have r1 := X1.cell 1;have r2 := X1.cell 2;have r3 := X1.cell 3;have r4 := X1.cell 4;have r5 := X1.cell 5;have r6 := X1.cell 6;have r7 := X1.cell 7;have r8 := X1.cell 8;simp at r0 r1 r2 r3 r4 r5 r6 r7 r8;have fr := X1.frozen;have gr := X1.lt;by_cases hq : bytesQ (gR bs) = bs
    ·
     have t : tq = false := by rw [← HT.out, hq]; simp
     subst t;have E := Hh (E0.out ⟨HR.out, hq⟩);have Qq := Hh (Q0.out ⟨HR.out, hq⟩);clear hq E12 Q12 E0 Q0 X0 X1 HT;generalize gR bs = q at *;go_wp2;refine bodyPost_ret (v := _) (by simp [results, Tryz.results59, go_sem, d0, d1, d2, d3, d4, d5, d6, d7, d8]; with_reducible rfl) rfl ?_;rw [E.out, Qq.out];obtain ⟨vb, vv, hE, hb1, hb2⟩ := h1';simp only [rqV, Ij] at hE;obtain ⟨rfl, rfl⟩ := hE;refine ⟨_, rfl, ⟨_, _, rfl, ?_, ?_⟩, ?_, ⟨_, _, _, _, _, _, _, _, _, rfl, nb.le (by omega), nv.le (by omega)⟩⟩
     ·
      repeat' (refine Row.setCell_new ?_ nb (by omega))
      exact hb1
     ·
      repeat' (refine Row.setCell_new ?_ nv (by omega))
      exact hb2
     ·
      repeat' (refine Below.setCell ?_ (by simp) _)
      exact B2
    ·
     have t : tq = true := by rw [← HT.out]; simpa using hq
     subst t;have E := Hh (E12.out (fun h => hq h.2));have Qq := Hh (Q12.out (fun h => hq h.2));clear hq E12 Q12 E0 Q0 X0 X1 HT;generalize gR bs = q at *;go_wp2;refine bodyPost_ret (v := _) (by simp [results, Tryz.results59, go_sem, d0, d1, d2, d3, d4, d5, d6, d7, d8]; with_reducible rfl) rfl ?_;rw [E.out, Qq.out];refine ⟨_, rfl, zero_is _, ?_, ⟨_, _, _, _, _, _, _, _, _, rfl, NewV.none _ _ _, NewV.none _ _ _⟩⟩
     repeat' (refine Below.setCell ?_ (by simp) _)
     exact B2
   ·
    have tr : (rightE (gR bs) != 0) = true := by simpa using hr
    have E := Hh (E12.out (fun h => hr h.1));have Qq := Hh (Q12.out (fun h => hr h.1));clear hr E12 Q12 E0 Q0;generalize rightE (gR bs) = Er at *;iterate 2 (refine pi_P E3 rfl ?_)
    iterate 3 (refine pi_S E3 rfl ?_)
    refine pi_pass E3 rfl (by kernel_rfl) ?_; try simp only [Pu];iterate 2 (refine pi_S E3 rfl ?_)
    refine pi_P E3 rfl ?_;refine pi_nil ?_;replace X0 := X0.below E3 X0.lt;replace B2 := bT B2 E3;clear X1 HX RV;have d0 := X0.cell 0;have d1 := X0.cell 1;have d2 := X0.cell 2;have d3 := X0.cell 3;have d4 := X0.cell 4;have d5 := X0.cell 5;have d6 := X0.cell 6;have d7 := X0.cell 7;have d8 := X0.cell 8;simp at d0 d1 d2 d3 d4 d5 d6 d7 d8;have fd := X0.frozen;have gd := X0.lt;clear X0;go_wp2;refine bodyPost_ret (v := _) (by simp [results, Tryz.results59, go_sem, d0, d1, d2, d3, d4, d5, d6, d7, d8]; with_reducible rfl) rfl ?_;rw [E.out, Qq.out];refine ⟨_, rfl, zero_is _, ?_, ⟨_, _, _, _, _, _, _, _, _, rfl, NewV.none _ _ _, NewV.none _ _ _⟩⟩
    repeat' (refine Below.setCell ?_ (by simp) _)
    exact B2
def hasL (f : Int) : List UInt8 :=
 if f = 1 ∨ f = 2 then [98]
 else if f = 3 ∨ f = 4 ∨ f = 23 then [118]
 else if f = 5 then [97, 98]
 else if f = 6 then [97, 118]
 else if f = 8 then [115, 118]
 else if f = 15 ∨ f = 16 then [97, 99]
 else if f = 17 then [100]
 else [97, 109]
theorem has_str (f : Int) (w : World) : Calls Tryz.prog 31 #[J f] w fun e w' => e = .returned (.string ⟨(hasL f).toArray⟩) ∧ w = w' := by
 cases hk : knownB f
 ·
  obtain ⟨h1, h2, h3, h4, h5, h6, h8, h15, h16, h17, h22, h23⟩ := known_no hk;have e : hasL f = [97, 109] := by
   simp only [beq_eq_false_iff_ne] at *;unfold hasL;rw [if_neg (by omega), if_neg (by omega), if_neg (by omega), if_neg (by omega), if_neg (by omega), if_neg (by omega), if_neg (by omega)]
  rw [e];clear hk e;go_enter Tryz.func31, Tryz.ntmps31;go_wp2;go_ret;exact ⟨rfl, rfl⟩
 ·
  rcases known_cases hk with rfl | rfl | rfl | rfl | rfl | rfl | rfl | rfl | rfl | rfl | rfl | rfl
  all_goals
   clear hk;go_enter Tryz.func31, Tryz.ntmps31;go_wp2;go_ret;exact ⟨rfl, rfl⟩
end Go.Proofs.YtdihcdphgiaepaaGreat
