/- burgagelaw11.known answers true. -/
import Derived.Test.YtffjhimdamdenaaBP
namespace Go.Proofs.Ytffjhimdamdenaa
open Go.RowKit

theorem wh0 : whereE 0 [] = (20, -1) := by decide
abbrev kP : Tn := ⟨1, 0, 1, [(3, 0, 0, 4)], [(0, 72)]⟩
abbrev kQ : Tn := ⟨1, 0, 1, [(3, 0, 0, 4)], [(72, 72)]⟩
abbrev kR : Tn := ⟨1, 0, 1, [], [(72, 72)]⟩
theorem wh1 : whereE 144 [kP, kQ] = (24, 1) := by decide
theorem wh2 : whereE 144 [kP, kR] = (0, -1) := by decide
theorem wh3 : whereE 143 [kP, kR] = (25, 1) := by decide
theorem sm0 : sameB kP kR = false := by decide
theorem okK (y : Tn) (hy : y = kQ ∨ y = kR) : OkTs [kP, y] := by
  refine ⟨fun x hx => ?_, by simp⟩
  simp only [List.mem_cons, List.not_mem_nil, or_false] at hx
  have w4 : OkW [(3, 0, 0, 4)] := fun z hz => by simp only [List.mem_singleton] at hz; subst hz; unfold i64; decide
  have s1 : OkL [(0, 72)] := fun z hz => by simp only [List.mem_singleton] at hz; subst hz; unfold i64; decide
  have s2 : OkL [(72, 72)] := fun z hz => by simp only [List.mem_singleton] at hz; subst hz; unfold i64; decide
  have i1 : i64 1 := by unfold i64; decide
  rcases hx with rfl | rfl
  · exact ⟨i1, by decide, i1, w4, s1, by simp, by simp⟩
  · rcases hy with rfl | rfl
    · exact ⟨i1, by decide, i1, w4, s2, by simp, by simp⟩
    · exact ⟨i1, by decide, i1, (fun z hz => by cases hz), s2, by simp, by simp⟩
abbrev sl1 (g : Nat) : Value := .slice (some ⟨g, 0, none⟩) 1 1
/-- what lies in memory -/
structure KN (g : Nat) (w : World) (v : Value) : Prop where
  a : Blk w g 45 [.int .i64 3, .int .i64 0, .int .i64 0, .int .i64 4]
  s : Blk w (g + 1) 48 [.int .i64 0, .int .i64 72]
  x : Blk w (g + 1 + 1) 43 [.int .i64 1, .int .u32 0, .int .i64 1, sl1 g, sl1 (g + 1)]
  y : Blk w (g + 1 + 1 + 1) 43 [.int .i64 1, .int .u32 0, .int .i64 1, v, sl1 (g + 1 + 1 + 1 + 1)]
  t : Blk w (g + 1 + 1 + 1 + 1) 48 [.int .i64 72, .int .i64 72]
theorem KN.new (w : World) : KN w.heap.size (((((w.alloc (.cells #[.int .i64 3, .int .i64 0, .int .i64 0, .int .i64 4] 45)).alloc (.cells #[.int .i64 0, .int .i64 72] 48)).alloc (.cells #[.int .i64 1, .int .u32 0, .int .i64 1, sl1 w.heap.size, sl1 (w.heap.size + 1)] 43)).alloc (.cells #[.int .i64 1, .int .u32 0, .int .i64 1, sl1 w.heap.size, sl1 (w.heap.size + 1 + 1 + 1 + 1)] 43)).alloc (.cells #[.int .i64 72, .int .i64 72] 48)) (sl1 w.heap.size) := by
  have e : ∀ (w : World) (t : TypeId) (xs : List Value) (g : Nat), g = w.heap.size → Blk (w.alloc (.cells xs.toArray t)) g t xs := fun w t xs g h => by subst h; exact Blk.new w t xs
  exact ⟨((((e _ _ _ _ rfl).alloc _).alloc _).alloc _).alloc _, (((e _ _ [.int .i64 0, .int .i64 72] _ (by simp)).alloc _).alloc _).alloc _, ((e _ _ [.int .i64 1, .int .u32 0, .int .i64 1, sl1 w.heap.size, sl1 (w.heap.size + 1)] _ (by simp)).alloc _).alloc _, (e _ _ [.int .i64 1, .int .u32 0, .int .i64 1, sl1 w.heap.size, sl1 (w.heap.size + 1 + 1 + 1 + 1)] _ (by simp)).alloc _, e _ _ [.int .i64 72, .int .i64 72] _ (by simp)⟩
theorem KN.ext {g : Nat} {w w' : World} {v : Value} (h : KN g w v) (hb : Below w.heap.size w w') : KN g w' v := ⟨h.a.below hb h.a.lt, h.s.below hb h.s.lt, h.x.below hb h.x.lt, h.y.below hb h.y.lt, h.t.below hb h.t.lt⟩
theorem KN.put {g : Nat} {w : World} {v : Value} (h : KN g w v) : KN g (w.setCell ⟨g + 1 + 1 + 1, 3, none⟩ (.slice none 0 0)) (.slice none 0 0) :=
  ⟨h.a.set_neW (by omega) _ _, h.s.set_neW (by omega) _ _, h.x.set_neW (by omega) _ _, h.y.set 3 _, h.t.set_neW (by omega) _ _⟩
theorem KN.wa {g : Nat} {w : World} {v : Value} (h : KN g w v) : Wns w (sl1 g) [(3, 0, 0, 4)] := Lsf.of_blk wf_len 1 rfl (by decide) _ h.a (fun i x hi j u hu => by
  match i, hi with
  | 0, hi => cases hi; rw [Nat.zero_mul, Nat.zero_add]; exact hu)
theorem one_slot {w : World} {g : Nat} {p q : Int} (h : Blk w g 48 [.int .i64 p, .int .i64 q]) : Sts w (sl1 g) [(p, q)] := Lsf.of_blk sf_len 1 rfl (by decide) _ h (fun i x hi j u hu => by
  match i, hi with
  | 0, hi => cases hi; rw [Nat.zero_mul, Nat.zero_add]; exact hu)
theorem two_tns {w : World} {x y : Tn} {a b c d : Value} (h1 : Wns w a x.ws) (h2 : Sts w b x.ss) (h3 : Wns w c y.ws) (h4 : Sts w d y.ss) (cs : Array Value) (hc : cs = #[.int .i64 x.u, .int .u32 x.f, .int .i64 x.q, a, b, .int .i64 y.u, .int .u32 y.f, .int .i64 y.q, c, d]) :
    Tns (w.alloc (.cells cs 43)) (.slice (some ⟨w.heap.size, 0, none⟩) 2 2) [x, y] := by
  subst hc
  have E := (Below.refl w.heap.size w).alloc (Nat.le_refl _) (.cells #[.int .i64 x.u, .int .u32 x.f, .int .i64 x.q, a, b, .int .i64 y.u, .int .u32 y.f, .int .i64 y.q, c, d] 43)
  refine ⟨[(x, a, b), (y, c, d)], rfl, Lsf.of_blk tf_len 2 rfl (by decide) _ (Blk.new w 43 [.int .i64 x.u, .int .u32 x.f, .int .i64 x.q, a, b, .int .i64 y.u, .int .u32 y.f, .int .i64 y.q, c, d]) (fun i z hi j u hu => ?_), fun e he => ?_⟩
  · match i, hi with
    | 0, hi =>
      cases hi
      match j, hu with
      | 0, hu => exact hu
      | 1, hu => exact hu
      | 2, hu => exact hu
      | 3, hu => exact hu
      | 4, hu => exact hu
    | 1, hi =>
      cases hi
      match j, hu with
      | 0, hu => exact hu
      | 1, hu => exact hu
      | 2, hu => exact hu
      | 3, hu => exact hu
      | 4, hu => exact hu
  · simp only [List.mem_cons, List.not_mem_nil, or_false] at he
    rcases he with rfl | rfl
    · exact ⟨h1.ext E, h2.ext E⟩
    · exact ⟨h3.ext E, h4.ext E⟩
theorem KN.bb (w : World) : Below w.heap.size w (((((w.alloc (.cells #[.int .i64 3, .int .i64 0, .int .i64 0, .int .i64 4] 45)).alloc (.cells #[.int .i64 0, .int .i64 72] 48)).alloc (.cells #[.int .i64 1, .int .u32 0, .int .i64 1, sl1 w.heap.size, sl1 (w.heap.size + 1)] 43)).alloc (.cells #[.int .i64 1, .int .u32 0, .int .i64 1, sl1 w.heap.size, sl1 (w.heap.size + 1 + 1 + 1 + 1)] 43)).alloc (.cells #[.int .i64 72, .int .i64 72] 48)) :=
  below_then (below_then (below_then (below_then ((Below.refl _ _).alloc (Nat.le_refl _) _) ((Below.refl _ _).alloc (Nat.le_refl _) _)) ((Below.refl _ _).alloc (Nat.le_refl _) _)) ((Below.refl _ _).alloc (Nat.le_refl _) _)) ((Below.refl _ _).alloc (Nat.le_refl _) _)

set_option maxRecDepth 100000 in
set_option maxHeartbeats 8000000 in
theorem known_law (w : World) :
    Calls Try.prog 12 #[] w fun e w' => e = .returned (.bool true) ∧ Below w.heap.size w w' := by
  have HK := hidden (KN.new w)
  have HB := hidden (KN.bb w)
  go_enter Try.func12, Try.ntmps12
  go_wp2_with fail
  refine (where_any 0 _ [] _ (Tns.nil _) (by unfold i64; omega) ⟨(fun x hx => by cases hx), Nat.zero_le _⟩).mono ?_
  rintro e w1 ⟨rfl, B1⟩
  rw [wh0]
  have K := HK.out.ext B1
  have bb := below_then HB.out B1
  clear HK HB B1
  -- p and q
  obtain ⟨x0, x1, x2, x3, x4⟩ := (show BxT w1 _ kP (sl1 w.heap.size) (sl1 (w.heap.size + 1)) from K.x).cells
  obtain ⟨y0, y1, y2, y3, y4⟩ := (show BxT w1 _ kQ (sl1 w.heap.size) (sl1 (w.heap.size + 1 + 1 + 1 + 1)) from K.y).cells
  go_wp2_with fail
  refine (where_any 144 _ [kP, kQ] _ (two_tns K.wa (one_slot K.s) K.wa (one_slot K.t) _ rfl) (by unfold i64; omega) (okK _ (.inl rfl))).mono ?_
  rintro e w2 ⟨rfl, B2⟩
  rw [wh1]
  replace B2 := below_then ((Below.refl w1.heap.size w1).alloc (Nat.le_refl _) _) B2
  replace K := K.ext B2
  replace bb := below_then bb B2
  clear B2 x0 x1 x2 x3 x4 y0 y1 y2 y3 y4
  have hx9 := K.x.lt
  have hy9 := K.y.lt
  have K3 := K.put
  have hz3 : (w2.setCell ⟨w.heap.size + 1 + 1 + 1, 3, none⟩ (.slice none 0 0)).heap.size = w2.heap.size := by simp [World.setCell]
  have bb3 := bb.setCell (p := ⟨w.heap.size + 1 + 1 + 1, 3, none⟩) (show w.heap.size ≤ w.heap.size + 1 + 1 + 1 by omega) (.slice none 0 0)
  have TT := two_tns (x := kP) (y := kR) K3.wa (one_slot K3.s) (Lsf.nil _) (one_slot K3.t) _ rfl
  rw [hz3] at TT
  have E3 := (Below.refl _ (w2.setCell ⟨w.heap.size + 1 + 1 + 1, 3, none⟩ (.slice none 0 0))).alloc (Nat.le_refl _) (.cells #[.int .i64 1, .int .u32 0, .int .i64 1, sl1 w.heap.size, sl1 (w.heap.size + 1), .int .i64 1, .int .u32 0, .int .i64 1, .slice none 0 0, sl1 (w.heap.size + 1 + 1 + 1 + 1)] 43)
  have E4 := (Below.refl _ ((w2.setCell ⟨w.heap.size + 1 + 1 + 1, 3, none⟩ (.slice none 0 0)).alloc (.cells #[.int .i64 1, .int .u32 0, .int .i64 1, sl1 w.heap.size, sl1 (w.heap.size + 1), .int .i64 1, .int .u32 0, .int .i64 1, .slice none 0 0, sl1 (w.heap.size + 1 + 1 + 1 + 1)] 43))).alloc (Nat.le_refl _) (boxA 144 (.slice (some ⟨w2.heap.size, 0, none⟩) 2 2))
  have A4 := BxA.new ((w2.setCell ⟨w.heap.size + 1 + 1 + 1, 3, none⟩ (.slice none 0 0)).alloc (.cells #[.int .i64 1, .int .u32 0, .int .i64 1, sl1 w.heap.size, sl1 (w.heap.size + 1), .int .i64 1, .int .u32 0, .int .i64 1, .slice none 0 0, sl1 (w.heap.size + 1 + 1 + 1 + 1)] 43)) 144 (.slice (some ⟨w2.heap.size, 0, none⟩) 2 2)
  rw [World.size_alloc, hz3] at A4
  have T4 := TT.ext E4
  have K4 := (K3.ext E3).ext E4
  have bb4 := below_then (below_then bb3 E3) E4
  obtain ⟨x0, x1, x2, x3, x4⟩ := (show BxT w2 _ kP (sl1 w.heap.size) (sl1 (w.heap.size + 1)) from K.x).cells
  obtain ⟨y0, y1, y2, y3, y4⟩ := (show BxT w2 _ kQ (sl1 w.heap.size) (sl1 (w.heap.size + 1 + 1 + 1 + 1)) from K.y).cells
  have f3 : w2.frozen? ⟨w.heap.size + 1 + 1 + 1, 3, none⟩ = false := Blk.frozen K.y 3
  have H4 := hidden (And.intro T4 (And.intro K4 (And.intro bb4 A4)))
  clear K K3 bb bb3 TT E3 E4 A4 T4 K4 bb4 hz3
  go_wp2_with fail
  refine (where_any 144 _ [kP, kR] _ H4.out.1 (by unfold i64; omega) (okK _ (.inr rfl))).mono ?_
  rintro e w5 ⟨rfl, B5⟩
  rw [wh2]
  obtain ⟨T, K, bb, A⟩ := H4.out
  replace T := T.ext B5
  replace K := K.ext B5
  replace A := A.ext B5
  replace bb := below_then bb B5
  have hsz := B5.size
  clear H4 B5 x0 x1 x2 x3 x4 y0 y1 y2 y3 y4 f3
  obtain ⟨x0, x1, x2, x3, x4⟩ := (show BxT w5 _ kP (sl1 w.heap.size) (sl1 (w.heap.size + 1)) from K.x).cells
  obtain ⟨y0, y1, y2, y3, y4⟩ := (show BxT w5 _ kR (.slice none 0 0) (sl1 (w.heap.size + 1 + 1 + 1 + 1)) from K.y).cells
  go_wp2_with fail
  refine (where_any 143 _ [kP, kR] _ (two_tns K.wa (one_slot K.s) (Lsf.nil _) (one_slot K.t) _ rfl) (by unfold i64; omega) (okK _ (.inr rfl))).mono ?_
  rintro e w6 ⟨rfl, B6⟩
  rw [wh3]
  replace B6 := below_then ((Below.refl w5.heap.size w5).alloc (Nat.le_refl _) _) B6
  replace T := T.ext B6
  replace K := K.ext B6
  replace A := A.ext B6
  replace bb := below_then bb B6
  clear B6 x0 x1 x2 x3 x4 y0 y1 y2 y3 y4
  obtain ⟨a0, a1⟩ := A.cells
  go_wp2_with fail
  refine (copy_tns 144 _ [kP, kR] _ T (okK _ (.inr rfl))).mono ?_
  rintro e w7 ⟨vt, rfl, T7, B7⟩
  obtain ⟨ta, tc, hv, -⟩ := T7.sl
  replace hv : vt = .slice ta 2 tc := hv
  subst hv
  have E8 := (Below.refl w7.heap.size w7).alloc (Nat.le_refl _) (boxA 144 (.slice ta 2 tc))
  have A8 := BxA.new w7 144 (.slice ta 2 tc)
  replace T7 := T7.ext E8
  replace B7 := below_then B7 E8
  replace T := T.ext B7
  replace K := K.ext B7
  replace A := A.ext B7
  replace bb := below_then bb B7
  clear a0 a1 B7 E8
  obtain ⟨a0, a1⟩ := A.cells
  obtain ⟨b0, b1⟩ := A8.cells
  go_wp2_with fail
  refine (equal_self 144 _ _ [kP, kR] _ T T7).mono ?_
  rintro e w8 ⟨rfl, B8⟩
  replace T := T.ext B8
  replace K := K.ext B8
  replace A := A.ext B8
  replace bb := below_then bb B8
  clear a0 a1 b0 b1 B8 A8 T7
  obtain ⟨x0, x1, x2, x3, x4⟩ := (show BxT w8 _ kP (sl1 w.heap.size) (sl1 (w.heap.size + 1)) from K.x).cells
  obtain ⟨y0, y1, y2, y3, y4⟩ := (show BxT w8 _ kR (.slice none 0 0) (sl1 (w.heap.size + 1 + 1 + 1 + 1)) from K.y).cells
  go_wp2_with fail
  refine (same_any kP kR _ _ _ _ _ K.wa (one_slot K.s) (Lsf.nil _) (one_slot K.t)).mono ?_
  rintro e w9 ⟨rfl, B9⟩
  rw [sm0]
  replace T := T.ext B9
  replace A := A.ext B9
  replace bb := below_then bb B9
  clear x0 x1 x2 x3 x4 y0 y1 y2 y3 y4 K B9
  obtain ⟨a0, a1⟩ := A.cells
  go_wp2_with fail
  refine (right_tab 144 _ [kP, kR] _ T (by unfold i64; omega) (okK _ (.inr rfl))).mono ?_
  rintro e w10 ⟨rfl, B10⟩
  rw [wh2]
  replace bb := below_then bb B10
  clear a0 a1 A T B10
  go_wp2
  go_ret
  exact ⟨rfl, bb⟩
end Go.Proofs.Ytffjhimdamdenaa
