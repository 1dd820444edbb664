/- The windows that a tape makes. -/
import Derived.Test.YtffjhimdamdenaaWT
import Derived.Test.YtffjhimdamdenaaWG
namespace Go.Proofs.Ytffjhimdamdenaa
open Go.RowKit

theorem owns_dev {w w' : World} {base s g : Nat} {e : TypeId} {v : Value} {n : Nat} {xs : List Value} (h : w.ownsRow base e s v n xs) (hd : Dev w.heap.size g w w') (hg : g < base) : w'.ownsRow base e s v n xs := by
  refine ⟨h.1, ?_⟩
  rcases h.2 with h2 | ⟨g', cap, cur, rfl, hb', hg', rest⟩
  · exact .inl h2
  · have hlt := (Array.getElem?_eq_some_iff.1 hg').1
    exact .inr ⟨g', cap, cur, rfl, hb', (hd.block g' hlt (by omega)).trans hg', rest⟩
theorem owns_set {w w' : World} {base N s : Nat} {e : TypeId} {v : Value} {n : Nat} {xs : List Value} (h : w.ownsRow base e s v n xs) (hb : Below N w w') (hl : ∀ k, v.ownBlock = some k → k < N) : w'.ownsRow base e s v n xs := by
  refine ⟨h.1, ?_⟩
  rcases h.2 with h2 | ⟨g', cap, cur, rfl, hb', hg', rest⟩
  · exact .inl h2
  · exact .inr ⟨g', cap, cur, rfl, hb', (hb.block g' (hl g' rfl)).trans hg', rest⟩
theorem BxW.set_ne {w : World} {g k o : Nat} {s v p n : Int} (h : BxW w g s v p n) (hne : k ≠ g) (u : Value) (_ : True := trivial) : BxW (w.setCell ⟨k, o, none⟩ u) g s v p n := by
  unfold BxW Blk World.setCell at *
  simp only [Array.getElem?_modify]
  rw [if_neg hne]; exact h
theorem Blk.set_neW {w : World} {k g : Nat} {e : TypeId} {xs : List Value} (h : Blk w k e xs) (hne : g ≠ k) (o : Nat) (u : Value) : Blk (w.setCell ⟨g, o, none⟩ u) k e xs := by
  unfold Blk World.setCell at *
  simp only [Array.getElem?_modify]
  rw [if_neg hne]; exact h
theorem Dev.then {B g : Nat} {a b c : World} (h : Dev B g a b) (hB : B ≤ a.heap.size) (k : Dev b.heap.size g b c) : Dev B g a c := h.trans (k.mono (Nat.le_trans hB h.size))
theorem Dev.ext {B g : Nat} {a b c : World} (h : Dev B g a b) (hB : B ≤ a.heap.size) (k : Below b.heap.size b c) : Dev B g a c := h.then hB (Dev.of_below k)
theorem Tap.ext {B : Nat} {w w' : World} {g : Nat} {l : List Int} (h : Tap B w g l) (hB : B ≤ w.heap.size) (k : Below w.heap.size w w') : Tap B w' g l := h.below ⟨k.os, k.tape, k.output, k.size, fun j hj => k.block j (by omega)⟩

/-- windows in a quarter of the device, one behind the other -/
def upd (f : Nat → Int) (s : Nat) (y : Int) : Nat → Int := fun t => if t = s then y else f t
def Aft (y x : WN) : Prop := y.1 = x.1 → y.2.1 + y.2.2.2 ≤ x.2.1 ∧ y.2.2.1 + y.2.2.2 ≤ x.2.2.1
structure GW (i : Int) (ws : WL) : Prop where
  ok : ∀ x ∈ ws, 0 ≤ x.1 ∧ x.1 ≤ 3 ∧ 0 ≤ x.2.1 ∧ x.2.1 + x.2.2.2 ≤ 138 ∧ 1 ≤ x.2.2.2 ∧ x.2.2.2 ≤ 18 ∧ 128 * i ≤ x.2.2.1 ∧ x.2.2.1 + x.2.2.2 ≤ 128 * i + 120
  ord : ws.Pairwise Aft
  len : ws.length ≤ 6
structure St (i : Int) (ws : WL) (f v : Nat → Int) : Prop where
  ok : ∀ x ∈ ws, 0 ≤ x.1 ∧ x.1 ≤ 3 ∧ 0 ≤ x.2.1 ∧ x.2.1 + x.2.2.2 ≤ 23 * (ws.length : Int) ∧ 1 ≤ x.2.2.2 ∧ x.2.2.2 ≤ 18 ∧ 128 * i ≤ x.2.2.1 ∧ x.2.2.1 + x.2.2.2 ≤ 128 * i + 20 * (ws.length : Int)
  ord : ws.Pairwise Aft
  at_ : ∀ s, s < 4 → 0 ≤ v s ∧ v s ≤ 23 * (ws.length : Int) ∧ 128 * i ≤ f s ∧ f s ≤ 128 * i + 20 * (ws.length : Int) ∧ ∀ x ∈ ws, x.1 = (s : Int) → x.2.1 + x.2.2.2 ≤ v s ∧ x.2.2.1 + x.2.2.2 ≤ f s
theorem St.zero (i : Int) : St i [] (fun _ => 128 * i) (fun _ => 0) := ⟨fun x hx => absurd hx (by simp), List.Pairwise.nil, fun s _ => ⟨by omega, by simp, by omega, by simp, fun x hx => absurd hx (by simp)⟩⟩
theorem St.good {i : Int} {ws : WL} {f v : Nat → Int} (h : St i ws f v) (hl : ws.length ≤ 6) : GW i ws := ⟨fun x hx => by have := h.ok x hx; omega, h.ord, hl⟩
theorem St.push {i : Int} {ws : WL} {f v : Nat → Int} (h : St i ws f v) {s : Nat} (hs : s < 4) {x y z : Int} (h1 : v s ≤ x ∧ x ≤ v s + 5) (h2 : f s ≤ y ∧ y ≤ f s + 2) (h3 : 1 ≤ z ∧ z ≤ 18) :
    St i (ws ++ [((s : Int), x, y, z)]) (upd f s (y + z)) (upd v s (x + z)) := by
  have ha := h.at_ s hs
  refine ⟨fun u hu => ?_, ?_, fun t ht => ?_⟩
  · rw [List.length_append]
    rcases List.mem_append.1 hu with hu | hu
    · have := h.ok u hu
      simp only [List.length_cons, List.length_nil]
      omega
    · simp only [List.mem_singleton] at hu
      subst hu
      simp only [List.length_cons, List.length_nil]
      omega
  · rw [List.pairwise_append]
    refine ⟨h.ord, by simp, fun u hu w hw => ?_⟩
    simp only [List.mem_singleton] at hw
    subst hw
    intro e
    have := ha.2.2.2.2 u hu e
    simp only
    omega
  · have hb := h.at_ t ht
    rw [List.length_append]
    simp only [List.length_cons, List.length_nil]
    unfold upd
    by_cases e : t = s
    · subst e
      simp only [if_true]
      refine ⟨by omega, by omega, by omega, by omega, fun u hu eu => ?_⟩
      rcases List.mem_append.1 hu with hu | hu
      · have := hb.2.2.2.2 u hu eu
        omega
      · simp only [List.mem_singleton] at hu
        subst hu
        simp only
        omega
    · simp only [if_neg e]
      refine ⟨by omega, by omega, by omega, by omega, fun u hu eu => ?_⟩
      rcases List.mem_append.1 hu with hu | hu
      · exact hb.2.2.2.2 u hu eu
      · simp only [List.mem_singleton] at hu
        subst hu
        simp only at eu
        omega
def a4 (f : Nat → Int) : List Value := [iV (f 0), iV (f 1), iV (f 2), iV (f 3)]
theorem a4_at (f : Nat → Int) {s : Nat} (hs : s < 4) : (a4 f)[s]? = some (iV (f s)) := by
  match s, hs with
  | 0, _ => rfl
  | 1, _ => rfl
  | 2, _ => rfl
  | 3, _ => rfl
theorem a4_set (f : Nat → Int) {s : Nat} (hs : s < 4) (y : Int) : (a4 f).set s (iV y) = a4 (upd f s y) := by
  match s, hs with
  | 0, _ => rfl
  | 1, _ => rfl
  | 2, _ => rfl
  | 3, _ => rfl
theorem s6 {m : Nat} (h : m < 6) : ∃ s : Nat, s < 4 ∧ [iV 3, iV 0, iV 3, iV 1, iV 2, iV 3][m]? = some (iV (s : Int)) := by
  match m, h with
  | 0, _ => exact ⟨3, by omega, rfl⟩
  | 1, _ => exact ⟨0, by omega, rfl⟩
  | 2, _ => exact ⟨3, by omega, rfl⟩
  | 3, _ => exact ⟨1, by omega, rfl⟩
  | 4, _ => exact ⟨2, by omega, rfl⟩
  | 5, _ => exact ⟨3, by omega, rfl⟩
theorem s4 {m : Nat} (h : m < 4) : ∃ x : Int, 0 ≤ x ∧ x ≤ 5 ∧ [iV 0, iV 0, iV 0, iV 5][m]? = some (iV x) := by
  match m, h with
  | 0, _ => exact ⟨0, by omega, by omega, rfl⟩
  | 1, _ => exact ⟨0, by omega, by omega, rfl⟩
  | 2, _ => exact ⟨0, by omega, by omega, rfl⟩
  | 3, _ => exact ⟨5, by omega, by omega, rfl⟩

/-- what a step of the drawing region keeps -/
def TrN (B N g : Nat) (l : List Int) (w w' : World) : Prop := Dev w.heap.size g w w' ∧ (B ≤ N ∧ N ≤ w.heap.size → Tap B w g l → Tap B w' g l)
theorem TrN.refl {B N g : Nat} {l : List Int} (w : World) : TrN B N g l w w := ⟨Dev.refl _ _ _, fun _ h => h⟩
theorem TrN.trans {B N g : Nat} {l : List Int} (a b c : World) (h : TrN B N g l a b) (k : TrN B N g l b c) : TrN B N g l a c :=
  ⟨h.1.then (Nat.le_refl _) k.1, fun h1 t => k.2 ⟨h1.1, Nat.le_trans h1.2 h.1.size⟩ (h.2 h1 t)⟩
theorem TrN.alloc {B N g : Nat} {l : List Int} (w : World) (o : Obj) : TrN B N g l w (w.alloc o) :=
  ⟨(Dev.refl _ _ _).alloc (Nat.le_refl _) o, fun h t => t.below ((Below.refl B w).alloc (Nat.le_trans h.1 h.2) o)⟩
def PsW (N s : Nat) (V F : Int) (i : Nat) (v : Value) (w : World) : Prop :=
  match i with
  | 4 => ∃ b, v = .slice (some ⟨b, 0, none⟩) 4 4 ∧ N ≤ b ∧ Blk w b 3 [iV 0, iV 0, iV 0, iV 5]
  | 6 => ∃ m : Nat, v = iV m ∧ m < 4
  | 7 => ∃ b, ∃ m : Nat, v = .pointer (some ⟨b, m, none⟩) ∧ N ≤ b ∧ m < 4 ∧ Blk w b 3 [iV 0, iV 0, iV 0, iV 5]
  | 8 => ∃ x, v = iV x ∧ 0 ≤ x ∧ x ≤ 5
  | 9 => ∃ x, v = iV x ∧ V ≤ x ∧ x ≤ V + 5
  | 14 => ∃ m, v = iV m ∧ 0 ≤ m ∧ m < 3
  | 15 => ∃ y, v = iV y ∧ F ≤ y ∧ y ≤ F + 2
  | 17 => ∃ m, v = iV m ∧ 0 ≤ m ∧ m < 18
  | 18 => ∃ z, v = iV z ∧ 1 ≤ z ∧ z ≤ 18
  | 19 => ∃ x y z, v = wnV s x y z ∧ (V ≤ x ∧ x ≤ V + 5) ∧ (F ≤ y ∧ y ≤ F + 2) ∧ (1 ≤ z ∧ z ≤ 18)
  | 20 => ∃ b, v = .pointer (some ⟨b, 0, none⟩) ∧ N ≤ b ∧ BxW w b 0 0 0 0
  | _ => True
theorem PsW.tr {B N g s : Nat} {l : List Int} {V F : Int} (hg : g < N) (i : Nat) (v : Value) (w w' : World) (h : PsW N s V F i v w) (k : TrN B N g l w w') : PsW N s V F i v w' := by
  unfold PsW at h ⊢
  split at h
  · obtain ⟨b, e, hb, hX⟩ := h; exact ⟨b, e, hb, hX.dev k.1 hX.lt (by omega)⟩
  · exact h
  · obtain ⟨b, m, e, hb, hm, hX⟩ := h; exact ⟨b, m, e, hb, hm, hX.dev k.1 hX.lt (by omega)⟩
  · exact h
  · exact h
  · exact h
  · exact h
  · exact h
  · exact h
  · exact h
  · obtain ⟨b, e, hb, hX⟩ := h; exact ⟨b, e, hb, Blk.dev hX k.1 (Blk.lt hX) (by omega)⟩
  · trivial

set_option maxRecDepth 100000 in
set_option maxHeartbeats 8000000 in
theorem windows_any (B g : Nat) (l : List Int) (i : Int) (w : World) (hT : Tap B w g l) (hB : B ≤ w.heap.size) (hi : 0 ≤ i ∧ i ≤ 3) :
    Calls Try.prog 20 #[.pointer (some ⟨g, 0, none⟩), .int .i64 i] w fun e w' => ∃ v : Value, e = .returned v ∧ ∃ ws : WL, w'.ownsRow w.heap.size 45 4 v ws.length (wcs ws) ∧ GW i ws ∧ Tap B w' g l ∧ Dev w.heap.size g w w' := by
  obtain ⟨i0, i3⟩ := hi
  have hgB := hT.lt
  have E1 := (Below.refl w.heap.size w).alloc (Nat.le_refl _) (.cells #[.int .i64 (128 * i), .int .i64 (128 * i), .int .i64 (128 * i), .int .i64 (128 * i)] 66)
  have E2 := E1.alloc E1.size (.cells #[.int .i64 0, .int .i64 0, .int .i64 0, .int .i64 0] 66)
  have X6 : Blk ((w.alloc (.cells #[.int .i64 (128 * i), .int .i64 (128 * i), .int .i64 (128 * i), .int .i64 (128 * i)] 66)).alloc (.cells #[.int .i64 0, .int .i64 0, .int .i64 0, .int .i64 0] 66)) w.heap.size 66 (a4 fun _ => 128 * i) := (Blk.new w _ (a4 fun _ => 128 * i)).alloc _
  have X7 : Blk ((w.alloc (.cells #[.int .i64 (128 * i), .int .i64 (128 * i), .int .i64 (128 * i), .int .i64 (128 * i)] 66)).alloc (.cells #[.int .i64 0, .int .i64 0, .int .i64 0, .int .i64 0] 66)) (w.heap.size + 1) 66 (a4 fun _ => 0) := by
    have := Blk.new (w.alloc (.cells #[.int .i64 (128 * i), .int .i64 (128 * i), .int .i64 (128 * i), .int .i64 (128 * i)] 66)) 66 (a4 fun _ => 0)
    rw [World.size_alloc] at this
    exact this
  have T := hT.ext hB E2
  have D := Dev.of_below (g := g) E2
  have hz := E2.size
  clear E1 hT
  go_enter Try.func20, Try.ntmps20
  go_wp2_with fail
  refine (next_any B g l 6 _ T (Nat.le_trans hB hz) (by decide)).mono ?_
  rintro e w1 ⟨m, rfl, m0, m6, T1, S1, D1⟩
  replace X6 := X6.dev D1 X6.lt (by omega)
  replace X7 := X7.dev D1 X7.lt (by omega)
  replace D1 := D.then (Nat.le_refl _) D1
  clear D T hz E2 S1
  go_wp2
  go_loopw [5, 8] (fun z5 z8 wr => ∃ (m : Int) (vo : Value) (ws : WL) (f v : Nat → Int), vo = z5 ∧ z8 = .int .i64 m ∧ -1 ≤ m ∧ (ws.length : Int) + m ≤ 5 ∧ wr.ownsRow w.heap.size 45 4 vo ws.length (wcs ws) ∧ Blk wr w.heap.size 66 (a4 f) ∧ Blk wr (w.heap.size + 1) 66 (a4 v) ∧ (∀ k, vo.ownBlock = some k → w.heap.size + 1 < k) ∧ Hid (St i ws f v) ∧ Tap B wr g l ∧ Dev w.heap.size g w wr) (fun _ z _ => (intOf z + 1).toNat)
  case atStart => exact ⟨m, _, [], _, _, rfl, rfl, by omega, by simp; omega, owns_nilL _ _ _ _, X6, X7, (fun k hk => by cases hk), hidden (St.zero i), T1, D1⟩
  case round =>
    clear X6 X7 T1 D1 m0 m6
    obtain ⟨m, vo, ws, f, v, rfl, rfl, m0, m5, own, X6, X7, l0, HS, T, D⟩ := hrel
    have hws : ws.length ≤ 6 := by omega
    by_cases hm : 0 ≤ m
    · have d1 : decide (0 ≤ m) = true := by simpa using hm
      have hz := D.size
      have E := (Below.refl wr.heap.size wr).alloc (Nat.le_refl _) (.cells #[.int .i64 3, .int .i64 0, .int .i64 3, .int .i64 1, .int .i64 2, .int .i64 3] 3)
      have XL := Blk.new wr 3 [iV 3, iV 0, iV 3, iV 1, iV 2, iV 3]
      replace own := owns_belowS own E
      replace X6 := X6.below E X6.lt
      replace X7 := X7.below E X7.lt
      replace T := T.ext (Nat.le_trans hB hz) E
      replace D := D.ext (Nat.le_refl _) E
      have hz2 := D.size
      clear E
      go_wp2_with fail
      refine (next_any B g l 6 _ T (Nat.le_trans hB hz2) (by decide)).mono ?_
      rintro e w1 ⟨mi, rfl, k0, k6, T1, S1, D1⟩
      obtain ⟨mn, rfl⟩ : ∃ mn : Nat, mi = mn := ⟨mi.toNat, by omega⟩
      replace own := owns_dev own D1 (by omega)
      replace X6 := X6.dev D1 X6.lt (by omega)
      replace X7 := X7.dev D1 X7.lt (by omega)
      replace XL := XL.dev D1 XL.lt (by omega)
      replace D := D.then (Nat.le_refl _) D1
      obtain ⟨sn, s0, hs⟩ := s6 (m := mn) (by omega)
      have c0 := (XL.cell mn).trans hs
      clear XL hs T S1 D1 hz2
      go_wp2
      refine c_begin 22 rfl (by kernel_rfl) ?_
      have E0 := (Below.refl w1.heap.size w1).drew
      replace own := owns_belowS own E0
      replace X6 := X6.below E0 X6.lt
      replace X7 := X7.below E0 X7.lt
      replace T1 := T1.ext (Nat.le_trans hB D.size) E0
      replace D := D.drew
      have hN : B ≤ w1.drew.heap.size := Nat.le_trans hB D.size
      have hz0 := D.size
      have HD0 := hidden (Nat.lt_of_lt_of_le X7.lt (Nat.le_refl _))
      clear c0 E0
      generalize w1.drew = c0 at *
      have l1 : ∀ k, vo.ownBlock = some k → k < c0.heap.size := fun k hk => (own.lt k hk).2
      have hgN : g < c0.heap.size := by omega
      have IV := hidden T1
      have s0' : (sn : Int) < 4 := by omega
      have k7 := (X7.cell sn).trans (a4_at v s0)
      have k6 := (X6.cell sn).trans (a4_at f s0)
      have HD := hidden D
      have H6 := hidden X6
      have H7 := hidden X7
      have HO := hidden own
      have l7 := X7.lt
      have l6 := X6.lt
      have gne : g ≠ w.heap.size ∧ g ≠ w.heap.size + 1 := ⟨by omega, by omega⟩
      have AT := hidden ((HS.out.at_ sn s0))
      obtain ⟨V, hV⟩ : ∃ V, v sn = V := ⟨_, rfl⟩
      obtain ⟨F, hF⟩ : ∃ F, f sn = F := ⟨_, rfl⟩
      rw [hV] at k7
      rw [hF] at k6
      rw [hV, hF] at AT
      obtain ⟨b1, b2, b3, b4, -⟩ := AT.out
      have RV : ∀ w', TrN B c0.heap.size g l c0 w' → w'.cell? ⟨w.heap.size + 1, sn, none⟩ = some (iV V) := fun w' h => by rw [← k7]; exact World.cell?_of_block (a := ⟨w.heap.size + 1, sn, none⟩) (h.1.block _ l7 (by show w.heap.size + 1 ≠ g; omega))
      have RF : ∀ w', TrN B c0.heap.size g l c0 w' → w'.cell? ⟨w.heap.size, sn, none⟩ = some (iV F) := fun w' h => by rw [← k6]; exact World.cell?_of_block (a := ⟨w.heap.size, sn, none⟩) (h.1.block _ l6 (by show w.heap.size ≠ g; omega))
      clear D X6 X7 own T1 k6 k7 l6 l7 AT
      have t0 : TrN B c0.heap.size g l c0 c0 := TrN.refl c0
      refine c_P trivial 0 rfl ?_
      refine c_P trivial 1 rfl ?_
      refine c_P trivial 2 rfl ?_
      refine c_R (fun w' => TrN B c0.heap.size g l c0 w') t0 trivial 3 rfl (fun w' hx => by have q := RV w' hx; go_simp; with_reducible rfl) ?_
      refine c_P ⟨t0, trivial⟩ 5 rfl ?_
      refine c_P ⟨t0, trivial⟩ 10 rfl ?_
      refine c_P ⟨t0, trivial⟩ 11 rfl ?_
      refine c_R (fun w' => TrN B c0.heap.size g l c0 w') t0 ⟨t0, trivial⟩ 12 rfl (fun w' hx => by have q := RF w' hx; go_simp; with_reducible rfl) ?_
      refine c_P ⟨t0, t0, trivial⟩ 13 rfl ?_
      refine c_P ⟨t0, t0, trivial⟩ 16 rfl ?_
      refine c_phaseT (n := 1) [4, 6, 7, 8, 9, 14, 15, 17, 18, 19, 20] [(some 36, 4), (some 38, 6), (some 39, 7), (some 40, 8), (some 41, 9), (some 46, 14), (some 47, 15), (some 49, 17), (some 50, 18), (some 51, 19), (some 10, 20)] (TrN B c0.heap.size g l) TrN.refl TrN.trans (PsW c0.heap.size sn V F) (fun _ _ => True) (fun _ _ _ => trivial) (by kernel_rfl) (by kernel_rfl) ?mono ?hC ?hops ?hend
      case mono => exact PsW.tr hgN
      case hC => exact fun w' hx => ⟨hx, hx, trivial⟩
      case hops =>
        intro i hi vs y hx hd
        have TY := hx.2 ⟨hN, Nat.le_refl _⟩ IV.out
        have zY := hx.1.size
        clear hx RV RF
        simp only [List.mem_cons, List.not_mem_nil, or_false] at hi
        rcases hi with rfl | rfl | rfl | rfl | rfl | rfl | rfl | rfl | rfl | rfl | rfl
        · clear hd
          refine phase_opT 4 [] (by kernel_rfl) rfl (fun K hK => ?_)
          simp only [putsD] at hK ⊢
          try simp only [Act.put, List.setIfInBounds_toArray, List.set_cons_zero, List.set_cons_succ]
          go_simp
          exact hK.out _ _ (TrN.alloc y _) ⟨_, rfl, zY, Blk.new y 3 [iV 0, iV 0, iV 0, iV 5]⟩ (fun _ _ _ _ _ => trivial)
        · clear hd
          refine phase_opT 6 [] (by kernel_rfl) rfl (fun K hK => ?_)
          simp only [putsD] at hK ⊢
          try simp only [Act.put, List.setIfInBounds_toArray, List.set_cons_zero, List.set_cons_succ]
          go_wp2_with fail
          refine (next_any B g l 4 _ TY (Nat.le_trans hN zY) (by decide)).mono ?_
          rintro e y2 ⟨mx, rfl, h1, h2, T', S', D'⟩
          go_simp
          exact hK.out _ _ ⟨D', fun _ _ => T'⟩ ⟨mx.toNat, by show iV mx = _; rw [Int.toNat_of_nonneg h1], by omega⟩ (fun _ _ _ _ _ => trivial)
        · obtain ⟨b, e4, hb, P⟩ : PsW c0.heap.size sn V F 4 (vs 4) y := hd 4 (by simp) (by kernel_rfl)
          obtain ⟨m, e6, h6⟩ : PsW c0.heap.size sn V F 6 (vs 6) y := hd 6 (by simp) (by kernel_rfl)
          clear hd
          refine phase_opT 7 [(some 36, 4), (some 38, 6)] (by kernel_rfl) rfl (fun K hK => ?_)
          simp only [putsD, e4, e6] at hK ⊢
          try simp only [Act.put, List.setIfInBounds_toArray, List.set_cons_zero, List.set_cons_succ]
          have h6' : (m : Int) < 4 := by omega
          go_simp
          exact hK.out _ _ (TrN.refl y) ⟨b, m, by simp, hb, h6, P⟩ (fun _ _ _ _ _ => trivial)
        · obtain ⟨b, m, e7, hb, h6, P⟩ : PsW c0.heap.size sn V F 7 (vs 7) y := hd 7 (by simp) (by kernel_rfl)
          clear hd
          refine phase_opT 8 [(some 39, 7)] (by kernel_rfl) rfl (fun K hK => ?_)
          simp only [putsD, e7] at hK ⊢
          try simp only [Act.put, List.setIfInBounds_toArray, List.set_cons_zero, List.set_cons_succ]
          obtain ⟨x, x0, x5, hs⟩ := s4 h6
          have hc := (P.cell m).trans hs
          go_simp
          exact hK.out _ _ (TrN.refl y) ⟨x, rfl, x0, x5⟩ (fun _ _ _ _ _ => trivial)
        · obtain ⟨x, e8, x0, x5⟩ : PsW c0.heap.size sn V F 8 (vs 8) y := hd 8 (by simp) (by kernel_rfl)
          clear hd
          refine phase_opT 9 [(some 40, 8)] (by kernel_rfl) rfl (fun K hK => ?_)
          simp only [putsD, e8] at hK ⊢
          try simp only [Act.put, List.setIfInBounds_toArray, List.set_cons_zero, List.set_cons_succ]
          have hwr : IntKind.i64.wrap (V + x) = V + x := IntWalk.i64_in _ (by omega)
          go_simp
          exact hK.out _ _ (TrN.refl y) ⟨V + x, rfl, by omega, by omega⟩ (fun _ _ _ _ _ => trivial)
        · clear hd
          refine phase_opT 14 [(some 38, 6)] (by kernel_rfl) rfl (fun K hK => ?_)
          simp only [putsD] at hK ⊢
          try simp only [Act.put, List.setIfInBounds_toArray, List.set_cons_zero, List.set_cons_succ]
          go_wp2_with fail
          refine (next_any B g l 3 _ TY (Nat.le_trans hN zY) (by decide)).mono ?_
          rintro e y2 ⟨mx, rfl, h1, h2, T', S', D'⟩
          go_simp
          exact hK.out _ _ ⟨D', fun _ _ => T'⟩ ⟨mx, rfl, h1, h2⟩ (fun _ _ _ _ _ => trivial)
        · obtain ⟨x, e14, x0, x5⟩ : PsW c0.heap.size sn V F 14 (vs 14) y := hd 14 (by simp) (by kernel_rfl)
          clear hd
          refine phase_opT 15 [(some 46, 14)] (by kernel_rfl) rfl (fun K hK => ?_)
          simp only [putsD, e14] at hK ⊢
          try simp only [Act.put, List.setIfInBounds_toArray, List.set_cons_zero, List.set_cons_succ]
          have hwr : IntKind.i64.wrap (F + x) = F + x := IntWalk.i64_in _ (by omega)
          go_simp
          exact hK.out _ _ (TrN.refl y) ⟨F + x, rfl, by omega, by omega⟩ (fun _ _ _ _ _ => trivial)
        · clear hd
          refine phase_opT 17 [(some 46, 14)] (by kernel_rfl) rfl (fun K hK => ?_)
          simp only [putsD] at hK ⊢
          try simp only [Act.put, List.setIfInBounds_toArray, List.set_cons_zero, List.set_cons_succ]
          go_wp2_with fail
          refine (next_any B g l 18 _ TY (Nat.le_trans hN zY) (by decide)).mono ?_
          rintro e y2 ⟨mx, rfl, h1, h2, T', S', D'⟩
          go_simp
          exact hK.out _ _ ⟨D', fun _ _ => T'⟩ ⟨mx, rfl, h1, h2⟩ (fun _ _ _ _ _ => trivial)
        · obtain ⟨x, e17, x0, x5⟩ : PsW c0.heap.size sn V F 17 (vs 17) y := hd 17 (by simp) (by kernel_rfl)
          clear hd
          refine phase_opT 18 [(some 49, 17)] (by kernel_rfl) rfl (fun K hK => ?_)
          simp only [putsD, e17] at hK ⊢
          try simp only [Act.put, List.setIfInBounds_toArray, List.set_cons_zero, List.set_cons_succ]
          have hwr : IntKind.i64.wrap (1 + x) = 1 + x := IntWalk.i64_in _ (by omega)
          go_simp
          exact hK.out _ _ (TrN.refl y) ⟨1 + x, rfl, by omega, by omega⟩ (fun _ _ _ _ _ => trivial)
        · obtain ⟨x, e9, x1⟩ : PsW c0.heap.size sn V F 9 (vs 9) y := hd 9 (by simp) (by kernel_rfl)
          obtain ⟨x', e15, x2⟩ : PsW c0.heap.size sn V F 15 (vs 15) y := hd 15 (by simp) (by kernel_rfl)
          obtain ⟨z, e18, x3⟩ : PsW c0.heap.size sn V F 18 (vs 18) y := hd 18 (by simp) (by kernel_rfl)
          clear hd
          refine phase_opT 19 [(some 41, 9), (some 47, 15), (some 50, 18)] (by kernel_rfl) rfl (fun K hK => ?_)
          simp only [putsD, e9, e15, e18] at hK ⊢
          try simp only [Act.put, List.setIfInBounds_toArray, List.set_cons_zero, List.set_cons_succ]
          go_simp
          exact hK.out _ _ (TrN.refl y) ⟨x, x', z, rfl, x1, x2, x3⟩ (fun _ _ _ _ _ => trivial)
        · clear hd
          refine phase_opT 20 [] (by kernel_rfl) rfl (fun K hK => ?_)
          simp only [putsD] at hK ⊢
          try simp only [Act.put, List.setIfInBounds_toArray, List.set_cons_zero, List.set_cons_succ]
          go_simp
          exact hK.out _ _ (TrN.alloc y _) ⟨_, rfl, zY, BxW.new y 0 0 0 0⟩ (fun _ _ _ _ _ => trivial)
      case hend =>
        intro vs y hx hP hR
        obtain ⟨x, yp, z, e19, x1, x2, x3⟩ : PsW c0.heap.size sn V F 19 (vs 19) y := hP 19 (by simp)
        obtain ⟨b, e20, hb, XB⟩ : PsW c0.heap.size sn V F 20 (vs 20) y := hP 20 (by simp)
        have TY := hx.2 ⟨hN, Nat.le_refl _⟩ IV.out
        have DY := HD.out.then (Nat.le_refl _) hx.1
        have Y6 := H6.out.dev hx.1 H6.out.lt (by omega)
        have Y7 := H7.out.dev hx.1 H7.out.lt (by omega)
        have l6 := H6.out.lt
        have l7 := H7.out.lt
        have OY := owns_dev HO.out hx.1 (by omega)
        have zY := hx.1.size
        simp only [putsD, e19, e20]
        clear hP hR e19 e20 RV RF t0 hx IV HD H6 H7 HO
        generalize vs 4 = v4 at *
        generalize vs 6 = v6 at *
        generalize vs 7 = v7 at *
        generalize vs 8 = v8 at *
        generalize vs 9 = v9 at *
        generalize vs 14 = v14 at *
        generalize vs 15 = v15 at *
        generalize vs 17 = v17 at *
        generalize vs 18 = v18 at *
        clear vs
        try simp only [Act.put, List.setIfInBounds_toArray, List.set_cons_zero, List.set_cons_succ]
        refine c_move 21 (by kernel_rfl) (c_op 21 [] (by kernel_rfl) rfl (by kernel_rfl) (fun K hK => ?_))
        obtain ⟨q0, q1, q2, q3⟩ := XB.cells
        have fz := fun i => Blk.frozen XB i
        go_simp
        refine hK.out _ _ trivial ?_
        clear K hK q0 q1 q2 q3 fz
        refine c_done (by kernel_rfl) ?_
        have XW : BxW ((((y.setCell ⟨b, 0, none⟩ (.int .i64 sn)).setCell ⟨b, 1, none⟩ (.int .i64 x)).setCell ⟨b, 2, none⟩ (.int .i64 yp)).setCell ⟨b, 3, none⟩ (.int .i64 z)) b sn x yp z := Blk.set (Blk.set (Blk.set (Blk.set XB 0 _) 1 _) 2 _) 3 _
        have EZ : Below c0.heap.size y ((((y.setCell ⟨b, 0, none⟩ (.int .i64 sn)).setCell ⟨b, 1, none⟩ (.int .i64 x)).setCell ⟨b, 2, none⟩ (.int .i64 yp)).setCell ⟨b, 3, none⟩ (.int .i64 z)) := ((((Below.refl _ _).setCell (p := ⟨b, 0, none⟩) hb _).setCell (p := ⟨b, 1, none⟩) hb _).setCell (p := ⟨b, 2, none⟩) hb _).setCell (p := ⟨b, 3, none⟩) hb _
        generalize ((((y.setCell ⟨b, 0, none⟩ (.int .i64 sn)).setCell ⟨b, 1, none⟩ (.int .i64 x)).setCell ⟨b, 2, none⟩ (.int .i64 yp)).setCell ⟨b, 3, none⟩ (.int .i64 z)) = w5 at *
        replace Y6 := Y6.below EZ l6
        replace Y7 := Y7.below EZ l7
        replace OY := owns_set OY EZ l1
        replace TY := TY.below ⟨EZ.os, EZ.tape, EZ.output, EZ.size, fun j hj => EZ.block j (by omega)⟩
        replace DY := DY.trans (Dev.of_below (g := g) ⟨EZ.os, EZ.tape, EZ.output, EZ.size, fun j hj => EZ.block j (by have := HD0.out; omega)⟩)
        have lb : w.heap.size + 1 < b := by have := HD0.out; omega
        have lvo : ∀ k, vo.ownBlock = some k → k ≠ b := fun k hk => by have := l1 k hk; omega
        clear XB EZ l1 l6 l7 zY hb
        clear y
        go_wp2
        refine c_begin 16 rfl (by kernel_rfl) ?_
        have E0 := (Below.refl w5.heap.size w5).drew
        replace XW := XW.drew
        replace OY := owns_belowS OY E0
        replace Y6 := Y6.below E0 Y6.lt
        replace Y7 := Y7.below E0 Y7.lt
        replace TY := TY.ext (Nat.le_trans hB DY.size) E0
        replace DY := DY.drew
        clear E0
        generalize w5.drew = w6 at *
        have wr1 : IntKind.i64.wrap (x + z) = x + z := IntWalk.i64_in _ (by omega)
        have wr2 : IntKind.i64.wrap (yp + z) = yp + z := IntWalk.i64_in _ (by omega)
        refine c_P trivial 0 rfl ?_
        refine c_P trivial 1 rfl ?_
        refine c_P trivial 2 rfl ?_
        refine c_R (fun w' => BxW w' b sn x yp z) XW trivial 3 rfl (fun w' hx => by obtain ⟨q0, q1, q2, q3⟩ := hx.cells; go_simp; with_reducible rfl) ?_
        refine c_P ⟨XW, trivial⟩ 4 rfl ?_
        refine c_R (fun w' => BxW w' b sn x yp z) XW ⟨XW, trivial⟩ 5 rfl (fun w' hx => by obtain ⟨q0, q1, q2, q3⟩ := hx.cells; go_simp; with_reducible rfl) ?_
        refine c_P ⟨XW, XW, trivial⟩ 6 rfl ?_
        refine c_P ⟨XW, XW, trivial⟩ 7 rfl ?_
        refine c_R (fun w' => BxW w' b sn x yp z) XW ⟨XW, XW, trivial⟩ 8 rfl (fun w' hx => by obtain ⟨q0, q1, q2, q3⟩ := hx.cells; go_simp; with_reducible rfl) ?_
        refine c_P ⟨XW, XW, XW, trivial⟩ 9 rfl ?_
        refine c_R (fun w' => BxW w' b sn x yp z) XW ⟨XW, XW, XW, trivial⟩ 10 rfl (fun w' hx => by obtain ⟨q0, q1, q2, q3⟩ := hx.cells; go_simp; with_reducible rfl) ?_
        refine c_P ⟨XW, XW, XW, XW, trivial⟩ 11 rfl ?_
        refine c_P ⟨XW, XW, XW, XW, trivial⟩ 12 rfl ?_
        refine c_move 13 (by kernel_rfl) (c_op 13 [(10, (fun w' => BxW w' b sn x yp z)), (8, (fun w' => BxW w' b sn x yp z))] (by kernel_rfl) rfl (by kernel_rfl) (fun K hK => ?_))
        have k7 := (Y7.cell sn).trans (a4_at v s0)
        have f7 := Y7.frozen sn
        go_simp
        replace XW : BxW (w6.setCell ⟨w.heap.size + 1, sn, none⟩ (iV (x + z))) b sn x yp z := XW.set_ne (by omega) _
        replace Y6 := Y6.set_neW (g := w.heap.size + 1) (by omega) sn (iV (x + z))
        replace Y7 := Y7.set sn (iV (x + z))
        rw [a4_set v s0] at Y7
        replace OY := owns_set2 (u := iV (x + z)) OY (w.heap.size + 1) sn (fun e => absurd (l0 _ e) (Nat.lt_irrefl _))
        replace TY := TY.below ((Below.refl B w6).setCell (p := ⟨w.heap.size + 1, sn, none⟩) (by show B ≤ w.heap.size + 1; omega) (iV (x + z)))
        replace DY := DY.setCell (p := ⟨w.heap.size + 1, sn, none⟩) (by show w.heap.size ≤ w.heap.size + 1; omega) (iV (x + z))
        refine hK.out _ _ ⟨XW, XW, trivial⟩ ?_
        try simp only [Act.put, List.setIfInBounds_toArray, List.set_cons_zero, List.set_cons_succ]
        clear K hK k7 f7
        generalize w6.setCell ⟨w.heap.size + 1, sn, none⟩ (iV (x + z)) = w7 at *
        refine c_P ⟨XW, XW, trivial⟩ 14 rfl ?_
        refine c_move 15 (by kernel_rfl) (c_op 15 [] (by kernel_rfl) rfl (by kernel_rfl) (fun K hK => ?_))
        have k6 := (Y6.cell sn).trans (a4_at f s0)
        have f6 := Y6.frozen sn
        go_simp
        replace XW : BxW (w7.setCell ⟨w.heap.size, sn, none⟩ (iV (yp + z))) b sn x yp z := XW.set_ne (by omega) _
        replace Y7 := Y7.set_neW (g := w.heap.size) (by omega) sn (iV (yp + z))
        replace Y6 := Y6.set sn (iV (yp + z))
        rw [a4_set f s0] at Y6
        replace OY := owns_set2 (u := iV (yp + z)) OY w.heap.size sn (fun e => absurd (l0 _ e) (by omega))
        replace TY := TY.below ((Below.refl B w7).setCell (p := ⟨w.heap.size, sn, none⟩) hB (iV (yp + z)))
        replace DY := DY.setCell (p := ⟨w.heap.size, sn, none⟩) (Nat.le_refl _) (iV (yp + z))
        refine hK.out _ _ trivial ?_
        try simp only [Act.put, List.setIfInBounds_toArray, List.set_cons_zero, List.set_cons_succ]
        clear K hK k6 f6
        generalize w7.setCell ⟨w.heap.size, sn, none⟩ (iV (yp + z)) = w8 at *
        refine c_done (by kernel_rfl) ?_
        have HSt := hidden (HS.out.push s0 (by rw [hV]; exact x1) (by rw [hF]; exact x2) x3)
        clear HS wr1 wr2
        obtain ⟨q0, q1, q2, q3⟩ := XW.cells
        have lz := XW.lt
        have E3 := (Below.refl w8.heap.size w8).alloc (Nat.le_refl _) (boxW sn x yp z)
        replace Y6 := Y6.below E3 Y6.lt
        replace Y7 := Y7.below E3 Y7.lt
        replace TY := TY.ext (Nat.le_trans hB DY.size) E3
        replace DY := DY.ext (Nat.le_refl _) E3
        have O3 := hidden (owns_belowS OY E3)
        have z8 : w.heap.size ≤ w8.heap.size := by omega
        clear E3
        go_wp2_with (at_builtin; refine wpList_pushL (v := vo) rfl (.tmp 66) (.tmp 68) 40 45 rfl w.heap.size 4 32 zW Try.underlying40 info_wn rfl (by decide) rfl O3.out _ 1 (wf ((sn : Int), x, yp, z)) rfl ?h0 rfl (one_wf _) ?h1 ?h2 ?h3 ?h4)
        case h0 => exact blk_wf _ _ _ _ _ _ rfl
        case h1 => omega
        case h2 => unfold maxLen; omega
        case h3 => simp; omega
        case h4 =>
          intro v' w9 own9 gr9 ob
          have ne6 : vo.ownBlock ≠ some w.heap.size := fun e => absurd (l0 _ e) (by omega)
          have ne7 : vo.ownBlock ≠ some (w.heap.size + 1) := fun e => absurd (l0 _ e) (Nat.lt_irrefl _)
          have neg : vo.ownBlock ≠ some g := fun e => absurd (l0 _ e) (by omega)
          replace Y6 := Y6.grownL gr9 ne6
          replace Y7 := Y7.grownL gr9 ne7
          have DZ : Dev w.heap.size g w w9 := DY.trans (Dev.of_below (g := g) ((Below.refl w.heap.size _).grown gr9 (by simp; omega) (fun k hk => (O3.out.lt k hk).1)))
          replace TY := TY.below ((Below.refl B _).grown gr9 (by simp; omega) (fun k hk => Nat.le_trans hB (O3.out.lt k hk).1))
          go_wp2
          go_roundw
          case rel => exact ⟨m - 1, _, _, _, _, rfl, by go_num, by omega, by simp; omega, push_wcs own9 rfl, Y6, Y7, by (intro k hk; rcases ob with ob | ob; exact l0 k (ob ▸ hk); rw [ob] at hk; cases hk; simp; omega), HSt, TY, DZ⟩
          case measure => simp only [intOf]; omega
    · have d1 : decide (0 ≤ m) = false := by simp; omega
      go_wp2
      go_ret
      exact ⟨_, rfl, ws, own, HS.out.good hws, T, D⟩

end Go.Proofs.Ytffjhimdamdenaa
