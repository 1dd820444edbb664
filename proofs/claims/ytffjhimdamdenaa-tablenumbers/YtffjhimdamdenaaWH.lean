/- Contracts of the document's own Back, Meets, Own. -/
import Derived.Test.YtffjhimdamdenaaWG
namespace Go.Proofs.Ytffjhimdamdenaa
open Go.RowKit

theorem sel_app (sp : Int) (l m : WL) : sel sp (l ++ m) = sel sp l ++ sel sp m := by simp [sel]
theorem sel_hit {l : WL} {k : Nat} {x : WN} {sp : Int} {q : WN → Bool} (hx : l[k]? = some x) (h0 : (sel sp (l.take k)).find? q = none) (hw : wR x = true) (hs : x.1 = sp) (h : q x = true) : (sel sp l).find? q = some x := by
  have e : l = l.take (k + 1) ++ l.drop (k + 1) := (List.take_append_drop _ _).symm
  rw [e, sel_app, List.find?_append, sel_snoc hx, List.find?_append, h0]
  simp [hw, hs, h]
theorem sel_miss {l : WL} {k : Nat} {x : WN} {sp : Int} {q : WN → Bool} (hx : l[k]? = some x) (h0 : (sel sp (l.take k)).find? q = none) (h : (wR x && (decide (x.1 = sp) && q x)) = false) : (sel sp (l.take (k + 1))).find? q = none := by
  rw [sel_snoc hx, List.find?_append, h0]
  cases h1 : wR x
  · simp
  · rw [h1] at h
    by_cases h2 : x.1 = sp
    · simp [h2] at h
      simp [h2, h]
    · simp [h2]

/-- what the document asks of two windows, in its order -/
def touchR (x y : WN) : Bool := wR x && (wR y && touchB x y)
theorem meets_eq (a b : WL) : meetsB a b = a.any fun x => b.any (touchR x) := by
  unfold meetsB
  rw [List.any_filter]
  congr 1
  funext x
  rw [List.any_filter]
  cases h : wR x
  · simp [touchR, h]
  · simp only [Bool.true_and]
    congr 1
    funext y
    simp [touchR, h]

set_option maxHeartbeats 4000000 in
theorem rmeets_any (va vb : Value) (A B : WL) (w : World) (ha : Wns w va A) (hb : Wns w vb B) (oa : OkW A) (ob : OkW B) :
    Calls Try.prog 40 #[va, vb] w fun e w' => e = .returned (.bool (meetsB A B)) ∧ Below w.heap.size w w' := by
  have HA := hidden ha
  have HB := hidden hb
  obtain ⟨aA, cA, rfl, -⟩ := id ha
  obtain ⟨aB, cB, rfl, -⟩ := id hb
  obtain ⟨-, hcA, hmA, -⟩ := ha.at
  obtain ⟨-, hcB, hmB, -⟩ := hb.at
  unfold maxLen at hmA hmB
  obtain ⟨Z, hZ⟩ : ∃ Z, meetsB A B = Z := ⟨_, rfl⟩
  rw [hZ]
  have HZ : Hid (A.any (fun x => B.any (touchR x)) = Z) := by show _ = _; rw [← hZ, meets_eq]
  clear hZ ha hb
  go_enter Try.func40, Try.ntmps40
  go_wp2
  go_loopw [13] (fun i wr => ∃ k : Nat, k ≤ A.length ∧ i = .int .i64 k ∧ Hid ((A.take k).any (fun x => B.any (touchR x)) = false) ∧ Below w.heap.size w wr) (fun i _ => A.length - (intOf i).toNat)
  case atStart => exact ⟨0, Nat.zero_le _, rfl, hidden rfl, Below.refl _ _⟩
  case round =>
    obtain ⟨k, hk, rfl, HE, hb⟩ := hrel
    by_cases hlt : k < A.length
    · obtain ⟨⟨s, v, p, n⟩, hx⟩ := getx hlt
      obtain ⟨b, off, rfl, c0, c1, c2, c3⟩ := (HA.out.ext hb).wn hx
      have hlt' : (k : Int) < (A.length : Int) := by omega
      have hn := (oa.at hx).2.2.2
      have HS := hidden (any_snoc hx (fun x => B.any (touchR x)))
      have HT := hidden (any_hit hx (fun x => B.any (touchR x)))
      have b0 := BxW.new wr s v p n
      have hb0 := hb.alloc hb.size (boxW s v p n)
      obtain ⟨wo, hwo⟩ : ∃ wo, wo = wr := ⟨_, rfl⟩
      subst hwo
      go_wp2
      clear c0 c1 c2 c3 hb
      generalize wo.heap.size = g7 at *
      generalize wo.alloc (boxW s v p n) = w3 at *
      go_loopw [19] (fun i wr => ∃ j : Nat, j ≤ B.length ∧ i = .int .i64 j ∧ Hid ((B.take j).any (touchR (s, v, p, n)) = false) ∧ BxW wr g7 s v p n ∧ Below w.heap.size w wr) (fun i _ => B.length - (intOf i).toNat)
      case atStart => exact ⟨0, Nat.zero_le _, rfl, hidden rfl, b0, hb0⟩
      case round =>
        clear b0 hb0
        obtain ⟨j, hj, rfl, HF, x1, hb⟩ := hrel
        by_cases hlj : j < B.length
        · obtain ⟨⟨s2, v2, p2, n2⟩, hy⟩ := getx hlj
          obtain ⟨bb, ofb, rfl, c0, c1, c2, c3⟩ := (HB.out.ext hb).wn hy
          have hlj' : (j : Int) < (B.length : Int) := by omega
          have hn2 := (ob.at hy).2.2.2
          have HU := hidden (any_snoc hy (touchR (s, v, p, n)))
          have HV := hidden (any_hit hy (touchR (s, v, p, n)))
          have E : touchR (s, v, p, n) (s2, v2, p2, n2) = (wR (s, v, p, n) && (wR (s2, v2, p2, n2) && (decide (s = s2) && meetE p n p2 n2))) := rfl
          rw [E] at HU HV
          clear E
          replace x1 := x1.alloc (boxW s2 v2 p2 n2)
          have x2 := BxW.new wr s2 v2 p2 n2
          have hb0 := hb.alloc hb.size (boxW s2 v2 p2 n2)
          have M := hidden (fun w => rmeet_any p n p2 n2 w hn hn2)
          have W1 := hidden (fun w => rwindow_any s v p n w hn)
          have W2 := hidden (fun w => rwindow_any s2 v2 p2 n2 w hn2)
          generalize meetA p n p2 n2 = ma at *
          generalize meetN p n p2 n2 = mn at *
          generalize meetE p n p2 n2 = me at *
          generalize wR (s, v, p, n) = r1 at *
          generalize wR (s2, v2, p2, n2) = r2 at *
          obtain ⟨q0, q1, q2, q3⟩ := x1.cells
          obtain ⟨u0, u1, u2, u3⟩ := x2.cells
          have l1 := x1.lt
          have l2 := x2.lt
          go_wp2_with fail
          refine (M.out _).mono ?_
          rintro e w5 ⟨rfl, B5⟩
          replace x1 := (x1.ext B5).alloc (.cells #[.int .i64 ma, .int .i64 mn] 85)
          replace x2 := (x2.ext B5).alloc (.cells #[.int .i64 ma, .int .i64 mn] 85)
          replace hb0 := below_then hb0 B5
          replace hb0 := hb0.alloc hb0.size (.cells #[.int .i64 ma, .int .i64 mn] 85)
          clear q0 q1 q2 q3 u0 u1 u2 u3 c0 c1 c2 c3 hb l1 l2
          obtain ⟨q0, q1, q2, q3⟩ := x1.cells
          obtain ⟨u0, u1, u2, u3⟩ := x2.cells
          cases me
          · skip
            go_wp2
            go_roundw
            case rel => exact ⟨j + 1, by omega, by go_num, hidden (by rw [HU.out, HF.out]; simp), x1, hb0⟩
            case measure => simp [intOf]; omega
          · skip
            go_wp2_with fail
            refine (W1.out _).mono ?_
            rintro e w6 ⟨rfl, Bc⟩
            replace x1 := x1.ext Bc
            replace x2 := x2.ext Bc
            replace hb0 := below_then hb0 Bc
            clear q0 q1 q2 q3 u0 u1 u2 u3 Bc
            obtain ⟨q0, q1, q2, q3⟩ := x1.cells
            obtain ⟨u0, u1, u2, u3⟩ := x2.cells
            cases r1
            · skip
              go_wp2
              go_roundw
              case rel => exact ⟨j + 1, by omega, by go_num, hidden (by rw [HU.out, HF.out]; simp), x1, hb0⟩
              case measure => simp [intOf]; omega
            · skip
              go_wp2_with fail
              refine (W2.out _).mono ?_
              rintro e w7 ⟨rfl, Bc⟩
              replace x1 := x1.ext Bc
              replace x2 := x2.ext Bc
              replace hb0 := below_then hb0 Bc
              clear q0 q1 q2 q3 u0 u1 u2 u3 Bc
              obtain ⟨q0, q1, q2, q3⟩ := x1.cells
              obtain ⟨u0, u1, u2, u3⟩ := x2.cells
              cases r2
              · skip
                go_wp2
                go_roundw
                case rel => exact ⟨j + 1, by omega, by go_num, hidden (by rw [HU.out, HF.out]; simp), x1, hb0⟩
                case measure => simp [intOf]; omega
              · by_cases hs : s = s2
                · have d : (s == s2) = true := by simpa using hs
                  have e2 : Z = true := by rw [← HZ.out, HT.out (HV.out (by simp [hs]))]
                  subst e2
                  clear hs
                  go_wp2
                  go_ret
                  exact ⟨rfl, hb0⟩
                · have d : (s == s2) = false := by simpa using hs
                  go_wp2
                  go_roundw
                  case rel => exact ⟨j + 1, by omega, by go_num, hidden (by rw [HU.out, HF.out]; simp [hs]), x1, hb0⟩
                  case measure => simp [intOf]; omega
        · have e : B.take j = B := List.take_of_length_le (by omega)
          rw [e] at HF
          go_wp2
          go_roundw
          case rel => exact ⟨k + 1, by omega, by go_num, hidden (by rw [HS.out, HE.out, HF.out]; rfl), hb⟩
          case measure => simp [intOf]; omega
    · have e : A.take k = A := List.take_of_length_le (by omega)
      rw [e] at HE
      have e2 : Z = false := by rw [← HZ.out, HE.out]
      subst e2
      go_wp2
      go_ret
      exact ⟨rfl, hb⟩

def clashR (x y : WN) : Bool := wR x && (wR y && clashB x y)
def OwnR (l : WL) : Prop := l.Pairwise fun y x => clashR x y = false
theorem ownR_iff (l : WL) : OwnP (l.filter wR) ↔ OwnR l := by
  unfold OwnP OwnR
  rw [List.pairwise_filter]
  constructor
  · intro h
    refine h.imp ?_
    intro y x hh
    unfold clashR
    cases h1 : wR x
    · rfl
    · cases h2 : wR y
      · rfl
      · simpa using hh h2 h1
  · intro h
    refine h.imp ?_
    intro y x hh h2 h1
    unfold clashR at hh
    rw [h1, h2] at hh
    simpa using hh
theorem ownR_snoc {K : WL} {k : Nat} {x : WN} (h : OwnR (K.take k)) (hx : K[k]? = some x) (ha : (K.take k).any (clashR x) = false) : OwnR (K.take (k + 1)) := by
  unfold OwnR at *
  rw [take_snoc hx, List.pairwise_append]
  refine ⟨h, by simp, fun y hy z hz => ?_⟩
  simp only [List.mem_singleton] at hz
  subst hz
  exact Bool.eq_false_iff.2 (fun e => by
    have := List.any_eq_false.1 ha y hy
    exact this e)
theorem ownR_hit {K : WL} {k j : Nat} {x y : WN} (hx : K[k]? = some x) (hy : (K.take k)[j]? = some y) (h : clashR x y = true) : ¬ OwnR K := by
  intro hp
  have h1 : OwnR (K.take (k + 1)) := List.Pairwise.sublist (List.take_sublist _ _) hp
  unfold OwnR at h1
  rw [take_snoc hx, List.pairwise_append] at h1
  have := h1.2.2 y (List.mem_of_getElem? hy) x (by simp)
  rw [h] at this
  cases this

set_option maxHeartbeats 8000000 in
theorem rown_any (va : Value) (A : WL) (w : World) (ha : Wns w va A) (oa : OkW A) :
    Calls Try.prog 51 #[va] w fun e w' => e = .returned (.bool (ownB A)) ∧ Below w.heap.size w w' := by
  have HA := hidden ha
  obtain ⟨aA, cA, rfl, -⟩ := id ha
  obtain ⟨-, hcA, hmA, -⟩ := ha.at
  unfold maxLen at hmA
  obtain ⟨Z, hZ⟩ : ∃ Z, ownB A = Z := ⟨_, rfl⟩
  rw [hZ]
  have HZT : Hid (OwnR A → Z = true) := fun h => by rw [← hZ]; exact decide_eq_true ((ownR_iff A).2 h)
  have HZF : Hid (¬ OwnR A → Z = false) := fun h => by rw [← hZ]; exact decide_eq_false (fun h2 => h ((ownR_iff A).1 h2))
  clear hZ ha
  go_enter Try.func51, Try.ntmps51
  go_wp2
  go_loopw [13] (fun i wr => ∃ k : Nat, k ≤ A.length ∧ i = .int .i64 k ∧ Hid (OwnR (A.take k)) ∧ Below w.heap.size w wr) (fun i _ => A.length - (intOf i).toNat)
  case atStart => exact ⟨0, Nat.zero_le _, rfl, hidden List.Pairwise.nil, Below.refl _ _⟩
  case round =>
    obtain ⟨k, hk, rfl, HE, hb⟩ := hrel
    by_cases hlt : k < A.length
    · obtain ⟨⟨s, v, p, n⟩, hx⟩ := getx hlt
      obtain ⟨b, off, rfl, c0, c1, c2, c3⟩ := (HA.out.ext hb).wn hx
      have hlt' : (k : Int) < (A.length : Int) := by omega
      have hn := (oa.at hx).2.2.2
      have HS := hidden (fun h => ownR_snoc HE.out hx h)
      have HT := hidden (fun (y : WN) (j : Nat) (h : (A.take k)[j]? = some y) (h2 : clashR (s, v, p, n) y = true) => ownR_hit hx h h2)
      have OK2 := hidden (oa.take k)
      have HK := hidden (HA.out.take k (by omega))
      have hlk : (A.take k).length = k := by simp; omega
      have b0 := BxW.new wr s v p n
      have hb0 := hb.alloc hb.size (boxW s v p n)
      obtain ⟨wo, hwo⟩ : ∃ wo, wo = wr := ⟨_, rfl⟩
      subst hwo
      have s1 : ¬ ((k : Int) < 0) := by omega
      have s2 : ¬ ((cA : Int) < (k : Int)) := by omega
      go_wp2
      clear c0 c1 c2 c3 hb s1 s2
      generalize A.take k = Ak at *
      subst hlk
      generalize wo.heap.size = g7 at *
      generalize wo.alloc (boxW s v p n) = w3 at *
      go_loopw [22] (fun i wr => ∃ j : Nat, j ≤ Ak.length ∧ i = .int .i64 j ∧ Hid ((Ak.take j).any (clashR (s, v, p, n)) = false) ∧ BxW wr g7 s v p n ∧ Below w.heap.size w wr) (fun i _ => Ak.length - (intOf i).toNat)
      case atStart => exact ⟨0, Nat.zero_le _, rfl, hidden rfl, b0, hb0⟩
      case round =>
        clear b0 hb0
        obtain ⟨j, hj, rfl, HF, x1, hb⟩ := hrel
        by_cases hlj : j < Ak.length
        · obtain ⟨⟨s2, v2, p2, n2⟩, hy⟩ := getx hlj
          obtain ⟨bb, ofb, eb, c0, c1, c2, c3⟩ := (HK.out.ext hb).wn hy
          simp only [Option.some.injEq, Addr.mk.injEq, and_true] at eb
          obtain ⟨rfl, rfl⟩ := eb
          have hlj' : (j : Int) < (Ak.length : Int) := by omega
          have hn2 := (OK2.out.at hy).2.2.2
          have HU := hidden (any_snoc hy (clashR (s, v, p, n)))
          have HV := hidden (HT.out _ j hy)
          have E : clashR (s, v, p, n) (s2, v2, p2, n2) = (wR (s, v, p, n) && (wR (s2, v2, p2, n2) && (decide (s = s2) && (meetE p n p2 n2 || meetE v n v2 n2)))) := rfl
          rw [E] at HU HV
          clear E
          replace x1 := x1.alloc (boxW s2 v2 p2 n2)
          have x2 := BxW.new wr s2 v2 p2 n2
          have hb0 := hb.alloc hb.size (boxW s2 v2 p2 n2)
          have M := hidden (fun w => rmeet_any p n p2 n2 w hn hn2)
          have N := hidden (fun w => rmeet_any v n v2 n2 w hn hn2)
          have W1 := hidden (fun w => rwindow_any s v p n w hn)
          have W2 := hidden (fun w => rwindow_any s2 v2 p2 n2 w hn2)
          generalize meetA p n p2 n2 = ma at *
          generalize meetN p n p2 n2 = mn at *
          generalize meetE p n p2 n2 = me at *
          generalize meetA v n v2 n2 = na at *
          generalize meetN v n v2 n2 = nn at *
          generalize meetE v n v2 n2 = ne at *
          generalize wR (s, v, p, n) = r1 at *
          generalize wR (s2, v2, p2, n2) = r2 at *
          obtain ⟨q0, q1, q2, q3⟩ := x1.cells
          obtain ⟨u0, u1, u2, u3⟩ := x2.cells
          have l1 := x1.lt
          have l2 := x2.lt
          go_wp2_with fail
          refine (M.out _).mono ?_
          rintro e w5 ⟨rfl, B5⟩
          replace x1 := (x1.ext B5).alloc (.cells #[.int .i64 ma, .int .i64 mn] 85)
          replace x2 := (x2.ext B5).alloc (.cells #[.int .i64 ma, .int .i64 mn] 85)
          replace hb0 := below_then hb0 B5
          replace hb0 := hb0.alloc hb0.size (.cells #[.int .i64 ma, .int .i64 mn] 85)
          clear q0 q1 q2 q3 u0 u1 u2 u3 c0 c1 c2 c3 hb l1 l2
          obtain ⟨q0, q1, q2, q3⟩ := x1.cells
          obtain ⟨u0, u1, u2, u3⟩ := x2.cells
          go_wp2_with fail
          refine (N.out _).mono ?_
          rintro e w6 ⟨rfl, B5⟩
          replace x1 := (x1.ext B5).alloc (.cells #[.int .i64 na, .int .i64 nn] 85)
          replace x2 := (x2.ext B5).alloc (.cells #[.int .i64 na, .int .i64 nn] 85)
          replace hb0 := below_then hb0 B5
          replace hb0 := hb0.alloc hb0.size (.cells #[.int .i64 na, .int .i64 nn] 85)
          clear q0 q1 q2 q3 u0 u1 u2 u3
          obtain ⟨q0, q1, q2, q3⟩ := x1.cells
          obtain ⟨u0, u1, u2, u3⟩ := x2.cells
          by_cases hs : s = s2
          · rw [decide_eq_true hs] at HU HV
            have d : (s == s2) = true := by simpa using hs
            clear hs
            go_wp2_with fail
            refine (W1.out _).mono ?_
            rintro e w7 ⟨rfl, Bc⟩
            replace x1 := x1.ext Bc
            replace x2 := x2.ext Bc
            replace hb0 := below_then hb0 Bc
            clear q0 q1 q2 q3 u0 u1 u2 u3 Bc
            obtain ⟨q0, q1, q2, q3⟩ := x1.cells
            obtain ⟨u0, u1, u2, u3⟩ := x2.cells
            cases r1
            · skip
              go_wp2
              go_roundw
              case rel => exact ⟨j + 1, by omega, by go_num, hidden (by rw [HU.out, HF.out]; simp), x1, hb0⟩
              case measure => simp [intOf]; omega
            · skip
              go_wp2_with fail
              refine (W2.out _).mono ?_
              rintro e w8 ⟨rfl, Bc⟩
              replace x1 := x1.ext Bc
              replace x2 := x2.ext Bc
              replace hb0 := below_then hb0 Bc
              clear q0 q1 q2 q3 u0 u1 u2 u3 Bc
              obtain ⟨q0, q1, q2, q3⟩ := x1.cells
              obtain ⟨u0, u1, u2, u3⟩ := x2.cells
              cases r2
              · skip
                go_wp2
                go_roundw
                case rel => exact ⟨j + 1, by omega, by go_num, hidden (by rw [HU.out, HF.out]; simp), x1, hb0⟩
                case measure => simp [intOf]; omega
              · cases me
                · cases ne
                  · skip
                    go_wp2
                    go_roundw
                    case rel => exact ⟨j + 1, by omega, by go_num, hidden (by rw [HU.out, HF.out]; simp), x1, hb0⟩
                    case measure => simp [intOf]; omega
                  · skip
                    have e2 := HZF.out (HV.out (by first | rfl | trivial | simp))
                    subst e2
                    go_wp2
                    go_ret
                    exact ⟨rfl, hb0⟩
                · skip
                  have e2 := HZF.out (HV.out (by first | rfl | trivial | simp))
                  subst e2
                  go_wp2
                  go_ret
                  exact ⟨rfl, hb0⟩
          · rw [decide_eq_false hs] at HU HV
            have d : (s == s2) = false := by simpa using hs
            clear hs
            go_wp2
            go_roundw
            case rel => exact ⟨j + 1, by omega, by go_num, hidden (by rw [HU.out, HF.out]; simp), x1, hb0⟩
            case measure => simp [intOf]; omega
        · have e : Ak.take j = Ak := List.take_of_length_le (by omega)
          rw [e] at HF
          have H3 := hidden (HS.out HF.out)
          go_wp2
          go_roundw
          case rel => exact ⟨Ak.length + 1, by omega, by go_num, H3, hb⟩
          case measure => simp [intOf]; omega
    · have e : A.take k = A := List.take_of_length_le (by omega)
      rw [e] at HE
      have e2 := HZT.out HE.out
      subst e2
      go_wp2
      go_ret
      exact ⟨rfl, hb⟩

end Go.Proofs.Ytffjhimdamdenaa
