/- Contract of window.Own. -/
import Derived.Test.YtffjhimdamdenaaWE
namespace Go.Proofs.Ytffjhimdamdenaa
open Go.RowKit

def OwnP (l : WL) : Prop := l.Pairwise fun y x => clashB x y = false
theorem own_snoc {K : WL} {k : Nat} {x : WN} (h : OwnP (K.take k)) (hx : K[k]? = some x) (ha : (K.take k).any (clashB x) = false) : OwnP (K.take (k + 1)) := by
  unfold OwnP at *
  rw [take_snoc hx, List.pairwise_append]
  refine ⟨h, by simp, fun y hy z hz => ?_⟩
  simp only [List.mem_singleton] at hz
  subst hz
  exact Bool.eq_false_iff.2 (fun e => by
    have := List.any_eq_false.1 ha y hy
    exact this e)
theorem own_hit {K : WL} {k j : Nat} {x y : WN} (hx : K[k]? = some x) (hy : (K.take k)[j]? = some y) (h : clashB x y = true) : ¬ OwnP K := by
  intro hp
  have h1 : OwnP (K.take (k + 1)) := List.Pairwise.sublist (List.take_sublist _ _) hp
  unfold OwnP at h1
  rw [take_snoc hx, List.pairwise_append] at h1
  have := h1.2.2 y (List.mem_of_getElem? hy) x (by simp)
  rw [h] at this
  cases this

set_option maxHeartbeats 4000000 in
theorem own_any (va : Value) (a : WL) (w : World) (ha : Wns w va a) (oa : OkW a) (la : a.length ≤ 1000000) :
    Calls Try.prog 43 #[va] w fun e w' => e = .returned (.bool (ownB a)) ∧ Below w.heap.size w w' := by
  have HA := hidden ha
  obtain ⟨aa, ca, rfl, -⟩ := id ha
  have C2 := hidden (fun w' (h : Wns w' (.slice aa a.length ca) a) => wrights_any _ a w' h oa la)
  obtain ⟨Z, hZ⟩ : ∃ Z, ownB a = Z := ⟨_, rfl⟩
  rw [hZ]
  have HZT : Hid (OwnP (a.filter wR) → Z = true) := fun h => by rw [← hZ]; exact decide_eq_true h
  have HZF : Hid (¬ OwnP (a.filter wR) → Z = false) := fun h => by rw [← hZ]; exact decide_eq_false h
  have OA : Hid (OkW (a.filter wR)) := oa.filter _
  clear hZ oa la ha
  go_enter Try.func43, Try.ntmps43
  go_wp2_with fail
  refine (C2.out _ HA.out).mono ?_
  rintro e w2 ⟨v2, rfl, o2, B2⟩
  have WA := Lsf.of_owns wf_len (by decide) o2
  clear o2 C2 HA
  generalize a.filter wR = A at *
  obtain ⟨aA, cA, rfl, -⟩ := id WA
  obtain ⟨-, hcA, hmA, -⟩ := WA.at
  unfold maxLen at hmA
  have HA := hidden WA
  have H2 := hidden B2
  go_wp2
  go_loopw [12] (fun i wr => ∃ k : Nat, k ≤ A.length ∧ i = .int .i64 k ∧ Hid (OwnP (A.take k)) ∧ Below w2.heap.size w2 wr) (fun i _ => A.length - (intOf i).toNat)
  case atStart => exact ⟨0, Nat.zero_le _, rfl, hidden List.Pairwise.nil, Below.refl _ _⟩
  case round =>
    clear WA B2
    obtain ⟨k, hk, rfl, HE, hb⟩ := hrel
    by_cases hlt : k < A.length
    · obtain ⟨⟨s, v, p, n⟩, hx⟩ := getx hlt
      obtain ⟨b, off, rfl, c0, c1, c2, c3⟩ := (HA.out.ext hb).wn hx
      have hlt' : (k : Int) < (A.length : Int) := by omega
      have hn := (OA.out.at hx).2.2.2
      have HS := hidden (fun h => own_snoc HE.out hx h)
      have HT := hidden (fun (y : WN) (j : Nat) (h : (A.take k)[j]? = some y) (h2 : clashB (s, v, p, n) y = true) => own_hit hx h h2)
      have OK2 := hidden (OA.out.take k)
      have HK := hidden (HA.out.take k (by omega))
      have hlk : (A.take k).length = k := by simp; omega
      have b0 := BxW.new wr s v p n
      have hb0 := hb.alloc hb.size (boxW s v p n)
      obtain ⟨wo, hwo⟩ : ∃ wo, wo = wr := ⟨_, rfl⟩
      subst hwo
      have s1 : ¬ ((k : Int) < 0) := by omega
      have s2 : ¬ ((cA : Int) < (k : Int)) := by omega
      go_wp2
      clear c0 c1 c2 c3 hb s1 s2
      generalize A.take k = Ak at *
      subst hlk
      generalize hg7 : wo.heap.size = g7 at *
      clear hg7
      generalize wo.alloc (boxW s v p n) = w3 at *
      go_loopw [21] (fun i wr => ∃ j : Nat, j ≤ Ak.length ∧ i = .int .i64 j ∧ Hid ((Ak.take j).any (clashB (s, v, p, n)) = false) ∧ BxW wr g7 s v p n ∧ Below w2.heap.size w2 wr) (fun i _ => Ak.length - (intOf i).toNat)
      case atStart => exact ⟨0, Nat.zero_le _, rfl, hidden rfl, b0, hb0⟩
      case round =>
        clear b0 hb0
        obtain ⟨j, hj, rfl, HF, x1, hb⟩ := hrel
        by_cases hlj : j < Ak.length
        · obtain ⟨⟨s2, v2, p2, n2⟩, hy⟩ := getx hlj
          obtain ⟨bb, ofb, eb, c0, c1, c2, c3⟩ := (HK.out.ext hb).wn hy
          simp only [Option.some.injEq, Addr.mk.injEq, and_true] at eb
          obtain ⟨rfl, rfl⟩ := eb
          have hlj' : (j : Int) < (Ak.length : Int) := by omega
          have hn2 := (OK2.out.at hy).2.2.2
          have HU := hidden (any_snoc hy (clashB (s, v, p, n)))
          have HV := hidden (HT.out _ j hy)
          have E : clashB (s, v, p, n) (s2, v2, p2, n2) = (decide (s = s2) && (meetE p n p2 n2 || meetE v n v2 n2)) := rfl
          rw [E] at HU HV
          clear E
          replace x1 := (x1.alloc (boxW s2 v2 p2 n2)).drew
          have x2 := (BxW.new wr s2 v2 p2 n2).drew
          have hb0 := (hb.alloc hb.size (boxW s2 v2 p2 n2)).drew
          have xx := Ext.refl (wr.alloc (boxW s2 v2 p2 n2)).drew
          have P1 := hidden (fun w => pspan_any s v p n w)
          have P2 := hidden (fun w => pspan_any s2 v2 p2 n2 w)
          have Q1 := hidden (fun w => vspan_any s v p n w)
          have Q2 := hidden (fun w => vspan_any s2 v2 p2 n2 w)
          have M := hidden (fun w => meet1_any p n p2 n2 w hn hn2)
          have N := hidden (fun w => meet1_any v n v2 n2 w hn hn2)
          generalize meetE p n p2 n2 = me at *
          generalize meetE v n v2 n2 = mv at *
          by_cases hs : s = s2
          · rw [decide_eq_true hs] at HU HV
            have d : (s == s2) = true := by simpa using hs
            clear hs
            simp only [Bool.true_and] at HU HV
            cases me
            · simp only [Bool.false_or] at HU HV
              go_wp2
              refine wp_region_pi [(0, true), (1, true), (2, true), (3, true), (4, true), (5, true), (6, true), (8, true), (7, false), (9, false), (10, false), (11, true), (12, true), (14, true), (13, false), (15, false), (16, false), (17, true), (18, true)] (by kernel_rfl) (by kernel_rfl) (by kernel_rfl) (fun _ _ _ d _ h => by cases d <;> exact h) ?_
              clear c0 c1 c2 c3 hb
              generalize wr.heap.size = g9 at *
              generalize (wr.alloc (boxW s2 v2 p2 n2)).drew = w4 at *
              iterate 8 (first | refine pi_pure xx rfl (by kernel_rfl) (fun w' => by go_simp; with_reducible rfl) ?_ | refine pi_read xx rfl (by kernel_rfl) (fun w' hw' => by obtain ⟨q0, q1, q2, q3⟩ := (x1.ext hw').cells; obtain ⟨r0, r1, r2, r3⟩ := (x2.ext hw').cells; go_simp; with_reducible rfl) ?_; try simp only [Act.put, List.setIfInBounds_toArray, List.set_cons_zero, List.set_cons_succ])
              refine pi_move rfl (by kernel_rfl) (fun K hK => ?_)
              go_wp2_with fail
              refine (P1.out _).mono ?_
              rintro e wc ⟨rfl, Bc⟩
              replace x1 := x1.ext Bc
              replace x2 := x2.ext Bc
              replace hb0 := below_then hb0 Bc
              replace xx := xx.trans Bc
              go_simp
              refine hK.out _ _ xx ?_
              try simp only [Act.put, List.setIfInBounds_toArray, List.set_cons_zero, List.set_cons_succ]
              clear hK K
              refine pi_move rfl (by kernel_rfl) (fun K hK => ?_)
              go_wp2_with fail
              refine (P2.out _).mono ?_
              rintro e wc ⟨rfl, Bc⟩
              replace x1 := x1.ext Bc
              replace x2 := x2.ext Bc
              replace hb0 := below_then hb0 Bc
              replace xx := xx.trans Bc
              go_simp
              refine hK.out _ _ xx ?_
              try simp only [Act.put, List.setIfInBounds_toArray, List.set_cons_zero, List.set_cons_succ]
              clear hK K
              refine pi_move rfl (by kernel_rfl) (fun K hK => ?_)
              go_wp2_with fail
              refine (M.out _).mono ?_
              rintro e wc ⟨rfl, Bc⟩
              replace x1 := x1.ext Bc
              replace x2 := x2.ext Bc
              replace hb0 := below_then hb0 Bc
              replace xx := xx.trans Bc
              go_simp
              refine hK.out _ _ xx ?_
              try simp only [Act.put, List.setIfInBounds_toArray, List.set_cons_zero, List.set_cons_succ]
              clear hK K
              iterate 1 (refine pi_pure xx rfl (by kernel_rfl) (fun w' => by go_simp; with_reducible rfl) ?_; try simp only [Act.put, List.setIfInBounds_toArray, List.set_cons_zero, List.set_cons_succ])
              iterate 1 (first | refine pi_pure xx rfl (by kernel_rfl) (fun w' => by go_simp; with_reducible rfl) ?_ | refine pi_read xx rfl (by kernel_rfl) (fun w' hw' => by obtain ⟨q0, q1, q2, q3⟩ := (x1.ext hw').cells; obtain ⟨r0, r1, r2, r3⟩ := (x2.ext hw').cells; go_simp; with_reducible rfl) ?_; try simp only [Act.put, List.setIfInBounds_toArray, List.set_cons_zero, List.set_cons_succ])
              replace xx := Ext.refl wc
              iterate 1 (first | refine pi_pure xx rfl (by kernel_rfl) (fun w' => by go_simp; with_reducible rfl) ?_ | refine pi_read xx rfl (by kernel_rfl) (fun w' hw' => by obtain ⟨q0, q1, q2, q3⟩ := (x1.ext hw').cells; obtain ⟨r0, r1, r2, r3⟩ := (x2.ext hw').cells; go_simp; with_reducible rfl) ?_; try simp only [Act.put, List.setIfInBounds_toArray, List.set_cons_zero, List.set_cons_succ])
              refine pi_move rfl (by kernel_rfl) (fun K hK => ?_)
              go_wp2_with fail
              refine (Q1.out _).mono ?_
              rintro e wc ⟨rfl, Bc⟩
              replace x1 := x1.ext Bc
              replace x2 := x2.ext Bc
              replace hb0 := below_then hb0 Bc
              replace xx := xx.trans Bc
              go_simp
              refine hK.out _ _ xx ?_
              try simp only [Act.put, List.setIfInBounds_toArray, List.set_cons_zero, List.set_cons_succ]
              clear hK K
              refine pi_move rfl (by kernel_rfl) (fun K hK => ?_)
              go_wp2_with fail
              refine (Q2.out _).mono ?_
              rintro e wc ⟨rfl, Bc⟩
              replace x1 := x1.ext Bc
              replace x2 := x2.ext Bc
              replace hb0 := below_then hb0 Bc
              replace xx := xx.trans Bc
              go_simp
              refine hK.out _ _ xx ?_
              try simp only [Act.put, List.setIfInBounds_toArray, List.set_cons_zero, List.set_cons_succ]
              clear hK K
              refine pi_move rfl (by kernel_rfl) (fun K hK => ?_)
              go_wp2_with fail
              refine (N.out _).mono ?_
              rintro e wc ⟨rfl, Bc⟩
              replace x1 := x1.ext Bc
              replace x2 := x2.ext Bc
              replace hb0 := below_then hb0 Bc
              replace xx := xx.trans Bc
              go_simp
              refine hK.out _ _ xx ?_
              try simp only [Act.put, List.setIfInBounds_toArray, List.set_cons_zero, List.set_cons_succ]
              clear hK K
              iterate 2 (refine pi_pure xx rfl (by kernel_rfl) (fun w' => by go_simp; with_reducible rfl) ?_; try simp only [Act.put, List.setIfInBounds_toArray, List.set_cons_zero, List.set_cons_succ])
              refine pi_nil ?_
              cases mv
              · skip
                go_wp2
                go_roundw
                case rel => exact ⟨j + 1, by omega, by go_num, hidden (by rw [HU.out, HF.out]; rfl), x1, hb0⟩
                case measure => simp [intOf]; omega
              · skip
                have e2 := HZF.out (HV.out (by first | rfl | trivial))
                subst e2
                go_wp2
                go_ret
                exact ⟨rfl, below_then H2.out hb0⟩
            · simp only [Bool.true_or] at HU HV
              go_wp2
              refine wp_region_pi [(0, true), (1, true), (2, true), (3, true), (4, true), (5, true), (6, true), (8, true), (7, false), (9, false), (10, false), (11, true), (12, true), (14, true), (13, false), (15, false), (16, false), (17, true), (18, true)] (by kernel_rfl) (by kernel_rfl) (by kernel_rfl) (fun _ _ _ d _ h => by cases d <;> exact h) ?_
              clear c0 c1 c2 c3 hb
              generalize wr.heap.size = g9 at *
              generalize (wr.alloc (boxW s2 v2 p2 n2)).drew = w4 at *
              iterate 8 (first | refine pi_pure xx rfl (by kernel_rfl) (fun w' => by go_simp; with_reducible rfl) ?_ | refine pi_read xx rfl (by kernel_rfl) (fun w' hw' => by obtain ⟨q0, q1, q2, q3⟩ := (x1.ext hw').cells; obtain ⟨r0, r1, r2, r3⟩ := (x2.ext hw').cells; go_simp; with_reducible rfl) ?_; try simp only [Act.put, List.setIfInBounds_toArray, List.set_cons_zero, List.set_cons_succ])
              refine pi_move rfl (by kernel_rfl) (fun K hK => ?_)
              go_wp2_with fail
              refine (P1.out _).mono ?_
              rintro e wc ⟨rfl, Bc⟩
              replace x1 := x1.ext Bc
              replace x2 := x2.ext Bc
              replace hb0 := below_then hb0 Bc
              replace xx := xx.trans Bc
              go_simp
              refine hK.out _ _ xx ?_
              try simp only [Act.put, List.setIfInBounds_toArray, List.set_cons_zero, List.set_cons_succ]
              clear hK K
              refine pi_move rfl (by kernel_rfl) (fun K hK => ?_)
              go_wp2_with fail
              refine (P2.out _).mono ?_
              rintro e wc ⟨rfl, Bc⟩
              replace x1 := x1.ext Bc
              replace x2 := x2.ext Bc
              replace hb0 := below_then hb0 Bc
              replace xx := xx.trans Bc
              go_simp
              refine hK.out _ _ xx ?_
              try simp only [Act.put, List.setIfInBounds_toArray, List.set_cons_zero, List.set_cons_succ]
              clear hK K
              refine pi_move rfl (by kernel_rfl) (fun K hK => ?_)
              go_wp2_with fail
              refine (M.out _).mono ?_
              rintro e wc ⟨rfl, Bc⟩
              replace x1 := x1.ext Bc
              replace x2 := x2.ext Bc
              replace hb0 := below_then hb0 Bc
              replace xx := xx.trans Bc
              go_simp
              refine hK.out _ _ xx ?_
              try simp only [Act.put, List.setIfInBounds_toArray, List.set_cons_zero, List.set_cons_succ]
              clear hK K
              iterate 1 (refine pi_pure xx rfl (by kernel_rfl) (fun w' => by go_simp; with_reducible rfl) ?_; try simp only [Act.put, List.setIfInBounds_toArray, List.set_cons_zero, List.set_cons_succ])
              iterate 2 (refine pi_skip xx rfl (by kernel_rfl) ?_; try simp only [Act.put, List.setIfInBounds_toArray, List.set_cons_zero, List.set_cons_succ])
              iterate 3 (refine pi_pass xx rfl (by kernel_rfl) ?_; try simp only [Act.put, List.setIfInBounds_toArray, List.set_cons_zero, List.set_cons_succ])
              iterate 2 (refine pi_pure xx rfl (by kernel_rfl) (fun w' => by go_simp; with_reducible rfl) ?_; try simp only [Act.put, List.setIfInBounds_toArray, List.set_cons_zero, List.set_cons_succ])
              refine pi_nil ?_
              have e2 := HZF.out (HV.out (by first | rfl | trivial))
              subst e2
              go_wp2
              go_ret
              exact ⟨rfl, below_then H2.out hb0⟩
          · rw [decide_eq_false hs] at HU HV
            have d : (s == s2) = false := by simpa using hs
            clear hs
            simp only [Bool.false_and, Bool.or_false] at HU
            go_wp2
            refine wp_region_pi [(0, true), (1, true), (2, true), (3, true), (4, true), (5, true), (6, true), (8, true), (7, false), (9, false), (10, false), (11, true), (12, true), (14, true), (13, false), (15, false), (16, false), (17, true), (18, true)] (by kernel_rfl) (by kernel_rfl) (by kernel_rfl) (fun _ _ _ d _ h => by cases d <;> exact h) ?_
            clear c0 c1 c2 c3 hb
            generalize wr.heap.size = g9 at *
            generalize (wr.alloc (boxW s2 v2 p2 n2)).drew = w4 at *
            iterate 6 (first | refine pi_pure xx rfl (by kernel_rfl) (fun w' => by go_simp; with_reducible rfl) ?_ | refine pi_read xx rfl (by kernel_rfl) (fun w' hw' => by obtain ⟨q0, q1, q2, q3⟩ := (x1.ext hw').cells; obtain ⟨r0, r1, r2, r3⟩ := (x2.ext hw').cells; go_simp; with_reducible rfl) ?_; try simp only [Act.put, List.setIfInBounds_toArray, List.set_cons_zero, List.set_cons_succ])
            iterate 2 (refine pi_skip xx rfl (by kernel_rfl) ?_; try simp only [Act.put, List.setIfInBounds_toArray, List.set_cons_zero, List.set_cons_succ])
            iterate 3 (refine pi_pass xx rfl (by kernel_rfl) ?_; try simp only [Act.put, List.setIfInBounds_toArray, List.set_cons_zero, List.set_cons_succ])
            iterate 3 (refine pi_skip xx rfl (by kernel_rfl) ?_; try simp only [Act.put, List.setIfInBounds_toArray, List.set_cons_zero, List.set_cons_succ])
            iterate 3 (refine pi_pass xx rfl (by kernel_rfl) ?_; try simp only [Act.put, List.setIfInBounds_toArray, List.set_cons_zero, List.set_cons_succ])
            iterate 1 (refine pi_skip xx rfl (by kernel_rfl) ?_; try simp only [Act.put, List.setIfInBounds_toArray, List.set_cons_zero, List.set_cons_succ])
            iterate 1 (refine pi_pure xx rfl (by kernel_rfl) (fun w' => by go_simp; with_reducible rfl) ?_; try simp only [Act.put, List.setIfInBounds_toArray, List.set_cons_zero, List.set_cons_succ])
            refine pi_nil ?_
            go_wp2
            go_roundw
            case rel => exact ⟨j + 1, by omega, by go_num, hidden (by rw [HU.out, HF.out]), x1, hb0⟩
            case measure => simp [intOf]; omega
        · have e : Ak.take j = Ak := List.take_of_length_le (by omega)
          rw [e] at HF
          have H3 := hidden (HS.out HF.out)
          go_wp2
          go_roundw
          case rel => exact ⟨Ak.length + 1, by omega, by go_num, H3, hb⟩
          case measure => simp [intOf]; omega
    · have e : A.take k = A := List.take_of_length_le (by omega)
      rw [e] at HE
      have e2 := HZT.out HE.out
      subst e2
      go_wp2
      go_ret
      exact ⟨rfl, below_then H2.out hb⟩

end Go.Proofs.Ytffjhimdamdenaa
