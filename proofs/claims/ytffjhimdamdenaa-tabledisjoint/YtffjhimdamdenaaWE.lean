/- Contracts of window.Meets and Own. -/
import Derived.Test.YtffjhimdamdenaaWD
namespace Go.Proofs.Ytffjhimdamdenaa
open Go.RowKit

theorem any_snoc {α : Type} {l : List α} {i : Nat} {x : α} (h : l[i]? = some x) (q : α → Bool) : (l.take (i + 1)).any q = ((l.take i).any q || q x) := by
  rw [take_snoc h, List.any_append]; simp
theorem any_hit {α : Type} {l : List α} {i : Nat} {x : α} (h : l[i]? = some x) (q : α → Bool) (hq : q x = true) : l.any q = true := List.any_eq_true.2 ⟨x, List.mem_of_getElem? h, hq⟩

set_option maxHeartbeats 2000000 in
theorem meets_any (va vb : Value) (a b : WL) (w : World) (ha : Wns w va a) (hb : Wns w vb b) (oa : OkW a) (ob : OkW b) (la : a.length ≤ 1000000) (lb : b.length ≤ 1000000) :
    Calls Try.prog 36 #[va, vb] w fun e w' => e = .returned (.bool (meetsB a b)) ∧ Below w.heap.size w w' := by
  have HA := hidden ha
  have HB := hidden hb
  obtain ⟨aa, ca, rfl, -⟩ := id ha
  obtain ⟨ab, cb, rfl, -⟩ := id hb
  have C1 := hidden (fun w' (h : Wns w' (.slice ab b.length cb) b) => wrights_any _ b w' h ob lb)
  have C2 := hidden (fun w' (h : Wns w' (.slice aa a.length ca) a) => wrights_any _ a w' h oa la)
  obtain ⟨Z, hZ⟩ : ∃ Z, meetsB a b = Z := ⟨_, rfl⟩
  rw [hZ]
  have HZ : Hid ((a.filter wR).any (fun x => (b.filter wR).any (touchB x)) = Z) := hZ
  have OA : Hid (OkW (a.filter wR)) := oa.filter _
  have OB : Hid (OkW (b.filter wR)) := ob.filter _
  clear hZ oa ob la lb ha hb
  go_enter Try.func36, Try.ntmps36
  go_wp2_with fail
  refine (C1.out _ HB.out).mono ?_
  rintro e w1 ⟨v1, rfl, o1, B1⟩
  have WB := Lsf.of_owns wf_len (by decide) o1
  clear o1
  go_wp2_with fail
  refine (C2.out _ (HA.out.ext B1)).mono ?_
  rintro e w2 ⟨v2, rfl, o2, B2⟩
  replace WB := WB.ext B2
  replace B2 := below_then B1 B2
  have WA := Lsf.of_owns wf_len (by decide) o2
  clear o2 B1 C1 C2 HA HB
  generalize a.filter wR = A at *
  generalize b.filter wR = B at *
  obtain ⟨aA, cA, rfl, -⟩ := id WA
  obtain ⟨aB, cB, rfl, -⟩ := id WB
  obtain ⟨-, hcA, hmA, -⟩ := WA.at
  obtain ⟨-, hcB, hmB, -⟩ := WB.at
  unfold maxLen at hmA hmB
  have HA := hidden WA
  have HB := hidden WB
  have H2 := hidden B2
  go_wp2
  go_loopw [15] (fun i wr => ∃ k : Nat, k ≤ A.length ∧ i = .int .i64 k ∧ Hid ((A.take k).any (fun x => B.any (touchB x)) = false) ∧ Below w2.heap.size w2 wr) (fun i _ => A.length - (intOf i).toNat)
  case atStart => exact ⟨0, Nat.zero_le _, rfl, hidden rfl, Below.refl _ _⟩
  case round =>
    clear WA WB B2
    obtain ⟨k, hk, rfl, HE, hb⟩ := hrel
    by_cases hlt : k < A.length
    · obtain ⟨⟨s, v, p, n⟩, hx⟩ := getx hlt
      obtain ⟨b, off, rfl, c0, c1, c2, c3⟩ := (HA.out.ext hb).wn hx
      have hlt' : (k : Int) < (A.length : Int) := by omega
      have hn := (OA.out.at hx).2.2.2
      have HS := hidden (any_snoc hx (fun x => B.any (touchB x)))
      have HT := hidden (any_hit hx (fun x => B.any (touchB x)))
      have b0 := BxW.new wr s v p n
      have hb0 := hb.alloc hb.size (boxW s v p n)
      obtain ⟨wo, hwo⟩ : ∃ wo, wo = wr := ⟨_, rfl⟩
      subst hwo
      go_wp2
      clear c0 c1 c2 c3 hb
      generalize hg7 : wo.heap.size = g7 at *
      clear hg7
      generalize wo.alloc (boxW s v p n) = w3 at *
      go_loopw [21] (fun i wr => ∃ j : Nat, j ≤ B.length ∧ i = .int .i64 j ∧ Hid ((B.take j).any (touchB (s, v, p, n)) = false) ∧ BxW wr g7 s v p n ∧ Below w2.heap.size w2 wr) (fun i _ => B.length - (intOf i).toNat)
      case atStart => exact ⟨0, Nat.zero_le _, rfl, hidden rfl, b0, hb0⟩
      case round =>
        clear b0 hb0
        obtain ⟨j, hj, rfl, HF, x1, hb⟩ := hrel
        by_cases hlj : j < B.length
        · obtain ⟨⟨s2, v2, p2, n2⟩, hy⟩ := getx hlj
          obtain ⟨bb, ofb, rfl, c0, c1, c2, c3⟩ := (HB.out.ext hb).wn hy
          have hlj' : (j : Int) < (B.length : Int) := by omega
          have hn2 := (OB.out.at hy).2.2.2
          have HU := hidden (any_snoc hy (touchB (s, v, p, n)))
          have HV := hidden (any_hit hy (touchB (s, v, p, n)))
          have E : touchB (s, v, p, n) (s2, v2, p2, n2) = (decide (s = s2) && meetE p n p2 n2) := rfl
          rw [E] at HU HV
          clear E
          replace x1 := (x1.alloc (boxW s2 v2 p2 n2)).drew
          have x2 := (BxW.new wr s2 v2 p2 n2).drew
          have hb0 := (hb.alloc hb.size (boxW s2 v2 p2 n2)).drew
          have xx := Ext.refl (wr.alloc (boxW s2 v2 p2 n2)).drew
          have P1 := hidden (fun w => pspan_any s v p n w)
          have P2 := hidden (fun w => pspan_any s2 v2 p2 n2 w)
          have M := hidden (fun w => meet1_any p n p2 n2 w hn hn2)
          generalize meetE p n p2 n2 = me at *
          by_cases hs : s = s2
          · rw [decide_eq_true hs] at HU HV
            have d : (s == s2) = true := by simpa using hs
            clear hs
            simp only [Bool.true_and] at HU HV
            go_wp2
            refine wp_region_pi [(0, true), (1, true), (2, true), (3, true), (4, true), (5, true), (6, true), (8, true), (7, false), (9, false), (10, false), (11, true)] (by kernel_rfl) (by kernel_rfl) (by kernel_rfl) (fun _ _ _ d _ h => by cases d <;> exact h) ?_
            clear c0 c1 c2 c3 hb
            generalize wr.heap.size = g9 at *
            generalize (wr.alloc (boxW s2 v2 p2 n2)).drew = w4 at *
            iterate 8 (first | refine pi_pure xx rfl (by kernel_rfl) (fun w' => by go_simp; with_reducible rfl) ?_ | refine pi_read xx rfl (by kernel_rfl) (fun w' hw' => by obtain ⟨q0, q1, q2, q3⟩ := (x1.ext hw').cells; obtain ⟨r0, r1, r2, r3⟩ := (x2.ext hw').cells; go_simp; with_reducible rfl) ?_; try simp only [Act.put, List.setIfInBounds_toArray, List.set_cons_zero, List.set_cons_succ])
            refine pi_move rfl (by kernel_rfl) (fun K hK => ?_)
            go_wp2_with fail
            refine (P1.out _).mono ?_
            rintro e wc ⟨rfl, Bc⟩
            replace x1 := x1.ext Bc
            replace x2 := x2.ext Bc
            replace hb0 := below_then hb0 Bc
            replace xx := xx.trans Bc
            go_simp
            refine hK.out _ _ xx ?_
            try simp only [Act.put, List.setIfInBounds_toArray, List.set_cons_zero, List.set_cons_succ]
            clear hK K
            refine pi_move rfl (by kernel_rfl) (fun K hK => ?_)
            go_wp2_with fail
            refine (P2.out _).mono ?_
            rintro e wc ⟨rfl, Bc⟩
            replace x1 := x1.ext Bc
            replace x2 := x2.ext Bc
            replace hb0 := below_then hb0 Bc
            replace xx := xx.trans Bc
            go_simp
            refine hK.out _ _ xx ?_
            try simp only [Act.put, List.setIfInBounds_toArray, List.set_cons_zero, List.set_cons_succ]
            clear hK K
            refine pi_move rfl (by kernel_rfl) (fun K hK => ?_)
            go_wp2_with fail
            refine (M.out _).mono ?_
            rintro e wc ⟨rfl, Bc⟩
            replace x1 := x1.ext Bc
            replace x2 := x2.ext Bc
            replace hb0 := below_then hb0 Bc
            replace xx := xx.trans Bc
            go_simp
            refine hK.out _ _ xx ?_
            try simp only [Act.put, List.setIfInBounds_toArray, List.set_cons_zero, List.set_cons_succ]
            clear hK K
            iterate 1 (refine pi_pure xx rfl (by kernel_rfl) (fun w' => by go_simp; with_reducible rfl) ?_; try simp only [Act.put, List.setIfInBounds_toArray, List.set_cons_zero, List.set_cons_succ])
            refine pi_nil ?_
            cases me
            · go_wp2
              go_roundw
              case rel => exact ⟨j + 1, by omega, by go_num, hidden (by rw [HU.out, HF.out]; rfl), x1, hb0⟩
              case measure => simp [intOf]; omega
            · have e2 : Z = true := by rw [← HZ.out, HT.out (HV.out rfl)]
              subst e2
              go_wp2
              go_ret
              exact ⟨rfl, below_then H2.out hb0⟩
          · rw [decide_eq_false hs] at HU HV
            have d : (s == s2) = false := by simpa using hs
            clear hs
            simp only [Bool.false_and, Bool.or_false] at HU
            go_wp2
            refine wp_region_pi [(0, true), (1, true), (2, true), (3, true), (4, true), (5, true), (6, true), (8, true), (7, false), (9, false), (10, false), (11, true)] (by kernel_rfl) (by kernel_rfl) (by kernel_rfl) (fun _ _ _ d _ h => by cases d <;> exact h) ?_
            clear c0 c1 c2 c3 hb
            generalize wr.heap.size = g9 at *
            generalize (wr.alloc (boxW s2 v2 p2 n2)).drew = w4 at *
            iterate 6 (first | refine pi_pure xx rfl (by kernel_rfl) (fun w' => by go_simp; with_reducible rfl) ?_ | refine pi_read xx rfl (by kernel_rfl) (fun w' hw' => by obtain ⟨q0, q1, q2, q3⟩ := (x1.ext hw').cells; obtain ⟨r0, r1, r2, r3⟩ := (x2.ext hw').cells; go_simp; with_reducible rfl) ?_; try simp only [Act.put, List.setIfInBounds_toArray, List.set_cons_zero, List.set_cons_succ])
            iterate 2 (refine pi_skip xx rfl (by kernel_rfl) ?_; try simp only [Act.put, List.setIfInBounds_toArray, List.set_cons_zero, List.set_cons_succ])
            iterate 3 (refine pi_pass xx rfl (by kernel_rfl) ?_; try simp only [Act.put, List.setIfInBounds_toArray, List.set_cons_zero, List.set_cons_succ])
            iterate 1 (refine pi_pure xx rfl (by kernel_rfl) (fun w' => by go_simp; with_reducible rfl) ?_; try simp only [Act.put, List.setIfInBounds_toArray, List.set_cons_zero, List.set_cons_succ])
            refine pi_nil ?_
            go_wp2
            go_roundw
            case rel => exact ⟨j + 1, by omega, by go_num, hidden (by rw [HU.out, HF.out]), x1, hb0⟩
            case measure => simp [intOf]; omega
        · have e : B.take j = B := List.take_of_length_le (by omega)
          rw [e] at HF
          go_wp2
          go_roundw
          case rel => exact ⟨k + 1, by omega, by go_num, hidden (by rw [HS.out, HE.out, HF.out]; rfl), hb⟩
          case measure => simp [intOf]; omega
    · have e : A.take k = A := List.take_of_length_le (by omega)
      rw [e] at HE
      have e2 : Z = false := by rw [← HZ.out, HE.out]
      subst e2
      go_wp2
      go_ret
      exact ⟨rfl, below_then H2.out hb⟩

end Go.Proofs.Ytffjhimdamdenaa
