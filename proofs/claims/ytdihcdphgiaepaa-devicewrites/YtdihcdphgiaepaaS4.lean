/- Contracts of pdu.Right and Counts. -/
import Derived.Test.YtdihcdphgiaepaaS3
namespace Go.Proofs.Ytdihcdphgiaepaa
open Go.RowKit

theorem zero_is (w : World) : IsRq w (rqV 0 0 0 0 0 (.slice none 0 0) (.slice none 0 0) 0 0) zeroQ := ⟨_, _, rfl, Row.nil w, Row.nil w⟩
theorem IsRq.slices {w : World} {v : Value} {q : Rq} (h : IsRq w v q) : ∃ ab capb av capv, v = rqV q.fn q.loc q.cnt q.wat q.sub (.slice ab q.bits.length capb) (.slice av q.vals.length capv) q.land q.lor ∧ q.bits.length ≤ 9223372036854775807 ∧ q.vals.length ≤ 9223372036854775807 := by
  obtain ⟨vb, vv, rfl, hb, hv⟩ := h
  obtain ⟨ab, capb, rfl, h1, h2, -⟩ := hb
  obtain ⟨av, capv, rfl, h3, h4, -⟩ := hv
  simp only [List.length_map] at h1 h3 ⊢
  unfold maxLen at h2 h4
  exact ⟨ab, capb, av, capv, rfl, by omega, by omega⟩
theorem rightE_12 {q : Rq} (hk : knownB q.fn = true) (h : ¬ formP q ∨ (numB q.loc && numB q.wat && numB q.sub && numB q.cnt) = false ∨ listB q = false) : rightE q = 12 := by
  unfold rightE
  rw [if_neg (by rw [hk]; simp)]
  by_cases h1 : formP q
  · rw [if_neg (by simp [h1])]
    by_cases h2 : (numB q.loc && numB q.wat && numB q.sub && numB q.cnt) = false
    · rw [if_pos h2]
    · rw [if_neg h2]
      rcases h with h | h | h
      · exact absurd h1 h
      · exact absurd h h2
      · rw [if_pos h]
  · rw [if_pos h1]
theorem rightE_0 {q : Rq} (hk : knownB q.fn = true) (h1 : formP q) (h2 : (numB q.loc && numB q.wat && numB q.sub && numB q.cnt) = true) (h3 : listB q = true) : rightE q = 0 := by
  unfold rightE
  rw [if_neg (by rw [hk]; simp), if_neg (by simp [h1]), if_neg (by rw [h2]; simp), if_neg (by rw [h3]; simp)]

set_option maxHeartbeats 1600000 in
theorem right_pdu (v : Value) (q : Rq) (w : World) (h : IsRq w v q) :
    Calls Try.prog 14 #[v] w fun e w' => e = .returned (.int .i64 (rightE q)) ∧ Below w.heap.size w w' := by
  obtain ⟨ab, capb, av, capv, rfl, -, -⟩ := h.slices
  have W0 := fun o => (Below.refl w.heap.size w).alloc (Nat.le_refl _) o
  have HQ := fun o => h.below (W0 o)
  have HW := hidden W0
  have HI3 : ∀ {w3 : World}, Below w.heap.size w w3 → IsRq w3 _ q := fun hb => h.below hb
  have HH := hidden HQ
  have HF := hidden (others_form q)
  have HE := hidden (@rightE_12 q)
  have H0 := hidden (@rightE_0 q)
  have Hq : Hid (∃ q' : Rq, q' = q) := ⟨q, rfl⟩
  clear h W0 HQ
  obtain ⟨f, a, c, p, s, bs, vs, m, o⟩ := q
  simp only at HE H0 HF HH ⊢
  cases hk : knownB f
  · have e : rightE ⟨f, a, c, p, s, bs, vs, m, o⟩ = 15 := by simp [rightE, hk]
    rw [e]
    have KK := hidden hk
    clear hk e
    go_enter Try.func14, Try.ntmps14
    go_wp2_with (go_at_call 23; refine (known_pdu f _).mono ?_; rintro e w1 ⟨rfl, rfl⟩; rw [KK.out])
    go_ret
    exact ⟨rfl, HW.out _⟩
  · have KK := hidden hk
    clear hk
    go_enter Try.func14, Try.ntmps14
    go_wp2_with (go_at_call 23; refine (known_pdu f _).mono ?_; rintro e w1 ⟨rfl, rfl⟩; rw [KK.out])
    refine (others_pdu _ _ _ (HH.out _) KK.out).mono ?_
    rintro e w2 ⟨v2, rfl, hv2, B2⟩
    have X := (Blk.new w 33 [.int .i64 f, .int .i64 a, .int .i64 c, .int .i64 p, .int .i64 s, .slice ab bs.length capb, .slice av vs.length capv, wV m, wV o]).below B2 (by simp)
    replace B2 := below_then (HW.out _) B2
    go_wp2_with fail
    refine (same_pdu _ _ _ _ _ hv2 (zero_is _)).mono ?_
    rintro e w3 ⟨rfl, B3⟩
    replace X := X.below B3 X.lt
    replace B3 := below_then B2 B3
    clear B2 hv2
    have c0 := X.cell 0
    have c1 := X.cell 1
    have c2 := X.cell 2
    have c3 := X.cell 3
    have c4 := X.cell 4
    have c5 := X.cell 5
    have c6 := X.cell 6
    have c7 := X.cell 7
    have c8 := X.cell 8
    simp at c0 c1 c2 c3 c4 c5 c6 c7 c8
    by_cases hf : othersQ ⟨f, a, c, p, s, bs, vs, m, o⟩ = zeroQ
    · have F1 := hidden (show decide (othersQ ⟨f, a, c, p, s, bs, vs, m, o⟩ = zeroQ) = true by simpa using hf)
      have G1 := hidden ((HF.out KK.out).1 hf)
      clear hf
      rw [F1.out]
      cases ha : numB a
      · have L := hidden (HE.out KK.out (.inr (.inl (by rw [ha]; simp))))
        have Na := hidden ha
        clear ha
        go_wp2_with (go_at_call 26; refine (number_pdu _ _).mono ?_; rintro e w4 ⟨rfl, rfl⟩; first | rw [Na.out])
        go_ret
        exact ⟨ret_int L.out.symm, B3⟩
      · have Na := hidden ha
        clear ha
        cases hp : numB p
        · have L := hidden (HE.out KK.out (.inr (.inl (by rw [hp]; simp))))
          have Np := hidden hp
          clear hp
          go_wp2_with (go_at_call 26; refine (number_pdu _ _).mono ?_; rintro e w4 ⟨rfl, rfl⟩; first | rw [Na.out] | rw [Np.out])
          go_ret
          exact ⟨ret_int L.out.symm, B3⟩
        · have Np := hidden hp
          clear hp
          cases hs : numB s
          · have L := hidden (HE.out KK.out (.inr (.inl (by rw [hs]; simp))))
            have Ns := hidden hs
            clear hs
            go_wp2_with (go_at_call 26; refine (number_pdu _ _).mono ?_; rintro e w4 ⟨rfl, rfl⟩; first | rw [Na.out] | rw [Np.out] | rw [Ns.out])
            go_ret
            exact ⟨ret_int L.out.symm, B3⟩
          · have Ns := hidden hs
            clear hs
            cases hc : numB c
            · have L := hidden (HE.out KK.out (.inr (.inl (by rw [hc]; simp))))
              have Nc := hidden hc
              clear hc
              go_wp2_with (go_at_call 26; refine (number_pdu _ _).mono ?_; rintro e w4 ⟨rfl, rfl⟩; first | rw [Na.out] | rw [Np.out] | rw [Ns.out] | rw [Nc.out])
              go_ret
              exact ⟨ret_int L.out.symm, B3⟩
            · have Nc := hidden hc
              clear hc
              have E2 := hidden (show (numB a && numB p && numB s && numB c) = true by rw [Na.out, Np.out, Ns.out, Nc.out]; rfl)
              go_wp2_with (go_at_call 26; refine (number_pdu _ _).mono ?_; rintro e w4 ⟨rfl, rfl⟩; first | rw [Na.out] | rw [Np.out] | rw [Ns.out] | rw [Nc.out])
              refine (listed_pdu _ ⟨f, a, c, p, s, bs, vs, m, o⟩ _ (HI3 B3) KK.out).mono ?_
              rintro e w5 ⟨rfl, B5⟩
              cases hl : listB ⟨f, a, c, p, s, bs, vs, m, o⟩
              · have L := hidden (HE.out KK.out (.inr (.inr hl)))
                clear hl
                go_wp2
                go_ret
                exact ⟨ret_int L.out.symm, below_then B3 B5⟩
              · have L := hidden (H0.out KK.out G1.out E2.out hl)
                clear hl
                go_wp2
                go_ret
                exact ⟨ret_int L.out.symm, below_then B3 B5⟩
    · have F1 := hidden (show decide (othersQ ⟨f, a, c, p, s, bs, vs, m, o⟩ = zeroQ) = false by simpa using hf)
      have L := hidden (HE.out KK.out (.inl (fun h => hf ((HF.out KK.out).2 h))))
      clear hf
      rw [F1.out]
      go_wp2
      go_ret
      exact ⟨ret_int L.out.symm, B3⟩

end Go.Proofs.Ytdihcdphgiaepaa
