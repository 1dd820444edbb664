/- Contracts of rtu's Read and of the document's own. -/
import Derived.Test.YtfbmejfnblopgaaF1
import Derived.OwnWalk
namespace Go.Proofs.Ytfbmejfnblopgaa
open Go.RowKit

/-- a piece of a row, from f on -/
theorem Row.from {w : World} {b off n cap : Nat} {xs : List Value} (h : Row w (.slice (some ⟨b, off, none⟩) n cap) xs) (f : Nat) (hf : f ≤ n) : Row w (.slice (some ⟨b, off + f, none⟩) (n - f) (cap - f)) (xs.drop f) := by
  obtain ⟨a', cap', e, h1, h2, h3, h4⟩ := h
  simp only [Value.slice.injEq] at e
  obtain ⟨rfl, rfl, rfl⟩ := e
  have hl : (xs.drop f).length = xs.length - f := by simp
  refine ⟨_, cap - f, by rw [hl], by omega, by omega, (fun h => by cases h), ?_⟩
  rcases h4 with rfl | ⟨b', off', e', hc⟩
  · exact .inl (by simp)
  · simp only [Option.some.injEq, Addr.mk.injEq] at e'
    obtain ⟨rfl, rfl, -⟩ := e'
    refine .inr ⟨b, off + f, rfl, fun i hi => ?_⟩
    rw [Nat.add_assoc, hc (f + i) (by omega)]
    simp

set_option maxHeartbeats 1000000 in
theorem read_any (v : Value) (bs : List UInt8) (w : World) (hv : Row w v (bs.map bV)) :
    Calls Try.prog 15 #[v] w fun e w' => ∃ v', e = .returned (.tuple #[.int .i64 (rdA bs), v', .int .i64 (rdE bs)]) ∧ Row w' v' ((rdP bs).map bV) ∧ Below w.heap.size w w' := by
  obtain ⟨av, cap, rfl, -⟩ := id hv
  obtain ⟨hl, hc, hm, -⟩ := hv.at
  simp only [List.length_map] at hl hc hv ⊢
  by_cases h0 : bs.length < 4
  · obtain ⟨e1, e2, e3⟩ := rd_short h0
    rw [e1, e2, e3]
    have z : (bs.length : Int) < 4 := by omega
    clear e1 e2 e3 hv
    go_enter Try.func15, Try.ntmps15
    go_wp2
    go_ret3
    exact ⟨_, rfl, Row.nil _, Below.refl _ _⟩
  · have z : ¬ (bs.length : Int) < 4 := by omega
    by_cases h1 : 256 < bs.length
    · obtain ⟨e1, e2, e3⟩ := rd_long h1
      rw [e1, e2, e3]
      have z2 : (256 : Int) < (bs.length : Int) := by omega
      clear e1 e2 e3 hv
      go_enter Try.func15, Try.ntmps15
      go_wp2
      go_ret3
      exact ⟨_, rfl, Row.nil _, Below.refl _ _⟩
    · have z2 : ¬ (256 : Int) < (bs.length : Int) := by omega
      have C := hidden (copen_any _ bs w hv (by omega))
      cases hs : unsealOk bs
      · obtain ⟨e1, e2, e3⟩ := rd_sum (b := bs) (by omega) (by omega) hs
        rw [e1, e2, e3]
        rw [hs] at C
        clear e1 e2 e3 hv
        go_enter Try.func15, Try.ntmps15
        go_wp2_with fail
        refine C.out.mono ?_
        rintro e w2 ⟨v2, rfl, -, B2⟩
        go_wp2
        go_ret3
        exact ⟨_, rfl, Row.nil _, B2⟩
      · have ur : unsealR bs = bs.take (bs.length - 2) := by simp [unsealR, hs]
        rw [hs, ur] at C
        have hx : (bs.take (bs.length - 2)).getD 0 0 = bs.getD 0 0 := by
          rw [List.getD_eq_getElem?_getD, List.getElem?_take, if_pos (by omega), List.getD_eq_getElem?_getD]
        have HX := hidden hx
        have hPl : (bs.take (bs.length - 2)).length = bs.length - 2 := by simp
        have HP := hidden hPl
        have OKr := hidden (rd_ok (b := bs) (by omega) (by omega) hs)
        have ARr := hidden (rd_arg (b := bs) (by omega) (by omega) hs)
        clear hx hPl ur hs
        generalize bs.take (bs.length - 2) = P at *
        generalize hy : bs.getD 0 0 = y at *
        clear hy hv
        have hyl := y.toNat_lt
        have key : ∀ w2 v2, Row w2 v2 (P.map bV) → ∃ b off c, v2 = .slice (some ⟨b, off, none⟩) (bs.length - 2) c ∧ bs.length - 2 ≤ c ∧ c ≤ maxLen ∧ w2.cell? ⟨b, off, none⟩ = some (bV y) ∧ Row w2 (.slice (some ⟨b, off + 1, none⟩) (bs.length - 2 - 1) (c - 1)) ((P.drop 1).map bV) := by
          intro w2 v2 hr
          obtain ⟨a2, c2, rfl, -⟩ := id hr
          obtain ⟨q1, q2, q3, q4⟩ := hr.at
          simp only [List.length_map, HP.out] at q1 q2 q4 hr ⊢
          obtain ⟨b, off, rfl, hcl⟩ := q4 0 0 (by omega)
          have c0 := hcl 0 (by omega)
          rw [HX.out] at c0
          refine ⟨b, off, c2, rfl, q2, q3, by simpa using c0, ?_⟩
          have := hr.from 1 (by omega)
          rw [← List.map_drop] at this
          exact this
        have KEY := hidden key
        clear key HX
        obtain ⟨n, hn⟩ : ∃ n, bs.length - 2 = n := ⟨_, rfl⟩
        have hn2 : 2 ≤ n := by omega
        have hn3 : n ≤ 254 := by omega
        rw [hn] at KEY
        by_cases ha : 1 ≤ y.toNat ∧ y.toNat ≤ 247
        · obtain ⟨e1, e2, e3⟩ := OKr.out ha
          rw [e1, e2, e3]
          have CA := hidden (fun w => addr_any (y.toNat : Int) w true (by simp; omega))
          clear e1 e2 e3 OKr ARr ha
          go_enter Try.func15, Try.ntmps15
          go_wp2_with fail
          refine C.out.mono ?_
          rintro e w2 ⟨v2, rfl, hr2, B2⟩
          obtain ⟨b, off, c, rfl, q2, q3, c0, hr3⟩ := KEY.out w2 v2 hr2
          unfold maxLen at q3
          clear C KEY hr2 HP
          go_wp2_with fail
          refine (CA.out _).mono ?_
          rintro e w3 ⟨rfl, rfl⟩
          go_wp2
          go_quiet (fail)
          go_wp2
          go_ret3
          exact ⟨_, rfl, (hr3.drewN _), below_drewn B2 _⟩
        · obtain ⟨e1, e2, e3⟩ := ARr.out (by omega)
          rw [e1, e2, e3]
          have CA := hidden (fun w => addr_any (y.toNat : Int) w false (by simp; omega))
          clear e1 e2 e3 OKr ARr ha
          go_enter Try.func15, Try.ntmps15
          go_wp2_with fail
          refine C.out.mono ?_
          rintro e w2 ⟨v2, rfl, hr2, B2⟩
          obtain ⟨b, off, c, rfl, q2, q3, c0, hr3⟩ := KEY.out w2 v2 hr2
          unfold maxLen at q3
          clear C KEY hr2 hr3 HP
          go_wp2_with fail
          refine (CA.out _).mono ?_
          rintro e w3 ⟨rfl, rfl⟩
          go_wp2
          go_ret3
          exact ⟨_, rfl, Row.nil _, B2⟩

set_option maxHeartbeats 1000000 in
theorem rread_any (v : Value) (bs : List UInt8) (w : World) (hv : Row w v (bs.map bV)) :
    Calls Try.prog 17 #[v] w fun e w' => ∃ v', e = .returned (.tuple #[.int .i64 (rdA bs), v', .int .i64 (rdE bs)]) ∧ Row w' v' ((rdP bs).map bV) ∧ Below w.heap.size w w' := by
  obtain ⟨av, cap, rfl, -⟩ := id hv
  obtain ⟨hl, hc, hm, -⟩ := hv.at
  simp only [List.length_map] at hl hc hv ⊢
  by_cases h0 : bs.length < 4
  · obtain ⟨e1, e2, e3⟩ := rd_short h0
    rw [e1, e2, e3]
    have z : (bs.length : Int) < 4 := by omega
    clear e1 e2 e3 hv
    go_enter Try.func17, Try.ntmps17
    go_wp2
    go_ret3
    exact ⟨_, rfl, Row.nil _, Below.refl _ _⟩
  · have z : ¬ (bs.length : Int) < 4 := by omega
    by_cases h1 : 256 < bs.length
    · obtain ⟨e1, e2, e3⟩ := rd_long h1
      rw [e1, e2, e3]
      have z2 : (256 : Int) < (bs.length : Int) := by omega
      clear e1 e2 e3 hv
      go_enter Try.func17, Try.ntmps17
      go_wp2
      go_ret3
      exact ⟨_, rfl, Row.nil _, Below.refl _ _⟩
    · have z2 : ¬ (256 : Int) < (bs.length : Int) := by omega
      have C := hidden (unseal_any _ bs w hv (by omega))
      cases hs : unsealOk bs
      · obtain ⟨e1, e2, e3⟩ := rd_sum (b := bs) (by omega) (by omega) hs
        rw [e1, e2, e3]
        rw [hs] at C
        clear e1 e2 e3 hv
        go_enter Try.func17, Try.ntmps17
        go_wp2_with fail
        refine C.out.mono ?_
        rintro e w2 ⟨v2, rfl, -, B2⟩
        go_wp2
        go_ret3
        exact ⟨_, rfl, Row.nil _, B2⟩
      · have ur : unsealR bs = bs.take (bs.length - 2) := by simp [unsealR, hs]
        rw [hs, ur] at C
        have hx : (bs.take (bs.length - 2)).getD 0 0 = bs.getD 0 0 := by
          rw [List.getD_eq_getElem?_getD, List.getElem?_take, if_pos (by omega), List.getD_eq_getElem?_getD]
        have HX := hidden hx
        have hPl : (bs.take (bs.length - 2)).length = bs.length - 2 := by simp
        have HP := hidden hPl
        have OKr := hidden (rd_ok (b := bs) (by omega) (by omega) hs)
        have ARr := hidden (rd_arg (b := bs) (by omega) (by omega) hs)
        clear hx hPl ur hs
        generalize bs.take (bs.length - 2) = P at *
        generalize hy : bs.getD 0 0 = y at *
        clear hy hv
        have hyl := y.toNat_lt
        have key : ∀ w2 v2, Row w2 v2 (P.map bV) → ∃ b off c, v2 = .slice (some ⟨b, off, none⟩) (bs.length - 2) c ∧ bs.length - 2 ≤ c ∧ c ≤ maxLen ∧ w2.cell? ⟨b, off, none⟩ = some (bV y) ∧ Row w2 (.slice (some ⟨b, off + 1, none⟩) (bs.length - 2 - 1) (c - 1)) ((P.drop 1).map bV) := by
          intro w2 v2 hr
          obtain ⟨a2, c2, rfl, -⟩ := id hr
          obtain ⟨q1, q2, q3, q4⟩ := hr.at
          simp only [List.length_map, HP.out] at q1 q2 q4 hr ⊢
          obtain ⟨b, off, rfl, hcl⟩ := q4 0 0 (by omega)
          have c0 := hcl 0 (by omega)
          rw [HX.out] at c0
          refine ⟨b, off, c2, rfl, q2, q3, by simpa using c0, ?_⟩
          have := hr.from 1 (by omega)
          rw [← List.map_drop] at this
          exact this
        have KEY := hidden key
        clear key HX
        obtain ⟨n, hn⟩ : ∃ n, bs.length - 2 = n := ⟨_, rfl⟩
        have hn2 : 2 ≤ n := by omega
        have hn3 : n ≤ 254 := by omega
        rw [hn] at KEY
        by_cases ha : 1 ≤ y.toNat ∧ y.toNat ≤ 247
        · obtain ⟨e1, e2, e3⟩ := OKr.out ha
          rw [e1, e2, e3]
          have y1 : ¬ (y.toNat : Int) < 1 := by omega
          have y2 : ¬ (247 : Int) < (y.toNat : Int) := by omega
          clear e1 e2 e3 OKr ARr ha
          go_enter Try.func17, Try.ntmps17
          go_wp2_with fail
          refine C.out.mono ?_
          rintro e w2 ⟨v2, rfl, hr2, B2⟩
          obtain ⟨b, off, c, rfl, q2, q3, c0, hr3⟩ := KEY.out w2 v2 hr2
          unfold maxLen at q3
          clear C KEY hr2 HP
          go_wp2
          go_quiet (fail)
          go_wp2
          go_ret3
          exact ⟨_, rfl, (hr3.drewN _), below_drewn B2 _⟩
        · obtain ⟨e1, e2, e3⟩ := ARr.out (by omega)
          rw [e1, e2, e3]
          have y0 : (y.toNat : Int) < 1 ∨ (¬ (y.toNat : Int) < 1 ∧ (247 : Int) < (y.toNat : Int)) := by omega
          clear e1 e2 e3 OKr ARr ha
          go_enter Try.func17, Try.ntmps17
          go_wp2_with fail
          refine C.out.mono ?_
          rintro e w2 ⟨v2, rfl, hr2, B2⟩
          obtain ⟨b, off, c, rfl, q2, q3, c0, hr3⟩ := KEY.out w2 v2 hr2
          unfold maxLen at q3
          clear C KEY hr2 hr3 HP
          rcases y0 with y0 | ⟨y0, y1⟩
          all_goals
            go_wp2
            go_ret3
            exact ⟨_, rfl, Row.nil _, B2⟩

end Go.Proofs.Ytfbmejfnblopgaa
