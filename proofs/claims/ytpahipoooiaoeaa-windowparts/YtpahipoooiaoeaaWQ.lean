/- The walk of burgagelaw10.WindowParts. -/
import Derived.Test.YtpahipoooiaoeaaWP
namespace Go.Proofs.Ytpahipoooiaoeaa
open Go.RowKit

theorem covF_all (l : SL) : ∀ (f : Nat) (a n : Int) (c : SL), n.toNat ≤ f → covF l f a n = some c → ∀ t, a ≤ t → t < a + n → ∃ y ∈ c, y.1 ≤ t ∧ t < y.1 + y.2
  | 0, a, n, c, hf, h, t, h1, h2 => by omega
  | f + 1, a, n, c, hf, h, t, h1, h2 => by
    unfold covF at h
    rw [if_neg (by omega)] at h
    split at h
    · cases h
    · rename_i x hx
      have hp := pcN_pos (fnd_has hx).1 (by omega : 0 < n)
      cases e : covF l f (a + pcN x a n) (n - pcN x a n) with
      | none => rw [e] at h; cases h
      | some d =>
        rw [e] at h
        cases h
        by_cases g : t < a + pcN x a n
        · exact ⟨_, List.mem_cons_self, h1, g⟩
        · obtain ⟨y, hy, q⟩ := covF_all l f _ _ d (by omega) e t (by omega) (by omega)
          exact ⟨y, List.mem_cons_of_mem _ hy, q⟩
theorem covF_gap (l : SL) : ∀ (f : Nat) (a n : Int), n.toNat ≤ f → covF l f a n = none → ∃ t, a ≤ t ∧ t < a + n ∧ fnd l t = none
  | 0, a, n, hf, h => by unfold covF at h; cases h
  | f + 1, a, n, hf, h => by
    unfold covF at h
    split at h
    · cases h
    · split at h
      · rename_i hn hx
        exact ⟨a, Int.le_refl _, by omega, hx⟩
      · rename_i hn x hx
        have hp := pcN_pos (fnd_has hx).1 (by omega : 0 < n)
        cases e : covF l f (a + pcN x a n) (n - pcN x a n) with
        | some d => rw [e] at h; cases h
        | none =>
          obtain ⟨t, q1, q2, q3⟩ := covF_gap l f _ _ (by omega) e
          exact ⟨t, by omega, by omega, q3⟩
theorem at1_fnd (ws : WL) (s t : Int) : (at1 ws s t).isSome = (fnd (virt (sel s ws)) t).isSome := by
  rw [fnd_virt]; unfold at1; cases (sel s ws).find? (fun x => hasB (vS x) t) <;> rfl
/-- what a map of a span says, piece by piece -/
theorem map_facts {t : Nat} {ws : WL} (h : GW t ws) {s a k : Int} (h0 : 0 ≤ a) (h1 : a ≤ 63) (h2 : 1 ≤ k) (h3 : k ≤ 32) :
    ((mapE ws s a k).isSome = true ↔ ∀ c, a ≤ c → c < a + k → (at1 ws s c).isSome = true) ∧
    ∀ ps, mapE ws s a k = some ps → (∀ y ∈ ps, 0 ≤ y.1 ∧ 1 ≤ y.2.2 ∧ y.1 + y.2.2 ≤ 95 ∧ 0 ≤ y.2.1 ∧ y.2.1 ≤ 512) ∧
      ∀ c x, a ≤ c → c < a + k → at1 ws s c = some x → ∃ y ∈ ps, y.1 ≤ c ∧ c < y.1 + y.2.2 ∧ ph x c = y.2.1 + c - y.1 := by
  have hk : tk a k = true := tk_iff.2 (by omega)
  have hv := (virt_ok (sel_ok s ws)).2
  have e : mapE ws s a k = (cov (virt (sel s ws)) a k).map (lay (sel s ws)) := by
    unfold mapE covR
    rw [hk, hv]
    rfl
  rw [e]
  have key : ∀ c, cov (virt (sel s ws)) a k = some c → ∀ y ∈ c, ∃ x, at1 ws s y.1 = some x ∧ 1 ≤ y.2 ∧ y.1 + y.2 ≤ x.2.1 + x.2.2.2 ∧ a ≤ y.1 ∧ y.1 + y.2 ≤ a + k := by
    intro c hc y hy
    obtain ⟨z, q1, q2, q3, q4, q5⟩ := covF_mem _ _ _ _ _ hc y hy
    rw [fnd_virt] at q1
    obtain ⟨x, hx, rfl⟩ := Option.map_eq_some_iff.1 q1
    exact ⟨x, hx, q2, q3, q4, q5⟩
  constructor
  · constructor
    · intro hs c hc1 hc2
      cases ec : cov (virt (sel s ws)) a k with
      | none => rw [ec] at hs; cases hs
      | some d =>
        obtain ⟨y, hy, g1, g2⟩ := covF_all _ _ _ _ _ (Nat.le_refl _) ec c hc1 hc2
        obtain ⟨x, q1, q2, q3, q4, q5⟩ := key d ec y hy
        have g := hasB_iff.1 (at1_mem q1).2
        simp only at g
        cases ea : at1 ws s c with
        | some z => rfl
        | none =>
          have := List.find?_eq_none.1 ea x (at1_mem q1).1
          exact absurd (hasB_iff.2 (by simp only; omega)) this
    · intro hall
      cases ec : cov (virt (sel s ws)) a k with
      | some d => rfl
      | none =>
        obtain ⟨c, g1, g2, g3⟩ := covF_gap _ _ _ _ (Nat.le_refl _) ec
        have := hall c g1 g2
        rw [at1_fnd, g3] at this
        cases this
  · intro ps hps
    obtain ⟨d, hd, rfl⟩ := Option.map_eq_some_iff.1 hps
    have kl : ∀ y ∈ d, ∃ x, at1 ws s y.1 = some x ∧ liesI (sel s ws) y.1 = ph x y.1 := by
      intro y hy
      obtain ⟨x, q1, -⟩ := key d hd y hy
      refine ⟨x, q1, ?_⟩
      unfold liesI ph
      unfold at1 at q1
      rw [q1]
    refine ⟨fun y hy => ?_, fun c x hc1 hc2 hx => ?_⟩
    · obtain ⟨z, hz, rfl⟩ := List.mem_map.1 hy
      obtain ⟨x, q1, q2, q3, q4, q5⟩ := key d hd z hz
      obtain ⟨x', p1, p2⟩ := kl z hz
      rw [q1] at p1
      cases p1
      have g := hasB_iff.1 (at1_mem q1).2
      have gr := wR_all (sel_mem (at1_mem q1).1).2.1
      simp only at g
      simp only [p2]
      unfold ph
      omega
    · obtain ⟨y, hy, g1, g2⟩ := covF_all _ _ _ _ _ (Nat.le_refl _) hd c hc1 hc2
      obtain ⟨x', p1, p2⟩ := kl y hy
      obtain ⟨x2, q1, q2, q3, q4, q5⟩ := key d hd y hy
      rw [q1] at p1
      cases p1
      have g := hasB_iff.1 (at1_mem q1).2
      simp only at g
      obtain rfl := sel_oneV h (at1_mem hx).1 (at1_mem q1).1 (at1_mem hx).2 (hasB_iff.2 (by simp only; omega))
      refine ⟨_, List.mem_map.2 ⟨y, hy, rfl⟩, g1, g2, ?_⟩
      simp only [p2]
      unfold ph
      omega
/-- what the law asks of a piece -/
def sayB (c P : Int) (y : PN) : Bool := decide (y.1 ≤ c) && (decide (c < y.1 + y.2.2) && decide (P = y.2.1 + c - y.1))

set_option maxRecDepth 100000 in
set_option maxHeartbeats 8000000 in
theorem parts_law (at' : Option Addr) (m cap : Nat) (l : List Int) (i sp ai ni : Int) (w : World) (h : Row w (.slice at' m cap) (l.map iV)) (hi : ∀ x ∈ l, -9223372036854775808 ≤ x ∧ x ≤ 9223372036854775807) :
    Calls Try.prog 6 #[.slice at' m cap, .int .i64 i, .int .i64 sp, .int .i64 ai, .int .i64 ni] w fun e w' => e = .returned (.bool true) ∧ Below w.heap.size w w' := by
  obtain ⟨x1, e1, b1⟩ := mask_any i 2 (by omega) 3 rfl
  obtain ⟨s, e2, b2⟩ := mask_any sp 2 (by omega) 3 rfl
  obtain ⟨a, e3, b3⟩ := mask_any ai 6 (by omega) 63 rfl
  obtain ⟨k0, e4, b4⟩ := mask_any ni 5 (by omega) 31 rfl
  go_enter Try.func6, Try.ntmps6
  go_wp2_with fail
  refine (windows_law at' m cap l x1 _ h hi (by omega)).mono ?_
  rintro e w1 ⟨v, rfl, ⟨ws, t, W, ht, gw⟩, B1⟩
  have hW := gw.wr ht
  have hO := hidden (gw.okw ht)
  have GWH := hidden gw
  have ll : ws.length ≤ 1000000 := Nat.le_trans gw.len (by omega)
  obtain ⟨av, cv, rfl, -⟩ := id W
  have HW := hidden W
  have HB := hidden B1
  obtain ⟨k, hk⟩ : ∃ k : Nat, 1 + k0 = k := ⟨_, rfl⟩
  have ek : (1 : Int) + (k0 : Int) = (k : Int) := by omega
  have k1 : 1 ≤ k := by omega
  have k32 : k ≤ 32 := by omega
  obtain ⟨MF1, MF2⟩ := map_facts gw (s := s) (a := a) (k := k) (by omega) (by omega) (by omega) (by omega)
  have C := hidden (fun w' h => map_any (.slice av ws.length cv) ws s a k w' h hO.out (by unfold i64; omega) ll)
  generalize mapE ws s a k = E at *
  have HM1 := hidden MF1
  have HM2 := hidden MF2
  clear W B1 hW gw e1 h hi MF1 MF2 hk b4
  go_wp2_with fail
  refine (C.out _ HW.out).mono ?_
  rintro e w2 ⟨vp, rfl, PP, -, B2⟩
  replace HW := hidden (HW.out.ext B2)
  replace HB := hidden (below_then HB.out B2)
  obtain ⟨ps, hps⟩ : ∃ ps, E.getD [] = ps := ⟨_, rfl⟩
  rw [hps] at PP
  obtain ⟨ap, cp, rfl, -⟩ := id PP
  obtain ⟨-, pc, pm, -⟩ := PP.at
  unfold maxLen at pm
  have HP := hidden PP
  have HPB : Hid (∀ y ∈ ps, 0 ≤ y.1 ∧ 1 ≤ y.2.2 ∧ y.1 + y.2.2 ≤ 95 ∧ 0 ≤ y.2.1 ∧ y.2.1 ≤ 512) := by
    intro y hy
    cases E with
    | none => simp at hps; subst hps; cases hy
    | some qs => simp at hps; subst hps; exact (HM2.out _ rfl).1 y hy
  have HPS := hidden hps
  clear e2 e3 e4 hps PP B2 C
  cases hE : E.isSome
  all_goals
    have HE0 := hidden hE
    clear hE
    go_wp2
    clear ek
    go_loopw [17, 18] (fun z17 z18 wr => ∃ (j n : Nat), z17 = .int .i64 n ∧ z18 = .int .i64 ((a : Int) + j) ∧ j ≤ k ∧ n ≤ j ∧ Hid (n = j ↔ ∀ t : Nat, t < j → (at1 ws s ((a : Int) + t)).isSome = true) ∧ Below w2.heap.size w2 wr) (fun _ z => fun _ => ((a : Int) + k - intOf z).toNat)
    case atStart => exact ⟨0, 0, rfl, by simp, by omega, by omega, hidden (by simp), Below.refl _ _⟩
    case round =>
      obtain ⟨j, n, rfl, rfl, hj, hn, HN, hb⟩ := hrel
      by_cases hlt : j < k
      · have d1 : decide ((a : Int) + j < (a : Int) + k) = true := by simp; omega
        obtain ⟨c, hc⟩ : ∃ c, c = (a : Int) + j := ⟨_, rfl⟩
        rw [← hc] at d1
        have hcb : 0 ≤ c ∧ c ≤ 94 := by omega
        have hca : (a : Int) ≤ c ∧ c < (a : Int) + k := by omega
        have M1 := map_one ws s c (by omega) (by omega)
        have C := hidden (fun w' h => map_any (.slice av ws.length cv) ws s c 1 w' h hO.out (by unfold i64; omega) ll)
        rw [M1] at C
        clear M1
        have HC := hidden hc
        have HJ : Hid (c + 1 = (a : Int) + ((j + 1 : Nat) : Int)) := by show _ = _; omega
        rw [← hc]
        clear hc
        cases ea : at1 ws s c with
        | none =>
          rw [ea] at C
          have HN2 : Hid (n = j + 1 ↔ ∀ t : Nat, t < j + 1 → (at1 ws s ((a : Int) + t)).isSome = true) := by
            constructor
            · intro e; omega
            · intro hh
              have := hh j (by omega)
              rw [← HC.out, ea] at this
              cases this
          simp only [Option.map_none, Option.isSome_none, Option.getD_none] at C
          go_wp2_with fail
          refine (C.out _ (HW.out.ext hb)).mono ?_
          rintro e w3 ⟨v3, rfl, -, -, B3⟩
          go_wp2
          go_roundw
          case rel => exact ⟨j + 1, n, rfl, by rw [← HJ.out], by omega, by omega, HN2, below_then hb B3⟩
          case measure => have := HC.out; simp only [intOf]; omega
        | some x =>
          rw [ea] at C
          simp only [Option.map_some, Option.isSome_some, Option.getD_some] at C
          have HN2 : Hid (n + 1 = j + 1 ↔ ∀ t : Nat, t < j + 1 → (at1 ws s ((a : Int) + t)).isSome = true) := by
            constructor
            · intro e t ht
              by_cases g : t < j
              · exact (HN.out.1 (by omega)) t g
              · have : t = j := by omega
                subst this
                rw [← HC.out, ea]; rfl
            · intro hh
              have := HN.out.2 (fun t ht => hh t (by omega))
              omega
          have HHIT : Hid (E.isSome = true → ps.any (sayB c (ph x c)) = true) := by
            intro he
            cases E with
            | none => cases he
            | some qs =>
              have := HPS.out
              simp at this
              subst this
              obtain ⟨y, hy, g1, g2, g3⟩ := (HM2.out _ rfl).2 c x hca.1 hca.2 ea
              exact List.any_eq_true.2 ⟨y, hy, by unfold sayB; simp [g1, g2, g3]⟩
          have hxr := wR_all ((sel_mem (at1_mem ea).1).2.1)
          have hxh := hasB_iff.1 (at1_mem ea).2
          simp only at hxh
          have hpb : 0 ≤ ph x c ∧ ph x c < 512 := by unfold ph; omega
          clear ea hxr hxh HN
          generalize ph x c = P at *
          go_wp2_with fail
          refine (C.out _ (HW.out.ext hb)).mono ?_
          rintro e w3 ⟨v3, rfl, P3, -, B3⟩
          replace hb := below_then hb B3
          obtain ⟨a3, c3, rfl, -⟩ := id P3
          obtain ⟨pb, po, rfl, p0, p1, p2⟩ := P3.pn (i := 0) rfl
          obtain ⟨-, pc3, pm3, -⟩ := P3.at
          simp only [Nat.zero_mul, Nat.add_zero, List.length_cons, List.length_nil, Nat.zero_add] at p0 p1 p2 pc3 pm3 ⊢
          have lpb := lt_of_cell p1
          clear p0 p2 B3 P3
          obtain ⟨wo, hwo⟩ : ∃ wo, wo = wr := ⟨_, rfl⟩
          subst hwo
          go_wp2
          go_loopw [21, 64] (fun z21 z64 wr => ∃ (q : Nat), z21 = .bool ((ps.take q).any (sayB c P)) ∧ z64 = .int .i64 q ∧ q ≤ ps.length ∧ Below w3.heap.size w3 wr) (fun _ z _ => ps.length - (intOf z).toNat)
          case atStart => exact ⟨0, rfl, rfl, Nat.zero_le _, Below.refl _ _⟩
          case round =>
            obtain ⟨q, rfl, rfl, hq, hb3⟩ := hrel
            by_cases hlq : q < ps.length
            · obtain ⟨⟨f1, f2, f3⟩, hy⟩ := getx hlq
              obtain ⟨pb2, po2, rfl, y0, y1, y2⟩ := (HP.out.ext (below_then hb hb3)).pn hy
              obtain ⟨f1a, f3a, f13, f2a, f2b⟩ := HPB.out _ (List.mem_of_getElem? hy)
              have hlq' : (q : Int) < (ps.length : Int) := by omega
              have HS := hidden (any_snoc hy (sayB c P))
              have E2 : sayB c P (f1, f2, f3) = (decide (f1 ≤ c) && (decide (c < f1 + f3) && decide (P = f2 + c - f1))) := rfl
              rw [E2] at HS
              clear E2
              simp only at f1a f3a f13 f2a f2b
              have r1 : wr.cell? ⟨pb, po + 1, none⟩ = some (.int .i64 P) := by
                rw [hb3.cell (p := ⟨pb, po + 1, none⟩) lpb]; exact p1
              have xb := Blk.new wr 36 [.int .i64 f1, .int .i64 f2, .int .i64 f3]
              have BB := hb3.alloc hb3.size (.cells #[.int .i64 f1, .int .i64 f2, .int .i64 f3] 36)
              have r2 : (wr.alloc (.cells #[.int .i64 f1, .int .i64 f2, .int .i64 f3] 36)).cell? ⟨pb, po + 1, none⟩ = some (.int .i64 P) := by
                rw [BB.cell (p := ⟨pb, po + 1, none⟩) lpb]; exact p1
              have z0 : (wr.alloc (.cells #[.int .i64 f1, .int .i64 f2, .int .i64 f3] 36)).cell? ⟨wr.heap.size, 0, none⟩ = some (.int .i64 f1) := xb.cell 0
              have z1 : (wr.alloc (.cells #[.int .i64 f1, .int .i64 f2, .int .i64 f3] 36)).cell? ⟨wr.heap.size, 1, none⟩ = some (.int .i64 f2) := xb.cell 1
              have z2 : (wr.alloc (.cells #[.int .i64 f1, .int .i64 f2, .int .i64 f3] 36)).cell? ⟨wr.heap.size, 2, none⟩ = some (.int .i64 f3) := xb.cell 2
              generalize (ps.take q).any (sayB c P) = fl at *
              cases fl
              · by_cases g1 : f1 ≤ c
                · by_cases g2 : c < f1 + f3
                  · by_cases g3 : P = f2 + c - f1
                    · have d2 : decide (f1 ≤ c) = true := by simpa using g1
                      have d3 : decide (c < f1 + f3) = true := by simpa using g2
                      have d4 : (P == f2 + c - f1) = true := by simpa using g3
                      have HE : Hid ((ps.take (q + 1)).any (sayB c P) = true) := by show _ = _; rw [HS.out, decide_eq_true g1, decide_eq_true g2, decide_eq_true g3]; rfl
                      clear g3
                      go_wp2
                      go_quiet (fail)
                      go_wp2
                      go_roundw
                      case rel => exact ⟨q + 1, by rw [HE.out], by go_num, by omega, below_drewn BB _⟩
                      case measure => simp [intOf]; omega
                    · have d2 : decide (f1 ≤ c) = true := by simpa using g1
                      have d3 : decide (c < f1 + f3) = true := by simpa using g2
                      have d4 : (P == f2 + c - f1) = false := by simpa using g3
                      have HE : Hid ((ps.take (q + 1)).any (sayB c P) = false) := by show _ = _; rw [HS.out, decide_eq_true g1, decide_eq_true g2, decide_eq_false g3]; rfl
                      go_wp2
                      go_quiet (fail)
                      go_wp2
                      go_roundw
                      case rel => exact ⟨q + 1, by rw [HE.out], by go_num, by omega, below_drewn BB _⟩
                      case measure => simp [intOf]; omega
                  · have d2 : decide (f1 ≤ c) = true := by simpa using g1
                    have d3 : decide (c < f1 + f3) = false := by simp; omega
                    have HE : Hid ((ps.take (q + 1)).any (sayB c P) = false) := by show _ = _; rw [HS.out, decide_eq_true g1, decide_eq_false g2]; rfl
                    go_wp2
                    go_quiet (fail)
                    go_wp2
                    go_roundw
                    case rel => exact ⟨q + 1, by rw [HE.out], by go_num, by omega, below_drewn BB _⟩
                    case measure => simp [intOf]; omega
                · have d2 : decide (f1 ≤ c) = false := by simp; omega
                  have HE : Hid ((ps.take (q + 1)).any (sayB c P) = false) := by show _ = _; rw [HS.out, decide_eq_false g1]; rfl
                  go_wp2
                  go_quiet (fail)
                  go_wp2
                  go_roundw
                  case rel => exact ⟨q + 1, by rw [HE.out], by go_num, by omega, below_drewn BB _⟩
                  case measure => simp [intOf]; omega
              · have HE : Hid ((ps.take (q + 1)).any (sayB c P) = true) := by show _ = _; rw [HS.out]; rfl
                go_wp2
                go_quiet (fail)
                go_wp2
                go_roundw
                case rel => exact ⟨q + 1, by rw [HE.out], by go_num, by omega, below_drewn BB _⟩
                case measure => simp [intOf]; omega
            · have e : ps.take q = ps := List.take_of_length_le (by omega)
              rw [e]
              have hbb := below_then hb hb3
              clear hb hb3 lpb p1
              generalize ps.any (sayB c P) = fl at *
              have HHD : E.isSome = false ∨ fl = true := by
                cases g : E.isSome
                · exact .inl rfl
                · exact .inr (HHIT.out g)
              rcases HHD with g1 | rfl
              · first
                | (exfalso; have := HE0.out; rw [g1] at this; cases this; done)
                | (clear g1
                   go_wp2
                   go_roundw
                   case rel => exact ⟨j + 1, n + 1, by go_num, by rw [← HJ.out], by omega, by omega, HN2, hbb⟩
                   case measure => have := HC.out; simp only [intOf]; omega)
              · go_wp2
                go_roundw
                case rel => exact ⟨j + 1, n + 1, by go_num, by rw [← HJ.out], by omega, by omega, HN2, hbb⟩
                case measure => have := HC.out; simp only [intOf]; omega
      · have hjk : j = k := by omega
        subst hjk
        have d1 : decide ((a : Int) + j < (a : Int) + j) = false := by simp
        have hiff : E.isSome = true ↔ n = j := by
          rw [HM1.out, HN.out]
          constructor
          · intro hh t ht
            exact hh _ (by omega) (by omega)
          · intro hh c h1 h2
            have := hh (c - a).toNat (by omega)
            have e : (a : Int) + ((c - a).toNat : Int) = c := by omega
            rw [e] at this
            exact this
        have H2 := hidden hb
        clear hb
        have hd : (E.isSome = true ∧ n = j) ∨ (E.isSome = false ∧ ((n : Int) == (j : Int)) = false) := by
          cases hE : E.isSome
          · right
            refine ⟨rfl, ?_⟩
            rw [beq_eq_false_iff_ne]
            intro e
            have := hiff.2 (by omega)
            rw [hE] at this
            cases this
          · exact .inl ⟨rfl, hiff.1 hE⟩
        clear hiff
        rcases hd with ⟨g1, rfl⟩ | ⟨g1, d2⟩
        · first
          | (exfalso; have := HE0.out; rw [g1] at this; cases this; done)
          | (clear g1
             go_wp2_with fail
             refine (known_law _).mono ?_
             rintro e w4 ⟨rfl, B4⟩
             have B5 := hidden (below_then HB.out (below_then H2.out B4))
             clear B4
             go_wp2
             go_ret
             exact ⟨rfl, B5.out⟩)
        · first
          | (exfalso; have := HE0.out; rw [g1] at this; cases this; done)
          | (clear g1
             go_wp2_with fail
             refine (known_law _).mono ?_
             rintro e w4 ⟨rfl, B4⟩
             have B5 := hidden (below_then HB.out (below_then H2.out B4))
             clear B4
             go_wp2
             go_ret
             exact ⟨rfl, B5.out⟩)

end Go.Proofs.Ytpahipoooiaoeaa
