/- The statements' own tape and windows. -/
import Derived.Test.YtpahipoooiaoeaaWJ
import Derived.Test.YtpahipoooiaoeaaWH
namespace Go.Proofs.Ytpahipoooiaoeaa
open Go.RowKit

theorem info_int10 : (Try.prog.info? 3).map (fun i => (i.zero, i.size, i.bytes)) = some (some (.int .i64 0), 1, 8) := by kernel_rfl
set_option maxRecDepth 100000 in
set_option maxHeartbeats 1000000 in
theorem tape_law10 (k : Nat) (w : World) (hk : k ≤ 1000) :
    Calls Try.prog 8 #[.int .i64 k] w fun e w' => ∃ v', e = .returned v' ∧ ∃ l : List Int, Row w' v' (l.map iV) ∧ (∀ x ∈ l, -9223372036854775808 ≤ x ∧ x ≤ 9223372036854775807) ∧ Below w.heap.size w w' := by
  go_enter Try.func8, Try.ntmps8
  go_wp2
  go_loopw [3, 4] (fun z i wr => ∃ (j : Nat) (l : List Int), j ≤ 900 ∧ i = .int .i64 j ∧ wr.ownsRow w.heap.size 3 1 z j (l.map iV) ∧ Hid (∀ x ∈ l, -9223372036854775808 ≤ x ∧ x ≤ 9223372036854775807) ∧ Below w.heap.size w wr) (fun _ i _ => 900 - (intOf i).toNat)
  case atStart => exact ⟨0, [], by omega, rfl, World.ownsRow_nil _ _ _ _, fun x hx => by simp at hx, Below.refl _ _⟩
  case round =>
    obtain ⟨j, l, hj, rfl, ho, HL, hb⟩ := hrel
    have hz := hb.size
    by_cases hlt : j < 900
    · have hlt' : (j : Int) < 900 := by omega
      have p1 : (j : Int) * j ≤ 810000 := by
        have := Nat.mul_le_mul hj hj
        have e : ((j * j : Nat) : Int) = (j : Int) * j := by simp
        omega
      have p0 : 0 ≤ (j : Int) * j := by
        have e : ((j * j : Nat) : Int) = (j : Int) * j := by simp
        omega
      have p3 : (j : Int) * k ≤ 900000 := by
        have := Nat.mul_le_mul hj hk
        have e : ((j * k : Nat) : Int) = (j : Int) * k := by simp
        omega
      have p2 : 0 ≤ (j : Int) * k := by
        have e : ((j * k : Nat) : Int) = (j : Int) * k := by simp
        omega
      obtain ⟨t, ht⟩ : ∃ t, ((j : Int) * j * 7 + (k : Int) * 47 + (j : Int) * k) % 211 = t := ⟨_, rfl⟩
      have t0 : 0 ≤ t := by omega
      have t1 : t ≤ 210 := by omega
      have RN := row_new wr [.int .i64 t] 3 1 rfl (by decide)
      go_wp2_with (at_builtin; refine wpList_app rfl (.tmp 9) (.tmp 22) 24 rfl w.heap.size 3 (.int .i64 0) 8 Try.underlying24 info_int10 rfl rfl (ho.alloc _) rfl RN (by intro u hu; simp at hu; subst hu; rfl) (by simp [maxLen]; omega) (by simp; omega) (by simp; omega) ?_)
      intro v7 w7 ho7 hg7
      have B7 := (hb.alloc hz (.cells #[.int .i64 t] 3)).grown hg7 (by simp; omega) (fun k hk => (ho.lt k hk).1)
      clear ht p0 p1 p2 p3 RN
      go_wp2
      go_roundw
      case rel => exact ⟨j + 1, l ++ [t], by omega, by go_num, by simpa using ho7, fun y hy => by
        rcases List.mem_append.1 hy with h | h
        · exact HL.out y h
        · simp at h; omega, B7⟩
      case measure => simp [intOf]; omega
    · have hlt' : ¬ (j : Int) < 900 := by omega
      go_wp2
      go_ret
      exact ⟨_, rfl, l, Row.of_owns ho, HL.out, hb⟩

theorem tap_new (w : World) (a : Option Addr) (n cap : Nat) (l : List Int) (h : Row w (.slice a n cap) (l.map iV)) (hi : ∀ x ∈ l, -9223372036854775808 ≤ x ∧ x ≤ 9223372036854775807) :
    Tap (w.heap.size + 1) (w.alloc (.cells #[.slice a n cap, .int .i64 0] 47)) w.heap.size l := by
  have hb : Below w.heap.size w (w.alloc (.cells #[.slice a n cap, .int .i64 0] 47)) := (Below.refl _ _).alloc (Nat.le_refl _) _
  refine ⟨⟨.slice a n cap, 0, Nat.zero_le _, Blk.new w 47 [.slice a n cap, .int .i64 0], h.below hb, ?_⟩, fun i hl => ?_, by omega⟩
  · by_cases h0 : l = []
    · left; rw [h0]; rfl
    · right
      intro a' n' c' e
      simp only [Value.slice.injEq] at e
      obtain ⟨rfl, -, -⟩ := e
      obtain ⟨a2, cap2, e, -, -, -, h4⟩ := h
      simp only [Value.slice.injEq] at e
      obtain ⟨rfl, -, -⟩ := e
      rcases h4 with h4 | ⟨b, off, e, hc⟩
      · exact absurd (by simpa using h4) h0
      · cases e
        have hp : 0 < (l.map iV).length := by rw [List.length_map]; exact List.length_pos_iff.2 h0
        have := hc 0 hp
        rw [List.getElem?_eq_getElem hp] at this
        have := lt_of_cell this
        exact ⟨by simp only; omega, by simp only; omega⟩
  · have : l.getD i 0 ∈ l := by
      rw [List.getD_eq_getElem?_getD, List.getElem?_eq_getElem hl]; exact List.getElem_mem hl
    exact hi _ this

set_option maxRecDepth 100000 in
set_option maxHeartbeats 4000000 in
theorem windows_law (a : Option Addr) (m cap : Nat) (l : List Int) (i : Nat) (w : World) (h : Row w (.slice a m cap) (l.map iV)) (hi : ∀ x ∈ l, -9223372036854775808 ≤ x ∧ x ≤ 9223372036854775807) (hn : i ≤ 1000) :
    Calls Try.prog 7 #[.slice a m cap, .int .i64 i] w fun e w' => ∃ v', e = .returned v' ∧ (∃ ws, ∃ t : Nat, Wns w' v' ws ∧ t ≤ 3 ∧ GW t ws) ∧ Below w.heap.size w w' := by
  have T0 := hidden (tap_new w a m cap l h hi)
  have B0 := hidden ((Below.refl w.heap.size w).alloc (Nat.le_refl _) (.cells #[.slice a m cap, .int .i64 0] 47))
  have S1 : Hid (w.heap.size + 1 ≤ (w.alloc (.cells #[.slice a m cap, .int .i64 0] 47)).heap.size) := by show _ ≤ _; rw [World.size_alloc]; omega
  clear h hi
  go_enter Try.func7, Try.ntmps7
  go_wp2_with fail
  refine (table_any _ _ l _ T0.out S1.out).mono ?_
  rintro e w1 ⟨vt, fr, rfl, ⟨n, n0, n4, TN⟩, D1⟩
  have B1 : Below w.heap.size w w1 := B0.out.trans (D1.below (by have := S1.out; omega) (Nat.le_refl _))
  clear T0 B0 S1 D1
  obtain ⟨b, ct, rfl, hc, hm, hj⟩ := TN
  unfold maxLen at hm
  have hlt : i % n < n := Nat.mod_lt _ n0
  obtain ⟨vw, ws, cw, W, gw⟩ := hj (i % n) hlt
  clear hj
  have E := (Below.refl w1.heap.size w1).alloc (Nat.le_refl _) (.cells #[.int .i64 fr, .slice (some ⟨b, 0, none⟩) n ct] 44)
  replace W := W.ext E
  have X := Blk.new w1 44 [.int .i64 fr, .slice (some ⟨b, 0, none⟩) n ct]
  have x1 := X.cell 1
  simp only [List.getElem?_cons_succ, List.getElem?_cons_zero] at x1
  have cw2 : (w1.alloc (.cells #[.int .i64 fr, .slice (some ⟨b, 0, none⟩) n ct] 44)).cell? ⟨b, (i % n) * 5 + 3, none⟩ = some vw := by
    rw [E.cell (p := ⟨b, (i % n) * 5 + 3, none⟩) (lt_of_cell cw)]; exact cw
  have B2 := below_then B1 E
  obtain ⟨av, cv, rfl, -⟩ := id W
  have er : (i : Int).tmod (n : Int) = ((i % n : Nat) : Int) := by
    rw [Int.tmod_eq_emod_of_nonneg (by omega)]; simp
  have hn0 : ((n : Int) == 0) = false := by rw [beq_eq_false_iff_ne]; omega
  have h7 : ((i % n : Nat) : Int) < (n : Int) := by omega
  clear cw E B1 X
  go_wp2
  go_quiet (fail)
  go_wp2
  go_ret
  exact ⟨_, rfl, ⟨ws, i % n, W.drewN _, by omega, gw⟩, below_drewn B2 _⟩

end Go.Proofs.Ytpahipoooiaoeaa
