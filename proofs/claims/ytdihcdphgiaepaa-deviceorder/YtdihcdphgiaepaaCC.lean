/- Contracts of slices.Grow (of nothing) and slices.Concat, of bytes. -/
import Derived.Test.YtdihcdphgiaepaaG1
import Derived.Lib.AppendZeros
namespace Go.Proofs.Ytdihcdphgiaepaa
open Go.RowKit

set_option maxHeartbeats 1000000 in
theorem grow_nil (n : Int) (k : Nat) (w : World) (hn : n = (k : Int)) (h0 : 0 < k) (h1 : k ≤ 140737488355328) :
    Calls Try.prog 90 #[.slice none 0 0, .int .i64 n] w fun e w' => ∃ v', e = .returned v' ∧ w'.ownsRow w.heap.size 5 1 v' 0 [] ∧ Below w.heap.size w w' := by
  subst hn
  obtain ⟨i, hi, hz, hsz, hby⟩ := info_parts info_u8
  have hrz : ∀ ty, (Builtin.append_ #[28, 3] ty #[.slice none 0 0, .int .i64 (k : Int)]).run Try.prog w = _ := fun ty => Lib.run_append_nil_zeros w 28 3 ty 5 i _ .i64 .i64 Try.underlying28 Try.underlying3 hi hz k h0 (by omega) (by omega) (by rw [hby]; omega)
  have hGn : k ≤ grownCap w k 0 5 := grownCap_ge w _ _ _
  have hG63 := grownCap_le_maxLen w k 0 5 (by unfold maxLen; omega)
  unfold maxLen at hG63
  have hB : Hid (∀ o, Below w.heap.size w (w.drew.alloc o)) := fun o => (Below.refl w.heap.size w).drew.alloc (Nat.le_refl _) o
  have hO : Hid (∀ C : Array Value, C.size = grownCap w k 0 5 → (w.drew.alloc (.cells C 5)).ownsRow w.heap.size 5 1 (.slice (some ⟨w.heap.size, 0, none⟩) 0 (grownCap w k 0 5)) 0 []) := fun C hC =>
    ⟨rfl, .inr ⟨w.heap.size, _, C, rfl, Nat.le_refl _, heap_alloc_new w.drew _, Nat.zero_le _, by unfold maxLen; omega, by omega, by simp⟩⟩
  have hS : Hid (∀ G, k ≤ G → (Builtin.zeroCells (Value.int .u8 0).cells k ++ Builtin.zeroCells (Value.int .u8 0).cells (G - k)).size = G) := fun G hG => by
    simp [Builtin.zeroCells, Value.cells]; omega
  generalize grownCap w k 0 5 = G at *
  have t1 : ¬ ((k : Int) < 0) := by omega
  have t2 : (0 : Int) < (k : Int) := by omega
  have HG := hidden hGn
  go_enter Try.func90, Try.ntmps90
  go_wp2_with (at_builtin; refine Lib.wpList_append_run _ rfl _ _ _ _ rfl _ _ rfl rfl _ _ (hrz _) ?_)
  go_ret
  exact ⟨_, rfl, hO.out _ (hS.out _ HG.out), hB.out _⟩

/-- the first k rows, one behind the other -/
def flatTo (xss : List (List UInt8)) (k : Nat) : List UInt8 := (xss.take k).flatten
theorem flat_all (xss : List (List UInt8)) : flatTo xss xss.length = xss.flatten := by simp [flatTo]
theorem flat_take (xss : List (List UInt8)) (k : Nat) (h : k < xss.length) : flatTo xss (k + 1) = flatTo xss k ++ xss.getD k [] := by
  unfold flatTo
  rw [List.take_succ_eq_append_getElem h, List.flatten_append]; simp [List.getD_eq_getElem?_getD, h]
theorem flat_le (xss : List (List UInt8)) (k : Nat) : (flatTo xss k).length ≤ (flatTo xss xss.length).length := by
  rw [flat_all]
  have := congrArg (fun l => l.flatten.length) (List.take_append_drop k xss)
  simp only [List.flatten_append, List.length_append] at this
  unfold flatTo
  omega

set_option maxHeartbeats 1000000 in
theorem concat_any (g : Nat) (vs : List Value) (xss : List (List UInt8)) (w : World) (hg : Blk w g 28 vs) (hl : vs.length = xss.length) (hr : ∀ i, i < vs.length → ∃ v, vs[i]? = some v ∧ Row w v ((xss.getD i []).map bV)) (h0 : 0 < (flatTo xss xss.length).length) (h1 : (flatTo xss xss.length).length ≤ 1000000) (h2 : vs.length ≤ 1000) :
    Calls Try.prog 83 #[.slice (some ⟨g, 0, none⟩) vs.length vs.length] w fun e w' => ∃ v', e = .returned v' ∧ Row w' v' ((flatTo xss xss.length).map bV) ∧ Below w.heap.size w w' := by
  have hlt := hg.lt
  have HR := hidden hr
  have HL := hidden hl
  have FL := hidden (flat_le xss)
  have FT := hidden (flat_take xss)
  clear hr hl
  generalize hn : vs.length = n at *
  have HN := hidden hn
  clear hn
  go_enter Try.func83, Try.ntmps83
  go_wp2
  go_loopw [3, 11] (fun z i wr => ∃ k : Nat, k ≤ n ∧ i = .int .i64 k ∧ z = .int .i64 ((flatTo xss k).length : Nat) ∧ w = wr) (fun _ i _ => n - (intOf i).toNat)
  case atStart => exact ⟨0, Nat.zero_le _, rfl, by simp [flatTo], rfl⟩
  case round =>
    obtain ⟨k, hk, rfl, rfl, rfl⟩ := hrel
    by_cases hkn : k < n
    · obtain ⟨v, e1, e2⟩ := HR.out k hkn
      obtain ⟨a, cap, rfl, -⟩ := e2
      have c0 : w.cell? ⟨g, k, none⟩ = _ := (hg.cell k).trans e1
      have S := FT.out k (by have := HL.out; omega)
      have Le := FL.out k
      have Le2 := FL.out (k + 1)
      rw [S, List.length_append] at Le2
      have S2 := hidden S
      clear e1 S
      simp only [List.length_map] at c0
      generalize xss.getD k [] = y at *
      generalize flatTo xss k = ys at *
      have u1 : ¬ ((ys.length : Int) + (y.length : Int) < 0) := by omega
      have hkn' : (k : Int) < (n : Int) := by omega
      go_wp2
      go_roundw
      case rel =>
        refine ⟨k + 1, by omega, by go_num, ?_, trivial⟩
        rw [S2.out, List.length_append]; simp
      case measure => simp [intOf]; omega
    · obtain rfl : k = n := by omega
      have HL' := HL.out
      rw [← HL'] at h0 h1
      have T := hidden HL'
      clear HL'
      have S3 : ((flatTo xss k).length : Int) < 1000001 := by omega
      have hkn' : ¬ (k : Int) < (k : Int) := by omega
      clear hkn
      go_wp2_with fail
      refine (grow_nil _ (flatTo xss k).length _ rfl h0 (by omega)).mono ?_
      rintro e w1 ⟨v1, rfl, ho1, b1⟩
      go_wp2
      go_loopw [6, 27] (fun z i wr => ∃ j : Nat, j ≤ k ∧ i = .int .i64 j ∧ wr.ownsRow w.heap.size 5 1 z (flatTo xss j).length ((flatTo xss j).map bV) ∧ Below w.heap.size w wr) (fun _ i _ => k - (intOf i).toNat)
      case atStart => exact ⟨0, Nat.zero_le _, rfl, by simpa [flatTo] using ho1, b1⟩
      case round =>
        obtain ⟨j, hj, rfl, ho, hb⟩ := hrel
        clear ho1 b1
        by_cases hjn : j < k
        · obtain ⟨v, e1, e2⟩ := HR.out j hjn
          have R2 := e2.below hb
          obtain ⟨a, cap, rfl, -⟩ := e2
          have c0 : wr.cell? ⟨g, j, none⟩ = _ := ((hg.below hb hlt).cell j).trans e1
          have S := FT.out j (by have := HL.out; omega)
          have Le := FL.out j
          have Le2 := FL.out (j + 1)
          rw [← T.out] at Le Le2
          rw [S, List.length_append] at Le2
          have S2 := hidden S
          clear e1 S
          simp only [List.length_map] at c0 R2
          generalize xss.getD j [] = y at *
          generalize flatTo xss j = ys at *
          have hjn' : (j : Int) < (k : Int) := by omega
          have hsz := hb.size
          go_wp2_with (at_builtin; refine wpList_app rfl (.tmp 31) (.tmp 32) 28 rfl w.heap.size 5 (.int .u8 0) 1 Try.underlying28 info_u8 rfl rfl ho rfl R2 ?k0 ?k1 ?k2 ?k3 ?_)
          case k0 => exact one_bytes y
          case k1 => simp [maxLen]; omega
          case k2 => simp; omega
          case k3 => exact hsz
          intro v2 w2 ho2 hg2
          have q := hb.grown hg2 hsz (fun k hk => (ho.lt k hk).1)
          go_wp2
          go_roundw
          case rel =>
            refine ⟨j + 1, by omega, by go_num, ?_, q⟩
            rw [S2.out, List.length_append]
            simpa using ho2
          case measure => simp [intOf]; omega
        · obtain rfl : j = k := by omega
          have hjn' : ¬ (j : Int) < (j : Int) := by omega
          clear hjn
          go_wp2
          go_ret
          rw [← T.out]
          exact ⟨_, rfl, Row.of_owns ho, hb⟩

end Go.Proofs.Ytdihcdphgiaepaa
