/- The developers' readBits and readVals as one; clones of rows that begin anywhere; what is done of a request, by function. -/
import Derived.Test.YtdihcdphgiaepaaH2
import Derived.Deep.Cut
namespace Go.Proofs.Ytdihcdphgiaepaa
open Go.RowKit

theorem DD.kp {F : Nat → Prop} {w w' : World} {g gs lo hi n : Nat} {d : Dv} (h : DD w g gs lo hi n d) (k : Kp F w w') (hF : ∀ i, Gd g lo hi i → ¬ F i) : DD w' g gs lo hi n d :=
  ⟨h.blk.kp k (hF g (.inl rfl)), h.sto.kp k (fun i hi' => hF i (.inr hi')), h.off⟩
def rdB (n : Nat) (d : Dv) (f sp a c : Int) : Rp × Dv := if okB n sp a c = true then (⟨f, 0, 0, 0, 0, getB n d.s sp a c, [], 0, 0, []⟩, d) else refD d f 2
def rdV (n : Nat) (d : Dv) (f sp a c : Int) : Rp × Dv := if okV n sp a c = true then (⟨f, 0, 0, 0, 0, [], getV n d.s sp a c, 0, 0, []⟩, d) else refD d f 2
theorem row_cell {w : World} {b o c : Nat} {x : Value} (h : Row w (.slice (some ⟨b, o, none⟩) 1 c) [x]) : w.cell? ⟨b, o, none⟩ = some x := by
  obtain ⟨b', o', c', e, hc⟩ := row_one h
  simp only [Value.slice.injEq, Option.some.injEq, Addr.mk.injEq] at e
  obtain ⟨⟨rfl, rfl, -⟩, -⟩ := e
  exact hc
theorem gd_no {g lo hi b : Nat} (h1 : g < b) (h2 : hi ≤ b) : ¬ Gd g lo hi b := by
  rintro (x | x)
  · omega
  · have := x.2; omega
theorem fits0 (n : Nat) : fits n 0 0 = true := fits_t (by omega)
theorem vreadB_any (g gs lo hi n : Nat) (dv : Dv) (f sp a c p s : Int) (bs : List Bool) (vs : List UInt16) (m o : UInt16) (v : Value) (w : World) (D : DD w g gs lo hi n dv) (h : IsRqF (Gd g lo hi) w v ⟨f, a, c, p, s, bs, vs, m, o⟩) (hm : 0 ≤ dv.msgs ∧ dv.msgs ≤ 100000000000000001 ∧ 0 ≤ dv.flts ∧ dv.flts ≤ 100000000000000001)
    (hn : (0 ≤ a ∧ a ≤ 65535) ∧ (0 ≤ c ∧ c ≤ 65535)) (X : Rp × Dv) (hX : rdB n dv f sp a c = X) :
    Calls Try.prog 50 #[ptrG g, .int .i64 sp, v] w fun e w' => ∃ v', e = .returned v' ∧ NRp w.heap.size w' v' (X).1 ∧ DD w' g gs lo hi n (X).2 ∧ Kp (Gd g lo hi) w w' := by
  subst hX
  cases hk : okB n sp a c
  · rw [show rdB n dv f sp a c = refD dv f 2 by simp [rdB, hk]]
    exact vreadB_no g gs lo hi n dv sp f a c p s bs vs m o v w D h hm hn hk
  · rw [rdB, if_pos hk]
    exact vreadB_ok g gs lo hi n dv sp f a c p s bs vs m o v w D h hm hn hk
theorem vreadV_any (g gs lo hi n : Nat) (dv : Dv) (f sp a c p s : Int) (bs : List Bool) (vs : List UInt16) (m o : UInt16) (v : Value) (w : World) (D : DD w g gs lo hi n dv) (h : IsRqF (Gd g lo hi) w v ⟨f, a, c, p, s, bs, vs, m, o⟩) (hm : 0 ≤ dv.msgs ∧ dv.msgs ≤ 100000000000000001 ∧ 0 ≤ dv.flts ∧ dv.flts ≤ 100000000000000001)
    (hn : (0 ≤ a ∧ a ≤ 65535) ∧ (0 ≤ c ∧ c ≤ 65535)) (X : Rp × Dv) (hX : rdV n dv f sp a c = X) :
    Calls Try.prog 51 #[ptrG g, .int .i64 sp, v] w fun e w' => ∃ v', e = .returned v' ∧ NRp w.heap.size w' v' (X).1 ∧ DD w' g gs lo hi n (X).2 ∧ Kp (Gd g lo hi) w w' := by
  subst hX
  cases hk : okV n sp a c
  · rw [show rdV n dv f sp a c = refD dv f 2 by simp [rdV, hk]]
    exact vreadV_no g gs lo hi n dv sp f a c p s bs vs m o v w D h hm hn hk
  · rw [rdV, if_pos hk]
    exact vreadV_ok g gs lo hi n dv sp f a c p s bs vs m o v w D h hm hn hk

set_option maxHeartbeats 1000000 in
theorem vcloneB (b o n c : Nat) (l : List Bool) (w : World) (hv : Row w (.slice (some ⟨b, o, none⟩) n c) (l.map Value.bool)) (hl : n ≤ 65536) :
    Calls Try.prog 53 #[.slice (some ⟨b, o, none⟩) n c] w fun e w' => ∃ v', e = .returned v' ∧ Row w' v' (l.map Value.bool) ∧ NwV w.heap.size v' ∧ Below w.heap.size w w' := by
  have hln : l.length = n := by
    obtain ⟨a, c', e, -⟩ := hv
    simp only [Value.slice.injEq, List.length_map] at e
    exact e.2.1.symm
  have R1 := hv.below ((Below.refl w.heap.size w).alloc (Nat.le_refl _) (.cells #[] 4))
  have O1 : (w.alloc (.cells #[] 4)).ownsRow w.heap.size 4 1 (.slice (some ⟨w.heap.size, 0, none⟩) 0 0) 0 [] :=
    ⟨rfl, .inr ⟨w.heap.size, 0, #[], rfl, Nat.le_refl _, heap_alloc_new w _, Nat.zero_le _, by unfold maxLen; omega, by simp, by simp⟩⟩
  have en : (binOp BinOp.eql 23 (.slice (some ⟨b, o, none⟩) n c) (.slice none 0 0)).run Try.prog w = .ok (.bool false) w := by kernel_rfl
  go_enter Try.func53, Try.ntmps53
  go_wp2_with (at_builtin; refine wpList_app rfl (.tmp 5) (.tmp 6) 23 rfl w.heap.size 4 (.bool false) 1 Try.underlying23 info_bool rfl rfl O1 rfl R1 (one_bools l) (by simp [maxLen]; omega) (by simp; omega) (by simp) ?_)
  intro v2 w2 ho2 hg2
  have q := hidden (((Below.refl w.heap.size w).alloc (Nat.le_refl _) (.cells #[] 4)).grown hg2 (by simp) (fun k hk => (O1.lt k hk).1))
  have NR0 : Row w2 v2 (l.map Value.bool) := by simpa using Row.of_owns ho2
  have NR := hidden NR0
  clear NR0
  have NN : Hid (NwV w.heap.size v2) := fun k hk => (ho2.lt k hk).1
  clear ho2
  go_wp2
  go_ret
  exact ⟨_, rfl, NR.out, NN.out, q.out⟩

set_option maxHeartbeats 1000000 in
theorem vcloneV (b o n c : Nat) (l : List UInt16) (w : World) (hv : Row w (.slice (some ⟨b, o, none⟩) n c) (l.map wV)) (hl : n ≤ 65536) :
    Calls Try.prog 55 #[.slice (some ⟨b, o, none⟩) n c] w fun e w' => ∃ v', e = .returned v' ∧ Row w' v' (l.map wV) ∧ NwV w.heap.size v' ∧ Below w.heap.size w w' := by
  have hln : l.length = n := by
    obtain ⟨a, c', e, -⟩ := hv
    simp only [Value.slice.injEq, List.length_map] at e
    exact e.2.1.symm
  have R1 := hv.below ((Below.refl w.heap.size w).alloc (Nat.le_refl _) (.cells #[] 24))
  have O1 : (w.alloc (.cells #[] 24)).ownsRow w.heap.size 24 1 (.slice (some ⟨w.heap.size, 0, none⟩) 0 0) 0 [] :=
    ⟨rfl, .inr ⟨w.heap.size, 0, #[], rfl, Nat.le_refl _, heap_alloc_new w _, Nat.zero_le _, by unfold maxLen; omega, by simp, by simp⟩⟩
  have en : (binOp BinOp.eql 22 (.slice (some ⟨b, o, none⟩) n c) (.slice none 0 0)).run Try.prog w = .ok (.bool false) w := by kernel_rfl
  go_enter Try.func55, Try.ntmps55
  go_wp2_with (at_builtin; refine wpList_app rfl (.tmp 5) (.tmp 6) 22 rfl w.heap.size 24 (.int .u16 0) 2 Try.underlying22 info_w16 rfl rfl O1 rfl R1 (one_words l) (by simp [maxLen]; omega) (by simp; omega) (by simp) ?_)
  intro v2 w2 ho2 hg2
  have q := hidden (((Below.refl w.heap.size w).alloc (Nat.le_refl _) (.cells #[] 24)).grown hg2 (by simp) (fun k hk => (O1.lt k hk).1))
  have NR0 : Row w2 v2 (l.map wV) := by simpa using Row.of_owns ho2
  have NR := hidden NR0
  clear NR0
  have NN : Hid (NwV w.heap.size v2) := fun k hk => (ho2.lt k hk).1
  clear ho2
  go_wp2
  go_ret
  exact ⟨_, rfl, NR.out, NN.out, q.out⟩

theorem act_1 {n : Nat} {d : Dv} {a c p s : Int} {bs : List Bool} {vs : List UInt16} {m o : UInt16} : actD n d ⟨1, a, c, p, s, bs, vs, m, o⟩ = rdB n d 1 0 a c := by
  cases h : fits n a c <;> simp [actD, allThere, askR, goD, rdB, okB, isB, h, fits0]
theorem act_2 {n : Nat} {d : Dv} {a c p s : Int} {bs : List Bool} {vs : List UInt16} {m o : UInt16} : actD n d ⟨2, a, c, p, s, bs, vs, m, o⟩ = rdB n d 2 1 a c := by
  cases h : fits n a c <;> simp [actD, allThere, askR, goD, rdB, okB, isB, h, fits0]
theorem act_3 {n : Nat} {d : Dv} {a c p s : Int} {bs : List Bool} {vs : List UInt16} {m o : UInt16} : actD n d ⟨3, a, c, p, s, bs, vs, m, o⟩ = rdV n d 3 3 a c := by
  cases h : fits n a c <;> simp [actD, allThere, askR, goD, rdV, okV, isV, h, fits0]
theorem act_4 {n : Nat} {d : Dv} {a c p s : Int} {bs : List Bool} {vs : List UInt16} {m o : UInt16} : actD n d ⟨4, a, c, p, s, bs, vs, m, o⟩ = rdV n d 4 2 a c := by
  cases h : fits n a c <;> simp [actD, allThere, askR, goD, rdV, okV, isV, h, fits0]

end Go.Proofs.Ytdihcdphgiaepaa
