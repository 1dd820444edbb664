/- Contracts of slices.Clone and of store's Copy. -/
import Derived.Test.YtdihcdphgiaepaaY3
namespace Go.Proofs.Ytdihcdphgiaepaa
open Go.RowKit

set_option maxHeartbeats 1000000 in
theorem cloneB_any (g n c : Nat) (l : List Bool) (w : World) (hv : Row w (slG g n c) (l.map Value.bool)) (hl : n ≤ 65536) (h0 : 0 < n) :
    Calls Try.prog 53 #[slG g n c] w fun e w' => ∃ v', e = .returned v' ∧ NwR w.heap.size 4 n (l.map Value.bool) v' w' ∧ Ext w w' := by
  have hln : l.length = n := by
    obtain ⟨a, c', e, -⟩ := hv
    simp only [Value.slice.injEq, List.length_map] at e
    exact e.2.1.symm
  have R1 := hv.below ((Below.refl w.heap.size w).alloc (Nat.le_refl _) (.cells #[] 4))
  have O1 : (w.alloc (.cells #[] 4)).ownsRow w.heap.size 4 1 (.slice (some ⟨w.heap.size, 0, none⟩) 0 0) 0 [] :=
    ⟨rfl, .inr ⟨w.heap.size, 0, #[], rfl, Nat.le_refl _, heap_alloc_new w _, Nat.zero_le _, by unfold maxLen; omega, by simp, by simp⟩⟩
  have en : (binOp BinOp.eql 23 (slG g n c) (.slice none 0 0)).run Try.prog w = .ok (.bool false) w := by kernel_rfl
  go_enter Try.func53, Try.ntmps53
  go_wp2_with (at_builtin; refine wpList_app rfl (.tmp 5) (.tmp 6) 23 rfl w.heap.size 4 (.bool false) 1 Try.underlying23 info_bool rfl rfl O1 rfl R1 (one_bools l) (by simp [maxLen]; omega) (by simp; omega) (by simp) ?_)
  intro v2 w2 ho2 hg2
  have q := ((Below.refl w.heap.size w).alloc (Nat.le_refl _) (.cells #[] 4)).grown hg2 (by simp) (fun k hk => (O1.lt k hk).1)
  have o2 : w2.ownsRow w.heap.size 4 1 v2 n (l.map Value.bool) := by
    simpa [hln] using ho2
  obtain ⟨g2, c2, e2, b2, d2⟩ := Hd.of_owns o2 h0
  have NR : Hid (NwR w.heap.size 4 n (l.map Value.bool) v2 w2) := ⟨g2, c2, e2, b2, d2⟩
  clear ho2 o2 e2 b2 d2
  go_wp2
  go_ret
  exact ⟨_, rfl, NR.out, q⟩

set_option maxHeartbeats 1000000 in
theorem cloneV_any (g n c : Nat) (l : List UInt16) (w : World) (hv : Row w (slG g n c) (l.map wV)) (hl : n ≤ 65536) (h0 : 0 < n) :
    Calls Try.prog 55 #[slG g n c] w fun e w' => ∃ v', e = .returned v' ∧ NwR w.heap.size 24 n (l.map wV) v' w' ∧ Ext w w' := by
  have hln : l.length = n := by
    obtain ⟨a, c', e, -⟩ := hv
    simp only [Value.slice.injEq, List.length_map] at e
    exact e.2.1.symm
  have R1 := hv.below ((Below.refl w.heap.size w).alloc (Nat.le_refl _) (.cells #[] 24))
  have O1 : (w.alloc (.cells #[] 24)).ownsRow w.heap.size 24 1 (.slice (some ⟨w.heap.size, 0, none⟩) 0 0) 0 [] :=
    ⟨rfl, .inr ⟨w.heap.size, 0, #[], rfl, Nat.le_refl _, heap_alloc_new w _, Nat.zero_le _, by unfold maxLen; omega, by simp, by simp⟩⟩
  have en : (binOp BinOp.eql 22 (slG g n c) (.slice none 0 0)).run Try.prog w = .ok (.bool false) w := by kernel_rfl
  go_enter Try.func55, Try.ntmps55
  go_wp2_with (at_builtin; refine wpList_app rfl (.tmp 5) (.tmp 6) 22 rfl w.heap.size 24 (.int .u16 0) 2 Try.underlying22 info_w16 rfl rfl O1 rfl R1 (one_words l) (by simp [maxLen]; omega) (by simp; omega) (by simp) ?_)
  intro v2 w2 ho2 hg2
  have q := ((Below.refl w.heap.size w).alloc (Nat.le_refl _) (.cells #[] 24)).grown hg2 (by simp) (fun k hk => (O1.lt k hk).1)
  have o2 : w2.ownsRow w.heap.size 24 1 v2 n (l.map wV) := by
    simpa [hln] using ho2
  obtain ⟨g2, c2, e2, b2, d2⟩ := Hd.of_owns o2 h0
  have NR : Hid (NwR w.heap.size 24 n (l.map wV) v2 w2) := ⟨g2, c2, e2, b2, d2⟩
  clear ho2 o2 e2 b2 d2
  go_wp2
  go_ret
  exact ⟨_, rfl, NR.out, q⟩

theorem NwR.ge {base base' n : Nat} {e : TypeId} {xs : List Value} {v : Value} {w : World} (h : NwR base e n xs v w) (hb : base' ≤ base) : NwR base' e n xs v w := by
  obtain ⟨g, c, e, h1, h2⟩ := h
  exact ⟨g, c, e, Nat.le_trans hb h1, h2⟩
theorem NwR.neu {base n n' ia ib ic j : Nat} {e : TypeId} {xs : List Value} {s : Cs} {u v : Value} {w3 w4 : World} (h : NwR w3.heap.size e n xs v w4) (hu : PsN base n' s ia ib ic j u w3) : NeV v u := by
  obtain ⟨g, c, rfl, h1, h2⟩ := h
  exact PsN.ne hu h1

end Go.Proofs.Ytdihcdphgiaepaa
