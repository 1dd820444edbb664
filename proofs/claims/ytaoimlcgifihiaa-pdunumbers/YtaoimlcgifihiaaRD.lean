/- Contracts of burgageref3.Right, Bytes. -/
import Derived.Test.YtaoimlcgifihiaaRRa
import Derived.Test.YtaoimlcgifihiaaRRb
import Derived.Test.YtaoimlcgifihiaaRRc
import Derived.Test.YtaoimlcgifihiaaRWa
import Derived.Test.YtaoimlcgifihiaaRG
import Derived.Test.YtaoimlcgifihiaaS8b
namespace Go.Proofs.Ytaoimlcgifihiaa
open Go.RowKit

set_option maxHeartbeats 1000000 in
theorem right_ref (v : Value) (q : Rq) (w : World) (h : IsRq w v q) :
    Calls Try.prog 27 #[v] w fun e w' => e = .returned (.int .i64 (rightE q)) ∧ Below w.heap.size w w' := by
  cases hk : knownB q.fn
  · obtain ⟨ab, capb, av, capv, rfl, -, -⟩ := h.slices
    have W0 := hidden (fun o => (Below.refl w.heap.size w).alloc (Nat.le_refl _) o)
    have e : rightE q = 15 := by simp [rightE, hk]
    rw [e]
    have KK := hidden hk
    obtain ⟨f, a, c, p, s, bs, vs, m, o⟩ := q
    simp only at KK ⊢
    clear hk e h
    go_enter Try.func27, Try.ntmps27
    go_wp2_with (go_at_call 47; refine (has_ref _ _).mono ?_; rintro e w1 ⟨rfl, rfl⟩; rw [KK.out])
    go_ret
    exact ⟨rfl, W0.out _⟩
  · rcases known_cases hk with e | e | e | e | e | e | e | e | e | e | e | e
    · exact right_ref_1 v q w h e
    · exact right_ref_2 v q w h e
    · exact right_ref_3 v q w h e
    · exact right_ref_4 v q w h e
    · exact right_ref_5 v q w h e
    · exact right_ref_6 v q w h e
    · exact right_ref_8 v q w h e
    · exact right_ref_15 v q w h e
    · exact right_ref_16 v q w h e
    · exact right_ref_17 v q w h e
    · exact right_ref_22 v q w h e
    · exact right_ref_23 v q w h e

set_option maxHeartbeats 1000000 in
theorem bytes_ref (v : Value) (q : Rq) (w : World) (h : IsRq w v q) :
    Calls Try.prog 10 #[v] w fun e w' => ∃ v', e = .returned (.tuple #[v', .int .i64 (rightE q)]) ∧ w'.ownsRow w.heap.size 5 1 v' (bytesR q).length ((bytesR q).map bV) ∧ Below w.heap.size w w' := by
  obtain ⟨ab, capb, av, capv, rfl, -, -⟩ := h.slices
  have W0 := hidden (fun o => (Below.refl w.heap.size w).alloc (Nat.le_refl _) o)
  have C := hidden (fun w' (hb : Below w.heap.size w w') => right_ref _ _ _ (h.below hb))
  by_cases hr : rightE q = 0
  · rw [bytesR_0 hr]
    have HQ := hidden (fun w' (hb : Below w.heap.size w w') => write_ref _ _ _ (h.below hb) hr)
    rw [hr] at C ⊢
    clear hr h
    obtain ⟨f, a, c, p, s, bs, vs, m, o⟩ := q
    simp only at C HQ ⊢
    go_enter Try.func10, Try.ntmps10
    go_wp2_with fail
    refine (C.out _ (W0.out _)).mono ?_
    rintro e w1 ⟨rfl, B1⟩
    have X := (Box.new w _ _ _ _ _ _ _ _ _ _).ext B1
    replace B1 := below_then (W0.out _) B1
    obtain ⟨lt, c0, c1, c2, c3, c4, c5, c6, c7, c8⟩ := X
    have S1 := B1.size
    go_wp2_with fail
    refine (HQ.out _ B1).mono ?_
    rintro e w2 ⟨v2, rfl, o2, B2⟩
    replace B2 := below_then B1 B2
    replace o2 := owns_base o2 (base' := w.heap.size) S1
    go_wp2
    go_ret2
    exact ⟨_, rfl, o2, B2⟩
  · rw [bytesR_no hr]
    have t : (rightE q != 0) = true := by simpa using hr
    generalize rightE q = E at *
    clear hr h
    go_enter Try.func10, Try.ntmps10
    go_wp2_with fail
    refine (C.out _ (W0.out _)).mono ?_
    rintro e w1 ⟨rfl, B1⟩
    replace B1 := below_then (W0.out _) B1
    go_wp2
    go_ret2
    exact ⟨_, rfl, World.ownsRow_nil _ _ _ _, B1⟩

end Go.Proofs.Ytaoimlcgifihiaa
