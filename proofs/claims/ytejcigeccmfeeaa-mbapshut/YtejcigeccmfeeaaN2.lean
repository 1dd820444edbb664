/- Contracts of slices.Clone and mbap's message. -/
import Derived.Test.YtejcigeccmfeeaaN1
import Derived.Test.YtejcigeccmfeeaaK4
namespace Go.Proofs.Ytejcigeccmfeeaa
open Go.RowKit

theorem Row.from {w : World} {b off n cap : Nat} {xs : List Value} (h : Row w (.slice (some ⟨b, off, none⟩) n cap) xs) (f : Nat) (hf : f ≤ n) : Row w (.slice (some ⟨b, off + f, none⟩) (n - f) (cap - f)) (xs.drop f) := by
  obtain ⟨a', cap', e, h1, h2, h3, h4⟩ := h
  simp only [Value.slice.injEq] at e
  obtain ⟨rfl, rfl, rfl⟩ := e
  have hl : (xs.drop f).length = xs.length - f := by simp
  refine ⟨_, cap - f, by rw [hl], by omega, by omega, (fun h => by cases h), ?_⟩
  rcases h4 with rfl | ⟨b', off', e', hc⟩
  · exact .inl (by simp)
  · simp only [Option.some.injEq, Addr.mk.injEq] at e'
    obtain ⟨rfl, rfl, -⟩ := e'
    refine .inr ⟨b, off + f, rfl, fun i hi => ?_⟩
    rw [Nat.add_assoc, hc (f + i) (by omega)]
    simp

set_option maxHeartbeats 1000000 in
/-- Clone: a row of its own, in new memory -/
theorem clone_own (v : Value) (bs : List UInt8) (w : World) (hv : Row w v (bs.map bV)) (hl : bs.length ≤ 140737488355328) (h0 : 0 < bs.length) :
    Calls Try.prog 37 #[v] w fun e w' => ∃ v', e = .returned v' ∧ w'.ownsRow w.heap.size 5 1 v' bs.length (bs.map bV) ∧ Below w.heap.size w w' := by
  obtain ⟨a, cap, rfl, -, -, hz, -⟩ := id hv
  obtain ⟨h1, h2, h3, h4⟩ := hv.at
  simp only [List.length_map] at hv h1 h4 ⊢
  obtain ⟨b, off, rfl, -⟩ := h4 0 0 h0
  have R1 := hv.below ((Below.refl w.heap.size w).alloc (Nat.le_refl _) (.cells #[] 5))
  have O1 : (w.alloc (.cells #[] 5)).ownsRow w.heap.size 5 1 (.slice (some ⟨w.heap.size, 0, none⟩) 0 0) 0 [] :=
    ⟨rfl, .inr ⟨w.heap.size, 0, #[], rfl, Nat.le_refl _, heap_alloc_new w _, Nat.zero_le _, by unfold maxLen; omega, by simp, by simp⟩⟩
  have en : (binOp BinOp.eql 27 (.slice (some ⟨b, off, none⟩) bs.length cap) (.slice none 0 0)).run Try.prog w = .ok (.bool false) w := by kernel_rfl
  go_enter Try.func37, Try.ntmps37
  go_wp2_with (at_builtin; refine wpList_app rfl (.tmp 5) (.tmp 6) 27 rfl w.heap.size 5 (.int .u8 0) 1 Try.underlying27 info_u8 rfl rfl O1 rfl R1 (one_bytes bs) (by simp [maxLen]; omega) (by simp; omega) (by simp) ?_)
  intro v2 w2 ho2 hg2
  have q := ((Below.refl w.heap.size w).alloc (Nat.le_refl _) (.cells #[] 5)).grown hg2 (by simp) (fun k hk => (O1.lt k hk).1)
  go_wp2
  go_ret
  exact ⟨_, rfl, by simpa using ho2, q⟩

set_option maxHeartbeats 1000000 in
theorem message_any (v : Value) (bs : List UInt8) (w : World) (hv : Row w v (bs.map bV)) (h8 : 8 ≤ bs.length) (hl : bs.length ≤ 1000) :
    Calls Try.prog 29 #[v] w fun e w' => ∃ u, e = .returned (.agg #[.int .i64 (getN bs 0), .int .i64 ((bs.getD 6 0).toNat : Int), u]) ∧ w'.ownsRow w.heap.size 5 1 u (bs.length - 7) ((bs.drop 7).map bV) ∧ Below w.heap.size w w' := by
  obtain ⟨a, cap, rfl, -⟩ := id hv
  obtain ⟨h1, h2, h3, h4⟩ := hv.at
  unfold maxLen at h3
  simp only [List.length_map] at hv h1 h2 h4 ⊢
  obtain ⟨b, off, rfl, hcl⟩ := h4 0 0 (by omega)
  have c6 := hcl 6 (by omega)
  have hlt := lt_of_cell c6
  clear h4 hcl
  have W0 := hidden (fun o => (Below.refl w.heap.size w).alloc (Nat.le_refl _) o)
  have CG := hidden (fun w' (h : Row w' (.slice (some ⟨b, off, none⟩) bs.length cap) (bs.map bV)) => get_any _ bs 0 w' (by decide) h)
  have hd : (bs.drop 7).length = bs.length - 7 := by simp
  have HF : Hid (∀ w', Row w' (.slice (some ⟨b, off, none⟩) bs.length cap) (bs.map bV) → Row w' (.slice (some ⟨b, off + 7, none⟩) (bs.length - 7) (cap - 7)) ((bs.drop 7).map bV)) := fun w' h => by
    have := h.from 7 (by omega)
    rwa [← List.map_drop] at this
  have hx := (bs.getD 6 0).toNat_lt
  generalize bs.getD 6 0 = x at *
  generalize getN bs 0 = i at *
  have k6 : (6 : Int) < (bs.length : Int) := by omega
  have k7 : (7 : Int) ≤ (bs.length : Int) := by omega
  have k8 : ¬ cap = 7 := by omega
  go_enter Try.func29, Try.ntmps29
  go_wp2_with fail
  refine (CG.out _ (hv.below (W0.out _))).mono ?_
  rintro e w1 ⟨rfl, nq, rfl⟩
  go_wp2
  have X0 := ((Blk.new w 30 [.int .i64 0, .int .i64 0, .slice none 0 0]).drewN nq).drew
  have B0 : Below w.heap.size w ((w.alloc (.cells #[.int .i64 0, .int .i64 0, .slice none 0 0] 30)).drewN nq).drew := (below_drewn (W0.out _) nq).drew
  refine c_begin 10 rfl (by kernel_rfl) ?_
  have R0 := hv.below B0
  have S0 := B0.size
  have c6' : ((w.alloc (.cells #[.int .i64 0, .int .i64 0, .slice none 0 0] 30)).drewN nq).drew.cell? ⟨b, off + 6, none⟩ = some (bV x) := by
    rw [← c6]; exact B0.cell (p := ⟨b, off + 6, none⟩) hlt
  generalize ((w.alloc (.cells #[.int .i64 0, .int .i64 0, .slice none 0 0] 30)).drewN nq).drew = w2 at *
  clear c6
  have hlt2 := lt_of_cell c6'
  refine c_pure trivial (by kernel_rfl) (fun _ _ _ d _ h => by cases d <;> exact h) 0 rfl (by kernel_rfl) (by kernel_rfl) (fun w' => by go_simp; with_reducible rfl) ?_; try simp only [Act.put, List.setIfInBounds_toArray, List.set_cons_zero, List.set_cons_succ]
  refine c_pure trivial (by kernel_rfl) (fun _ _ _ d _ h => by cases d <;> exact h) 1 rfl (by kernel_rfl) (by kernel_rfl) (fun w' => by go_simp; with_reducible rfl) ?_; try simp only [Act.put, List.setIfInBounds_toArray, List.set_cons_zero, List.set_cons_succ]
  refine c_pure trivial (by kernel_rfl) (fun _ _ _ d _ h => by cases d <;> exact h) 2 rfl (by kernel_rfl) (by kernel_rfl) (fun w' => by go_simp; with_reducible rfl) ?_; try simp only [Act.put, List.setIfInBounds_toArray, List.set_cons_zero, List.set_cons_succ]
  refine c_read (fun w' => w'.cell? ⟨b, off + 6, none⟩ = some (bV x)) c6' trivial (by kernel_rfl) (fun _ _ _ d _ h => by cases d <;> exact h) 3 rfl (by kernel_rfl) (by kernel_rfl) (fun w' hx => by go_simp; with_reducible rfl) ?_; try simp only [Act.put, List.setIfInBounds_toArray, List.set_cons_zero, List.set_cons_succ]
  refine c_pure ⟨c6', trivial⟩ (by kernel_rfl) (fun _ _ _ d _ h => by cases d <;> exact h) 4 rfl (by kernel_rfl) (by kernel_rfl) (fun w' => by go_simp; with_reducible rfl) ?_; try simp only [Act.put, List.setIfInBounds_toArray, List.set_cons_zero, List.set_cons_succ]
  refine c_pure ⟨c6', trivial⟩ (by kernel_rfl) (fun _ _ _ d _ h => by cases d <;> exact h) 5 rfl (by kernel_rfl) (by kernel_rfl) (fun w' => by go_simp; with_reducible rfl) ?_; try simp only [Act.put, List.setIfInBounds_toArray, List.set_cons_zero, List.set_cons_succ]
  refine c_pure ⟨c6', trivial⟩ (by kernel_rfl) (fun _ _ _ d _ h => by cases d <;> exact h) 6 rfl (by kernel_rfl) (by kernel_rfl) (fun w' => by go_simp; with_reducible rfl) ?_; try simp only [Act.put, List.setIfInBounds_toArray, List.set_cons_zero, List.set_cons_succ]
  refine c_move 7 (by kernel_rfl) (c_op 7 [(3, (fun w' => w'.cell? ⟨b, off + 6, none⟩ = some (bV x)))] (by kernel_rfl) rfl (by kernel_rfl) (fun K hK => ?_))
  go_wp2_with fail
  have CC := clone_own _ (bs.drop 7) _ (HF.out _ R0) (by omega) (by omega)
  refine CC.mono ?_
  rintro e w3 ⟨u, rfl, hu, B3⟩
  have X3 := X0.below B3 X0.lt
  obtain ⟨ug, uc, rfl, hug⟩ := owns_some hu (by omega)
  rw [hd] at hu
  rw [hd]
  have c63 : w3.cell? ⟨b, off + 6, none⟩ = some (bV x) := by rw [← c6']; exact B3.cell (p := ⟨b, off + 6, none⟩) hlt2
  go_simp
  refine hK.out _ _ ⟨c63, trivial⟩ ?_
  clear K hK
  try simp only [Act.put, List.setIfInBounds_toArray, List.set_cons_zero, List.set_cons_succ]
  refine c_pure ⟨c63, trivial⟩ (by kernel_rfl) (fun _ _ _ d _ h => by cases d <;> exact h) 8 rfl (by kernel_rfl) (by kernel_rfl) (fun w' => by go_simp; with_reducible rfl) ?_; try simp only [Act.put, List.setIfInBounds_toArray, List.set_cons_zero, List.set_cons_succ]
  have d0 : w3.cell? ⟨w.heap.size, 0, none⟩ = some (.int .i64 0) := X3.cell 0
  have d1 : w3.cell? ⟨w.heap.size, 1, none⟩ = some (.int .i64 0) := X3.cell 1
  have d2 : w3.cell? ⟨w.heap.size, 2, none⟩ = some (.slice none 0 0) := X3.cell 2
  have f0 := X3.frozen
  have gq := X3.lt
  have wx : IntKind.i64.wrap (x.toNat : Int) = (x.toNat : Int) := by rw [IntKind.wrap_i64]; omega
  refine c_move 9 (by kernel_rfl) (c_op 9 [] (by kernel_rfl) rfl (by kernel_rfl) (fun K hK => ?_))
  go_simp
  refine hK.out _ _ trivial ?_
  clear K hK
  try simp only [Act.put, List.setIfInBounds_toArray, List.set_cons_zero, List.set_cons_succ]
  refine c_done (by kernel_rfl) ?_
  have Y0 := ((X3.set 0 (.int .i64 i)).set 1 (.int .i64 (x.toNat : Int))).set 2 (.slice (some ⟨ug, 0, none⟩) (bs.length - 7) uc)
  have KB : Below w.heap.size w3 (((w3.setCell ⟨w.heap.size, 0, none⟩ (.int .i64 i)).setCell ⟨w.heap.size, 1, none⟩ (.int .i64 (x.toNat : Int))).setCell ⟨w.heap.size, 2, none⟩ (.slice (some ⟨ug, 0, none⟩) (bs.length - 7) uc)) :=
    (((Below.refl _ _).setCell (p := ⟨w.heap.size, 0, none⟩) (Nat.le_refl _) _).setCell (p := ⟨w.heap.size, 1, none⟩) (Nat.le_refl _) _).setCell (p := ⟨w.heap.size, 2, none⟩) (Nat.le_refl _) _
  have KU : Kp (fun k => k = w.heap.size) w3 (((w3.setCell ⟨w.heap.size, 0, none⟩ (.int .i64 i)).setCell ⟨w.heap.size, 1, none⟩ (.int .i64 (x.toNat : Int))).setCell ⟨w.heap.size, 2, none⟩ (.slice (some ⟨ug, 0, none⟩) (bs.length - 7) uc)) :=
    Kp.set (Kp.set (Kp.set (Kp.refl (fun k => k = w.heap.size) w3) (p := ⟨w.heap.size, 0, none⟩) (fun _ => rfl) _) (p := ⟨w.heap.size, 1, none⟩) (fun _ => rfl) _) (p := ⟨w.heap.size, 2, none⟩) (fun _ => rfl) _
  have hg2 := X0.lt
  have hz : w.heap.size ≤ w2.heap.size := by omega
  have HU := owns_from (owns_kp hu KU (fun k hk => by
    simp only [Value.ownBlock, Option.some.injEq] at hk
    omega)) hz
  have HB := (below_then B0 B3).trans KB
  have q0 := Y0.cell 0
  have q1 := Y0.cell 1
  have q2 := Y0.cell 2
  simp at q0 q1 q2
  clear Y0 KB KU hu X0 X3 B3 B0 d0 d1 d2 f0 gq c63 c6' R0
  generalize ((w3.setCell ⟨w.heap.size, 0, none⟩ (.int .i64 i)).setCell ⟨w.heap.size, 1, none⟩ (.int .i64 (x.toNat : Int))).setCell ⟨w.heap.size, 2, none⟩ (.slice (some ⟨ug, 0, none⟩) (bs.length - 7) uc) = w4 at *
  go_wp2
  refine bodyPost_ret (v := _) (by simp [results, Try.results29, go_sem, q0, q1, q2]; with_reducible rfl) rfl ?_
  exact ⟨_, rfl, HU, HB⟩

end Go.Proofs.Ytejcigeccmfeeaa
