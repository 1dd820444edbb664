/- Frames as memory of the caller's own; append of one element, with the place of what is handed back. -/
import Derived.Test.YtfbmejfnblopgaaF5
import Derived.Maps.AppendAt
namespace Go.Proofs.Ytfbmejfnblopgaa
open Go.RowKit

set_option maxHeartbeats 400000 in
theorem seal_own (v : Value) (bs : List UInt8) (w : World) (hv : Row w v (bs.map bV)) (hr : bs.length ≤ 140737488355000) :
    Calls Try.prog 21 #[v] w fun e w' => ∃ v', e = .returned v' ∧ w'.ownsRow w.heap.size 5 1 v' (bs.length + 2) ((sealL bs).map bV) ∧ Below w.heap.size w w' := by
  obtain ⟨a, cap, rfl, -⟩ := id hv
  obtain ⟨hl, hc, hm, -⟩ := hv.at
  simp only [List.length_map] at hl hc hv ⊢
  have hmk := mk_zer 23 5 (.int .u8 0) 1 Try.underlying23 info_u8 rfl ((bs.length : Int) + 2) (bs.length + 2) (by omega) (by omega) (by omega)
  have hb0 : Below w.heap.size w (w.alloc (.cells (zer (bs.length + 2) (.int .u8 0)) 5)) := (Below.refl _ _).alloc (Nat.le_refl _) _
  have hg0 := zer_blk w (bs.length + 2) (.int .u8 0) 5
  obtain ⟨w1, hrun, hg1, hb1⟩ := copy_run (P := Try.prog) hb0 23 23 3 5 Try.underlying23 (by kernel_rfl) w.heap.size 0 (bs.length + 2) (bs.length + 2) a bs.length cap _ _ hg0 (Nat.le_refl _) (bs.map bV) (hv.below hb0) (one_bytes bs) (by simp)
  have hg3 : Blk w1 w.heap.size 5 (bs.map bV ++ [.int .u8 0, .int .u8 0]) := by
    have e : splice (List.replicate (bs.length + 2) (Value.int .u8 0)) 0 ((bs.map bV).take (bs.length + 2)) = bs.map bV ++ [.int .u8 0, .int .u8 0] := by
      rw [List.take_of_length_le (by simp)]
      simp [splice, List.drop_replicate]
    rw [← e]; exact hg1
  have hv1 := hv.below hb1
  have C := hidden (of_any _ bs w1 hv1)
  have SC := hidden (sum_cells bs)
  have hs := crcN_lt bs
  generalize crcN bs = s at *
  have c0 : w1.cell? ⟨w.heap.size, bs.length, none⟩ = some (.int .u8 0) := by rw [hg3.cell]; simp
  have c1 : w1.cell? ⟨w.heap.size, bs.length + 1, none⟩ = some (.int .u8 0) := by rw [hg3.cell]; simp
  have f0 := hg3.frozen bs.length
  have f1 := hg3.frozen (bs.length + 1)
  clear hg1 hg0 hb0 hv hv1
  go_enter Try.func21, Try.ntmps21
  go_wp2_with fail
  refine C.out.mono ?_
  rintro e w2 ⟨rfl, rfl⟩
  clear C hmk hrun
  go_wp2
  go_ret
  have hg4 := (hg3.set bs.length (.int .u8 ((s : Int) % 256))).set (bs.length + 1) (.int .u8 ((s : Int) / 256))
  have e2 : ((bs.map bV ++ [Value.int .u8 0, .int .u8 0]).set bs.length (.int .u8 ((s : Int) % 256))).set (bs.length + 1) (.int .u8 ((s : Int) / 256)) = (sealL bs).map bV := by
    rw [← SC.out]; simp
  rw [e2] at hg4
  refine ⟨_, rfl, ?_, ?_⟩
  · exact ⟨by simp [sealL_len], .inr ⟨w.heap.size, bs.length + 2, _, rfl, Nat.le_refl _, hg4, Nat.le_refl _, by unfold maxLen; omega, by simp [sealL_len], by simp only [Nat.mul_one]; exact List.take_of_length_le (by simp [sealL_len])⟩⟩
  · exact (hb1.setCell (p := ⟨w.heap.size, bs.length, none⟩) (Nat.le_refl _) _).setCell (p := ⟨w.heap.size, bs.length + 1, none⟩) (Nat.le_refl _) _

set_option maxHeartbeats 1000000 in
theorem frame_own (a : Int) (v : Value) (bs : List UInt8) (w : World) (g1 : 1 ≤ a) (g2 : a ≤ 247) (hv : Row w v (bs.map bV)) (h1 : 0 < bs.length) (h2 : bs.length ≤ 253) :
    Calls Try.prog 14 #[.int .i64 a, v] w fun e w' => ∃ v' B, e = .returned (.tuple #[v', .int .i64 0]) ∧ w.heap.size ≤ B ∧ w'.ownsRow B 5 1 v' (bs.length + 3) ((frmL a bs).map bV) ∧ Below w.heap.size w w' := by
  obtain ⟨av, cap, rfl, -⟩ := id hv
  obtain ⟨hl, hc, hm, -⟩ := hv.at
  simp only [List.length_map] at hl hc hv ⊢
  have C := hidden (fun w => addr_any a w true (by simp [g1, g2]))
  have z : ((bs.length : Int) == 0) = false := by rw [beq_eq_false_iff_ne]; omega
  obtain ⟨-, e2⟩ := frm_ok (b := bs) g1 g2 h1 h2
  rw [e2]
  have z2 : ¬ (253 : Int) < (bs.length : Int) := by omega
  have hlen : bs.length ≤ 253 := by omega
  have e8 : ((UInt8.ofNat a.toNat).toNat   : Int) = a := by rw [UInt8.toNat_ofNat']; omega
  have E8 := hidden e8
  generalize UInt8.ofNat a.toNat = x at *
  have ef : flatTo [[x], bs] 2 = x :: bs := by simp [flatTo]
  have EF := hidden ef
  clear e2 ef e8
  have W0 := hidden (fun o1 o2 => ((Below.refl w.heap.size w).alloc (Nat.le_refl _) o1).alloc (by simp) o2)
  have R1 := hidden (row_new w [.int .u8 a] 5 1 rfl (by decide))
  go_enter Try.func14, Try.ntmps14
  go_wp2_with fail
  refine (C.out _).mono ?_
  rintro e w2 ⟨rfl, rfl⟩
  go_wp2_with fail
  have CV := concat_any (w.heap.size + 1) [.slice (some ⟨w.heap.size, 0, none⟩) 1 1, .slice av bs.length cap] [[x], bs]
    ((w.alloc (.cells #[.int .u8 a] 5)).alloc (.cells #[.slice (some ⟨w.heap.size, 0, none⟩) 1 1, .slice av bs.length cap] 23)) (by simpa using Blk.new (w.alloc (.cells #[.int .u8 a] 5)) 23 [.slice (some ⟨w.heap.size, 0, none⟩) 1 1, .slice av bs.length cap]) rfl ?q1 ?q2 ?q3 (by simp)
  case q1 =>
    intro i hi
    match i, hi with
    | 0, _ =>
      refine ⟨_, rfl, ?_⟩
      have : ([x].map bV) = [.int .u8 a] := by simp only [List.map_cons, List.map_nil, bV, E8.out]
      show Row _ _ ([x].map bV)
      rw [this]
      exact R1.out.below ((Below.refl _ _).alloc (Nat.le_refl _) _)
    | 1, _ => exact ⟨_, rfl, hv.below (W0.out _ _)⟩
  case q2 => rw [show [[x], bs].length = 2 from rfl, EF.out]; simp
  case q3 => rw [show [[x], bs].length = 2 from rfl, EF.out]; simp; omega
  refine CV.mono ?_
  rintro e w2 ⟨v2, rfl, hr2, B2⟩
  rw [show [[x], bs].length = 2 from rfl, EF.out] at hr2
  replace B2 := below_then (W0.out _ _) B2
  go_wp2_with fail
  refine (seal_own _ (x :: bs) _ hr2 (by simp; omega)).mono ?_
  rintro e w3 ⟨v3, rfl, hr3, B3⟩
  replace B3 := below_then B2 B3
  go_wp2
  go_ret2
  exact ⟨_, _, rfl, B2.size, by simpa using hr3, B3⟩

/-- append of one element that has just been laid -/
theorem wpList_push {P : Program} {w : World} {ops : Array Oper} {rest : List Oper} {o : Oper} {a : Act} {Q : Exit → Act → World → Prop} (hgd : o.guard = none) (s x : Operand) (t : TypeId)
    (ho : o.op = .call { callee := .builtin .append, args := #[s, x], argTypes := #[t, t] })
    (base : Nat) (e : TypeId) (z : Value) (bytes : Nat) (ht : P.underlying t = some (.slice e)) (hi : (P.info? e).map (fun i => (i.zero, i.size, i.bytes)) = some (some z, 1, bytes)) (hzs : z.cells.size = 1)
    {v : Value} {n : Nat} {xs : List Value} (hsv : a.eval s = v) (hown : w.ownsRow base e 1 v n xs) (g c : Nat) (u : Value) (hxv : a.eval x = .slice (some ⟨g, 0, none⟩) 1 c) (hs : w.cell? ⟨g, 0, none⟩ = some u) (h1 : u.oneCell' = true)
    (h63 : n + 1 ≤ maxLen) (hbytes : (n + 1) * bytes ≤ 140737488355328) (hbase : base ≤ w.heap.size)
    (h : ∀ v' w', w'.ownsRow base e 1 v' (n + 1) (xs ++ [u]) → w.grownBy w' v.ownBlock → (v'.ownBlock = v.ownBlock ∨ v'.ownBlock = some w.heap.size) → wpList P ops Q rest (a.put o.dst v') w') : wpList P ops Q (o :: rest) a w := by
  obtain ⟨i, hi, hz, hsz, hby⟩ := info_parts hi
  refine wpList_append_own_at (P := P) w hgd s x t ho base e i z 1 bytes ht hi hz hsz hby hzs (by decide) v n xs hsv hown ⟨g, 0, none⟩ 1 c [u] hxv rfl (fun j y hj => ?_) (by simpa using h1) h63 hbytes hbase (fun v' w' q1 q2 _ q4 => h v' w' q1 q2 q4)
  cases j with
  | zero =>
    simp only [List.getElem?_cons_zero, Option.some.injEq] at hj
    subst hj
    have e : (⟨g, 0, none⟩ : Addr).add 0 = ⟨g, 0, none⟩ := by unfold Addr.add; split <;> simp_all
    rw [e]; exact hs
  | succ j => simp at hj
theorem cell_lit (w : World) (u : Value) (e : TypeId) : (w.alloc (.cells #[u] e)).cell? ⟨w.heap.size, 0, none⟩ = some u := (Blk.new w e [u]).cell 0

end Go.Proofs.Ytfbmejfnblopgaa
