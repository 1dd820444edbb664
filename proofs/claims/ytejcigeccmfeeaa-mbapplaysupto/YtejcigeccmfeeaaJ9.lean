/- The contract of Tape.Bytes. -/
import Derived.Test.YtejcigeccmfeeaaJ8
import Derived.Test.YtejcigeccmfeeaaRows
namespace Go.Proofs.Ytejcigeccmfeeaa
open Go.RowKit

def b8 (n : Int) : UInt8 := UInt8.ofNat (n % 256).toNat
theorem b8_nat (n : Int) : ((b8 n).toNat : Int) = n % 256 := by
  unfold b8; rw [UInt8.toNat_ofNat']; omega
theorem b8_val (n : Int) (h0 : 0 ≤ n) (h1 : n ≤ 255) : ((b8 n).toNat : Int) = n := by rw [b8_nat]; omega

set_option maxRecDepth 100000 in
set_option maxHeartbeats 1000000 in
theorem tbytes_any (B g : Nat) (l : List Int) (n : Int) (w : World) (hT : Tap B w g l) (hB : B ≤ w.heap.size) (hn : 0 ≤ n ∧ n ≤ 1000) :
    Calls Try.prog 32 #[.pointer (some ⟨g, 0, none⟩), .int .i64 n] w fun e w' => ∃ v', e = .returned v' ∧ ∃ bs : List UInt8, Row w' v' (bs.map bV) ∧ (bs.length : Int) ≤ n ∧ NewV w.heap.size v' ∧ Tap B w' g l ∧ Dev w.heap.size g w w' := by
  obtain ⟨n0, n1⟩ := hn
  have hgB := hT.lt
  go_enter Try.func32, Try.ntmps32
  go_wp2_with fail
  refine (next_any B g l (n + 1) _ hT hB (by omega)).mono ?_
  rintro e w1 ⟨mx, rfl, mx0, mx1, T1, S1, D1⟩
  obtain ⟨k0, rfl⟩ : ∃ k : Nat, mx = (k : Int) := ⟨mx.toNat, by omega⟩
  go_wp2
  go_loopw [5, 6] (fun z i wr => ∃ (k : Nat) (bs : List UInt8), k ≤ k0 ∧ i = .int .i64 ((k0 - k : Nat) : Int) ∧ bs.length = k ∧ wr.ownsRow w.heap.size 5 1 z k (bs.map bV) ∧ Tap B wr g l ∧ Dev w.heap.size g w wr ∧ w.heap.size ≤ wr.heap.size) (fun _ i _ => (intOf i).toNat)
  case atStart => exact ⟨0, [], Nat.zero_le _, by simp, rfl, World.ownsRow_nil _ _ _ _, T1, D1, by omega⟩
  case round =>
    clear T1 D1 S1
    obtain ⟨k, bs, hk, rfl, hbl, ho, Tr, D, hz⟩ := hrel
    by_cases hlt : k < k0
    · have hlt' : (0 : Int) < ((k0 - k : Nat) : Int) := by omega
      go_wp2_with fail
      refine (next_any B g l 256 _ Tr (by omega) (by decide)).mono ?_
      rintro e w2 ⟨y, rfl, y0, y1, T2, S2, D2⟩
      replace ho := owns_dev ho D2 (by omega)
      replace D := D.trans (D2.mono hz)
      replace S2 : wr.heap.size ≤ w2.heap.size := by omega
      have e8 := hidden (b8_val y y0 (by omega))
      have R1 := row_new w2 [.int .u8 y] 5 1 rfl (by decide)
      have L0 := hidden hbl
      clear hbl
      go_wp2_with (at_builtin; refine wpList_app rfl (.tmp 15) (.tmp 19) 27 rfl w.heap.size 5 (.int .u8 0) 1 Try.underlying27 info_u8 rfl rfl (ho.alloc _) rfl R1 ?k0 ?k1 ?k2 ?k3 ?_)
      case k0 => intro u hu; simp at hu; subst hu; rfl
      case k1 => simp [maxLen]; omega
      case k2 => simp; omega
      case k3 => simp; omega
      intro v3 w3 ho3 hg3
      have Bl := ((Below.refl w.heap.size w2).alloc (by omega) (.cells #[.int .u8 y] 5)).grown hg3 (by simp; omega) (fun r hr => (ho.lt r hr).1)
      replace T2 := T2.below (Bl.mono (by omega))
      replace D := D.trans (Dev.of_below Bl)
      have hz3 : w.heap.size ≤ w3.heap.size := by have := hg3.size; simp at this; omega
      clear Bl R1 ho
      have hk' : ((k0 - k : Nat) : Int) - 1 = ((k0 - (k + 1) : Nat) : Int) := by omega
      go_wp2
      go_roundw
      case rel =>
        refine ⟨k + 1, bs ++ [b8 y], by omega, by rw [← hk'], by simp [L0.out], ?_, T2, D, hz3⟩
        have e : bs.map bV ++ [Value.int .u8 y] = (bs ++ [b8 y]).map bV := by simp [bV, e8.out]
        rw [e] at ho3
        simpa using ho3
      case measure => simp [intOf]; omega
    · obtain rfl : k = k0 := by omega
      have hlt' : ¬ (0 : Int) < ((k - k : Nat) : Int) := by omega
      clear hlt
      go_wp2
      go_ret
      exact ⟨_, rfl, bs, Row.of_owns ho, by omega, NewV.of_owns ho, Tr, D⟩

end Go.Proofs.Ytejcigeccmfeeaa

namespace Go.Proofs.Ytejcigeccmfeeaa
open Go.RowKit

theorem bytesQ_len (q : Rq) (hb : q.bits.length ≤ 30) (hv : q.vals.length ≤ 30) : 1 ≤ (bytesQ q).length ∧ (bytesQ q).length ≤ 200 := by
  have h1 := packL_len q.bits
  have h2 := bytesL_len q.vals
  unfold bytesQ bodyQ
  refine ⟨by simp, ?_⟩
  simp only [List.length_cons]
  repeat' split
  all_goals
    simp only [List.length_append, pw, cntL, List.length_cons, List.length_nil, h1, h2]
    omega

set_option maxHeartbeats 4000000 in
theorem tmsg_any (B g : Nat) (l : List Int) (u : Int) (w : World) (hT : Tap B w g l) (hB : B ≤ w.heap.size) :
    Calls Try.prog 19 #[.pointer (some ⟨g, 0, none⟩), .int .i64 u] w fun e w' => ∃ (v' : Value) (bs : List UInt8), e = .returned v' ∧ Row w' v' (bs.map bV) ∧ 1 ≤ bs.length ∧ bs.length ≤ 300 ∧ Tap B w' g l ∧ Dev w.heap.size g w w' := by
  have hgB := hT.lt
  go_enter Try.func19, Try.ntmps19
  go_wp2_with fail
  refine (request_tap B g l _ hT hB).mono ?_
  rintro e w1 ⟨v1, rfl, q, hq, hr, hb, ⟨hvl, -⟩, -, D1, T1⟩
  have z1 := D1.size
  obtain ⟨L1, L2⟩ := bytesQ_len q hb hvl
  have CB := hidden (bytes_ref v1 q w1 hq)
  rw [hr, bytesR_0 hr] at CB
  obtain ⟨ab, capb, av, capv, rfl, -, -⟩ := hq.slices
  clear hq hr hb hvl hT
  generalize bytesQ q = P at *
  go_wp2_with fail
  refine CB.out.mono ?_
  rintro e w2 ⟨v2, rfl, o2, B2⟩
  have z2 := B2.size
  replace T1 := T1.below (B2.mono (by omega))
  replace D1 := D1.trans (Dev.of_below (B2.mono (by omega)))
  replace o2 := owns_from o2 (base' := w.heap.size) (by omega)
  clear B2 CB
  go_wp2_with fail
  refine (next_any B g l 20 _ T1 (by omega) (by decide)).mono ?_
  rintro e w3 ⟨m, rfl, m0, m1, T3, S3, D3⟩
  replace S3 := Nat.le_of_eq S3.symm
  replace o2 := owns_dev o2 D3 (by omega)
  replace D1 := D1.trans (D3.mono (by omega))
  clear T1 D3
  have z3 := D1.size
  rcases (show m = 0 ∨ m = 1 ∨ m = 2 ∨ (3 ≤ m) by omega) with rfl | rfl | rfl | hm
  · have RN := row_new w3 [.int .u8 7] 5 1 rfl (by decide)
    have AL : Below w3.heap.size w3 (w3.alloc (.cells #[.int .u8 7] 5)) := (Below.refl _ _).alloc (Nat.le_refl _) _
    have O3 := o2.alloc (.cells #[.int .u8 7] 5)
    go_wp2_with (at_builtin; refine wpList_app rfl (.tmp 17) (.tmp 18) 27 rfl w.heap.size 5 (.int .u8 0) 1 Try.underlying27 info_u8 rfl rfl O3 rfl RN (by intro y hy; simp at hy; subst hy; rfl) (by simp only [List.length_cons, List.length_nil]; unfold maxLen; omega) (by simp only [List.length_cons, List.length_nil]; omega) (by simp only [World.size_alloc]; omega) ?_)
    intro v5 w5 o5 hg5
    have KK : Kp (fun k => w.heap.size ≤ k) (w3.alloc (.cells #[.int .u8 7] 5)) w5 := (Kp.refl _ _).grown hg5 (fun k _ h => (O3.lt k h).1)
    have hz4 : w.heap.size ≤ (w3.alloc (.cells #[.int .u8 7] 5)).heap.size := by simp only [World.size_alloc]; omega
    have BB : Below w.heap.size w3 w5 := (AL.mono (by omega)).trans (KK.below _ hz4 (fun k h => h))
    have z5 : w.heap.size ≤ w5.heap.size := Nat.le_trans hz4 KK.size
    have T5 := T3.below (BB.mono hB)
    have DB := D1.trans (Dev.of_below BB)
    replace o5 : w5.ownsRow w.heap.size 5 1 v5 (P ++ [7]).length ((P ++ [7]).map bV) := by
      have e7 : Value.int .u8 7 = bV 7 := rfl
      rw [e7] at o5
      simpa using o5
    have hPl : 1 ≤ (P ++ [7]).length ∧ (P ++ [7]).length ≤ 201 := by simp; omega
    obtain ⟨L3, L4⟩ := hPl
    clear KK BB T3 D1 hg5 AL O3 RN hz4
    generalize P ++ [7] = P2 at *
    go_wp2_with fail
    refine (next_any B g l 65536 _ T5 (by omega) (by decide)).mono ?_
    rintro e w8 ⟨id, rfl, id0, id1, T8, S8, D8⟩
    replace S8 := Nat.le_of_eq S8.symm
    have o8 := owns_dev o5 D8 (by omega)
    have D9 := DB.trans (D8.mono (by omega))
    obtain ⟨a8, c8, e8⟩ : ∃ a c, v5 = .slice a P2.length c := by
      obtain ⟨a, c, e, -⟩ := Row.of_owns o8
      exact ⟨a, c, by simpa using e⟩
    subst e8
    clear D8
    go_wp2_with fail
    refine (r5bytes_any id u _ P2 _ (by omega) (Row.of_owns o8)).mono ?_
    rintro e w9 ⟨v9, rfl, o9, B9⟩
    have hml : mbytesL id u P2 = msgL id u P2 := by unfold mbytesL; rw [if_neg (by omega)]
    have hln := msgL_len id u P2
    rw [hml] at o9
    have z8 := B9.size
    have T9 := T8.below (B9.mono (by omega))
    have DA := D9.trans (Dev.of_below (B9.mono (by omega)))
    clear hml
    go_wp2
    go_ret
    exact ⟨_, _, rfl, Row.of_owns o9, by omega, by omega, T9, DA⟩
  · go_wp2_with fail
    refine (next_any B g l 256 _ T3 (by omega) (by decide)).mono ?_
    rintro e w4 ⟨y, rfl, y0, y1, T4, S4, D4⟩
    replace S4 := Nat.le_of_eq S4.symm
    have D5 := D1.trans (D4.mono (by omega))
    clear T3 D4 o2
    have wy : IntKind.u8.wrap y = y := by rw [IntKind.wrap_u8]; omega
    have AL : Below w4.heap.size w4 (w4.alloc (.cells #[.int .u8 y] 5)) := (Below.refl _ _).alloc (Nat.le_refl _) _
    have OL : (w4.alloc (.cells #[.int .u8 y] 5)).ownsRow w.heap.size 5 1 (.slice (some ⟨w4.heap.size, 0, none⟩) 1 1) 1 [.int .u8 y] :=
      ⟨rfl, .inr ⟨w4.heap.size, 1, #[.int .u8 y], rfl, by omega, heap_alloc_new w4 _, Nat.le_refl _, by decide, rfl, rfl⟩⟩
    have T5 := T4.below (AL.mono (by omega))
    have D6 := D5.trans (Dev.of_below (AL.mono (by omega)))
    have hz5 : w.heap.size ≤ (w4.alloc (.cells #[.int .u8 y] 5)).heap.size := by simp only [World.size_alloc]; omega
    clear T4 D5 AL
    go_wp2_with fail
    generalize w4.alloc (.cells #[.int .u8 y] 5) = w5 at *
    refine (tbytes_any B g l 9 _ T5 (by omega) (by decide)).mono ?_
    rintro e w6 ⟨v6, rfl, ps, R6, p6, -, T6, D7⟩
    have O6 := owns_dev OL D7 (by omega)
    have D8 := D6.trans (D7.mono (by omega))
    have z6 := D7.size
    obtain ⟨a6, c6, rfl, -⟩ := _root_.id R6
    simp only [List.length_map] at R6
    clear T5 D6 D7 OL
    go_wp2_with (at_builtin; refine wpList_app rfl (.tmp 25) (.tmp 27) 27 rfl w.heap.size 5 (.int .u8 0) 1 Try.underlying27 info_u8 rfl rfl O6 rfl R6 (one_bytes ps) (by rw [List.length_map]; unfold maxLen; omega) (by rw [List.length_map]; omega) (by omega) ?_)
    intro v5 w7 o5 hg5
    replace o5 : w7.ownsRow w.heap.size 5 1 v5 ([b8 y] ++ ps).length (([b8 y] ++ ps).map bV) := by
      have h := b8_val y y0 (by omega)
      have e : ([b8 y] ++ ps).map bV = Value.int .u8 y :: ps.map bV := by simp [bV, h]
      have e2 : ([b8 y] ++ ps).length = 1 + ps.length := by simp; omega
      rw [e, e2]; exact o5
    have KK : Kp (fun k => w.heap.size ≤ k) w6 w7 := (Kp.refl _ w6).grown hg5 (fun k _ h => (O6.lt k h).1)
    have hPl : 1 ≤ ([b8 y] ++ ps).length ∧ ([b8 y] ++ ps).length ≤ 201 := by simp; omega
    obtain ⟨L3, L4⟩ := hPl
    have BB : Below w.heap.size w6 w7 := KK.below _ (by omega) (fun k h => h)
    have z7 := KK.size
    have T7 := T6.below (BB.mono hB)
    have DB := D8.trans (Dev.of_below BB)
    clear KK BB T6 D8
    clear hg5 O6 R6
    generalize [b8 y] ++ ps = P2 at *
    go_wp2_with fail
    refine (next_any B g l 65536 _ T7 (by omega) (by decide)).mono ?_
    rintro e w8 ⟨id, rfl, id0, id1, T8, S8, D8⟩
    replace S8 := Nat.le_of_eq S8.symm
    have o8 := owns_dev o5 D8 (by omega)
    have D9 := DB.trans (D8.mono (by omega))
    obtain ⟨a8, c8, e8⟩ : ∃ a c, v5 = .slice a P2.length c := by
      obtain ⟨a, c, e, -⟩ := Row.of_owns o8
      exact ⟨a, c, by simpa using e⟩
    subst e8
    clear D8
    go_wp2_with fail
    refine (r5bytes_any id u _ P2 _ (by omega) (Row.of_owns o8)).mono ?_
    rintro e w9 ⟨v9, rfl, o9, B9⟩
    have hml : mbytesL id u P2 = msgL id u P2 := by unfold mbytesL; rw [if_neg (by omega)]
    have hln := msgL_len id u P2
    rw [hml] at o9
    have z8 := B9.size
    have T9 := T8.below (B9.mono (by omega))
    have DA := D9.trans (Dev.of_below (B9.mono (by omega)))
    clear hml
    go_wp2
    go_ret
    exact ⟨_, _, rfl, Row.of_owns o9, by omega, by omega, T9, DA⟩
  · go_wp2_with fail
    refine (next_any B g l 256 _ T3 (by omega) (by decide)).mono ?_
    rintro e w6 ⟨y, rfl, y0, y1, T6, S6, D6⟩
    replace S6 := Nat.le_of_eq S6.symm
    have o6 := owns_dev o2 D6 (by omega)
    have D7 := D1.trans (D6.mono (by omega))
    clear D6 T3
    go_wp2_with fail
    refine (next_any B g l 65536 _ T6 (by omega) (by decide)).mono ?_
    rintro e w8 ⟨id, rfl, id0, id1, T8, S8, D8⟩
    replace S8 := Nat.le_of_eq S8.symm
    have o8 := owns_dev o6 D8 (by omega)
    have D9 := D7.trans (D8.mono (by omega))
    obtain ⟨a8, c8, e8⟩ : ∃ a c, v2 = .slice a P.length c := by
      obtain ⟨a, c, e, -⟩ := Row.of_owns o8
      exact ⟨a, c, by simpa using e⟩
    subst e8
    clear D8
    go_wp2_with fail
    refine (r5bytes_any id y _ P _ (by omega) (Row.of_owns o8)).mono ?_
    rintro e w9 ⟨v9, rfl, o9, B9⟩
    have hml : mbytesL id y P = msgL id y P := by unfold mbytesL; rw [if_neg (by omega)]
    have hln := msgL_len id y P
    rw [hml] at o9
    have z8 := B9.size
    have T9 := T8.below (B9.mono (by omega))
    have DA := D9.trans (Dev.of_below (B9.mono (by omega)))
    clear hml
    go_wp2
    go_ret
    exact ⟨_, _, rfl, Row.of_owns o9, by omega, by omega, T9, DA⟩
  · have e0 : (m == 0) = false := by rw [beq_eq_false_iff_ne]; omega
    have e1 : (m == 1) = false := by rw [beq_eq_false_iff_ne]; omega
    have e2 : (m == 2) = false := by rw [beq_eq_false_iff_ne]; omega
    go_wp2_with fail
    refine (next_any B g l 65536 _ T3 (by omega) (by decide)).mono ?_
    rintro e w8 ⟨id, rfl, id0, id1, T8, S8, D8⟩
    replace S8 := Nat.le_of_eq S8.symm
    have o8 := owns_dev o2 D8 (by omega)
    have D9 := D1.trans (D8.mono (by omega))
    obtain ⟨a8, c8, e8⟩ : ∃ a c, v2 = .slice a P.length c := by
      obtain ⟨a, c, e, -⟩ := Row.of_owns o8
      exact ⟨a, c, by simpa using e⟩
    subst e8
    clear D8
    go_wp2_with fail
    refine (r5bytes_any id u _ P _ (by omega) (Row.of_owns o8)).mono ?_
    rintro e w9 ⟨v9, rfl, o9, B9⟩
    have hml : mbytesL id u P = msgL id u P := by unfold mbytesL; rw [if_neg (by omega)]
    have hln := msgL_len id u P
    rw [hml] at o9
    have z8 := B9.size
    have T9 := T8.below (B9.mono (by omega))
    have DA := D9.trans (Dev.of_below (B9.mono (by omega)))
    clear hml
    go_wp2
    go_ret
    exact ⟨_, _, rfl, Row.of_owns o9, by omega, by omega, T9, DA⟩

end Go.Proofs.Ytejcigeccmfeeaa

namespace Go.Proofs.Ytejcigeccmfeeaa

theorem bulk_all {H : Type} (l : List (DataW H)) : l.length ≤ Rows.uptoBulkAll l := by
  induction l with
  | nil => simp [Rows.uptoBulkAll]
  | cons x r ih =>
    have h1 : 1 ≤ Rows.uptoBulk x := by
      cases x with
      | lit l => cases l <;> simp [Rows.uptoBulk]
      | nil => simp [Rows.uptoBulk]
      | ptr d => simp [Rows.uptoBulk]
      | slice elems spare => simp [Rows.uptoBulk]
      | agg parts => simp [Rows.uptoBulk]
      | iface t d => simp [Rows.uptoBulk]
      | map entries => simp [Rows.uptoBulk]
      | held h => simp [Rows.uptoBulk]
    simp only [Rows.uptoBulkAll, List.length_cons]
    omega

theorem bulk_len {H : Type} {d : DataW H} {n : Nat} (h : lenIs d n) : n ≤ Rows.uptoBulk d := by
  rcases h with ⟨-, rfl⟩ | ⟨el, sp, rfl, rfl⟩
  · omega
  · have := bulk_all el
    simp only [Rows.uptoBulk]
    omega

end Go.Proofs.Ytejcigeccmfeeaa

namespace Go.Proofs.Ytejcigeccmfeeaa
open Go.RowKit Go.ChangeShapes Go.WideShapes Go.ChangeAt Go.Deep

theorem bulk_mem {H : Type} (l : List (DataW H)) (d : DataW H) (h : d ∈ l) : Rows.uptoBulk d ≤ Rows.uptoBulkAll l := by
  induction l with
  | nil => simp at h
  | cons x r ih =>
    simp only [Rows.uptoBulkAll]
    rcases List.mem_cons.1 h with rfl | h
    · omega
    · have := ih h; omega

theorem open_rows8b {H : Type} {enc : TypeId × Value → H} {P : Program} {w : World} {base : Nat} {held : Bool} {t e q : TypeId} {a : Option Addr} {len cap : Nat} {d : DataW H} {p : List MemPlace} (ht : P.underlying t = some (.slice e)) (he : P.underlying e = some (.slice q)) (hq : P.underlying q = some (.int .u8)) (ce : P.cellsOf e = 1) (cq : P.cellsOf q = 1)
    (h : DataW.Trod enc P w base (fun _ => true) held t (.slice a len cap) d p) : ∃ xss : List (List UInt8), RowsB w (.slice a len cap) xss ∧ lenIs d xss.length ∧ ∀ i, (xss.getD i []).length ≤ Rows.uptoBulk d := by
  obtain ⟨fuel, hf⟩ := h
  rcases open_slice1 ht ce hf with ⟨hcs, hx⟩ | ⟨a', len', cap', m, n, V, D, Pl, hcs, hb, hl, hm, hmm, hx0, hx⟩
  · simp [Value.cells] at hcs
    obtain ⟨rfl, rfl, rfl⟩ := hcs
    simp only [Prod.mk.injEq] at hx
    exact ⟨[], ⟨[], Row.nil w, rfl, fun i hi => by simp at hi⟩, .inl ⟨hx.1, rfl⟩, fun i => by simp⟩
  · simp [Value.cells] at hcs
    obtain ⟨rfl, rfl, rfl⟩ := hcs
    simp only [if_true] at hmm
    subst hmm
    have each : ∀ r, r < m → ∃ xs : List UInt8, Row w (V r) (xs.map bV) ∧ xs.length ≤ Rows.uptoBulk (D r) := by
      intro r hr
      have h2 := (hx r hr).2
      have hV : ∃ a l c, V r = .slice a l c := by
        rcases open_ints he hq cq h2 with ⟨hcs, -⟩ | ⟨x, l, c, zs, hcs, -⟩
        · exact ⟨none, 0, 0, by simpa using hcs⟩
        · exact ⟨some x, l, c, by simpa using hcs⟩
      obtain ⟨a2, l2, c2, e2⟩ := hV
      rw [e2] at h2 ⊢
      obtain ⟨xs, h3, h4⟩ := open_u8s he hq cq ⟨n, h2⟩
      exact ⟨xs, h3, bulk_len h4⟩
    obtain ⟨y, hy⟩ := choose_lt each
    simp only [Prod.mk.injEq] at hx0
    have hV : Row w (.slice (some a') len m) ((List.range len).map V) := Row.of_cells hl hm (by simp) (fun i hi => by
      rw [(hx i (by omega)).1]; simp [hi])
    refine ⟨(List.range len).map y, ⟨(List.range len).map V, hV, by simp, fun i hi => ?_⟩, .inr ⟨_, _, hx0.1, by simp⟩, fun i => ?_⟩
    rotate_left
    · by_cases hi' : i < len
      · have e : ((List.range len).map y).getD i [] = y i := by simp [List.getD_eq_getElem?_getD, hi']
        rw [e]
        have h1 := (hy i (by omega)).2
        rw [hx0.1]
        have h2 := bulk_mem ((List.range len).map D) (D i) (List.mem_map.2 ⟨i, List.mem_range.2 hi', rfl⟩)
        simp only [Rows.uptoBulk]
        omega
      · rw [List.getD_eq_getElem?_getD, List.getElem?_eq_none (by simp; omega)]; simp
    have hi' : i < len := by simpa using hi
    refine ⟨V i, by simp [hi'], ?_⟩
    have e : ((List.range len).map y).getD i [] = y i := by simp [List.getD_eq_getElem?_getD, hi']
    rw [e]
    exact (hy i (by omega)).1

end Go.Proofs.Ytejcigeccmfeeaa
