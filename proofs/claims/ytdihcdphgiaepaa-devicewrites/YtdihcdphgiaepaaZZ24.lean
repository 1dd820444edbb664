/- The developers' device in memory; its refuse. -/
import Derived.Test.YtdihcdphgiaepaaZZ23
namespace Go.Proofs.Ytdihcdphgiaepaa
open Go.RowKit
abbrev tV : TypeId := 47
structure DD (w : World) (g gs lo hi n : Nat) (d : Dv) : Prop where
 blk : Blk w g tV [ptrG gs, .int .i64 d.msgs, .int .i64 d.flts, .int .u8 d.unit]
 sto : SD w lo hi gs n d.s
 off : ¬ In lo hi g
theorem DD.ext {w w' : World} {g gs lo hi n : Nat} {d : Dv} (h : DD w g gs lo hi n d) (hb : Below w.heap.size w w') : DD w' g gs lo hi n d := ⟨h.blk.below hb h.blk.lt, h.sto.ext hb, h.off⟩
def actD (n : Nat) (d : Dv) (q : Rq) : Rp × Dv := if allThere n q = false then refD d q.fn 2 else goD n d q
theorem doD_act {n : Nat} {d0 : Dv} {q : Rq} (hk : knownB q.fn = true) (hc : countsB q = true) : doD n d0 q = actD n { d0 with msgs := d0.msgs + 1 } q := by simp [doD, actD, hk, hc]
set_option maxHeartbeats 400000 in
theorem vrefuse_any (g gs : Nat) (m f u fn k : Int) (w : World) (hb : Blk w g tV [ptrG gs, .int .i64 m, .int .i64 f, .int .u8 u]) (hf : 0 ≤ f ∧ f ≤ 1000000000000000000) :
  Calls Try.prog 15 #[ptrG g, .int .i64 fn, .int .i64 k] w fun e w' => e = .returned (rpV (fn % 128) (k % 256) 0 0 0 (.slice none 0 0) (.slice none 0 0) 0 0 (.slice none 0 0)) ∧ Blk w' g tV [ptrG gs, .int .i64 m, .int .i64 (f + 1), .int .u8 u] ∧ Kp (· = g) w w' := by
 obtain ⟨f1, f2⟩ := hf
 have KA := Kp.of_below (F := (· = g)) ((Below.refl w.heap.size w).alloc (Nat.le_refl _) (.cells zsP.toArray tP))
 have BD := hb.alloc (.cells zsP.toArray tP)
 have BZ := Blk.new w tP zsP
 have ne : w.heap.size ≠ g := fun e => by have := hb.lt; omega
 have q2 := BD.cell 2
 have p2 := BD.frozen 2
 replace q2 : (w.alloc (.cells zsP.toArray tP)).cell? ⟨g, 2, none⟩ = some (.int .i64 f) := q2
 have KH := hidden (KA.set (p := ⟨g, 2, none⟩) (fun _ => rfl) (.int .i64 (f + 1)))
 have DH := hidden (BD.set 2 (.int .i64 (f + 1)))
 have ZH := hidden (BZ.setne (i := 2) (u := .int .i64 (f + 1)) ne)
 have HL := hidden (hb.lt)
 clear KA BD BZ hb
 go_enter Try.func15, Try.ntmps15
 go_wp2_with fail
 clear q2 p2
 generalize (w.alloc (.cells zsP.toArray tP)).setCell ⟨g, 2, none⟩ (.int .i64 (f + 1)) = w1 at *
 refine (refuse_rep fn k w1).mono ?_
 rintro e w2 ⟨rfl, E⟩
 have K2 := KH.out.ext E
 have BZ := ZH.out.below E ZH.out.lt
 have BD := DH.out.below E DH.out.lt
 obtain ⟨b, hb⟩ : ∃ b, b = w.heap.size := ⟨_, rfl⟩
 have HBW := hidden hb
 rw [← hb] at BZ ne ⊢
 clear E KH DH ZH w1 hb
 obtain ⟨z0, z1, z2, z3, z4, z5, z6, z7, z8, z9⟩ := cells10 BZ
 have y := fun i => BZ.frozen i
 go_wp2
 obtain ⟨w3, hw3, BF, PN, PK⟩ := put10 BZ rfl (.int .i64 (fn % 128)) (.int .i64 (k % 256)) (.int .i64 0) (.int .i64 0) (.int .i64 0) (.slice none 0 0) (.slice none 0 0) (.int .u16 0) (.int .u16 0) (.slice none 0 0)
 rw [hw3]
 obtain ⟨c0, c1, c2, c3, c4, c5, c6, c7, c8, c9⟩ := cells10 BF
 refine bodyPost_ret (v := _) (by simp [results, Try.results15, go_sem, c0, c1, c2, c3, c4, c5, c6, c7, c8, c9]; with_reducible rfl) rfl ?_
 exact ⟨rfl, PN _ _ _ BD ne.symm, PK _ _ K2 (fun h => by have := HBW.out; omega)⟩
set_option maxHeartbeats 400000 in
theorem vcounts_any (g gs : Nat) (m f u : Int) (w : World) (hb : Blk w g tV [ptrG gs, .int .i64 m, .int .i64 f, .int .u8 u]) :
  Calls Try.prog 12 #[ptrG g] w fun e w' => e = .returned (.tuple #[.int .i64 m, .int .i64 f]) ∧ Below w.heap.size w w' := by
 have q1 : w.cell? ⟨g, 1, none⟩ = some (.int .i64 m) := hb.cell 1
 have q2 : w.cell? ⟨g, 2, none⟩ = some (.int .i64 f) := hb.cell 2
 clear hb
 go_enter Try.func12, Try.ntmps12
 go_wp2
 go_quiet (fail)
 go_wp2
 refine bodyPost_ret (v := _) (by simp [results, Try.results12, go_sem]; with_reducible rfl) rfl ?_
 exact ⟨rfl, below_drewn0 _ _ _⟩
theorem vstore_any (g gs : Nat) (m f u : Int) (w : World) (hb : Blk w g tV [ptrG gs, .int .i64 m, .int .i64 f, .int .u8 u]) :
  Calls Try.prog 18 #[ptrG g] w fun e w' => e = .returned (ptrG gs) ∧ w = w' := by
 have q0 : w.cell? ⟨g, 0, none⟩ = some (ptrG gs) := hb.cell 0
 clear hb
 go_enter Try.func18, Try.ntmps18
 go_wp2
 go_ret
 exact ⟨rfl, rfl⟩
set_option maxHeartbeats 400000 in
theorem vunit_any (g gs : Nat) (m f u x : Int) (w : World) (hb : Blk w g tV [ptrG gs, .int .i64 m, .int .i64 f, .int .u8 u]) :
  Calls Try.prog 20 #[ptrG g, .int .i64 x] w fun e w' => e = .returned (.tuple #[]) ∧ Blk w' g tV [ptrG gs, .int .i64 m, .int .i64 f, .int .u8 (x % 256)] ∧ Kp (· = g) w w' := by
 have q3 := hb.cell 3
 have p3 := hb.frozen 3
 replace q3 : w.cell? ⟨g, 3, none⟩ = some (.int .u8 u) := q3
 have DH := hidden (hb.set 3 (.int .u8 (x % 256)))
 have KH := hidden (Kp.set (F := (· = g)) (Kp.refl _ w) (p := ⟨g, 3, none⟩) (fun _ => rfl) (.int .u8 (x % 256)))
 clear hb
 go_enter Try.func20, Try.ntmps20
 go_wp2
 go_end0
 exact ⟨rfl, DH.out, KH.out⟩
theorem vnew_bad (c : Int) (w : World) (h : ¬ (1 ≤ c ∧ c ≤ 65536)) :
  Calls Try.prog 6 #[.int .i64 c] w fun e w' => e = .returned (.pointer none) ∧ w = w' := by
 have C := hidden (new_bad c w h)
 go_enter Try.func6, Try.ntmps6
 go_wp2_with fail
 refine C.out.mono ?_
 rintro e w1 ⟨rfl, rfl⟩
 clear C
 go_wp2
 go_ret
 exact ⟨rfl, rfl⟩
set_option maxHeartbeats 400000 in
theorem vnew_any (c : Int) (n : Nat) (w : World) (hc : c = (n : Int)) (hn : 1 ≤ n ∧ n ≤ 65536) :
  Calls Try.prog 6 #[.int .i64 c] w fun e w' => ∃ g gs lo hi, e = .returned (ptrG g) ∧ DD w' g gs lo hi n ⟨Cs.zero n, 0, 0, 0⟩ ∧ w.heap.size ≤ lo ∧ hi ≤ g ∧ Below w.heap.size w w' := by
 subst hc
 have C := hidden (new_i n n w rfl hn)
 go_enter Try.func6, Try.ntmps6
 go_wp2_with fail
 refine C.out.mono ?_
 rintro e w1 ⟨g, lo, hi, rfl, S, hlo, B⟩
 have E := (Below.refl w1.heap.size w1).alloc (Nat.le_refl _) (.cells #[ptrG g, .int .i64 0, .int .i64 0, .int .u8 0] tV)
 have BN := Blk.new w1 tV [ptrG g, .int .i64 0, .int .i64 0, .int .u8 0]
 have hb := below_then B E
 have S2 := S.ext E
 have ht := S.top
 clear E B C S
 go_wp2
 go_ret
 exact ⟨_, _, _, _, rfl, ⟨BN, S2, fun h => by have := h.2; omega⟩, hlo, ht, hb⟩
end Go.Proofs.Ytdihcdphgiaepaa
