/- The contract of mbap's Bytes. -/
import Derived.Test.YtejcigeccmfeeaaN4
import Derived.Test.YtejcigeccmfeeaaOB
namespace Go.Proofs.Ytejcigeccmfeeaa
open Go.RowKit

set_option maxHeartbeats 1000000 in
theorem concat_own (g : Nat) (vs : List Value) (xss : List (List UInt8)) (w : World) (hg : Blk w g 27 vs) (hl : vs.length = xss.length) (hr : ∀ i, i < vs.length → ∃ v, vs[i]? = some v ∧ Row w v ((xss.getD i []).map bV)) (h0 : 0 < (flatTo xss xss.length).length) (h1 : (flatTo xss xss.length).length ≤ 1000000) (h2 : vs.length ≤ 1000) :
    Calls Try.prog 25 #[.slice (some ⟨g, 0, none⟩) vs.length vs.length] w fun e w' => ∃ v', e = .returned v' ∧ w'.ownsRow w.heap.size 5 1 v' (flatTo xss xss.length).length ((flatTo xss xss.length).map bV) ∧ Below w.heap.size w w' := by
  have hlt := hg.lt
  have HR := hidden hr
  have HL := hidden hl
  have FL := hidden (flat_le xss)
  have FT := hidden (flat_take xss)
  clear hr hl
  generalize hn : vs.length = n at *
  have HN := hidden hn
  clear hn
  go_enter Try.func25, Try.ntmps25
  go_wp2
  go_loopw [3, 11] (fun z i wr => ∃ k : Nat, k ≤ n ∧ i = .int .i64 k ∧ z = .int .i64 ((flatTo xss k).length : Nat) ∧ w = wr) (fun _ i _ => n - (intOf i).toNat)
  case atStart => exact ⟨0, Nat.zero_le _, rfl, by simp [flatTo], rfl⟩
  case round =>
    obtain ⟨k, hk, rfl, rfl, rfl⟩ := hrel
    by_cases hkn : k < n
    · obtain ⟨v, e1, e2⟩ := HR.out k hkn
      obtain ⟨a, cap, rfl, -⟩ := e2
      have c0 : w.cell? ⟨g, k, none⟩ = _ := (hg.cell k).trans e1
      have S := FT.out k (by have := HL.out; omega)
      have Le := FL.out k
      have Le2 := FL.out (k + 1)
      rw [S, List.length_append] at Le2
      have S2 := hidden S
      clear e1 S
      simp only [List.length_map] at c0
      generalize xss.getD k [] = y at *
      generalize flatTo xss k = ys at *
      have u1 : ¬ ((ys.length : Int) + (y.length : Int) < 0) := by omega
      have hkn' : (k : Int) < (n : Int) := by omega
      go_wp2
      go_roundw
      case rel =>
        refine ⟨k + 1, by omega, by go_num, ?_, trivial⟩
        rw [S2.out, List.length_append]; simp
      case measure => simp [intOf]; omega
    · obtain rfl : k = n := by omega
      have HL' := HL.out
      rw [← HL'] at h0 h1
      have T := hidden HL'
      clear HL'
      have S3 : ((flatTo xss k).length : Int) < 1000001 := by omega
      have hkn' : ¬ (k : Int) < (k : Int) := by omega
      clear hkn
      go_wp2_with fail
      refine (grow_nil _ (flatTo xss k).length _ rfl h0 (by omega)).mono ?_
      rintro e w1 ⟨v1, rfl, ho1, b1⟩
      go_wp2
      go_loopw [6, 27] (fun z i wr => ∃ j : Nat, j ≤ k ∧ i = .int .i64 j ∧ wr.ownsRow w.heap.size 5 1 z (flatTo xss j).length ((flatTo xss j).map bV) ∧ Below w.heap.size w wr) (fun _ i _ => k - (intOf i).toNat)
      case atStart => exact ⟨0, Nat.zero_le _, rfl, by simpa [flatTo] using ho1, b1⟩
      case round =>
        obtain ⟨j, hj, rfl, ho, hb⟩ := hrel
        clear ho1 b1
        by_cases hjn : j < k
        · obtain ⟨v, e1, e2⟩ := HR.out j hjn
          have R2 := e2.below hb
          obtain ⟨a, cap, rfl, -⟩ := e2
          have c0 : wr.cell? ⟨g, j, none⟩ = _ := ((hg.below hb hlt).cell j).trans e1
          have S := FT.out j (by have := HL.out; omega)
          have Le := FL.out j
          have Le2 := FL.out (j + 1)
          rw [← T.out] at Le Le2
          rw [S, List.length_append] at Le2
          have S2 := hidden S
          clear e1 S
          simp only [List.length_map] at c0 R2
          generalize xss.getD j [] = y at *
          generalize flatTo xss j = ys at *
          have hjn' : (j : Int) < (k : Int) := by omega
          have hsz := hb.size
          go_wp2_with (at_builtin; refine wpList_app rfl (.tmp 31) (.tmp 32) 27 rfl w.heap.size 5 (.int .u8 0) 1 Try.underlying27 info_u8 rfl rfl ho rfl R2 ?k0 ?k1 ?k2 ?k3 ?_)
          case k0 => exact one_bytes y
          case k1 => simp [maxLen]; omega
          case k2 => simp; omega
          case k3 => exact hsz
          intro v2 w2 ho2 hg2
          have q := hb.grown hg2 hsz (fun k hk => (ho.lt k hk).1)
          go_wp2
          go_roundw
          case rel =>
            refine ⟨j + 1, by omega, by go_num, ?_, q⟩
            rw [S2.out, List.length_append]
            simpa using ho2
          case measure => simp [intOf]; omega
        · obtain rfl : j = k := by omega
          have hjn' : ¬ (j : Int) < (j : Int) := by omega
          clear hjn
          go_wp2
          go_ret
          rw [← T.out]
          exact ⟨_, rfl, ho, hb⟩

def bOf (n : Int) : UInt8 := UInt8.ofNat (n % 256).toNat
theorem bOf_V (n : Int) : Value.int .u8 (n % 256) = bV (bOf n) := by
  have : (((bOf n).toNat : Nat) : Int) = n % 256 := by rw [bOf, UInt8.toNat_ofNat']; omega
  rw [bV, this]
/-- a message as bytes -/
def msgL (i u : Int) (p : List UInt8) : List UInt8 := [hiB (wOf i), loB (wOf i), 0, 0, hiB (wOf (1 + (p.length : Int))), loB (wOf (1 + (p.length : Int))), bOf u] ++ p
def mbytesL (i u : Int) (p : List UInt8) : List UInt8 := if p.length < 1 ∨ 253 < p.length then [] else msgL i u p
theorem msgL_len (i u : Int) (p : List UInt8) : (msgL i u p).length = p.length + 7 := by simp [msgL]

set_option maxHeartbeats 1000000 in
theorem mbytes_any (i u : Int) (vp : Value) (p : List UInt8) (w : World) (hi : -9223372036854775808 ≤ i ∧ i ≤ 9223372036854775807) (hv : Row w vp (p.map bV)) :
    Calls Try.prog 10 #[.agg #[.int .i64 i, .int .i64 u, vp]] w fun e w' => ∃ v', e = .returned v' ∧ w'.ownsRow w.heap.size 5 1 v' (mbytesL i u p).length ((mbytesL i u p).map bV) ∧ Below w.heap.size w w' := by
  obtain ⟨a, cap, rfl, -⟩ := id hv
  obtain ⟨-, h2, h3, -⟩ := hv.at
  unfold maxLen at h3
  simp only [List.length_map] at hv h2 ⊢
  have W0 : Hid (∀ o, Below w.heap.size w (w.alloc o)) := fun o => (Below.refl w.heap.size w).alloc (Nat.le_refl _) o
  by_cases h1 : p.length < 1
  · have e : mbytesL i u p = [] := by simp [mbytesL, h1]
    rw [e]
    have t1 : (p.length : Int) < 1 := by omega
    go_enter Try.func10, Try.ntmps10
    go_wp2
    go_ret
    exact ⟨_, rfl, World.ownsRow_nil _ _ _ _, W0.out _⟩
  · have t1 : ¬ (p.length : Int) < 1 := by omega
    by_cases h4 : 253 < p.length
    · have e : mbytesL i u p = [] := by simp [mbytesL, h4]
      rw [e]
      have t2 : (253 : Int) < (p.length : Int) := by omega
      go_enter Try.func10, Try.ntmps10
      go_wp2
      go_ret
      exact ⟨_, rfl, World.ownsRow_nil _ _ _ _, W0.out _⟩
    · have e : mbytesL i u p = msgL i u p := by unfold mbytesL; rw [if_neg (by omega)]
      have EL := hidden (msgL_len i u p)
      rw [e]
      have t2 : ¬ (253 : Int) < (p.length : Int) := by omega
      have EF : Hid (flatTo [[] ++ [hiB (wOf i), loB (wOf i)] ++ [hiB (wOf 0), loB (wOf 0)] ++ [hiB (wOf (1 + (p.length : Int))), loB (wOf (1 + (p.length : Int)))], [bOf u], p] 3 = msgL i u p) := by
        show _ = _
        have e0 : hiB (wOf 0) = 0 := rfl
        have e1 : loB (wOf 0) = 0 := rfl
        simp [flatTo, msgL, e0, e1]
      have EB := hidden (bOf_V u)
      clear e h1 h4
      go_enter Try.func10, Try.ntmps10
      go_wp2_with fail
      refine (put_any _ [] i _ hi (Row.nil _) (by simp)).mono ?_
      rintro e w1 ⟨v1, rfl, r1, B1⟩
      have X1 := (Blk.new w 30 [.int .i64 i, .int .i64 u, .slice a p.length cap]).below B1 (by simp)
      replace B1 := below_then (W0.out _) B1
      have S1 := B1.size
      obtain ⟨a1, c1, rfl, -⟩ := id r1
      go_wp2_with fail
      refine (put_any _ _ 0 _ (by decide) r1 (by simp)).mono ?_
      rintro e w2 ⟨v2, rfl, r2, B2⟩
      replace X1 := X1.below B2 X1.lt
      replace B1 := below_then B1 B2
      clear B2 r1
      obtain ⟨a2, c2, rfl, -⟩ := id r2
      have d2 := cell_of (i := 2) X1 rfl
      have d1 := cell_of (i := 1) X1 rfl
      go_wp2_with fail
      refine (put_any _ _ (1 + (p.length : Int)) _ (by omega) r2 (by simp)).mono ?_
      rintro e w3 ⟨v3, rfl, r3, B3⟩
      replace X1 := X1.below B3 X1.lt
      replace B1 := below_then B1 B3
      clear B3 r2 d2 d1
      obtain ⟨a3, c3, rfl, -⟩ := id r3
      have d2 := cell_of (i := 2) X1 rfl
      have d1 := cell_of (i := 1) X1 rfl
      simp only [List.length_map] at r3 ⊢
      generalize hq : [] ++ [hiB (wOf i), loB (wOf i)] ++ [hiB (wOf 0), loB (wOf 0)] ++ [hiB (wOf (1 + (p.length : Int))), loB (wOf (1 + (p.length : Int)))] = q at *
      clear hq
      have gw := X1.lt
      have R1 : Row (w3.alloc (.cells #[.int .u8 (u % 256)] 5)) (.slice (some ⟨w3.heap.size, 0, none⟩) 1 1) ([bOf u].map bV) := by
        rw [show [bOf u].map bV = [Value.int .u8 (u % 256)] by rw [EB.out]; rfl]
        exact row_new w3 [.int .u8 (u % 256)] 5 1 rfl (by decide)
      have A1 : Below w3.heap.size w3 (w3.alloc (.cells #[.int .u8 (u % 256)] 5)) := (Below.refl _ _).alloc (Nat.le_refl _) _
      go_wp2_with fail
      have BN := Blk.new (w3.alloc (.cells #[.int .u8 (u % 256)] 5)) 27 [.slice a3 q.length c3, .slice (some ⟨w3.heap.size, 0, none⟩) 1 1, .slice a p.length cap]
      simp only [World.size_alloc] at BN
      have A2 : Below w3.heap.size w3 ((w3.alloc (.cells #[.int .u8 (u % 256)] 5)).alloc (.cells #[.slice a3 q.length c3, .slice (some ⟨w3.heap.size, 0, none⟩) 1 1, .slice a p.length cap] 27)) := A1.alloc (by simp) _
      have CV := concat_own (w3.heap.size + 1) [.slice a3 q.length c3, .slice (some ⟨w3.heap.size, 0, none⟩) 1 1, .slice a p.length cap] [q, [bOf u], p] _ BN rfl ?q1 ?q2 ?q3 (by simp)
      case q1 =>
        intro j hj
        match j, hj with
        | 0, _ => exact ⟨_, rfl, r3.below A2⟩
        | 1, _ => exact ⟨_, rfl, R1.below ((Below.refl _ _).alloc (Nat.le_refl _) _)⟩
        | 2, _ => exact ⟨_, rfl, hv.below (B1.trans (A2.mono B1.size))⟩
      case q2 => rw [show [q, [bOf u], p].length = 3 from rfl, EF.out, EL.out]; omega
      case q3 => rw [show [q, [bOf u], p].length = 3 from rfl, EF.out, EL.out]; omega
      refine CV.mono ?_
      rintro e w5 ⟨v5, rfl, o5, B5⟩
      rw [show [q, [bOf u], p].length = 3 from rfl, EF.out] at o5
      replace B5 := below_then (B1.trans (A2.mono B1.size)) B5
      have o6 := owns_from o5 (base' := w.heap.size) (by simp; omega)
      clear CV
      go_wp2
      go_ret
      exact ⟨_, rfl, o6, B5⟩

end Go.Proofs.Ytejcigeccmfeeaa
