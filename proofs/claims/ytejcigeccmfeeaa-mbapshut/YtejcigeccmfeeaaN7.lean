/- A message's bytes put into a stream; Put on a stream that is closed. -/
import Derived.Test.YtejcigeccmfeeaaN6
namespace Go.Proofs.Ytejcigeccmfeeaa
open Go.RowKit

theorem getN_lit (a0 a1 a2 a3 a4 a5 a6 : UInt8) (t : List UInt8) : getN ([a0, a1, a2, a3, a4, a5, a6] ++ t) 0 = ((mkW a0 a1).toNat : Int) ∧ getN ([a0, a1, a2, a3, a4, a5, a6] ++ t) 2 = ((mkW a2 a3).toNat : Int) ∧ getN ([a0, a1, a2, a3, a4, a5, a6] ++ t) 4 = ((mkW a4 a5).toNat : Int) := by
  refine ⟨?_, ?_, ?_⟩
  · unfold getN; rw [if_pos ⟨by decide, by simp; omega⟩]; rfl
  · unfold getN; rw [if_pos ⟨by decide, by simp; omega⟩]; rfl
  · unfold getN; rw [if_pos ⟨by decide, by simp; omega⟩]; rfl
theorem wOf_sm (n : Nat) (h : n < 65536) : ((wOf (n : Int)).toNat : Int) = (n : Int) := by rw [wOf_nat]; omega
theorem bOf_small (n : Nat) (h : n < 256) : ((bOf (n : Int)).toNat : Int) = (n : Int) := by
  have : (((bOf (n : Int)).toNat : Nat) : Int) = (n : Int) % 256 := by rw [bOf, UInt8.toNat_ofNat']; omega
  omega
/-- a message's bytes, and what is behind them -/
theorem run_bytes (o : List Ms) (i u : Int) (p t : List UInt8) (h1 : 1 ≤ p.length) (h2 : p.length ≤ 253) :
    smRun ⟨[], false, o⟩ (msgL i u p ++ t) = smRun ⟨[], false, o ++ [⟨((wOf i).toNat : Int), ((bOf u).toNat : Int), p⟩]⟩ t := by
  have e : msgL i u p ++ t = [hiB (wOf i), loB (wOf i), 0, 0, hiB (wOf (1 + (p.length : Int))), loB (wOf (1 + (p.length : Int))), bOf u] ++ (p ++ t) := by simp [msgL]
  obtain ⟨g0, g2, g4⟩ := getN_lit (hiB (wOf i)) (loB (wOf i)) 0 0 (hiB (wOf (1 + (p.length : Int)))) (loB (wOf (1 + (p.length : Int)))) (bOf u) (p ++ t)
  rw [mkW_hi_lo] at g0 g4
  have w4 : ((wOf (1 + (p.length : Int))).toNat : Int) = ((p.length + 1 : Nat) : Int) := by
    have := wOf_sm (p.length + 1) (by omega)
    rw [← this]; congr 3; omega
  have hs : soundB (msgL i u p ++ t) = true := by
    rw [e]; unfold soundB; rw [g2, g4, w4]
    have e0 : ((mkW 0 0).toNat : Int) = 0 := rfl
    rw [e0]; simp; omega
  have hl := msgL_len i u p
  have ht : (msgL i u p ++ t).take (6 + (p.length + 1)) = msgL i u p := by
    rw [show 6 + (p.length + 1) = (msgL i u p).length by omega]; simp
  have hd : (msgL i u p ++ t).drop (6 + (p.length + 1)) = t := by
    rw [show 6 + (p.length + 1) = (msgL i u p).length by omega]; simp
  rw [run_msg o _ (p.length + 1) hs (by rw [e, g4, w4]) (by simp [hl]; omega), ht, hd]
  have em : msgOf (msgL i u p) = ⟨((wOf i).toNat : Int), ((bOf u).toNat : Int), p⟩ := by
    obtain ⟨q0, -, -⟩ := getN_lit (hiB (wOf i)) (loB (wOf i)) 0 0 (hiB (wOf (1 + (p.length : Int)))) (loB (wOf (1 + (p.length : Int)))) (bOf u) p
    rw [mkW_hi_lo] at q0
    unfold msgOf
    rw [show getN (msgL i u p) 0 = _ from q0]
    rfl
  rw [em]

set_option maxHeartbeats 1000000 in
theorem sput_shut (g : Nat) (v vb : Value) (bs : List UInt8) (w : World) (hX : Blk w g 58 [v, .bool true]) (hv : Row w vb (bs.map bV)) :
    Calls Try.prog 15 #[ptrS g, vb] w fun e w' => e = .returned (.slice none 0 0) ∧ w = w' := by
  obtain ⟨ab, cb, rfl, -⟩ := id hv
  obtain ⟨-, k1, k2, k3⟩ := hv.at
  unfold maxLen at k2
  simp only [List.length_map] at hv k1 k3 ⊢
  have c1 := cell_of (i := 1) hX rfl
  by_cases h0 : 0 < bs.length
  · obtain ⟨b, off, rfl, hc⟩ := k3 0 0 h0
    have cx := hc 0 h0
    rw [Nat.add_zero] at cx
    clear k3 hc hv hX
    generalize bs.getD 0 0 = x at *
    generalize bs.length = lb at *
    have h0' : (0 : Int) < (lb : Int) := by omega
    go_enter Try.func15, Try.ntmps15
    go_wp2
    go_loopw [5, 10] (fun z5 z10 wr => z5 = .slice none 0 0 ∧ z10 = .int .i64 0 ∧ w = wr) (fun _ _ _ => 0)
    case atStart => exact ⟨rfl, rfl, rfl⟩
    case round =>
      obtain ⟨rfl, rfl, rfl⟩ := hrel
      go_wp2
      go_ret
      exact ⟨rfl, rfl⟩
  · have e0 : bs.length = 0 := by omega
    clear k3 hv
    rw [e0]
    go_enter Try.func15, Try.ntmps15
    go_wp2
    go_loopw [5, 10] (fun z5 z10 wr => z5 = .slice none 0 0 ∧ z10 = .int .i64 0 ∧ w = wr) (fun _ _ _ => 0)
    case atStart => exact ⟨rfl, rfl, rfl⟩
    case round =>
      obtain ⟨rfl, rfl, rfl⟩ := hrel
      go_wp2
      go_ret
      exact ⟨rfl, rfl⟩

end Go.Proofs.Ytejcigeccmfeeaa
