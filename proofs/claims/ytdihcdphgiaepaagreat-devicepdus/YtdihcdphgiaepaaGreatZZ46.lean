/- burgageref3.Take: which reply the document's own answer takes bytes for, part 1. -/
import Derived.Test.YtdihcdphgiaepaaGreatZZ45
namespace Go.Proofs.YtdihcdphgiaepaaGreat
open Go.RowKit
set_option maxRecDepth 100000 in
set_option maxHeartbeats 4000000 in
theorem take_ref_1 (v u : Value) (bs : List UInt8) (q : Rq) (w : World) (hv : Row w v (bs.map bV)) (hq : IsRq w u q) (hcn : -9223372036854775808 ≤ q.cnt ∧ q.cnt ≤ 9223372036854775807) (hfn : -9223372036854775808 ≤ q.fn ∧ q.fn ≤ 9223372036854775807) (hbl : bs.length ≤ 140737488351232) (hcl : q.cnt ≤ 140737488355327 ∨ 8 * (bs.length : Int) < q.cnt) (hcls : fnOf bs = 1 ∨ fnOf bs = 2 ∨ fnOf bs = 3 ∨ fnOf bs = 4 ∨ fnOf bs = 23 ∨ fnOf bs = 15 ∨ fnOf bs = 16) :
  Calls Tryz.prog 13 #[v, u] w fun e w' => ∃ v', e = .returned (.tuple #[v', .int .i64 (takeE bs q.fn q.cnt)]) ∧ IsRp w' v' (takeR bs q.fn q.cnt) ∧ Below w.heap.size w w' := by
 obtain ⟨ab, capb, av, capv, rfl, -, -⟩ := hq.slices;clear hq;obtain ⟨f, l, c, p, s, bb, vv, m, o⟩ := q;simp only at hcn hfn hcl ⊢;generalize bb.length = nb at *;generalize vv.length = nv at *;clear bb vv;have W0 := hidden (fun o1 o2 => ((Below.refl w.heap.size w).alloc (Nat.le_refl _) o1).alloc (by simp) o2);have HCL := hidden hcl;have HCLS := hidden hcls;clear hcl hcls;by_cases h0 : bs = []
 ·
  subst h0;rw [takeE_short, takeR_short];obtain ⟨a, cap, rfl, -⟩ := id hv;simp only [List.map_nil, List.length_nil] at hv ⊢;clear hv;go_enter Tryz.func13, Tryz.ntmps13;go_wp2;refine bodyPost_ret (v := _) (by simp [results, Tryz.results13, go_sem]; with_reducible rfl) rfl ?_;exact ⟨_, rfl, zero_rp _, W0.out _ _⟩
 ·
  have hp : 0 < bs.length := List.length_pos_iff.2 h0;have hp2 : (0 : Int) < (bs.length : Int) := by omega
  have hne : ((bs.length : Int) == 0) = false := by rw [beq_eq_false_iff_ne]; omega
  obtain ⟨a, cap, rfl, -⟩ := id hv;obtain ⟨hl, hc, hm, hcell⟩ := hv.at;simp only [List.length_map] at hl hc hv hcell ⊢;obtain ⟨b, off, rfl, hcl⟩ := hcell 0 0 hp;have c0 := hcl 0 hp;simp only [Nat.add_zero] at c0;have hlt := lt_of_cell c0;have HF : Hid (fnOf bs = ((bs.getD 0 0).toNat : Int)) := rfl;have HC := hidden hcl;have EA := hidden (fun h => takeE_ans (b := bs) (f := f) (c := c) h0 h);have QA := hidden (fun h => takeR_ans (b := bs) (f := f) (c := c) h);have E12 := hidden (fun h => takeE_no (f := f) h0 (noB (b := bs) (c := c) h));have Q12 := hidden (fun h => takeR_no (f := f) (noB (b := bs) (c := c) h));have E0 := hidden (fun ha h => takeE_is (b := bs) (f := f) (c := c) (r := gB bs c) ha h);have Q0 := hidden (fun ha h => takeR_is (b := bs) (f := f) (c := c) (r := gB bs c) ha h);rw [HF.out] at EA QA E0 Q0;have hx := (bs.getD 0 0).toNat_lt;clear hcl hcell;generalize bs.getD 0 0 = x at *;obtain ⟨Y, hY⟩ : ∃ Y, bits BinOp.or IntKind.i64 f 128 = Y := ⟨_, rfl⟩;have hY1 : 0 ≤ f → f ≤ 127 → Y = f + 128 := fun h1 h2 => by rw [← hY]; exact or_128 f h1 h2
  have hY2 : 128 ≤ f → f ≤ 255 → Y = f := fun h1 h2 => by rw [← hY]; exact or_big f h1 h2
  have wx : IntKind.i64.wrap (x.toNat : Int) = x.toNat := by rw [IntKind.wrap_i64]; omega
  by_cases ha : ansB (x.toNat : Int) f = true
  ·
   obtain ⟨hcase, hf0, hf1⟩ := ans_yes (by omega) ha hY1;replace E0 := hidden (fun h => E0.out ha h);replace Q0 := hidden (fun h => Q0.out ha h);clear EA QA ha hY1 hY2;have X3 := (Blk.new w 33 [.int .i64 f, .int .i64 l, .int .i64 c, .int .i64 p, .int .i64 s, .slice ab nb capb, .slice av nv capv, wV m, wV o]).alloc (.cells #[.int .i64 0, .int .i64 0, .int .i64 0, .int .i64 0, .int .i64 0, .slice none 0 0, .slice none 0 0, .int .u16 0, .int .u16 0, .slice none 0 0] 46);have X4 := Blk.new_at (w.alloc (.cells #[.int .i64 f, .int .i64 l, .int .i64 c, .int .i64 p, .int .i64 s, .slice ab nb capb, .slice av nv capv, wV m, wV o] 33)) 46 [.int .i64 0, .int .i64 0, .int .i64 0, .int .i64 0, .int .i64 0, .slice none 0 0, .slice none 0 0, .int .u16 0, .int .u16 0, .slice none 0 0] (w.heap.size + 1) (by simp);have Bw := W0.out (.cells #[.int .i64 f, .int .i64 l, .int .i64 c, .int .i64 p, .int .i64 s, .slice ab nb capb, .slice av nv capv, wV m, wV o] 33) (.cells #[.int .i64 0, .int .i64 0, .int .i64 0, .int .i64 0, .int .i64 0, .slice none 0 0, .slice none 0 0, .int .u16 0, .int .u16 0, .slice none 0 0] 46);have HX := hidden (And.intro X3 (And.intro X4 Bw));clear X3 X4 Bw W0;go_enter Tryz.func13, Tryz.ntmps13;go_upto_region 4 with fail
   go_cut [38] from 18 to 38 (fun z wx => z = .bool false ∧ Blk wx w.heap.size 33 [.int .i64 f, .int .i64 l, .int .i64 c, .int .i64 p, .int .i64 s, .slice ab nb capb, .slice av nv capv, wV m, wV o] ∧ Blk wx (w.heap.size + 1) 46 [.int .i64 0, .int .i64 0, .int .i64 0, .int .i64 0, .int .i64 0, .slice none 0 0, .slice none 0 0, .int .u16 0, .int .u16 0, .slice none 0 0] ∧ Below w.heap.size w wx)
   case first =>
    rcases hcase with t1 | ⟨t1, t2⟩
    all_goals
     go_wp2;go_meet
     exact ⟨rfl, HX.out.1, HX.out.2.1, HX.out.2.2⟩
   case rest =>
    obtain ⟨rfl, X3, X4, Bw⟩ := hcut;clear HX hcase hY hf0 hf1;obtain ⟨w0, hw0⟩ : ∃ w0, w0 = wc := ⟨_, rfl⟩;subst hw0;have HX := hidden (⟨X3.alloc (.cells #[.int .i64 (x.toNat : Int), .int .i64 0, .int .i64 0, .int .i64 0, .int .i64 0, .slice none 0 0, .slice none 0 0, .int .u16 0, .int .u16 0, .slice none 0 0] 46), X4.alloc (.cells #[.int .i64 (x.toNat : Int), .int .i64 0, .int .i64 0, .int .i64 0, .int .i64 0, .slice none 0 0, .slice none 0 0, .int .u16 0, .int .u16 0, .slice none 0 0] 46), Blk.new w0 46 [.int .i64 (x.toNat : Int), .int .i64 0, .int .i64 0, .int .i64 0, .int .i64 0, .slice none 0 0, .slice none 0 0, .int .u16 0, .int .u16 0, .slice none 0 0], Bw.alloc Bw.size (.cells #[.int .i64 (x.toNat : Int), .int .i64 0, .int .i64 0, .int .i64 0, .int .i64 0, .slice none 0 0, .slice none 0 0, .int .u16 0, .int .u16 0, .slice none 0 0] 46)⟩ : _ ∧ _ ∧ _ ∧ _);have hs := X4.lt;clear X3 X4 Bw;go_upto_region 7 with fail
    go_cut [7, 43] from 42 to 43 (fun z7 z wx => z = .bool (decide ((128 : Int) ≤ (x.toNat : Int))) ∧ ∃ g7, z7 = .pointer (some ⟨g7, 0, none⟩) ∧ w.heap.size + 1 < g7 ∧ Blk wx w.heap.size 33 [.int .i64 f, .int .i64 l, .int .i64 c, .int .i64 p, .int .i64 s, .slice ab nb capb, .slice av nv capv, wV m, wV o] ∧ Blk wx (w.heap.size + 1) 46 [.int .i64 0, .int .i64 0, .int .i64 0, .int .i64 0, .int .i64 0, .slice none 0 0, .slice none 0 0, .int .u16 0, .int .u16 0, .slice none 0 0] ∧ Blk wx g7 46 [.int .i64 (x.toNat : Int), .int .i64 0, .int .i64 0, .int .i64 0, .int .i64 0, .slice none 0 0, .slice none 0 0, .int .u16 0, .int .u16 0, .slice none 0 0] ∧ Below w.heap.size w wx)
    case first =>
     go_wp2;go_meet
     exact ⟨rfl, _, rfl, hs, HX.out.1, HX.out.2.1, HX.out.2.2.1, HX.out.2.2.2⟩
    case rest =>
     obtain ⟨rfl, g7, rfl, hg7, X3, X4, X7, Bw⟩ := hcut;clear HX hs;obtain ⟨w1, hw1⟩ : ∃ w1, w1 = wc := ⟨_, rfl⟩;subst hw1;clear c0;go_upto_if 43 with fail
     go_cut [6] from 8 to 117 (fun z6 wx => z6 = .int .i64 (x.toNat : Int) ∧ ∃ vb vv vd, Blk wx w.heap.size 33 [.int .i64 f, .int .i64 l, .int .i64 c, .int .i64 p, .int .i64 s, .slice ab nb capb, .slice av nv capv, wV m, wV o] ∧ Blk wx (w.heap.size + 1) 46 [.int .i64 0, .int .i64 0, .int .i64 0, .int .i64 0, .int .i64 0, .slice none 0 0, .slice none 0 0, .int .u16 0, .int .u16 0, .slice none 0 0] ∧ Blk wx g7 46 [.int .i64 (gB bs c).fn, .int .i64 (gB bs c).code, .int .i64 (gB bs c).loc, .int .i64 (gB bs c).cnt, .int .i64 (gB bs c).sub, vb, vv, wV (gB bs c).land, wV (gB bs c).lor, vd] ∧ Row wx vb ((gB bs c).bits.map Value.bool) ∧ Row wx vv ((gB bs c).vals.map wV) ∧ Row wx vd ((gB bs c).data.map bV) ∧ NewV g7 vb ∧ NewV g7 vv ∧ NewV g7 vd ∧ Below w.heap.size w wx)
     case first =>
      by_cases h128 : (128 : Int) ≤ (x.toNat : Int)
      ·
       have HG := hidden (show gB bs c = refP ((x.toNat : Int) - 128) (codeL bs) by unfold gB; rw [HF.out, if_pos h128]);exact absurd HCLS.out (by rw [HF.out]; omega)
      ·
       have h128' : ¬ (128 : Int) ≤ (x.toNat : Int) := h128;by_cases k12 : (x.toNat : Int) = 1 ∨ (x.toNat : Int) = 2
       ·
        have HG := hidden (show gB bs c = ⟨(x.toNat : Int), 0, 0, 0, 0, (if bs.length ≤ 1 then [] else openR (bs.drop 2) c), [], 0, 0, []⟩ by unfold gB; rw [HF.out, if_neg h128, if_pos k12]);have HL := hidden (show hasL (x.toNat : Int) = [98] by unfold hasL; rw [if_pos k12]);have Ia : Hid (inI [98] 97 = false) := by rfl
        by_cases h2 : bs.length ≤ 1
        ·
         have h2' : ¬ (1 : Int) < (bs.length : Int) := by omega
         rw [if_pos h2] at HG;rcases k12 with k1 | k1
         all_goals
          rw [k1] at HL;go_wp2_with (first | (go_at_call 31; refine (has_str _ _).mono ?_; rintro e w4 ⟨rfl, rfl⟩; rw [HL.out]) | (go_at_call 32; refine (in_at [98] _ _ (by decide) (by decide)).mono ?_; rintro e w4 ⟨rfl, rfl⟩; rw [Ia.out]))
          go_meet
          simp only [HG.out];refine ⟨by rw [k1], .slice none 0 0, .slice none 0 0, .slice none 0 0, ?_, ?_, blk_to (X7) ?_, ?_, ?_, ?_, NewV.none _ _ _, NewV.none _ _ _, NewV.none _ _ _, ?_⟩
          ·
           exact X3
          ·
           exact X4
          ·
           rfl
          ·
           exact Row.nil _
          ·
           exact Row.nil _
          ·
           exact Row.nil _
          ·
           exact Bw
        ·
         have h2' : (1 : Int) < (bs.length : Int) := by omega
         have h7' : (2 : Int) ≤ (bs.length : Int) := by omega
         have h8' : 2 ≤ bs.length := by omega
         rw [if_neg h2] at HG;have e1 : ((bs.length : Int) - 2).toNat = bs.length - 2 := by omega
         have e2 : ((cap : Int) - 2).toNat = cap - 2 := by omega
         obtain ⟨ad, had⟩ : ∃ ad, (if cap = 2 then some ⟨b, off, none⟩ else some ⟨b, off + 2, none⟩) = (ad : Option Addr) := ⟨_, rfl⟩;have HR := hidden (fun w' (h : Below w.heap.size w w') => row_two (hv.below h) h8' had);have HO := hidden (fun v w' (h : Row w' v ((bs.drop 2).map bV)) => ropen_all v (bs.drop 2) c w' hcn h (by rw [List.length_drop]; omega) (by have := HCL.out; rw [List.length_drop]; omega));rcases k12 with k1 | k1
         all_goals
          rw [k1] at HL;go_wp2_with (first | (go_at_call 31; refine (has_str _ _).mono ?_; rintro e w4 ⟨rfl, rfl⟩; rw [HL.out]) | (go_at_call 32; refine (in_at [98] _ _ (by decide) (by decide)).mono ?_; rintro e w4 ⟨rfl, rfl⟩; rw [Ia.out]))
          refine c_begin 10 rfl (by kernel_rfl) ?_;replace X3 := X3.drew;replace X4 := X4.drew;replace X7 := X7.drew;replace Bw := Bw.drew;generalize w1.drew = w2 at *;have s2 : w2.cell? ⟨w.heap.size, 2, none⟩ = some (.int .i64 c) := X3.cell 2;refine c_P trivial 0 rfl ?_;refine c_P trivial 1 rfl ?_;refine c_P trivial 2 rfl ?_;refine c_R (fun w' => w'.cell? ⟨w.heap.size, 2, none⟩ = some (.int .i64 c)) s2 trivial 3 rfl (fun w' hx => by go_simp; with_reducible rfl) ?_;refine c_move 4 (by kernel_rfl) (c_op 4 [] (by kernel_rfl) rfl (by kernel_rfl) (fun K hK => ?_));go_wp2_with fail
          refine (HO.out _ _ (HR.out _ Bw)).mono ?_;rintro e w3 ⟨v3, rfl, hr3, B3, nv3⟩;have l7 := X7.lt;replace X7 := X7.below B3 X7.lt;replace X4 := X4.below B3 X4.lt;replace X3 := X3.below B3 X3.lt;replace Bw := below_then Bw B3;replace nv3 := nv3.le (base' := g7 + 1) (by omega);go_simp;refine hK.out _ _ trivial ?_;clear K hK s2 B3 l7;try simp only [Act.put, PuA, PuB, PuC]
          obtain ⟨a3, cap3, rfl, -⟩ := id hr3;simp only [List.length_map] at hr3 nv3 ⊢;generalize openOk (bs.drop 2) c = ok at *;refine c_P trivial 5 rfl ?_;refine c_P trivial 6 rfl ?_;refine c_P trivial 7 rfl ?_;refine c_P trivial 8 rfl ?_;have s5 : w3.cell? ⟨g7, 5, none⟩ = some (.slice none 0 0) := X7.cell 5;have f5 := X7.frozen;have g5 := X7.lt;refine c_move 9 (by kernel_rfl) (c_op 9 [] (by kernel_rfl) rfl (by kernel_rfl) (fun K hK => ?_));go_simp;refine hK.out _ _ trivial ?_;clear K hK s5 f5 g5;try simp only [Act.put, PuA, PuB, PuC]
          refine c_done (by kernel_rfl) ?_;go_wp2;go_meet
          simp only [HG.out];refine ⟨by rw [k1], _, .slice none 0 0, .slice none 0 0, ?_, ?_, blk_to (X7.set 5 _) ?_, ?_, ?_, ?_, (nv3.le (Nat.le_succ g7)), NewV.none _ _ _, NewV.none _ _ _, ?_⟩
          ·
           exact ((X3).set_ne (by omega) _ _)
          ·
           exact ((X4).set_ne (by omega) _ _)
          ·
           rfl
          ·
           exact Row.setCell_new hr3 nv3 (by omega)
          ·
           exact Row.nil _
          ·
           exact Row.nil _
          ·
           exact (Below.setCell Bw (by first | omega | (simp; done) | (simp; omega)) _)
       ·
        by_cases k3 : (x.toNat : Int) = 3 ∨ (x.toNat : Int) = 4 ∨ (x.toNat : Int) = 23
        ·
         have HG := hidden (show gB bs c = ⟨(x.toNat : Int), 0, 0, 0, 0, [], wordsAt bs 2, 0, 0, []⟩ by unfold gB; rw [HF.out, if_neg h128, if_neg k12, if_pos k3]);have HL := hidden (show hasL (x.toNat : Int) = [118] by unfold hasL; rw [if_neg k12, if_pos k3]);have Ia : Hid (inI [118] 97 = false) := by rfl
         clear k12;rcases k3 with k1 | k1 | k1
         all_goals
          rw [k1] at HL;go_wp2_with (first | (go_at_call 31; refine (has_str _ _).mono ?_; rintro e w4 ⟨rfl, rfl⟩; rw [HL.out]) | (go_at_call 32; refine (in_at [118] _ _ (by decide) (by decide)).mono ?_; rintro e w4 ⟨rfl, rfl⟩; rw [Ia.out]))
          refine (words_ref _ bs 2 2 _ rfl (by decide) (hv.below Bw) (by omega)).mono ?_;rintro e w3 ⟨v3, rfl, hr3, B3, nv3⟩;have l7 := X7.lt;replace X7 := X7.below B3 X7.lt;replace X4 := X4.below B3 X4.lt;replace X3 := X3.below B3 X3.lt;replace Bw := below_then Bw B3;replace nv3 := nv3.le (base' := g7 + 1) (by omega);clear B3 l7;obtain ⟨a3, cap3, rfl, -⟩ := id hr3;simp only [List.length_map] at hr3 nv3 ⊢;have s5 : w3.cell? ⟨g7, 6, none⟩ = some (.slice none 0 0) := X7.cell 6;have f5 := X7.frozen;have g5 := X7.lt;go_wp2_with (first | (go_at_call 31; refine (has_str _ _).mono ?_; rintro e w4 ⟨rfl, rfl⟩; rw [HL.out]) | (go_at_call 32; refine (in_at [118] _ _ (by decide) (by decide)).mono ?_; rintro e w4 ⟨rfl, rfl⟩; rw [Ia.out]))
          go_meet
          simp only [HG.out];refine ⟨by rw [k1], .slice none 0 0, _, .slice none 0 0, ?_, ?_, blk_to (X7.set 6 _) ?_, ?_, ?_, ?_, NewV.none _ _ _, (nv3.le (Nat.le_succ g7)), NewV.none _ _ _, ?_⟩
          ·
           exact ((X3).set_ne (by omega) _ _)
          ·
           exact ((X4).set_ne (by omega) _ _)
          ·
           rfl
          ·
           exact Row.nil _
          ·
           exact Row.setCell_new hr3 nv3 (by omega)
          ·
           exact Row.nil _
          ·
           exact (Below.setCell Bw (by first | omega | (simp; done) | (simp; omega)) _)
        ·
         by_cases k15 : (x.toNat : Int) = 15 ∨ (x.toNat : Int) = 16
         ·
          have HG := hidden (show gB bs c = ⟨(x.toNat : Int), 0, getN bs 1, getN bs 3, 0, [], [], 0, 0, []⟩ by unfold gB; rw [HF.out, if_neg h128, if_neg k12, if_neg k3, if_pos k15]);have HL := hidden (show hasL (x.toNat : Int) = [97, 99] by unfold hasL; rw [if_neg k12, if_neg k3, if_neg (by omega), if_neg (by omega), if_neg (by omega), if_pos k15]);have Ia : Hid (inI [97, 99] 97 = true) := by rfl
          have C1 := hidden (fun w' (h : Row w' (.slice (some ⟨b, off, none⟩) bs.length cap) (bs.map bV)) => num_ref _ bs 1 w' (by omega) h);obtain ⟨i1, j1⟩ := getN_in bs 1;have C3 := hidden (fun w' (h : Row w' (.slice (some ⟨b, off, none⟩) bs.length cap) (bs.map bV)) => num_ref _ bs 3 w' (by omega) h);obtain ⟨i3, j3⟩ := getN_in bs 3;generalize getN bs 1 = N1 at *;generalize getN bs 3 = N3 at *;have c0 := X7.cell 0;have c1 := X7.cell 1;have c2 := X7.cell 2;have c3 := X7.cell 3;have c4 := X7.cell 4;have c5 := X7.cell 5;have c6 := X7.cell 6;have c7 := X7.cell 7;have c8 := X7.cell 8;have c9 := X7.cell 9;simp at c0 c1 c2 c3 c4 c5 c6 c7 c8 c9;have cf := X7.frozen;have cl := X7.lt;clear k12 k3;rcases k15 with k1 | k1
          all_goals
           rw [k1] at HL;go_wp2_with (first | (go_at_call 31; refine (has_str _ _).mono ?_; rintro e w4 ⟨rfl, rfl⟩; rw [HL.out]) | (go_at_call 32; refine (in_at [97, 99] _ _ (by decide) (by decide)).mono ?_; rintro e w4 ⟨rfl, rfl⟩; rw [Ia.out]))
           refine (C1.out _ (hv.below Bw)).mono ?_;rintro e w2 ⟨rfl, nq0, rfl⟩;go_wp2_with (first | (go_at_call 31; refine (has_str _ _).mono ?_; rintro e w4 ⟨rfl, rfl⟩; rw [HL.out]) | (go_at_call 32; refine (in_at [97, 99] _ _ (by decide) (by decide)).mono ?_; rintro e w4 ⟨rfl, rfl⟩; rw [Ia.out]))
           refine (C3.out _ (hv.below ?b)).mono ?_
           case b => exact Below.setCell (below_drewn Bw _) (by first | omega | (simp; done) | (simp; omega)) _
           rintro e w2 ⟨rfl, nq1, rfl⟩;go_wp2_with (first | (go_at_call 31; refine (has_str _ _).mono ?_; rintro e w4 ⟨rfl, rfl⟩; rw [HL.out]) | (go_at_call 32; refine (in_at [97, 99] _ _ (by decide) (by decide)).mono ?_; rintro e w4 ⟨rfl, rfl⟩; rw [Ia.out]))
           go_meet
           simp only [HG.out];refine ⟨by rw [k1], .slice none 0 0, .slice none 0 0, .slice none 0 0, ?_, ?_, blk_to ((((X7.drewN nq0).set 2 _).drewN nq1).set 3 _) ?_, ?_, ?_, ?_, NewV.none _ _ _, NewV.none _ _ _, NewV.none _ _ _, ?_⟩
           ·
            exact ((((((((X3).drewN _)).set_ne (by omega) _ _)).drewN _)).set_ne (by omega) _ _)
           ·
            exact ((((((((X4).drewN _)).set_ne (by omega) _ _)).drewN _)).set_ne (by omega) _ _)
           ·
            rfl
           ·
            exact Row.nil _
           ·
            exact Row.nil _
           ·
            exact Row.nil _
           ·
            exact (Below.setCell (below_drewn (Below.setCell (below_drewn Bw _) (by first | omega | (simp; done) | (simp; omega)) _) _) (by first | omega | (simp; done) | (simp; omega)) _)
         ·
          by_cases k17 : (x.toNat : Int) = 17
          ·
           have HG := hidden (show gB bs c = ⟨(x.toNat : Int), 0, 0, 0, 0, [], [], 0, 0, (if bs.length ≤ 1 then [] else bs.drop 2)⟩ by unfold gB; rw [HF.out, if_neg h128, if_neg k12, if_neg k3, if_neg k15, if_pos k17]);have HL := hidden (show hasL (x.toNat : Int) = [100] by unfold hasL; rw [if_neg k12, if_neg k3, if_neg (by omega), if_neg (by omega), if_neg (by omega), if_neg k15, if_pos k17]);have Ia : Hid (inI [100] 97 = false) := by rfl
           rw [k17] at HL;exact absurd HCLS.out (by rw [HF.out]; omega)
          ·
           exact absurd HCLS.out (by rw [HF.out]; omega)
     case rest =>
      obtain ⟨rfl, vb, vv, vd, X3, X4, X7, Rb, Rv, Rd, nvb, nvv, nvd, Bw⟩ := hcut;obtain ⟨bA, bC, e1, -⟩ := id Rb;obtain ⟨vA, vC, e2, -⟩ := id Rv;obtain ⟨dA, dC, e3, -⟩ := id Rd;subst e1 e2 e3;simp only [List.length_map] at X7 Rb Rv Rd nvb nvv nvd;have HCODE := hidden (gB_code (b := bs) (c := c) (by have := HCLS.out; omega));generalize gB bs c = r at *;obtain ⟨w2, hw2⟩ : ∃ w2, w2 = wc := ⟨_, rfl⟩;subst hw2;have IR := hidden (fun w' (hb : Below w2.heap.size w2 w') => (show IsRp w' (rpV r.fn r.code r.loc r.cnt r.sub (.slice bA r.bits.length bC) (.slice vA r.vals.length vC) r.land r.lor (.slice dA r.data.length dC)) r from ⟨_, _, _, rfl, Rb.below hb, Rv.below hb, Rd.below hb⟩));obtain ⟨B, hBt, hBf⟩ : ∃ B : Bool, (¬ isA bs c r → B = true) ∧ (isA bs c r → B = false) := by
       by_cases h : isA bs c r
       ·
        exact ⟨false, fun h' => absurd h h', fun _ => rfl⟩
       ·
        exact ⟨true, fun _ => rfl, fun h' => absurd h' h⟩
      have HBt := hidden hBt;have HBf := hidden hBf;clear hBt hBf;go_upto_region 31 with fail
      go_cut [165] from 118 to 165 (fun z wx => z = .bool B ∧ Below w2.heap.size w2 wx)
      case first =>
       have CG := hidden (fun w' hb => good_ref _ r w' (IR.out w' hb));have HCB := hidden (fun w' (hx : Ext w2.drew w') => conv_row (P := Tryz.prog) (hv.below (below_then (below_then Bw (Below.refl w2.heap.size w2).drew) hx)) 27 9 5 Tryz.underlying27 Tryz.underlying5 Tryz.underlying9);refine wp_region_pi [(0, true), (1, false), (2, true), (3, true), (4, true), (7, true), (8, true), (5, false), (6, true), (9, true), (10, true), (11, true), (12, true), (13, true), (14, true), (15, true), (16, true), (17, true), (18, true), (19, true), (20, true), (21, true), (22, true), (23, true), (24, true), (25, true), (26, true), (27, true), (28, true), (29, true), (30, true), (31, true), (32, true), (33, true), (34, true), (35, true), (36, true), (37, true), (38, true), (39, true), (40, true), (41, true), (42, true), (43, true), (44, true), (45, true), (46, true), (47, true)] (by kernel_rfl) (by kernel_rfl) (by kernel_rfl) (fun _ _ _ d _ h => by cases d <;> exact h) ?_;have ED := (Below.refl w2.heap.size w2).drew;have BD := X7.below ED X7.lt;have BQ := X3.below ED X3.lt;have x0 := Ext.refl w2.drew;have RD := hidden (fun w' (hx : Ext w2.drew w') => (⟨cell_of (i := 0) (BD.below hx BD.lt) rfl, cell_of (i := 1) (BD.below hx BD.lt) rfl, cell_of (i := 2) (BD.below hx BD.lt) rfl, cell_of (i := 3) (BD.below hx BD.lt) rfl, cell_of (i := 4) (BD.below hx BD.lt) rfl, cell_of (i := 5) (BD.below hx BD.lt) rfl, cell_of (i := 6) (BD.below hx BD.lt) rfl, cell_of (i := 7) (BD.below hx BD.lt) rfl, cell_of (i := 8) (BD.below hx BD.lt) rfl, cell_of (i := 9) (BD.below hx BD.lt) rfl⟩ : _ ∧ _ ∧ _ ∧ _ ∧ _ ∧ _ ∧ _ ∧ _ ∧ _ ∧ _));have RQ := hidden (fun w' (hx : Ext w2.drew w') => cell_of (i := 2) (BQ.below hx BQ.lt) rfl);clear BD BQ X3 X4 X7 Rb Rv Rd;generalize w2.drew = w3 at *;refine pi_R x0 rfl (fun w' hx => by obtain ⟨y0, y1, y2, y3, y4, y5, y6, y7, y8, y9⟩ := RD.out w' hx; go_simp; with_reducible rfl) ?_;refine pi_move rfl (by kernel_rfl) (fun K hK => ?_);go_wp2_with fail
       refine (CG.out _ ED).mono ?_;rintro e c1 ⟨rfl, E1⟩;go_simp;refine hK.out _ _ E1 ?_;clear K hK;try simp only [Act.put, PuA, PuB, PuC]
       have x1 := Ext.refl c1;by_cases hg : goodE r = 0
       ·
        rw [hg];iterate 2 (refine pi_P E1 rfl ?_)
        refine pi_R E1 rfl (fun w' hx => by obtain ⟨y0, y1, y2, y3, y4, y5, y6, y7, y8, y9⟩ := RD.out w' (Ext.trans E1 hx); have yq := RQ.out w' (Ext.trans E1 hx); go_simp; with_reducible rfl) ?_;refine pi_P x1 rfl ?_;refine pi_R x1 rfl (fun w' hx => by have yb := HCB.out w' (Ext.trans E1 hx); go_simp; with_reducible rfl) ?_;refine pi_move rfl (by kernel_rfl) (fun K hK => ?_);go_wp2_with fail
        refine (lay_ref _ r _ (IR.out _ (below_then ED E1)) hg).mono ?_;rintro e c2 ⟨v2, rfl, o2, E2⟩;have R2 := Row.of_owns o2;have HC2 := hidden (fun w' (hx : Ext c2 w') => conv_row (P := Tryz.prog) (R2.below hx) 27 9 5 Tryz.underlying27 Tryz.underlying5 Tryz.underlying9);have T2 := Ext.trans E1 E2;go_simp;refine hK.out _ _ E2 ?_;clear K hK;try simp only [Act.put, PuA, PuB, PuC]
        have x2 := Ext.refl c2;refine pi_R E2 rfl (fun w' hx => by have yl := HC2.out w' hx; go_simp; with_reducible rfl) ?_;clear o2 R2 HC2 HCB CG;by_cases hl2 : layA r = bs
        ·
         rw [hl2];by_cases hc0 : r.code = 0
         ·
          obtain ⟨hfx, hkf⟩ := fn_lay0 hg hl2 hc0;rw [HF.out] at hfx;have hcb : (r.code == 0) = true := by simpa using hc0
          have HI := hidden (show askB r c = true → isA bs c r from fun h => ⟨hg, hl2, h⟩);have HN := hidden (show ¬ askB r c = true → ¬ isA bs c r from fun h h' => h h'.2.2);iterate 4 (refine pi_P x2 rfl ?_)
          refine pi_R x2 rfl (fun w' hx => by obtain ⟨y0, y1, y2, y3, y4, y5, y6, y7, y8, y9⟩ := RD.out w' (Ext.trans T2 hx); have yq := RQ.out w' (Ext.trans T2 hx); go_simp; with_reducible rfl) ?_;have ta : Hid (askB r c = if r.fn = 1 ∨ r.fn = 2 then decide ((r.bits.length : Int) = c) else if r.fn = 3 ∨ r.fn = 4 ∨ r.fn = 23 then decide ((r.vals.length : Int) = c) else true) := by
           show _ = _;unfold askB;rw [if_neg (by simp [hc0])]
          rw [← hfx] at ta;have hkx := known_cases (hfx ▸ hkf : knownB (x.toNat : Int) = true);clear hfx hkf;by_cases k12 : (x.toNat : Int) = 1 ∨ (x.toNat : Int) = 2
          ·
           rw [if_pos k12] at ta;have k2 : (x.toNat : Int) ≤ 2 := by omega
           have t3 : ((x.toNat : Int) == 3) = false := by rw [beq_eq_false_iff_ne]; omega
           have t4 : ((x.toNat : Int) == 4) = false := by rw [beq_eq_false_iff_ne]; omega
           have t23 : ((x.toNat : Int) == 23) = false := by rw [beq_eq_false_iff_ne]; omega
           clear hkx;by_cases hcn2 : (r.bits.length : Int) = c
           ·
            have tn : ((r.bits.length : Int) != c) = false := by simpa using hcn2
            have PF := HI.out (by rw [ta.out]; simpa using hcn2);clear hcn2 ta;iterate 6 (refine pi_P x2 rfl ?_)
            refine pi_R x2 rfl (fun w' hx => by obtain ⟨y0, y1, y2, y3, y4, y5, y6, y7, y8, y9⟩ := RD.out w' (Ext.trans T2 hx); have yq := RQ.out w' (Ext.trans T2 hx); go_simp; with_reducible rfl) ?_;iterate 2 (refine pi_P x2 rfl ?_)
            refine pi_R x2 rfl (fun w' hx => by obtain ⟨y0, y1, y2, y3, y4, y5, y6, y7, y8, y9⟩ := RD.out w' (Ext.trans T2 hx); have yq := RQ.out w' (Ext.trans T2 hx); go_simp; with_reducible rfl) ?_;iterate 14 (refine pi_P x2 rfl ?_)
            iterate 6 (refine pi_S x2 rfl ?_)
            iterate 4 (refine pi_P x2 rfl ?_)
            refine pi_nil ?_;go_wp2_with fail
            go_meet
            exact ⟨by rw [HBf.out PF], below_then ED T2⟩
           ·
            have tn : ((r.bits.length : Int) != c) = true := by simpa using hcn2
            have PF := HN.out (by rw [ta.out]; simpa using hcn2);clear hcn2 ta;iterate 6 (refine pi_P x2 rfl ?_)
            refine pi_R x2 rfl (fun w' hx => by obtain ⟨y0, y1, y2, y3, y4, y5, y6, y7, y8, y9⟩ := RD.out w' (Ext.trans T2 hx); have yq := RQ.out w' (Ext.trans T2 hx); go_simp; with_reducible rfl) ?_;iterate 2 (refine pi_P x2 rfl ?_)
            refine pi_R x2 rfl (fun w' hx => by obtain ⟨y0, y1, y2, y3, y4, y5, y6, y7, y8, y9⟩ := RD.out w' (Ext.trans T2 hx); have yq := RQ.out w' (Ext.trans T2 hx); go_simp; with_reducible rfl) ?_;iterate 3 (refine pi_P x2 rfl ?_)
            iterate 18 (refine pi_S x2 rfl ?_)
            iterate 3 (refine pi_P x2 rfl ?_)
            refine pi_nil ?_;go_wp2_with fail
            go_meet
            exact ⟨by rw [HBt.out PF], below_then ED T2⟩
          ·
           rw [if_neg k12] at ta;have k2 : ¬ (x.toNat : Int) ≤ 2 := by omega
           clear hkx k12;by_cases k3 : (x.toNat : Int) = 3 ∨ (x.toNat : Int) = 4 ∨ (x.toNat : Int) = 23
           ·
            rw [if_pos k3] at ta;by_cases hcn2 : (r.vals.length : Int) = c
            ·
             have tn : ((r.vals.length : Int) != c) = false := by simpa using hcn2
             have PF := HI.out (by rw [ta.out]; simpa using hcn2);clear hcn2 ta;rcases k3 with k1 | k1 | k1
             ·
              skip
              iterate 5 (refine pi_P x2 rfl ?_)
              iterate 6 (refine pi_S x2 rfl ?_)
              iterate 5 (refine pi_P x2 rfl ?_)
              iterate 2 (refine pi_S x2 rfl ?_)
              iterate 2 (refine pi_P x2 rfl ?_)
              iterate 2 (refine pi_S x2 rfl ?_)
              iterate 3 (refine pi_P x2 rfl ?_)
              refine pi_R x2 rfl (fun w' hx => by obtain ⟨y0, y1, y2, y3, y4, y5, y6, y7, y8, y9⟩ := RD.out w' (Ext.trans T2 hx); have yq := RQ.out w' (Ext.trans T2 hx); go_simp; with_reducible rfl) ?_;iterate 2 (refine pi_P x2 rfl ?_)
              refine pi_R x2 rfl (fun w' hx => by obtain ⟨y0, y1, y2, y3, y4, y5, y6, y7, y8, y9⟩ := RD.out w' (Ext.trans T2 hx); have yq := RQ.out w' (Ext.trans T2 hx); go_simp; with_reducible rfl) ?_;iterate 5 (refine pi_P x2 rfl ?_)
              clear k1;refine pi_nil ?_;go_wp2_with fail
              go_meet
              exact ⟨by rw [HBf.out PF], below_then ED T2⟩
             ·
              skip
              iterate 5 (refine pi_P x2 rfl ?_)
              iterate 6 (refine pi_S x2 rfl ?_)
              iterate 9 (refine pi_P x2 rfl ?_)
              iterate 2 (refine pi_S x2 rfl ?_)
              iterate 3 (refine pi_P x2 rfl ?_)
              refine pi_R x2 rfl (fun w' hx => by obtain ⟨y0, y1, y2, y3, y4, y5, y6, y7, y8, y9⟩ := RD.out w' (Ext.trans T2 hx); have yq := RQ.out w' (Ext.trans T2 hx); go_simp; with_reducible rfl) ?_;iterate 2 (refine pi_P x2 rfl ?_)
              refine pi_R x2 rfl (fun w' hx => by obtain ⟨y0, y1, y2, y3, y4, y5, y6, y7, y8, y9⟩ := RD.out w' (Ext.trans T2 hx); have yq := RQ.out w' (Ext.trans T2 hx); go_simp; with_reducible rfl) ?_;iterate 5 (refine pi_P x2 rfl ?_)
              clear k1;refine pi_nil ?_;go_wp2_with fail
              go_meet
              exact ⟨by rw [HBf.out PF], below_then ED T2⟩
             ·
              skip
              iterate 5 (refine pi_P x2 rfl ?_)
              iterate 6 (refine pi_S x2 rfl ?_)
              iterate 14 (refine pi_P x2 rfl ?_)
              refine pi_R x2 rfl (fun w' hx => by obtain ⟨y0, y1, y2, y3, y4, y5, y6, y7, y8, y9⟩ := RD.out w' (Ext.trans T2 hx); have yq := RQ.out w' (Ext.trans T2 hx); go_simp; with_reducible rfl) ?_;iterate 2 (refine pi_P x2 rfl ?_)
              refine pi_R x2 rfl (fun w' hx => by obtain ⟨y0, y1, y2, y3, y4, y5, y6, y7, y8, y9⟩ := RD.out w' (Ext.trans T2 hx); have yq := RQ.out w' (Ext.trans T2 hx); go_simp; with_reducible rfl) ?_;iterate 5 (refine pi_P x2 rfl ?_)
              clear k1;refine pi_nil ?_;go_wp2_with fail
              go_meet
              exact ⟨by rw [HBf.out PF], below_then ED T2⟩
            ·
             have tn : ((r.vals.length : Int) != c) = true := by simpa using hcn2
             have PF := HN.out (by rw [ta.out]; simpa using hcn2);clear hcn2 ta;rcases k3 with k1 | k1 | k1
             ·
              skip
              iterate 5 (refine pi_P x2 rfl ?_)
              iterate 6 (refine pi_S x2 rfl ?_)
              iterate 5 (refine pi_P x2 rfl ?_)
              iterate 2 (refine pi_S x2 rfl ?_)
              iterate 2 (refine pi_P x2 rfl ?_)
              iterate 2 (refine pi_S x2 rfl ?_)
              iterate 3 (refine pi_P x2 rfl ?_)
              refine pi_R x2 rfl (fun w' hx => by obtain ⟨y0, y1, y2, y3, y4, y5, y6, y7, y8, y9⟩ := RD.out w' (Ext.trans T2 hx); have yq := RQ.out w' (Ext.trans T2 hx); go_simp; with_reducible rfl) ?_;iterate 2 (refine pi_P x2 rfl ?_)
              refine pi_R x2 rfl (fun w' hx => by obtain ⟨y0, y1, y2, y3, y4, y5, y6, y7, y8, y9⟩ := RD.out w' (Ext.trans T2 hx); have yq := RQ.out w' (Ext.trans T2 hx); go_simp; with_reducible rfl) ?_;iterate 5 (refine pi_P x2 rfl ?_)
              clear k1;refine pi_nil ?_;go_wp2_with fail
              go_meet
              exact ⟨by rw [HBt.out PF], below_then ED T2⟩
             ·
              skip
              iterate 5 (refine pi_P x2 rfl ?_)
              iterate 6 (refine pi_S x2 rfl ?_)
              iterate 9 (refine pi_P x2 rfl ?_)
              iterate 2 (refine pi_S x2 rfl ?_)
              iterate 3 (refine pi_P x2 rfl ?_)
              refine pi_R x2 rfl (fun w' hx => by obtain ⟨y0, y1, y2, y3, y4, y5, y6, y7, y8, y9⟩ := RD.out w' (Ext.trans T2 hx); have yq := RQ.out w' (Ext.trans T2 hx); go_simp; with_reducible rfl) ?_;iterate 2 (refine pi_P x2 rfl ?_)
              refine pi_R x2 rfl (fun w' hx => by obtain ⟨y0, y1, y2, y3, y4, y5, y6, y7, y8, y9⟩ := RD.out w' (Ext.trans T2 hx); have yq := RQ.out w' (Ext.trans T2 hx); go_simp; with_reducible rfl) ?_;iterate 5 (refine pi_P x2 rfl ?_)
              clear k1;refine pi_nil ?_;go_wp2_with fail
              go_meet
              exact ⟨by rw [HBt.out PF], below_then ED T2⟩
             ·
              skip
              iterate 5 (refine pi_P x2 rfl ?_)
              iterate 6 (refine pi_S x2 rfl ?_)
              iterate 14 (refine pi_P x2 rfl ?_)
              refine pi_R x2 rfl (fun w' hx => by obtain ⟨y0, y1, y2, y3, y4, y5, y6, y7, y8, y9⟩ := RD.out w' (Ext.trans T2 hx); have yq := RQ.out w' (Ext.trans T2 hx); go_simp; with_reducible rfl) ?_;iterate 2 (refine pi_P x2 rfl ?_)
              refine pi_R x2 rfl (fun w' hx => by obtain ⟨y0, y1, y2, y3, y4, y5, y6, y7, y8, y9⟩ := RD.out w' (Ext.trans T2 hx); have yq := RQ.out w' (Ext.trans T2 hx); go_simp; with_reducible rfl) ?_;iterate 5 (refine pi_P x2 rfl ?_)
              clear k1;refine pi_nil ?_;go_wp2_with fail
              go_meet
              exact ⟨by rw [HBt.out PF], below_then ED T2⟩
           ·
            rw [if_neg k3] at ta;have PF := HI.out (by rw [ta.out]);obtain ⟨n3, n4⟩ := not_or.1 k3;obtain ⟨n4, n23⟩ := not_or.1 n4;have t3 : ((x.toNat : Int) == 3) = false := by rw [beq_eq_false_iff_ne]; omega
            have t4 : ((x.toNat : Int) == 4) = false := by rw [beq_eq_false_iff_ne]; omega
            have t23 : ((x.toNat : Int) == 23) = false := by rw [beq_eq_false_iff_ne]; omega
            clear ta k3 n3 n4 n23;iterate 5 (refine pi_P x2 rfl ?_)
            iterate 6 (refine pi_S x2 rfl ?_)
            iterate 13 (refine pi_P x2 rfl ?_)
            iterate 6 (refine pi_S x2 rfl ?_)
            iterate 4 (refine pi_P x2 rfl ?_)
            refine pi_nil ?_;go_wp2_with fail
            go_meet
            exact ⟨by rw [HBf.out PF], below_then ED T2⟩
         ·
          have hcb : (r.code == 0) = false := by simpa using hc0
          have PF : isA bs c r := ⟨hg, hl2, by unfold askB; rw [if_pos hc0]⟩;exact absurd HCODE.out hc0
        ·
         have hno : ¬ isA bs c r := fun h => hl2 h.2.1;have hSS : (layA r == bs) = false := by simpa using hl2
         iterate 3 (refine pi_P x2 rfl ?_)
         iterate 35 (refine pi_S x2 rfl ?_)
         refine pi_P x2 rfl ?_;refine pi_nil ?_;go_wp2_with fail
         go_meet
         exact ⟨by rw [HBt.out hno], below_then ED T2⟩
       ·
        have hno : ¬ isA bs c r := fun h => hg h.1;have hgn : (goodE r != 0) = true := by simpa using hg
        iterate 2 (refine pi_P E1 rfl ?_)
        iterate 3 (refine pi_S E1 rfl ?_)
        refine pi_pass E1 rfl (by kernel_rfl) ?_; try simp only [Act.put, PuA, PuB, PuC];iterate 2 (refine pi_S E1 rfl ?_)
        iterate 2 (refine pi_P E1 rfl ?_)
        iterate 35 (refine pi_S E1 rfl ?_)
        refine pi_P E1 rfl ?_;refine pi_nil ?_;go_wp2_with fail
        go_meet
        exact ⟨by rw [HBt.out hno], below_then ED E1⟩
      case rest =>
       obtain ⟨rfl, E1⟩ := hcut;replace X4 := X4.below E1 X4.lt;replace X7 := X7.below E1 X7.lt;replace Rb := Rb.below E1;replace Rv := Rv.below E1;replace Rd := Rd.below E1;replace Bw := below_then Bw E1;clear X3 IR E1;have z0 := cell_of (i := 0) X4 rfl;have z1 := cell_of (i := 1) X4 rfl;have z2 := cell_of (i := 2) X4 rfl;have z3 := cell_of (i := 3) X4 rfl;have z4 := cell_of (i := 4) X4 rfl;have z5 := cell_of (i := 5) X4 rfl;have z6 := cell_of (i := 6) X4 rfl;have z7 := cell_of (i := 7) X4 rfl;have z8 := cell_of (i := 8) X4 rfl;have z9 := cell_of (i := 9) X4 rfl;have fz := X4.frozen;have gz := X4.lt;by_cases hA : isA bs c r
       ·
        rw [HBf.out hA];have HE := hidden (E0.out hA);have HZ := hidden (Q0.out hA);have y0 := cell_of (i := 0) X7 rfl;have y1 := cell_of (i := 1) X7 rfl;have y2 := cell_of (i := 2) X7 rfl;have y3 := cell_of (i := 3) X7 rfl;have y4 := cell_of (i := 4) X7 rfl;have y5 := cell_of (i := 5) X7 rfl;have y6 := cell_of (i := 6) X7 rfl;have y7 := cell_of (i := 7) X7 rfl;have y8 := cell_of (i := 8) X7 rfl;have y9 := cell_of (i := 9) X7 rfl;have g8 := X7.lt;clear X4 X7 E12 Q12 E0 Q0 HBt HBf hA;go_wp2;refine bodyPost_ret (v := _) (by simp [results, Tryz.results13, go_sem, z0, z1, z2, z3, z4, z5, z6, z7, z8, z9]; with_reducible rfl) rfl ?_;rw [HE.out, HZ.out];refine ⟨_, rfl, ⟨_, _, _, rfl, ?_, ?_, ?_⟩, ?_⟩
        ·
         repeat' (refine Row.setCell_new ?_ nvb (by omega))
         exact Rb
        ·
         repeat' (refine Row.setCell_new ?_ nvv (by omega))
         exact Rv
        ·
         repeat' (refine Row.setCell_new ?_ nvd (by omega))
         exact Rd
        ·
         repeat' (refine Below.setCell ?_ (by simp) _)
         exact Bw
       ·
        rw [HBt.out hA];have HE := hidden (E12.out hA);have HZ := hidden (Q12.out hA);clear X4 X7 E12 Q12 E0 Q0 HBt HBf hA Rb Rv Rd;go_wp2;refine bodyPost_ret (v := _) (by simp [results, Tryz.results13, go_sem, z0, z1, z2, z3, z4, z5, z6, z7, z8, z9]; with_reducible rfl) rfl ?_;rw [HE.out, HZ.out];refine ⟨_, rfl, zero_rp _, ?_⟩
        repeat' (refine Below.setCell ?_ (by simp) _)
        exact Bw
  ·
   have ha' : ansB (x.toNat : Int) f = false := by simpa using ha
   rw [EA.out ha', QA.out ha'];have hcase := ans_no (by omega) ha' hY1 hY2;clear EA QA E12 Q12 E0 Q0 ha ha' hY1 hY2 HC HF;rcases hcase with ⟨t1, t2 | ⟨t2, t3 | ⟨t3, t4⟩⟩⟩ | ⟨t1, t3⟩
   all_goals
    go_enter Tryz.func13, Tryz.ntmps13;go_wp2;refine bodyPost_ret (v := _) (by simp [results, Tryz.results13, go_sem]; with_reducible rfl) rfl ?_;exact ⟨_, rfl, zero_rp _, W0.out _ _⟩
end Go.Proofs.YtdihcdphgiaepaaGreat
