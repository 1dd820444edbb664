/- burgageref3.Take: which reply the document's own answer takes bytes for, part 2. -/
import Derived.Test.YtdihcdphgiaepaaGreatZZ45
namespace Go.Proofs.YtdihcdphgiaepaaGreat
open Go.RowKit
set_option maxRecDepth 100000 in
set_option maxHeartbeats 4000000 in
theorem take_ref_2 (v u : Value) (bs : List UInt8) (q : Rq) (w : World) (hv : Row w v (bs.map bV)) (hq : IsRq w u q) (hcn : -9223372036854775808 ≤ q.cnt ∧ q.cnt ≤ 9223372036854775807) (hfn : -9223372036854775808 ≤ q.fn ∧ q.fn ≤ 9223372036854775807) (hbl : bs.length ≤ 140737488351232) (hcl : q.cnt ≤ 140737488355327 ∨ 8 * (bs.length : Int) < q.cnt) (hcls : ¬ (fnOf bs = 1 ∨ fnOf bs = 2 ∨ fnOf bs = 3 ∨ fnOf bs = 4 ∨ fnOf bs = 23 ∨ fnOf bs = 15 ∨ fnOf bs = 16)) :
  Calls Tryz.prog 13 #[v, u] w fun e w' => ∃ v', e = .returned (.tuple #[v', .int .i64 (takeE bs q.fn q.cnt)]) ∧ IsRp w' v' (takeR bs q.fn q.cnt) ∧ Below w.heap.size w w' := by
 obtain ⟨ab, capb, av, capv, rfl, -, -⟩ := hq.slices;clear hq;obtain ⟨f, l, c, p, s, bb, vv, m, o⟩ := q;simp only at hcn hfn hcl ⊢;generalize bb.length = nb at *;generalize vv.length = nv at *;clear bb vv;have W0 := hidden (fun o1 o2 => ((Below.refl w.heap.size w).alloc (Nat.le_refl _) o1).alloc (by simp) o2);have HCL := hidden hcl;have HCLS := hidden hcls;clear hcl hcls;by_cases h0 : bs = []
 ·
  subst h0;rw [takeE_short, takeR_short];obtain ⟨a, cap, rfl, -⟩ := id hv;simp only [List.map_nil, List.length_nil] at hv ⊢;clear hv;go_enter Tryz.func13, Tryz.ntmps13;go_wp2;refine bodyPost_ret (v := _) (by simp [results, Tryz.results13, go_sem]; with_reducible rfl) rfl ?_;exact ⟨_, rfl, zero_rp _, W0.out _ _⟩
 ·
  have hp : 0 < bs.length := List.length_pos_iff.2 h0;have hp2 : (0 : Int) < (bs.length : Int) := by omega
  have hne : ((bs.length : Int) == 0) = false := by rw [beq_eq_false_iff_ne]; omega
  obtain ⟨a, cap, rfl, -⟩ := id hv;obtain ⟨hl, hc, hm, hcell⟩ := hv.at;simp only [List.length_map] at hl hc hv hcell ⊢;obtain ⟨b, off, rfl, hcl⟩ := hcell 0 0 hp;have c0 := hcl 0 hp;simp only [Nat.add_zero] at c0;have hlt := lt_of_cell c0;have HF : Hid (fnOf bs = ((bs.getD 0 0).toNat : Int)) := rfl;have HC := hidden hcl;have EA := hidden (fun h => takeE_ans (b := bs) (f := f) (c := c) h0 h);have QA := hidden (fun h => takeR_ans (b := bs) (f := f) (c := c) h);have E12 := hidden (fun h => takeE_no (f := f) h0 (noB (b := bs) (c := c) h));have Q12 := hidden (fun h => takeR_no (f := f) (noB (b := bs) (c := c) h));have E0 := hidden (fun ha h => takeE_is (b := bs) (f := f) (c := c) (r := gB bs c) ha h);have Q0 := hidden (fun ha h => takeR_is (b := bs) (f := f) (c := c) (r := gB bs c) ha h);rw [HF.out] at EA QA E0 Q0;have hx := (bs.getD 0 0).toNat_lt;clear hcl hcell;generalize bs.getD 0 0 = x at *;obtain ⟨Y, hY⟩ : ∃ Y, bits BinOp.or IntKind.i64 f 128 = Y := ⟨_, rfl⟩;have hY1 : 0 ≤ f → f ≤ 127 → Y = f + 128 := fun h1 h2 => by rw [← hY]; exact or_128 f h1 h2
  have hY2 : 128 ≤ f → f ≤ 255 → Y = f := fun h1 h2 => by rw [← hY]; exact or_big f h1 h2
  have wx : IntKind.i64.wrap (x.toNat : Int) = x.toNat := by rw [IntKind.wrap_i64]; omega
  by_cases ha : ansB (x.toNat : Int) f = true
  ·
   obtain ⟨hcase, hf0, hf1⟩ := ans_yes (by omega) ha hY1;replace E0 := hidden (fun h => E0.out ha h);replace Q0 := hidden (fun h => Q0.out ha h);clear EA QA ha hY1 hY2;have X3 := (Blk.new w 33 [.int .i64 f, .int .i64 l, .int .i64 c, .int .i64 p, .int .i64 s, .slice ab nb capb, .slice av nv capv, wV m, wV o]).alloc (.cells #[.int .i64 0, .int .i64 0, .int .i64 0, .int .i64 0, .int .i64 0, .slice none 0 0, .slice none 0 0, .int .u16 0, .int .u16 0, .slice none 0 0] 46);have X4 := Blk.new_at (w.alloc (.cells #[.int .i64 f, .int .i64 l, .int .i64 c, .int .i64 p, .int .i64 s, .slice ab nb capb, .slice av nv capv, wV m, wV o] 33)) 46 [.int .i64 0, .int .i64 0, .int .i64 0, .int .i64 0, .int .i64 0, .slice none 0 0, .slice none 0 0, .int .u16 0, .int .u16 0, .slice none 0 0] (w.heap.size + 1) (by simp);have Bw := W0.out (.cells #[.int .i64 f, .int .i64 l, .int .i64 c, .int .i64 p, .int .i64 s, .slice ab nb capb, .slice av nv capv, wV m, wV o] 33) (.cells #[.int .i64 0, .int .i64 0, .int .i64 0, .int .i64 0, .int .i64 0, .slice none 0 0, .slice none 0 0, .int .u16 0, .int .u16 0, .slice none 0 0] 46);have HX := hidden (And.intro X3 (And.intro X4 Bw));clear X3 X4 Bw W0;go_enter Tryz.func13, Tryz.ntmps13;go_upto_region 4 with fail
   go_cut [38] from 18 to 38 (fun z wx => z = .bool false ∧ Blk wx w.heap.size 33 [.int .i64 f, .int .i64 l, .int .i64 c, .int .i64 p, .int .i64 s, .slice ab nb capb, .slice av nv capv, wV m, wV o] ∧ Blk wx (w.heap.size + 1) 46 [.int .i64 0, .int .i64 0, .int .i64 0, .int .i64 0, .int .i64 0, .slice none 0 0, .slice none 0 0, .int .u16 0, .int .u16 0, .slice none 0 0] ∧ Below w.heap.size w wx)
   case first =>
    rcases hcase with t1 | ⟨t1, t2⟩
    all_goals
     go_wp2;go_meet
     exact ⟨rfl, HX.out.1, HX.out.2.1, HX.out.2.2⟩
   case rest =>
    obtain ⟨rfl, X3, X4, Bw⟩ := hcut;clear HX hcase hY hf0 hf1;obtain ⟨w0, hw0⟩ : ∃ w0, w0 = wc := ⟨_, rfl⟩;subst hw0;have HX := hidden (⟨X3.alloc (.cells #[.int .i64 (x.toNat : Int), .int .i64 0, .int .i64 0, .int .i64 0, .int .i64 0, .slice none 0 0, .slice none 0 0, .int .u16 0, .int .u16 0, .slice none 0 0] 46), X4.alloc (.cells #[.int .i64 (x.toNat : Int), .int .i64 0, .int .i64 0, .int .i64 0, .int .i64 0, .slice none 0 0, .slice none 0 0, .int .u16 0, .int .u16 0, .slice none 0 0] 46), Blk.new w0 46 [.int .i64 (x.toNat : Int), .int .i64 0, .int .i64 0, .int .i64 0, .int .i64 0, .slice none 0 0, .slice none 0 0, .int .u16 0, .int .u16 0, .slice none 0 0], Bw.alloc Bw.size (.cells #[.int .i64 (x.toNat : Int), .int .i64 0, .int .i64 0, .int .i64 0, .int .i64 0, .slice none 0 0, .slice none 0 0, .int .u16 0, .int .u16 0, .slice none 0 0] 46)⟩ : _ ∧ _ ∧ _ ∧ _);have hs := X4.lt;clear X3 X4 Bw;go_upto_region 7 with fail
    go_cut [7, 43] from 42 to 43 (fun z7 z wx => z = .bool (decide ((128 : Int) ≤ (x.toNat : Int))) ∧ ∃ g7, z7 = .pointer (some ⟨g7, 0, none⟩) ∧ w.heap.size + 1 < g7 ∧ Blk wx w.heap.size 33 [.int .i64 f, .int .i64 l, .int .i64 c, .int .i64 p, .int .i64 s, .slice ab nb capb, .slice av nv capv, wV m, wV o] ∧ Blk wx (w.heap.size + 1) 46 [.int .i64 0, .int .i64 0, .int .i64 0, .int .i64 0, .int .i64 0, .slice none 0 0, .slice none 0 0, .int .u16 0, .int .u16 0, .slice none 0 0] ∧ Blk wx g7 46 [.int .i64 (x.toNat : Int), .int .i64 0, .int .i64 0, .int .i64 0, .int .i64 0, .slice none 0 0, .slice none 0 0, .int .u16 0, .int .u16 0, .slice none 0 0] ∧ Below w.heap.size w wx)
    case first =>
     go_wp2;go_meet
     exact ⟨rfl, _, rfl, hs, HX.out.1, HX.out.2.1, HX.out.2.2.1, HX.out.2.2.2⟩
    case rest =>
     obtain ⟨rfl, g7, rfl, hg7, X3, X4, X7, Bw⟩ := hcut;clear HX hs;obtain ⟨w1, hw1⟩ : ∃ w1, w1 = wc := ⟨_, rfl⟩;subst hw1;clear c0;go_upto_if 43 with fail
     go_cut [6] from 8 to 117 (fun z6 wx => z6 = .int .i64 (x.toNat : Int) ∧ ∃ vb vv vd, Blk wx w.heap.size 33 [.int .i64 f, .int .i64 l, .int .i64 c, .int .i64 p, .int .i64 s, .slice ab nb capb, .slice av nv capv, wV m, wV o] ∧ Blk wx (w.heap.size + 1) 46 [.int .i64 0, .int .i64 0, .int .i64 0, .int .i64 0, .int .i64 0, .slice none 0 0, .slice none 0 0, .int .u16 0, .int .u16 0, .slice none 0 0] ∧ Blk wx g7 46 [.int .i64 (gB bs c).fn, .int .i64 (gB bs c).code, .int .i64 (gB bs c).loc, .int .i64 (gB bs c).cnt, .int .i64 (gB bs c).sub, vb, vv, wV (gB bs c).land, wV (gB bs c).lor, vd] ∧ Row wx vb ((gB bs c).bits.map Value.bool) ∧ Row wx vv ((gB bs c).vals.map wV) ∧ Row wx vd ((gB bs c).data.map bV) ∧ NewV g7 vb ∧ NewV g7 vv ∧ NewV g7 vd ∧ Below w.heap.size w wx)
     case first =>
      by_cases h128 : (128 : Int) ≤ (x.toNat : Int)
      ·
       have HG := hidden (show gB bs c = refP ((x.toNat : Int) - 128) (codeL bs) by unfold gB; rw [HF.out, if_pos h128]);have e127 : bits BinOp.and IntKind.i64 (x.toNat : Int) 127 = (x.toNat : Int) - 128 := by rw [and127]; omega
       have hwx : IntKind.i64.wrap ((x.toNat : Int) - 128) = (x.toNat : Int) - 128 := by rw [IntKind.wrap_i64]; omega
       have c0 := X7.cell 0;have c1 := X7.cell 1;have c2 := X7.cell 2;have c3 := X7.cell 3;have c4 := X7.cell 4;have c5 := X7.cell 5;have c6 := X7.cell 6;have c7 := X7.cell 7;have c8 := X7.cell 8;have c9 := X7.cell 9;simp at c0 c1 c2 c3 c4 c5 c6 c7 c8 c9;have cf := X7.frozen;have cl := X7.lt;by_cases h2 : bs.length < 2
       ·
        have h2' : ¬ (1 : Int) < (bs.length : Int) := by omega
        have HK : codeL bs = 0 := by simp [codeL, h2]
        rw [HK] at HG;go_wp2;go_meet
        simp only [HG.out];refine ⟨(by first | trivial | rfl), .slice none 0 0, .slice none 0 0, .slice none 0 0, ?_, ?_, blk_to (X7.set 0 _) ?_, ?_, ?_, ?_, NewV.none _ _ _, NewV.none _ _ _, NewV.none _ _ _, ?_⟩
        ·
         exact ((X3).set_ne (by omega) _ _)
        ·
         exact ((X4).set_ne (by omega) _ _)
        ·
         simp [refP]
        ·
         exact Row.nil _
        ·
         exact Row.nil _
        ·
         exact Row.nil _
        ·
         exact (Below.setCell Bw (by first | omega | (simp; done) | (simp; omega)) _)
       ·
        have h2' : (1 : Int) < (bs.length : Int) := by omega
        have HK : codeL bs = ((bs.getD 1 0).toNat : Int) := by simp [codeL, h2]
        rw [HK] at HG;have d1 : w1.cell? ⟨b, off + 1, none⟩ = some (bV (bs.getD 1 0)) := (Bw.cell (p := ⟨b, off + 1, none⟩) hlt).trans (HC.out 1 (by omega));have hy := (bs.getD 1 0).toNat_lt;generalize bs.getD 1 0 = y at *;have wy : IntKind.i64.wrap (y.toNat : Int) = y.toNat := by rw [IntKind.wrap_i64]; omega
        have hbg : b ≠ g7 := by omega
        have hgb : g7 ≠ b := by omega
        go_wp2;go_meet
        simp only [HG.out];refine ⟨(by first | trivial | rfl), .slice none 0 0, .slice none 0 0, .slice none 0 0, ?_, ?_, blk_to ((X7.set 0 _).set 1 _) ?_, ?_, ?_, ?_, NewV.none _ _ _, NewV.none _ _ _, NewV.none _ _ _, ?_⟩
        ·
         exact ((((X3).set_ne (by omega) _ _)).set_ne (by omega) _ _)
        ·
         exact ((((X4).set_ne (by omega) _ _)).set_ne (by omega) _ _)
        ·
         simp [refP]
        ·
         exact Row.nil _
        ·
         exact Row.nil _
        ·
         exact Row.nil _
        ·
         exact (Below.setCell (Below.setCell Bw (by first | omega | (simp; done) | (simp; omega)) _) (by first | omega | (simp; done) | (simp; omega)) _)
      ·
       have h128' : ¬ (128 : Int) ≤ (x.toNat : Int) := h128;by_cases k12 : (x.toNat : Int) = 1 ∨ (x.toNat : Int) = 2
       ·
        have HG := hidden (show gB bs c = ⟨(x.toNat : Int), 0, 0, 0, 0, (if bs.length ≤ 1 then [] else openR (bs.drop 2) c), [], 0, 0, []⟩ by unfold gB; rw [HF.out, if_neg h128, if_pos k12]);have HL := hidden (show hasL (x.toNat : Int) = [98] by unfold hasL; rw [if_pos k12]);have Ia : Hid (inI [98] 97 = false) := by rfl
        exact absurd (by rw [HF.out]; omega) HCLS.out
       ·
        by_cases k3 : (x.toNat : Int) = 3 ∨ (x.toNat : Int) = 4 ∨ (x.toNat : Int) = 23
        ·
         have HG := hidden (show gB bs c = ⟨(x.toNat : Int), 0, 0, 0, 0, [], wordsAt bs 2, 0, 0, []⟩ by unfold gB; rw [HF.out, if_neg h128, if_neg k12, if_pos k3]);have HL := hidden (show hasL (x.toNat : Int) = [118] by unfold hasL; rw [if_neg k12, if_pos k3]);have Ia : Hid (inI [118] 97 = false) := by rfl
         exact absurd (by rw [HF.out]; omega) HCLS.out
        ·
         by_cases k15 : (x.toNat : Int) = 15 ∨ (x.toNat : Int) = 16
         ·
          have HG := hidden (show gB bs c = ⟨(x.toNat : Int), 0, getN bs 1, getN bs 3, 0, [], [], 0, 0, []⟩ by unfold gB; rw [HF.out, if_neg h128, if_neg k12, if_neg k3, if_pos k15]);have HL := hidden (show hasL (x.toNat : Int) = [97, 99] by unfold hasL; rw [if_neg k12, if_neg k3, if_neg (by omega), if_neg (by omega), if_neg (by omega), if_pos k15]);have Ia : Hid (inI [97, 99] 97 = true) := by rfl
          exact absurd (by rw [HF.out]; omega) HCLS.out
         ·
          by_cases k17 : (x.toNat : Int) = 17
          ·
           have HG := hidden (show gB bs c = ⟨(x.toNat : Int), 0, 0, 0, 0, [], [], 0, 0, (if bs.length ≤ 1 then [] else bs.drop 2)⟩ by unfold gB; rw [HF.out, if_neg h128, if_neg k12, if_neg k3, if_neg k15, if_pos k17]);have HL := hidden (show hasL (x.toNat : Int) = [100] by unfold hasL; rw [if_neg k12, if_neg k3, if_neg (by omega), if_neg (by omega), if_neg (by omega), if_neg k15, if_pos k17]);have Ia : Hid (inI [100] 97 = false) := by rfl
           rw [k17] at HL;by_cases h2 : bs.length ≤ 1
           ·
            have h2' : ¬ (1 : Int) < (bs.length : Int) := by omega
            rw [if_pos h2] at HG;go_wp2_with (first | (go_at_call 31; refine (has_str _ _).mono ?_; rintro e w4 ⟨rfl, rfl⟩; rw [HL.out]) | (go_at_call 32; refine (in_at [100] _ _ (by decide) (by decide)).mono ?_; rintro e w4 ⟨rfl, rfl⟩; rw [Ia.out]))
            go_meet
            simp only [HG.out];refine ⟨by rw [k17], .slice none 0 0, .slice none 0 0, .slice none 0 0, ?_, ?_, blk_to (X7) ?_, ?_, ?_, ?_, NewV.none _ _ _, NewV.none _ _ _, NewV.none _ _ _, ?_⟩
            ·
             exact X3
            ·
             exact X4
            ·
             rfl
            ·
             exact Row.nil _
            ·
             exact Row.nil _
            ·
             exact Row.nil _
            ·
             exact Bw
           ·
            have h2' : (1 : Int) < (bs.length : Int) := by omega
            have h7' : (2 : Int) ≤ (bs.length : Int) := by omega
            have h8' : 2 ≤ bs.length := by omega
            rw [if_neg h2] at HG;have e1 : ((bs.length : Int) - 2).toNat = bs.length - 2 := by omega
            have e2 : ((cap : Int) - 2).toNat = cap - 2 := by omega
            obtain ⟨ad, had⟩ : ∃ ad, (if cap = 2 then some ⟨b, off, none⟩ else some ⟨b, off + 2, none⟩) = (ad : Option Addr) := ⟨_, rfl⟩;have ho0 := World.ownsRow_made (base := w1.heap.size) (e := 5) (size := 1) w1 #[] 0 (Nat.le_refl _) (Nat.zero_le _) (by simp);have hb0 : Below w1.heap.size w1 (w1.alloc (.cells #[] 5)) := (Below.refl _ _).alloc (Nat.le_refl _) _;have hv0 := row_two (hv.below (below_then Bw hb0)) h8' had;have hll : (bs.drop 2).length = bs.length - 2 := by simp
            have HLL := hidden hll;clear hll;go_wp2_with (first | (go_at_call 31; refine (has_str _ _).mono ?_; rintro e w4 ⟨rfl, rfl⟩; rw [HL.out]) | (go_at_call 32; refine (in_at [100] _ _ (by decide) (by decide)).mono ?_; rintro e w4 ⟨rfl, rfl⟩; rw [Ia.out]) | (at_builtin; refine wpList_app rfl (.tmp 113) (.tmp 115) 27 rfl w1.heap.size 5 (.int .u8 0) 1 Tryz.underlying27 info_u8 rfl rfl ho0 rfl hv0 (one_bytes _) (by have := HLL.out; simp [maxLen]; omega) (by have := HLL.out; simp; omega) (by simp) ?_))
            intro v4 w4 ho4 hg4;have q4 : Below w1.heap.size w1 w4 := hb0.grown hg4 (by simp) (fun k hk => (ho0.lt k hk).1);have nv3 := (NewV.of_owns ho4).le (base' := g7 + 1) (by have := X7.lt; omega);have hr3 := Row.of_owns ho4;replace X7 := X7.below q4 X7.lt;replace X4 := X4.below q4 X4.lt;replace X3 := X3.below q4 X3.lt;replace Bw := below_then Bw q4;clear ho4 hg4 q4 hb0 hv0 ho0;have s5 : w4.cell? ⟨g7, 9, none⟩ = some (.slice none 0 0) := X7.cell 9;have f5 := X7.frozen;have g5 := X7.lt;have hr3 : Row w4 v4 ((bs.drop 2).map bV) := by rw [List.map_drop]; exact hr3
            obtain ⟨a3, cap3, rfl, -⟩ := id hr3;simp only [List.length_map, HLL.out] at hr3 nv3 ⊢;go_wp2_with (first | (go_at_call 31; refine (has_str _ _).mono ?_; rintro e w4 ⟨rfl, rfl⟩; rw [HL.out]) | (go_at_call 32; refine (in_at [100] _ _ (by decide) (by decide)).mono ?_; rintro e w4 ⟨rfl, rfl⟩; rw [Ia.out]))
            go_meet
            simp only [HG.out];refine ⟨by rw [k17], .slice none 0 0, .slice none 0 0, _, ?_, ?_, blk_to (X7.set 9 _) ?_, ?_, ?_, ?_, NewV.none _ _ _, NewV.none _ _ _, (nv3.le (Nat.le_succ g7)), ?_⟩
            ·
             exact ((X3).set_ne (by omega) _ _)
            ·
             exact ((X4).set_ne (by omega) _ _)
            ·
             rfl
            ·
             exact Row.nil _
            ·
             exact Row.nil _
            ·
             exact Row.setCell_new hr3 nv3 (by omega)
            ·
             exact (Below.setCell Bw (by first | omega | (simp; done) | (simp; omega)) _)
          ·
           have HG := hidden (show gB bs c = ⟨(x.toNat : Int), 0, (if (x.toNat : Int) = 8 then 0 else getN bs 1), 0, (gR bs).sub, (gR bs).bits, (gR bs).vals, (gR bs).land, (gR bs).lor, []⟩ by unfold gB; rw [HF.out, if_neg h128, if_neg k12, if_neg k3, if_neg k15, if_neg k17]);have CG := hidden (fun w' (h : Row w' (.slice (some ⟨b, off, none⟩) bs.length cap) (bs.map bV)) => guess_ref _ bs w' h h0 (by omega));generalize gR bs = q at *;obtain ⟨n1, n2⟩ := not_or.1 k12;obtain ⟨n3, n4⟩ := not_or.1 k3;obtain ⟨n4, n23⟩ := not_or.1 n4;obtain ⟨n15, n16⟩ := not_or.1 k15;have t1 : ((x.toNat : Int) == 1) = false := by rw [beq_eq_false_iff_ne]; omega
           have t2 : ((x.toNat : Int) == 2) = false := by rw [beq_eq_false_iff_ne]; omega
           have t3 : ((x.toNat : Int) == 3) = false := by rw [beq_eq_false_iff_ne]; omega
           have t4 : ((x.toNat : Int) == 4) = false := by rw [beq_eq_false_iff_ne]; omega
           have t23 : ((x.toNat : Int) == 23) = false := by rw [beq_eq_false_iff_ne]; omega
           have t15 : ((x.toNat : Int) == 15) = false := by rw [beq_eq_false_iff_ne]; omega
           have t16 : ((x.toNat : Int) == 16) = false := by rw [beq_eq_false_iff_ne]; omega
           have t17 : ((x.toNat : Int) == 17) = false := by rw [beq_eq_false_iff_ne]; omega
           by_cases k8 : (x.toNat : Int) = 8
           ·
            rw [if_pos k8] at HG;have HL := hidden (show hasL (x.toNat : Int) = [115, 118] by rw [k8]; rfl);rw [k8] at HL;have Ia := hidden (show inI [115, 118] 97 = false by rfl);have c0 := X7.cell 0;have c1 := X7.cell 1;have c2 := X7.cell 2;have c3 := X7.cell 3;have c4 := X7.cell 4;have c5 := X7.cell 5;have c6 := X7.cell 6;have c7 := X7.cell 7;have c8 := X7.cell 8;have c9 := X7.cell 9;simp at c0 c1 c2 c3 c4 c5 c6 c7 c8 c9;have cf := X7.frozen;have cl := X7.lt;go_wp2_with (first | (go_at_call 31; refine (has_str _ _).mono ?_; rintro e w4 ⟨rfl, rfl⟩; rw [HL.out]) | (go_at_call 32; refine (in_at [115, 118] _ _ (by decide) (by decide)).mono ?_; rintro e w4 ⟨rfl, rfl⟩; rw [Ia.out]))
            refine (CG.out _ (hv.below Bw)).mono ?_;rintro e w2 ⟨v2, rfl, q2, B2, nq2⟩;clear c0 c1 c2 c3 c4 c5 c6 c7 c8 c9 cf cl;have l7 := X7.lt;replace X7 := X7.below B2 X7.lt;replace X4 := X4.below B2 X4.lt;replace X3 := X3.below B2 X3.lt;replace Bw := below_then Bw B2;obtain ⟨qvb, qvv, rfl, rb, rv⟩ := q2;obtain ⟨nb3, nv3⟩ := nq2.parts;have nb2 := nb3.le (base' := g7) (by omega);have nv2 := nv3.le (base' := g7) (by omega);clear nq2 B2;obtain ⟨qb, qcb, e1, -⟩ := id rb;obtain ⟨qv, qcv, e2, -⟩ := id rv;subst e1 e2;simp only [List.length_map] at rb rv nb2 nv2 nb3 nv3 ⊢;have X9 := Blk.new w2 33 [.int .i64 q.fn, .int .i64 q.loc, .int .i64 q.cnt, .int .i64 q.wat, .int .i64 q.sub, .slice qb q.bits.length qcb, .slice qv q.vals.length qcv, .int .u16 q.land.toNat, .int .u16 q.lor.toNat];have E9 := (Below.refl w2.heap.size w2).alloc (Nat.le_refl _) (.cells #[.int .i64 q.fn, .int .i64 q.loc, .int .i64 q.cnt, .int .i64 q.wat, .int .i64 q.sub, .slice qb q.bits.length qcb, .slice qv q.vals.length qcv, .int .u16 q.land.toNat, .int .u16 q.lor.toNat] 33);have HX := hidden (⟨X3.below E9 X3.lt, X4.below E9 X4.lt, X7.below E9 X7.lt, X9, below_then Bw E9, rb.below E9, rv.below E9⟩ : _ ∧ _ ∧ _ ∧ _ ∧ _ ∧ _ ∧ _);have h79 : g7 ≠ w2.heap.size := by have := X7.lt; omega
            clear X3 X4 X7 X9 E9 Bw rb rv;go_wp2_with (first | (go_at_call 31; refine (has_str _ _).mono ?_; rintro e w4 ⟨rfl, rfl⟩; rw [HL.out]) | (go_at_call 32; refine (in_at [115, 118] _ _ (by decide) (by decide)).mono ?_; rintro e w4 ⟨rfl, rfl⟩; rw [Ia.out]))
            refine c_begin 20 rfl (by kernel_rfl) ?_;obtain ⟨X3, X4, X7, X9, Bw, rb, rv⟩ := HX.out;replace X3 := X3.drew;replace X4 := X4.drew;replace X7 := X7.drew;replace X9 := X9.drew;replace Bw := Bw.drew;replace rb := rb.drew;replace rv := rv.drew;clear HX;obtain ⟨w3, hw3⟩ : ∃ w3, (w2.alloc (.cells #[.int .i64 q.fn, .int .i64 q.loc, .int .i64 q.cnt, .int .i64 q.wat, .int .i64 q.sub, .slice qb q.bits.length qcb, .slice qv q.vals.length qcv, .int .u16 q.land.toNat, .int .u16 q.lor.toNat] 33)).drew = w3 := ⟨_, rfl⟩;rw [hw3] at X3 X4 X7 X9 Bw rb rv;have hw3' : (w2.alloc (.cells #[.int .i64 q.fn, .int .i64 q.loc, .int .i64 q.cnt, .int .i64 q.wat, .int .i64 q.sub, .slice qb q.bits.length qcb, .slice qv q.vals.length qcv, wV q.land, wV q.lor] 33)).drew = w3 := hw3;first | rw [hw3'] | rw [hw3]
            clear hw3 hw3';generalize w2.heap.size = g9 at *;obtain ⟨R, hR⟩ : ∃ R : World → Prop, (fun w' : World => Blk w' g9 33 [.int .i64 q.fn, .int .i64 q.loc, .int .i64 q.cnt, .int .i64 q.wat, .int .i64 q.sub, .slice qb q.bits.length qcb, .slice qv q.vals.length qcv, .int .u16 q.land.toNat, .int .u16 q.lor.toNat]) = R := ⟨_, rfl⟩;have RI := hidden (fun w' (h : Blk w' g9 33 [.int .i64 q.fn, .int .i64 q.loc, .int .i64 q.cnt, .int .i64 q.wat, .int .i64 q.sub, .slice qb q.bits.length qcb, .slice qv q.vals.length qcv, .int .u16 q.land.toNat, .int .u16 q.lor.toNat]) => (show R w' by rw [← hR]; exact h));have RD := hidden (fun w' (h : R w') => (show w'.cell? ⟨g9, 4, none⟩ = some (.int .i64 q.sub) ∧ w'.cell? ⟨g9, 5, none⟩ = some (.slice qb q.bits.length qcb) ∧ w'.cell? ⟨g9, 6, none⟩ = some (.slice qv q.vals.length qcv) ∧ w'.cell? ⟨g9, 7, none⟩ = some (.int .u16 q.land.toNat) ∧ w'.cell? ⟨g9, 8, none⟩ = some (.int .u16 q.lor.toNat) by
             rw [← hR] at h;exact ⟨h.cell 4, h.cell 5, h.cell 6, h.cell 7, h.cell 8⟩))
            have r0 := RI.out _ X9;clear hR;refine c_P trivial 0 rfl ?_;refine c_R R r0 trivial 1 rfl (fun w' hx => by obtain ⟨y4, y5, y6, y7, y8⟩ := RD.out w' hx; go_simp; with_reducible rfl) ?_;refine c_P ⟨r0, trivial⟩ 2 rfl ?_;refine c_R R r0 ⟨r0, trivial⟩ 3 rfl (fun w' hx => by obtain ⟨y4, y5, y6, y7, y8⟩ := RD.out w' hx; go_simp; with_reducible rfl) ?_;refine c_P ⟨r0, r0, trivial⟩ 4 rfl ?_;refine c_R R r0 ⟨r0, r0, trivial⟩ 5 rfl (fun w' hx => by obtain ⟨y4, y5, y6, y7, y8⟩ := RD.out w' hx; go_simp; with_reducible rfl) ?_;refine c_P ⟨r0, r0, r0, trivial⟩ 6 rfl ?_;refine c_R R r0 ⟨r0, r0, r0, trivial⟩ 7 rfl (fun w' hx => by obtain ⟨y4, y5, y6, y7, y8⟩ := RD.out w' hx; go_simp; with_reducible rfl) ?_;refine c_P ⟨r0, r0, r0, r0, trivial⟩ 8 rfl ?_;refine c_R R r0 ⟨r0, r0, r0, r0, trivial⟩ 9 rfl (fun w' hx => by obtain ⟨y4, y5, y6, y7, y8⟩ := RD.out w' hx; go_simp; with_reducible rfl) ?_;refine c_P ⟨r0, r0, r0, r0, r0, trivial⟩ 10 rfl ?_;have s5 : w3.cell? ⟨g7, 4, none⟩ = some (.int .i64 0) := X7.cell 4;have f5 := X7.frozen;have l5 := X7.lt;refine c_move 11 (by kernel_rfl) (c_op 11 [(9, R), (7, R), (5, R), (3, R)] (by kernel_rfl) rfl (by kernel_rfl) (fun K hK => ?_));go_simp;clear s5 f5 l5;replace Bw := Bw.setCell (p := ⟨g7, 4, none⟩) (by simp; omega) (.int .i64 q.sub);replace rb := rb.setCell_new (g := g7) (o := 4) (u := .int .i64 q.sub) nb3 l7;replace rv := rv.setCell_new (g := g7) (o := 4) (u := .int .i64 q.sub) nv3 l7;replace X3 := X3.set_ne (g := g7) (by omega) 4 (.int .i64 q.sub);replace X4 := X4.set_ne (g := g7) (by omega) 4 (.int .i64 q.sub);replace X9 := X9.set_ne (g := g7) h79 4 (.int .i64 q.sub);replace X7 := X7.set 4 (.int .i64 q.sub);simp only [List.set_cons_zero, List.set_cons_succ] at X7;replace r0 := RI.out _ X9;refine hK.out _ _ ⟨r0, r0, r0, r0, trivial⟩ ?_;clear K hK;try simp only [Act.put, PuA, PuB, PuC]
            generalize w3.setCell ⟨g7, 4, none⟩ (.int .i64 q.sub) = w4 at *;refine c_P ⟨r0, r0, r0, r0, trivial⟩ 12 rfl ?_;have s5 : w4.cell? ⟨g7, 5, none⟩ = some (.slice none 0 0) := X7.cell 5;have f5 := X7.frozen;have l5 := X7.lt;refine c_move 13 (by kernel_rfl) (c_op 13 [(9, R), (7, R), (5, R)] (by kernel_rfl) rfl (by kernel_rfl) (fun K hK => ?_));go_simp;clear s5 f5 l5;replace Bw := Bw.setCell (p := ⟨g7, 5, none⟩) (by simp; omega) (.slice qb q.bits.length qcb);replace rb := rb.setCell_new (g := g7) (o := 5) (u := .slice qb q.bits.length qcb) nb3 l7;replace rv := rv.setCell_new (g := g7) (o := 5) (u := .slice qb q.bits.length qcb) nv3 l7;replace X3 := X3.set_ne (g := g7) (by omega) 5 (.slice qb q.bits.length qcb);replace X4 := X4.set_ne (g := g7) (by omega) 5 (.slice qb q.bits.length qcb);replace X9 := X9.set_ne (g := g7) h79 5 (.slice qb q.bits.length qcb);replace X7 := X7.set 5 (.slice qb q.bits.length qcb);simp only [List.set_cons_zero, List.set_cons_succ] at X7;replace r0 := RI.out _ X9;refine hK.out _ _ ⟨r0, r0, r0, trivial⟩ ?_;clear K hK;try simp only [Act.put, PuA, PuB, PuC]
            generalize w4.setCell ⟨g7, 5, none⟩ (.slice qb q.bits.length qcb) = w5 at *;refine c_P ⟨r0, r0, r0, trivial⟩ 14 rfl ?_;have s5 : w5.cell? ⟨g7, 6, none⟩ = some (.slice none 0 0) := X7.cell 6;have f5 := X7.frozen;have l5 := X7.lt;refine c_move 15 (by kernel_rfl) (c_op 15 [(9, R), (7, R)] (by kernel_rfl) rfl (by kernel_rfl) (fun K hK => ?_));go_simp;clear s5 f5 l5;replace Bw := Bw.setCell (p := ⟨g7, 6, none⟩) (by simp; omega) (.slice qv q.vals.length qcv);replace rb := rb.setCell_new (g := g7) (o := 6) (u := .slice qv q.vals.length qcv) nb3 l7;replace rv := rv.setCell_new (g := g7) (o := 6) (u := .slice qv q.vals.length qcv) nv3 l7;replace X3 := X3.set_ne (g := g7) (by omega) 6 (.slice qv q.vals.length qcv);replace X4 := X4.set_ne (g := g7) (by omega) 6 (.slice qv q.vals.length qcv);replace X9 := X9.set_ne (g := g7) h79 6 (.slice qv q.vals.length qcv);replace X7 := X7.set 6 (.slice qv q.vals.length qcv);simp only [List.set_cons_zero, List.set_cons_succ] at X7;replace r0 := RI.out _ X9;refine hK.out _ _ ⟨r0, r0, trivial⟩ ?_;clear K hK;try simp only [Act.put, PuA, PuB, PuC]
            generalize w5.setCell ⟨g7, 6, none⟩ (.slice qv q.vals.length qcv) = w6 at *;refine c_P ⟨r0, r0, trivial⟩ 16 rfl ?_;have s5 : w6.cell? ⟨g7, 7, none⟩ = some (.int .u16 0) := X7.cell 7;have f5 := X7.frozen;have l5 := X7.lt;refine c_move 17 (by kernel_rfl) (c_op 17 [(9, R)] (by kernel_rfl) rfl (by kernel_rfl) (fun K hK => ?_));go_simp;clear s5 f5 l5;replace Bw := Bw.setCell (p := ⟨g7, 7, none⟩) (by simp; omega) (.int .u16 q.land.toNat);replace rb := rb.setCell_new (g := g7) (o := 7) (u := .int .u16 q.land.toNat) nb3 l7;replace rv := rv.setCell_new (g := g7) (o := 7) (u := .int .u16 q.land.toNat) nv3 l7;replace X3 := X3.set_ne (g := g7) (by omega) 7 (.int .u16 q.land.toNat);replace X4 := X4.set_ne (g := g7) (by omega) 7 (.int .u16 q.land.toNat);replace X9 := X9.set_ne (g := g7) h79 7 (.int .u16 q.land.toNat);replace X7 := X7.set 7 (.int .u16 q.land.toNat);simp only [List.set_cons_zero, List.set_cons_succ] at X7;replace r0 := RI.out _ X9;refine hK.out _ _ ⟨r0, trivial⟩ ?_;clear K hK;try simp only [Act.put, PuA, PuB, PuC]
            generalize w6.setCell ⟨g7, 7, none⟩ (.int .u16 q.land.toNat) = w7 at *;refine c_P ⟨r0, trivial⟩ 18 rfl ?_;have s5 : w7.cell? ⟨g7, 8, none⟩ = some (.int .u16 0) := X7.cell 8;have f5 := X7.frozen;have l5 := X7.lt;refine c_move 19 (by kernel_rfl) (c_op 19 [] (by kernel_rfl) rfl (by kernel_rfl) (fun K hK => ?_));go_simp;clear s5 f5 l5;replace Bw := Bw.setCell (p := ⟨g7, 8, none⟩) (by simp; omega) (.int .u16 q.lor.toNat);replace rb := rb.setCell_new (g := g7) (o := 8) (u := .int .u16 q.lor.toNat) nb3 l7;replace rv := rv.setCell_new (g := g7) (o := 8) (u := .int .u16 q.lor.toNat) nv3 l7;replace X3 := X3.set_ne (g := g7) (by omega) 8 (.int .u16 q.lor.toNat);replace X4 := X4.set_ne (g := g7) (by omega) 8 (.int .u16 q.lor.toNat);replace X9 := X9.set_ne (g := g7) h79 8 (.int .u16 q.lor.toNat);replace X7 := X7.set 8 (.int .u16 q.lor.toNat);simp only [List.set_cons_zero, List.set_cons_succ] at X7;replace r0 := RI.out _ X9;refine hK.out _ _ trivial ?_;clear K hK;try simp only [Act.put, PuA, PuB, PuC]
            generalize w7.setCell ⟨g7, 8, none⟩ (.int .u16 q.lor.toNat) = w8 at *;refine c_done (by kernel_rfl) ?_;clear r0 RI RD;go_wp2_with (first | (go_at_call 31; refine (has_str _ _).mono ?_; rintro e w4 ⟨rfl, rfl⟩; rw [HL.out]) | (go_at_call 32; refine (in_at [115, 118] _ _ (by decide) (by decide)).mono ?_; rintro e w4 ⟨rfl, rfl⟩; rw [Ia.out]))
            go_meet
            simp only [HG.out];exact ⟨by rw [k8], _, _, .slice none 0 0, X3, X4, X7, rb, rv, Row.nil _, nb2, nv2, NewV.none _ _ _, Bw⟩
           ·
            rw [if_neg k8] at HG;obtain ⟨Lx, hLx⟩ : ∃ Lx, hasL (x.toNat : Int) = Lx := ⟨_, rfl⟩;have hab : inI Lx 97 = true ∧ Lx.length ≤ 100 := by
             rw [← hLx];unfold hasL;rw [if_neg k12, if_neg k3];by_cases h5 : (x.toNat : Int) = 5
             ·
              rw [if_pos h5];exact ⟨rfl, by decide⟩
             ·
              rw [if_neg h5];by_cases h6 : (x.toNat : Int) = 6
              ·
               rw [if_pos h6];exact ⟨rfl, by decide⟩
              ·
               rw [if_neg h6, if_neg k8, if_neg k15, if_neg k17];exact ⟨rfl, by decide⟩
            have hLl := hab.2;have HL := hidden (show hasL (x.toNat : Int) = Lx from hLx);have Ia := hidden (show inI Lx 97 = true from hab.1);have C1 := hidden (fun w' (h : Row w' (.slice (some ⟨b, off, none⟩) bs.length cap) (bs.map bV)) => num_ref _ bs 1 w' (by omega) h);obtain ⟨i1, j1⟩ := getN_in bs 1;generalize getN bs 1 = N1 at *;have c0 := X7.cell 0;have c1 := X7.cell 1;have c2 := X7.cell 2;have c3 := X7.cell 3;have c4 := X7.cell 4;have c5 := X7.cell 5;have c6 := X7.cell 6;have c7 := X7.cell 7;have c8 := X7.cell 8;have c9 := X7.cell 9;simp at c0 c1 c2 c3 c4 c5 c6 c7 c8 c9;have cf := X7.frozen;have cl := X7.lt;go_wp2_with (first | (go_at_call 31; refine (has_str _ _).mono ?_; rintro e w4 ⟨rfl, rfl⟩; rw [HL.out]) | (go_at_call 32; refine (in_at Lx _ _ (by decide) hLl).mono ?_; rintro e w4 ⟨rfl, rfl⟩; rw [Ia.out]))
            refine (C1.out _ (hv.below Bw)).mono ?_;rintro e w2 ⟨rfl, nq0, rfl⟩;go_wp2_with (first | (go_at_call 31; refine (has_str _ _).mono ?_; rintro e w4 ⟨rfl, rfl⟩; rw [HL.out]) | (go_at_call 32; refine (in_at Lx _ _ (by decide) hLl).mono ?_; rintro e w4 ⟨rfl, rfl⟩; rw [Ia.out]))
            refine (CG.out _ (hv.below ?b)).mono ?_
            case b => exact Below.setCell (below_drewn Bw _) (by first | omega | (simp; done) | (simp; omega)) _
            rintro e w2 ⟨v2, rfl, q2, B2, nq2⟩;clear c0 c1 c2 c3 c4 c5 c6 c7 c8 c9 cf cl;have l7 := X7.lt;have X7n : Blk w2 g7 46 [.int .i64 (x.toNat : Int), .int .i64 0, .int .i64 N1, .int .i64 0, .int .i64 0, .slice none 0 0, .slice none 0 0, .int .u16 0, .int .u16 0, .slice none 0 0] := ((X7.drewN nq0).set 2 (.int .i64 N1)).below B2 (by simp; omega);replace X4 := ((X4.drewN nq0).set_ne (g := g7) (by omega) 2 (.int .i64 N1)).below B2 (by have := X4.lt; simp; omega);replace X3 := ((X3.drewN nq0).set_ne (g := g7) (by omega) 2 (.int .i64 N1)).below B2 (by have := X3.lt; simp; omega);replace Bw := below_then (Below.setCell (below_drewn Bw nq0) (p := ⟨g7, 2, none⟩) (by simp; omega) (.int .i64 N1)) B2;simp at nq2;clear X7;have X7 := X7n;clear X7n;obtain ⟨qvb, qvv, rfl, rb, rv⟩ := q2;obtain ⟨nb3, nv3⟩ := nq2.parts;have nb2 := nb3.le (base' := g7) (by omega);have nv2 := nv3.le (base' := g7) (by omega);clear nq2 B2;obtain ⟨qb, qcb, e1, -⟩ := id rb;obtain ⟨qv, qcv, e2, -⟩ := id rv;subst e1 e2;simp only [List.length_map] at rb rv nb2 nv2 nb3 nv3 ⊢;have X9 := Blk.new w2 33 [.int .i64 q.fn, .int .i64 q.loc, .int .i64 q.cnt, .int .i64 q.wat, .int .i64 q.sub, .slice qb q.bits.length qcb, .slice qv q.vals.length qcv, .int .u16 q.land.toNat, .int .u16 q.lor.toNat];have E9 := (Below.refl w2.heap.size w2).alloc (Nat.le_refl _) (.cells #[.int .i64 q.fn, .int .i64 q.loc, .int .i64 q.cnt, .int .i64 q.wat, .int .i64 q.sub, .slice qb q.bits.length qcb, .slice qv q.vals.length qcv, .int .u16 q.land.toNat, .int .u16 q.lor.toNat] 33);have HX := hidden (⟨X3.below E9 X3.lt, X4.below E9 X4.lt, X7.below E9 X7.lt, X9, below_then Bw E9, rb.below E9, rv.below E9⟩ : _ ∧ _ ∧ _ ∧ _ ∧ _ ∧ _ ∧ _);have h79 : g7 ≠ w2.heap.size := by have := X7.lt; omega
            clear X3 X4 X7 X9 E9 Bw rb rv;go_wp2_with (first | (go_at_call 31; refine (has_str _ _).mono ?_; rintro e w4 ⟨rfl, rfl⟩; rw [HL.out]) | (go_at_call 32; refine (in_at Lx _ _ (by decide) hLl).mono ?_; rintro e w4 ⟨rfl, rfl⟩; rw [Ia.out]))
            refine c_begin 20 rfl (by kernel_rfl) ?_;obtain ⟨X3, X4, X7, X9, Bw, rb, rv⟩ := HX.out;replace X3 := X3.drew;replace X4 := X4.drew;replace X7 := X7.drew;replace X9 := X9.drew;replace Bw := Bw.drew;replace rb := rb.drew;replace rv := rv.drew;clear HX;obtain ⟨w3, hw3⟩ : ∃ w3, (w2.alloc (.cells #[.int .i64 q.fn, .int .i64 q.loc, .int .i64 q.cnt, .int .i64 q.wat, .int .i64 q.sub, .slice qb q.bits.length qcb, .slice qv q.vals.length qcv, .int .u16 q.land.toNat, .int .u16 q.lor.toNat] 33)).drew = w3 := ⟨_, rfl⟩;rw [hw3] at X3 X4 X7 X9 Bw rb rv;have hw3' : (w2.alloc (.cells #[.int .i64 q.fn, .int .i64 q.loc, .int .i64 q.cnt, .int .i64 q.wat, .int .i64 q.sub, .slice qb q.bits.length qcb, .slice qv q.vals.length qcv, wV q.land, wV q.lor] 33)).drew = w3 := hw3;first | rw [hw3'] | rw [hw3]
            clear hw3 hw3';generalize w2.heap.size = g9 at *;obtain ⟨R, hR⟩ : ∃ R : World → Prop, (fun w' : World => Blk w' g9 33 [.int .i64 q.fn, .int .i64 q.loc, .int .i64 q.cnt, .int .i64 q.wat, .int .i64 q.sub, .slice qb q.bits.length qcb, .slice qv q.vals.length qcv, .int .u16 q.land.toNat, .int .u16 q.lor.toNat]) = R := ⟨_, rfl⟩;have RI := hidden (fun w' (h : Blk w' g9 33 [.int .i64 q.fn, .int .i64 q.loc, .int .i64 q.cnt, .int .i64 q.wat, .int .i64 q.sub, .slice qb q.bits.length qcb, .slice qv q.vals.length qcv, .int .u16 q.land.toNat, .int .u16 q.lor.toNat]) => (show R w' by rw [← hR]; exact h));have RD := hidden (fun w' (h : R w') => (show w'.cell? ⟨g9, 4, none⟩ = some (.int .i64 q.sub) ∧ w'.cell? ⟨g9, 5, none⟩ = some (.slice qb q.bits.length qcb) ∧ w'.cell? ⟨g9, 6, none⟩ = some (.slice qv q.vals.length qcv) ∧ w'.cell? ⟨g9, 7, none⟩ = some (.int .u16 q.land.toNat) ∧ w'.cell? ⟨g9, 8, none⟩ = some (.int .u16 q.lor.toNat) by
             rw [← hR] at h;exact ⟨h.cell 4, h.cell 5, h.cell 6, h.cell 7, h.cell 8⟩))
            have r0 := RI.out _ X9;clear hR;refine c_P trivial 0 rfl ?_;refine c_R R r0 trivial 1 rfl (fun w' hx => by obtain ⟨y4, y5, y6, y7, y8⟩ := RD.out w' hx; go_simp; with_reducible rfl) ?_;refine c_P ⟨r0, trivial⟩ 2 rfl ?_;refine c_R R r0 ⟨r0, trivial⟩ 3 rfl (fun w' hx => by obtain ⟨y4, y5, y6, y7, y8⟩ := RD.out w' hx; go_simp; with_reducible rfl) ?_;refine c_P ⟨r0, r0, trivial⟩ 4 rfl ?_;refine c_R R r0 ⟨r0, r0, trivial⟩ 5 rfl (fun w' hx => by obtain ⟨y4, y5, y6, y7, y8⟩ := RD.out w' hx; go_simp; with_reducible rfl) ?_;refine c_P ⟨r0, r0, r0, trivial⟩ 6 rfl ?_;refine c_R R r0 ⟨r0, r0, r0, trivial⟩ 7 rfl (fun w' hx => by obtain ⟨y4, y5, y6, y7, y8⟩ := RD.out w' hx; go_simp; with_reducible rfl) ?_;refine c_P ⟨r0, r0, r0, r0, trivial⟩ 8 rfl ?_;refine c_R R r0 ⟨r0, r0, r0, r0, trivial⟩ 9 rfl (fun w' hx => by obtain ⟨y4, y5, y6, y7, y8⟩ := RD.out w' hx; go_simp; with_reducible rfl) ?_;refine c_P ⟨r0, r0, r0, r0, r0, trivial⟩ 10 rfl ?_;have s5 : w3.cell? ⟨g7, 4, none⟩ = some (.int .i64 0) := X7.cell 4;have f5 := X7.frozen;have l5 := X7.lt;refine c_move 11 (by kernel_rfl) (c_op 11 [(9, R), (7, R), (5, R), (3, R)] (by kernel_rfl) rfl (by kernel_rfl) (fun K hK => ?_));go_simp;clear s5 f5 l5;replace Bw := Bw.setCell (p := ⟨g7, 4, none⟩) (by simp; omega) (.int .i64 q.sub);replace rb := rb.setCell_new (g := g7) (o := 4) (u := .int .i64 q.sub) nb3 l7;replace rv := rv.setCell_new (g := g7) (o := 4) (u := .int .i64 q.sub) nv3 l7;replace X3 := X3.set_ne (g := g7) (by omega) 4 (.int .i64 q.sub);replace X4 := X4.set_ne (g := g7) (by omega) 4 (.int .i64 q.sub);replace X9 := X9.set_ne (g := g7) h79 4 (.int .i64 q.sub);replace X7 := X7.set 4 (.int .i64 q.sub);simp only [List.set_cons_zero, List.set_cons_succ] at X7;replace r0 := RI.out _ X9;refine hK.out _ _ ⟨r0, r0, r0, r0, trivial⟩ ?_;clear K hK;try simp only [Act.put, PuA, PuB, PuC]
            generalize w3.setCell ⟨g7, 4, none⟩ (.int .i64 q.sub) = w4 at *;refine c_P ⟨r0, r0, r0, r0, trivial⟩ 12 rfl ?_;have s5 : w4.cell? ⟨g7, 5, none⟩ = some (.slice none 0 0) := X7.cell 5;have f5 := X7.frozen;have l5 := X7.lt;refine c_move 13 (by kernel_rfl) (c_op 13 [(9, R), (7, R), (5, R)] (by kernel_rfl) rfl (by kernel_rfl) (fun K hK => ?_));go_simp;clear s5 f5 l5;replace Bw := Bw.setCell (p := ⟨g7, 5, none⟩) (by simp; omega) (.slice qb q.bits.length qcb);replace rb := rb.setCell_new (g := g7) (o := 5) (u := .slice qb q.bits.length qcb) nb3 l7;replace rv := rv.setCell_new (g := g7) (o := 5) (u := .slice qb q.bits.length qcb) nv3 l7;replace X3 := X3.set_ne (g := g7) (by omega) 5 (.slice qb q.bits.length qcb);replace X4 := X4.set_ne (g := g7) (by omega) 5 (.slice qb q.bits.length qcb);replace X9 := X9.set_ne (g := g7) h79 5 (.slice qb q.bits.length qcb);replace X7 := X7.set 5 (.slice qb q.bits.length qcb);simp only [List.set_cons_zero, List.set_cons_succ] at X7;replace r0 := RI.out _ X9;refine hK.out _ _ ⟨r0, r0, r0, trivial⟩ ?_;clear K hK;try simp only [Act.put, PuA, PuB, PuC]
            generalize w4.setCell ⟨g7, 5, none⟩ (.slice qb q.bits.length qcb) = w5 at *;refine c_P ⟨r0, r0, r0, trivial⟩ 14 rfl ?_;have s5 : w5.cell? ⟨g7, 6, none⟩ = some (.slice none 0 0) := X7.cell 6;have f5 := X7.frozen;have l5 := X7.lt;refine c_move 15 (by kernel_rfl) (c_op 15 [(9, R), (7, R)] (by kernel_rfl) rfl (by kernel_rfl) (fun K hK => ?_));go_simp;clear s5 f5 l5;replace Bw := Bw.setCell (p := ⟨g7, 6, none⟩) (by simp; omega) (.slice qv q.vals.length qcv);replace rb := rb.setCell_new (g := g7) (o := 6) (u := .slice qv q.vals.length qcv) nb3 l7;replace rv := rv.setCell_new (g := g7) (o := 6) (u := .slice qv q.vals.length qcv) nv3 l7;replace X3 := X3.set_ne (g := g7) (by omega) 6 (.slice qv q.vals.length qcv);replace X4 := X4.set_ne (g := g7) (by omega) 6 (.slice qv q.vals.length qcv);replace X9 := X9.set_ne (g := g7) h79 6 (.slice qv q.vals.length qcv);replace X7 := X7.set 6 (.slice qv q.vals.length qcv);simp only [List.set_cons_zero, List.set_cons_succ] at X7;replace r0 := RI.out _ X9;refine hK.out _ _ ⟨r0, r0, trivial⟩ ?_;clear K hK;try simp only [Act.put, PuA, PuB, PuC]
            generalize w5.setCell ⟨g7, 6, none⟩ (.slice qv q.vals.length qcv) = w6 at *;refine c_P ⟨r0, r0, trivial⟩ 16 rfl ?_;have s5 : w6.cell? ⟨g7, 7, none⟩ = some (.int .u16 0) := X7.cell 7;have f5 := X7.frozen;have l5 := X7.lt;refine c_move 17 (by kernel_rfl) (c_op 17 [(9, R)] (by kernel_rfl) rfl (by kernel_rfl) (fun K hK => ?_));go_simp;clear s5 f5 l5;replace Bw := Bw.setCell (p := ⟨g7, 7, none⟩) (by simp; omega) (.int .u16 q.land.toNat);replace rb := rb.setCell_new (g := g7) (o := 7) (u := .int .u16 q.land.toNat) nb3 l7;replace rv := rv.setCell_new (g := g7) (o := 7) (u := .int .u16 q.land.toNat) nv3 l7;replace X3 := X3.set_ne (g := g7) (by omega) 7 (.int .u16 q.land.toNat);replace X4 := X4.set_ne (g := g7) (by omega) 7 (.int .u16 q.land.toNat);replace X9 := X9.set_ne (g := g7) h79 7 (.int .u16 q.land.toNat);replace X7 := X7.set 7 (.int .u16 q.land.toNat);simp only [List.set_cons_zero, List.set_cons_succ] at X7;replace r0 := RI.out _ X9;refine hK.out _ _ ⟨r0, trivial⟩ ?_;clear K hK;try simp only [Act.put, PuA, PuB, PuC]
            generalize w6.setCell ⟨g7, 7, none⟩ (.int .u16 q.land.toNat) = w7 at *;refine c_P ⟨r0, trivial⟩ 18 rfl ?_;have s5 : w7.cell? ⟨g7, 8, none⟩ = some (.int .u16 0) := X7.cell 8;have f5 := X7.frozen;have l5 := X7.lt;refine c_move 19 (by kernel_rfl) (c_op 19 [] (by kernel_rfl) rfl (by kernel_rfl) (fun K hK => ?_));go_simp;clear s5 f5 l5;replace Bw := Bw.setCell (p := ⟨g7, 8, none⟩) (by simp; omega) (.int .u16 q.lor.toNat);replace rb := rb.setCell_new (g := g7) (o := 8) (u := .int .u16 q.lor.toNat) nb3 l7;replace rv := rv.setCell_new (g := g7) (o := 8) (u := .int .u16 q.lor.toNat) nv3 l7;replace X3 := X3.set_ne (g := g7) (by omega) 8 (.int .u16 q.lor.toNat);replace X4 := X4.set_ne (g := g7) (by omega) 8 (.int .u16 q.lor.toNat);replace X9 := X9.set_ne (g := g7) h79 8 (.int .u16 q.lor.toNat);replace X7 := X7.set 8 (.int .u16 q.lor.toNat);simp only [List.set_cons_zero, List.set_cons_succ] at X7;replace r0 := RI.out _ X9;refine hK.out _ _ trivial ?_;clear K hK;try simp only [Act.put, PuA, PuB, PuC]
            generalize w7.setCell ⟨g7, 8, none⟩ (.int .u16 q.lor.toNat) = w8 at *;refine c_done (by kernel_rfl) ?_;clear r0 RI RD;go_wp2_with (first | (go_at_call 31; refine (has_str _ _).mono ?_; rintro e w4 ⟨rfl, rfl⟩; rw [HL.out]) | (go_at_call 32; refine (in_at Lx _ _ (by decide) hLl).mono ?_; rintro e w4 ⟨rfl, rfl⟩; rw [Ia.out]))
            go_meet
            simp only [HG.out];exact ⟨(by first | trivial | rfl), _, _, .slice none 0 0, X3, X4, X7, rb, rv, Row.nil _, nb2, nv2, NewV.none _ _ _, Bw⟩
     case rest =>
      obtain ⟨rfl, vb, vv, vd, X3, X4, X7, Rb, Rv, Rd, nvb, nvv, nvd, Bw⟩ := hcut;obtain ⟨bA, bC, e1, -⟩ := id Rb;obtain ⟨vA, vC, e2, -⟩ := id Rv;obtain ⟨dA, dC, e3, -⟩ := id Rd;subst e1 e2 e3;simp only [List.length_map] at X7 Rb Rv Rd nvb nvv nvd;generalize gB bs c = r at *;obtain ⟨w2, hw2⟩ : ∃ w2, w2 = wc := ⟨_, rfl⟩;subst hw2;have IR := hidden (fun w' (hb : Below w2.heap.size w2 w') => (show IsRp w' (rpV r.fn r.code r.loc r.cnt r.sub (.slice bA r.bits.length bC) (.slice vA r.vals.length vC) r.land r.lor (.slice dA r.data.length dC)) r from ⟨_, _, _, rfl, Rb.below hb, Rv.below hb, Rd.below hb⟩));obtain ⟨B, hBt, hBf⟩ : ∃ B : Bool, (¬ isA bs c r → B = true) ∧ (isA bs c r → B = false) := by
       by_cases h : isA bs c r
       ·
        exact ⟨false, fun h' => absurd h h', fun _ => rfl⟩
       ·
        exact ⟨true, fun _ => rfl, fun h' => absurd h' h⟩
      have HBt := hidden hBt;have HBf := hidden hBf;clear hBt hBf;go_upto_region 31 with fail
      go_cut [165] from 118 to 165 (fun z wx => z = .bool B ∧ Below w2.heap.size w2 wx)
      case first =>
       have CG := hidden (fun w' hb => good_ref _ r w' (IR.out w' hb));have HCB := hidden (fun w' (hx : Ext w2.drew w') => conv_row (P := Tryz.prog) (hv.below (below_then (below_then Bw (Below.refl w2.heap.size w2).drew) hx)) 27 9 5 Tryz.underlying27 Tryz.underlying5 Tryz.underlying9);refine wp_region_pi [(0, true), (1, false), (2, true), (3, true), (4, true), (7, true), (8, true), (5, false), (6, true), (9, true), (10, true), (11, true), (12, true), (13, true), (14, true), (15, true), (16, true), (17, true), (18, true), (19, true), (20, true), (21, true), (22, true), (23, true), (24, true), (25, true), (26, true), (27, true), (28, true), (29, true), (30, true), (31, true), (32, true), (33, true), (34, true), (35, true), (36, true), (37, true), (38, true), (39, true), (40, true), (41, true), (42, true), (43, true), (44, true), (45, true), (46, true), (47, true)] (by kernel_rfl) (by kernel_rfl) (by kernel_rfl) (fun _ _ _ d _ h => by cases d <;> exact h) ?_;have ED := (Below.refl w2.heap.size w2).drew;have BD := X7.below ED X7.lt;have BQ := X3.below ED X3.lt;have x0 := Ext.refl w2.drew;have RD := hidden (fun w' (hx : Ext w2.drew w') => (⟨cell_of (i := 0) (BD.below hx BD.lt) rfl, cell_of (i := 1) (BD.below hx BD.lt) rfl, cell_of (i := 2) (BD.below hx BD.lt) rfl, cell_of (i := 3) (BD.below hx BD.lt) rfl, cell_of (i := 4) (BD.below hx BD.lt) rfl, cell_of (i := 5) (BD.below hx BD.lt) rfl, cell_of (i := 6) (BD.below hx BD.lt) rfl, cell_of (i := 7) (BD.below hx BD.lt) rfl, cell_of (i := 8) (BD.below hx BD.lt) rfl, cell_of (i := 9) (BD.below hx BD.lt) rfl⟩ : _ ∧ _ ∧ _ ∧ _ ∧ _ ∧ _ ∧ _ ∧ _ ∧ _ ∧ _));have RQ := hidden (fun w' (hx : Ext w2.drew w') => cell_of (i := 2) (BQ.below hx BQ.lt) rfl);clear BD BQ X3 X4 X7 Rb Rv Rd;generalize w2.drew = w3 at *;refine pi_R x0 rfl (fun w' hx => by obtain ⟨y0, y1, y2, y3, y4, y5, y6, y7, y8, y9⟩ := RD.out w' hx; go_simp; with_reducible rfl) ?_;refine pi_move rfl (by kernel_rfl) (fun K hK => ?_);go_wp2_with fail
       refine (CG.out _ ED).mono ?_;rintro e c1 ⟨rfl, E1⟩;go_simp;refine hK.out _ _ E1 ?_;clear K hK;try simp only [Act.put, PuA, PuB, PuC]
       have x1 := Ext.refl c1;by_cases hg : goodE r = 0
       ·
        rw [hg];iterate 2 (refine pi_P E1 rfl ?_)
        refine pi_R E1 rfl (fun w' hx => by obtain ⟨y0, y1, y2, y3, y4, y5, y6, y7, y8, y9⟩ := RD.out w' (Ext.trans E1 hx); have yq := RQ.out w' (Ext.trans E1 hx); go_simp; with_reducible rfl) ?_;refine pi_P x1 rfl ?_;refine pi_R x1 rfl (fun w' hx => by have yb := HCB.out w' (Ext.trans E1 hx); go_simp; with_reducible rfl) ?_;refine pi_move rfl (by kernel_rfl) (fun K hK => ?_);go_wp2_with fail
        refine (lay_ref _ r _ (IR.out _ (below_then ED E1)) hg).mono ?_;rintro e c2 ⟨v2, rfl, o2, E2⟩;have R2 := Row.of_owns o2;have HC2 := hidden (fun w' (hx : Ext c2 w') => conv_row (P := Tryz.prog) (R2.below hx) 27 9 5 Tryz.underlying27 Tryz.underlying5 Tryz.underlying9);have T2 := Ext.trans E1 E2;go_simp;refine hK.out _ _ E2 ?_;clear K hK;try simp only [Act.put, PuA, PuB, PuC]
        have x2 := Ext.refl c2;refine pi_R E2 rfl (fun w' hx => by have yl := HC2.out w' hx; go_simp; with_reducible rfl) ?_;clear o2 R2 HC2 HCB CG;by_cases hl2 : layA r = bs
        ·
         rw [hl2];by_cases hc0 : r.code = 0
         ·
          obtain ⟨hfx, hkf⟩ := fn_lay0 hg hl2 hc0;rw [HF.out] at hfx;have hcb : (r.code == 0) = true := by simpa using hc0
          have HI := hidden (show askB r c = true → isA bs c r from fun h => ⟨hg, hl2, h⟩);have HN := hidden (show ¬ askB r c = true → ¬ isA bs c r from fun h h' => h h'.2.2);iterate 4 (refine pi_P x2 rfl ?_)
          refine pi_R x2 rfl (fun w' hx => by obtain ⟨y0, y1, y2, y3, y4, y5, y6, y7, y8, y9⟩ := RD.out w' (Ext.trans T2 hx); have yq := RQ.out w' (Ext.trans T2 hx); go_simp; with_reducible rfl) ?_;have ta : Hid (askB r c = if r.fn = 1 ∨ r.fn = 2 then decide ((r.bits.length : Int) = c) else if r.fn = 3 ∨ r.fn = 4 ∨ r.fn = 23 then decide ((r.vals.length : Int) = c) else true) := by
           show _ = _;unfold askB;rw [if_neg (by simp [hc0])]
          rw [← hfx] at ta;have hkx := known_cases (hfx ▸ hkf : knownB (x.toNat : Int) = true);clear hfx hkf;by_cases k12 : (x.toNat : Int) = 1 ∨ (x.toNat : Int) = 2
          ·
           rw [if_pos k12] at ta;have k2 : (x.toNat : Int) ≤ 2 := by omega
           have t3 : ((x.toNat : Int) == 3) = false := by rw [beq_eq_false_iff_ne]; omega
           have t4 : ((x.toNat : Int) == 4) = false := by rw [beq_eq_false_iff_ne]; omega
           have t23 : ((x.toNat : Int) == 23) = false := by rw [beq_eq_false_iff_ne]; omega
           clear hkx;exact absurd (by rw [HF.out]; omega) HCLS.out
          ·
           rw [if_neg k12] at ta;have k2 : ¬ (x.toNat : Int) ≤ 2 := by omega
           clear hkx k12;by_cases k3 : (x.toNat : Int) = 3 ∨ (x.toNat : Int) = 4 ∨ (x.toNat : Int) = 23
           ·
            rw [if_pos k3] at ta;exact absurd (by rw [HF.out]; omega) HCLS.out
           ·
            rw [if_neg k3] at ta;have PF := HI.out (by rw [ta.out]);obtain ⟨n3, n4⟩ := not_or.1 k3;obtain ⟨n4, n23⟩ := not_or.1 n4;have t3 : ((x.toNat : Int) == 3) = false := by rw [beq_eq_false_iff_ne]; omega
            have t4 : ((x.toNat : Int) == 4) = false := by rw [beq_eq_false_iff_ne]; omega
            have t23 : ((x.toNat : Int) == 23) = false := by rw [beq_eq_false_iff_ne]; omega
            clear ta k3 n3 n4 n23;iterate 5 (refine pi_P x2 rfl ?_)
            iterate 6 (refine pi_S x2 rfl ?_)
            iterate 13 (refine pi_P x2 rfl ?_)
            iterate 6 (refine pi_S x2 rfl ?_)
            iterate 4 (refine pi_P x2 rfl ?_)
            refine pi_nil ?_;go_wp2_with fail
            go_meet
            exact ⟨by rw [HBf.out PF], below_then ED T2⟩
         ·
          have hcb : (r.code == 0) = false := by simpa using hc0
          have PF : isA bs c r := ⟨hg, hl2, by unfold askB; rw [if_pos hc0]⟩;iterate 4 (refine pi_P x2 rfl ?_)
          refine pi_R x2 rfl (fun w' hx => by obtain ⟨y0, y1, y2, y3, y4, y5, y6, y7, y8, y9⟩ := RD.out w' (Ext.trans T2 hx); have yq := RQ.out w' (Ext.trans T2 hx); go_simp; with_reducible rfl) ?_;iterate 2 (refine pi_P x2 rfl ?_)
          iterate 30 (refine pi_S x2 rfl ?_)
          iterate 2 (refine pi_P x2 rfl ?_)
          refine pi_nil ?_;go_wp2_with fail
          go_meet
          exact ⟨by rw [HBf.out PF], below_then ED T2⟩
        ·
         have hno : ¬ isA bs c r := fun h => hl2 h.2.1;have hSS : (layA r == bs) = false := by simpa using hl2
         iterate 3 (refine pi_P x2 rfl ?_)
         iterate 35 (refine pi_S x2 rfl ?_)
         refine pi_P x2 rfl ?_;refine pi_nil ?_;go_wp2_with fail
         go_meet
         exact ⟨by rw [HBt.out hno], below_then ED T2⟩
       ·
        have hno : ¬ isA bs c r := fun h => hg h.1;have hgn : (goodE r != 0) = true := by simpa using hg
        iterate 2 (refine pi_P E1 rfl ?_)
        iterate 3 (refine pi_S E1 rfl ?_)
        refine pi_pass E1 rfl (by kernel_rfl) ?_; try simp only [Act.put, PuA, PuB, PuC];iterate 2 (refine pi_S E1 rfl ?_)
        iterate 2 (refine pi_P E1 rfl ?_)
        iterate 35 (refine pi_S E1 rfl ?_)
        refine pi_P E1 rfl ?_;refine pi_nil ?_;go_wp2_with fail
        go_meet
        exact ⟨by rw [HBt.out hno], below_then ED E1⟩
      case rest =>
       obtain ⟨rfl, E1⟩ := hcut;replace X4 := X4.below E1 X4.lt;replace X7 := X7.below E1 X7.lt;replace Rb := Rb.below E1;replace Rv := Rv.below E1;replace Rd := Rd.below E1;replace Bw := below_then Bw E1;clear X3 IR E1;have z0 := cell_of (i := 0) X4 rfl;have z1 := cell_of (i := 1) X4 rfl;have z2 := cell_of (i := 2) X4 rfl;have z3 := cell_of (i := 3) X4 rfl;have z4 := cell_of (i := 4) X4 rfl;have z5 := cell_of (i := 5) X4 rfl;have z6 := cell_of (i := 6) X4 rfl;have z7 := cell_of (i := 7) X4 rfl;have z8 := cell_of (i := 8) X4 rfl;have z9 := cell_of (i := 9) X4 rfl;have fz := X4.frozen;have gz := X4.lt;by_cases hA : isA bs c r
       ·
        rw [HBf.out hA];have HE := hidden (E0.out hA);have HZ := hidden (Q0.out hA);have y0 := cell_of (i := 0) X7 rfl;have y1 := cell_of (i := 1) X7 rfl;have y2 := cell_of (i := 2) X7 rfl;have y3 := cell_of (i := 3) X7 rfl;have y4 := cell_of (i := 4) X7 rfl;have y5 := cell_of (i := 5) X7 rfl;have y6 := cell_of (i := 6) X7 rfl;have y7 := cell_of (i := 7) X7 rfl;have y8 := cell_of (i := 8) X7 rfl;have y9 := cell_of (i := 9) X7 rfl;have g8 := X7.lt;clear X4 X7 E12 Q12 E0 Q0 HBt HBf hA;go_wp2;refine bodyPost_ret (v := _) (by simp [results, Tryz.results13, go_sem, z0, z1, z2, z3, z4, z5, z6, z7, z8, z9]; with_reducible rfl) rfl ?_;rw [HE.out, HZ.out];refine ⟨_, rfl, ⟨_, _, _, rfl, ?_, ?_, ?_⟩, ?_⟩
        ·
         repeat' (refine Row.setCell_new ?_ nvb (by omega))
         exact Rb
        ·
         repeat' (refine Row.setCell_new ?_ nvv (by omega))
         exact Rv
        ·
         repeat' (refine Row.setCell_new ?_ nvd (by omega))
         exact Rd
        ·
         repeat' (refine Below.setCell ?_ (by simp) _)
         exact Bw
       ·
        rw [HBt.out hA];have HE := hidden (E12.out hA);have HZ := hidden (Q12.out hA);clear X4 X7 E12 Q12 E0 Q0 HBt HBf hA Rb Rv Rd;go_wp2;refine bodyPost_ret (v := _) (by simp [results, Tryz.results13, go_sem, z0, z1, z2, z3, z4, z5, z6, z7, z8, z9]; with_reducible rfl) rfl ?_;rw [HE.out, HZ.out];refine ⟨_, rfl, zero_rp _, ?_⟩
        repeat' (refine Below.setCell ?_ (by simp) _)
        exact Bw
  ·
   have ha' : ansB (x.toNat : Int) f = false := by simpa using ha
   rw [EA.out ha', QA.out ha'];have hcase := ans_no (by omega) ha' hY1 hY2;clear EA QA E12 Q12 E0 Q0 ha ha' hY1 hY2 HC HF;rcases hcase with ⟨t1, t2 | ⟨t2, t3 | ⟨t3, t4⟩⟩⟩ | ⟨t1, t3⟩
   all_goals
    go_enter Tryz.func13, Tryz.ntmps13;go_wp2;refine bodyPost_ret (v := _) (by simp [results, Tryz.results13, go_sem]; with_reducible rfl) rfl ?_;exact ⟨_, rfl, zero_rp _, W0.out _ _⟩
end Go.Proofs.YtdihcdphgiaepaaGreat
