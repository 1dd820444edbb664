/- The walk of burgagelaw10.WindowCells. -/
import Derived.Test.YtpahipoooiaoeaaWM
import Derived.Maps.Own
import Derived.Maps.Views
namespace Go.Proofs.Ytpahipoooiaoeaa
open Go.RowKit

theorem mask_any (a : Int) (k : Nat) (hk : k < 62) (M : Int) (hM : M = ((2 ^ k - 1 : Nat) : Int)) : ∃ x : Nat, bits .and .i64 a M = (x : Int) ∧ (x : Int) ≤ M := by
  subst hM
  have h0 := Int.emod_nonneg a (show ((2 ^ k : Nat) : Int) ≠ 0 by have := Nat.two_pow_pos k; omega)
  have := Int.emod_lt_of_pos a (show (0 : Int) < ((2 ^ k : Nat) : Int) by have := Nat.two_pow_pos k; omega)
  have := Nat.two_pow_pos k
  refine ⟨(a % ((2 ^ k : Nat) : Int)).toNat, ?_, by omega⟩
  rw [i64_and_mask a k hk]
  omega
theorem pw_cases {α : Type} {R : α → α → Prop} : ∀ {l : List α}, l.Pairwise R → ∀ x ∈ l, ∀ y ∈ l, x = y ∨ R x y ∨ R y x
  | [], _, x, hx, _, _ => by cases hx
  | a :: r, h, x, hx, y, hy => by
    rw [List.pairwise_cons] at h
    rcases List.mem_cons.1 hx with rfl | hx'
    · rcases List.mem_cons.1 hy with rfl | hy'
      · exact .inl rfl
      · exact .inr (.inl (h.1 y hy'))
    · rcases List.mem_cons.1 hy with rfl | hy'
      · exact .inr (.inr (h.1 x hx'))
      · exact pw_cases h.2 x hx' y hy'
theorem GW.wr {t : Nat} {ws : WL} (h : GW t ws) (ht : t ≤ 3) : ∀ x ∈ ws, wR x = true := fun x hx => by
  obtain ⟨q1, q2, q3, q4, q5, q6, q7, q8⟩ := h.ok x hx
  obtain ⟨s, v, p, n⟩ := x
  simp only at q1 q2 q3 q4 q5 q6 q7 q8
  exact wR_iff.2 (by omega)
theorem GW.okw {t : Nat} {ws : WL} (h : GW t ws) (ht : t ≤ 3) : OkW ws := fun x hx => by
  have := wR_all (h.wr ht x hx)
  unfold i64
  omega
theorem meetE_no {a n b m : Int} (h : b + m ≤ a) : meetE a n b m = false := by
  cases e : meetE a n b m
  · rfl
  · simp only [meetE, Bool.and_eq_true, decide_eq_true_eq] at e
    exfalso
    have := (tk_iff.1 e.1.1)
    have := (tk_iff.1 e.1.2)
    omega
theorem GW.own {t : Nat} {ws : WL} (h : GW t ws) : ownB ws = true := by
  refine decide_eq_true ?_
  refine (h.ord.filter wR).imp ?_
  intro y x hh
  unfold clashB
  by_cases e : x.1 = y.1
  · have := hh e.symm
    rw [meetE_no this.2, meetE_no this.1]
    simp
  · simp [e]
theorem sel_pw {t : Nat} {ws : WL} (h : GW t ws) (s : Int) : (sel s ws).Pairwise Aft := (h.ord.filter wR).filter _
/-- two windows of one space that have one cell in common are one -/
theorem sel_one {t : Nat} {ws : WL} (h : GW t ws) {s p : Int} {x y : WN} (hx : x ∈ sel s ws) (hy : y ∈ sel s ws) (h1 : hasB (pS x) p = true) (h2 : hasB (pS y) p = true) : x = y := by
  have q1 := hasB_iff.1 h1
  have q2 := hasB_iff.1 h2
  have e1 := (sel_mem hx).2.2
  have e2 := (sel_mem hy).2.2
  simp only at q1 q2
  rcases pw_cases (sel_pw h s) x hx y hy with e | e | e
  · exact e
  · have := (e (by rw [e1, e2])).2
    omega
  · have := (e (by rw [e1, e2])).2
    omega
theorem sel_oneV {t : Nat} {ws : WL} (h : GW t ws) {s p : Int} {x y : WN} (hx : x ∈ sel s ws) (hy : y ∈ sel s ws) (h1 : hasB (vS x) p = true) (h2 : hasB (vS y) p = true) : x = y := by
  have q1 := hasB_iff.1 h1
  have q2 := hasB_iff.1 h2
  have e1 := (sel_mem hx).2.2
  have e2 := (sel_mem hy).2.2
  simp only at q1 q2
  rcases pw_cases (sel_pw h s) x hx y hy with e | e | e
  · exact e
  · have := (e (by rw [e1, e2])).1
    omega
  · have := (e (by rw [e1, e2])).1
    omega
/-- the window that has a virtual cell -/
def at1 (ws : WL) (s a : Int) : Option WN := (sel s ws).find? fun x => hasB (vS x) a
def ph (x : WN) (a : Int) : Int := x.2.2.1 + (a - x.2.1)
theorem at1_mem {ws : WL} {s a : Int} {x : WN} (h : at1 ws s a = some x) : x ∈ sel s ws ∧ hasB (vS x) a = true := ⟨List.mem_of_find?_eq_some h, by have := List.find?_some h; simpa using this⟩
theorem map_one (ws : WL) (s a : Int) (h0 : 0 ≤ a) (h1 : a ≤ 1000) : mapE ws s a 1 = (at1 ws s a).map fun x => [(a, ph x a, 1)] := by
  have hk : tk a 1 = true := tk_iff.2 (by omega)
  unfold mapE covR
  rw [hk, (virt_ok (sel_ok s ws)).2]
  simp only [Bool.and_self, if_true]
  have hf := fnd_virt (sel s ws) a
  unfold at1
  cases e : (sel s ws).find? (fun x => hasB (vS x) a) with
  | none =>
    rw [e] at hf
    rw [cov_none (by omega) hf]
    rfl
  | some x =>
    rw [e] at hf
    have hx := (fnd_has hf).1
    have q := hasB_iff.1 hx
    have hp : pcN (vS x) a 1 = 1 := by
      unfold pcN
      omega
    rw [cov_some (by omega) hf, hp, cov_zero (by omega)]
    simp only [Option.map_some, lay, List.map_cons, List.map_nil]
    unfold liesI ph
    rw [e]
theorem has_ph {x : WN} {a : Int} (h : hasB (vS x) a = true) : hasB (pS x) (ph x a) = true := by
  have q := hasB_iff.1 h
  refine hasB_iff.2 ?_
  unfold ph
  simp only at q ⊢
  omega
theorem back_one {t : Nat} {ws : WL} (h : GW t ws) {s a : Int} {x : WN} (hx : at1 ws s a = some x) : backO ws s (ph x a) = some a := by
  obtain ⟨m1, m2⟩ := at1_mem hx
  unfold backO
  cases e : (sel s ws).find? (fun x_1 => hasB (pS x_1) (ph x a)) with
  | none =>
    have := List.find?_eq_none.1 e x m1
    rw [has_ph m2] at this
    simp at this
  | some y =>
    have q1 := List.mem_of_find?_eq_some e
    have q2 : hasB (pS y) (ph x a) = true := by have := List.find?_some e; simpa using this
    obtain rfl := sel_one h m1 q1 (has_ph m2) q2
    simp only [Option.map_some]
    congr 1
    unfold ph
    omega
theorem ph_inj {t : Nat} {ws : WL} (h : GW t ws) {s a b : Int} {x y : WN} (hx : at1 ws s a = some x) (hy : at1 ws s b = some y) (e : ph x a = ph y b) : a = b := by
  have h1 := back_one h hx
  have h2 := back_one h hy
  rw [e, h2] at h1
  cases h1
  rfl
theorem grown_of {w w' : World} (h : Below w.heap.size w w') : w.grownBy w' none := ⟨h.os, h.tape, h.output, h.size, fun k hk _ => h.block k hk⟩
theorem zero_int (w : World) : (zeroValue 3).run Try.prog w = .ok (.int .i64 0) w := by kernel_rfl
theorem wf_small {p : Int} (h : 0 ≤ p ∧ p < 512) : (Lit.int .i64 p).wf = true := by
  have e1 : IntKind.i64.min = -9223372036854775808 := by decide
  have e2 : IntKind.i64.max = 9223372036854775807 := by decide
  simp only [Lit.wf, Bool.and_eq_true, decide_eq_true_eq, e1, e2]
  omega
/-- the map has nothing yet of the cells from a on -/
def Clean (ws : WL) (s : Int) (a : Nat) (D : DataW Unit) : Prop := ∀ b x, a ≤ b → at1 ws s (b : Nat) = some x → D.atKey (.int .i64 (ph x b)) (.lit (.int .i64 0)) = .lit (.int .i64 0)

set_option maxRecDepth 100000 in
set_option maxHeartbeats 8000000 in
theorem cells_law (at' : Option Addr) (m cap : Nat) (l : List Int) (i sp : Int) (w : World) (h : Row w (.slice at' m cap) (l.map iV)) (hi : ∀ x ∈ l, -9223372036854775808 ≤ x ∧ x ≤ 9223372036854775807) :
    Calls Try.prog 5 #[.slice at' m cap, .int .i64 i, .int .i64 sp] w fun e w' => e = .returned (.bool true) ∧ Below w.heap.size w w' := by
  obtain ⟨x1, e1, b1⟩ := mask_any i 2 (by omega) 3 rfl
  obtain ⟨s, e2, b2⟩ := mask_any sp 2 (by omega) 3 rfl
  have hmm := @run_makeMap Try.prog
  go_enter Try.func5, Try.ntmps5
  go_wp2_with fail
  refine (windows_law at' m cap l x1 _ h hi (by omega)).mono ?_
  rintro e w1 ⟨v, rfl, ⟨ws, t, W, ht, gw⟩, B1⟩
  have hW := gw.wr ht
  have hO := hidden (gw.okw ht)
  have GWH := hidden gw
  have ll : ws.length ≤ 1000000 := Nat.le_trans gw.len (by omega)
  obtain ⟨av, cv, rfl, -⟩ := id W
  have HW := hidden W
  have HB := hidden B1
  have OM := World.ownsMap_made (H := Unit) w1 Try.prog 3 (plainElem (H := Unit) Try.prog 3)
  have BM := (Below.refl w1.heap.size w1).alloc (Nat.le_refl _) (.map #[] 0)
  clear W B1 hW gw e1 h hi
  go_wp2
  clear hmm e2
  go_loopw [10] (fun z wr => ∃ (k n : Nat) (D : DataW Unit), z = .int .i64 k ∧ k ≤ 140 ∧ n ≤ k ∧ wr.ownsMap Try.prog 3 (plainElem (H := Unit) Try.prog 3) w1.heap.size n D ∧ Hid (Clean ws s k D) ∧ Below w1.heap.size w1 wr) (fun z _ => 140 - (intOf z).toNat)
  case atStart => exact ⟨0, 0, _, rfl, by omega, by omega, OM, hidden (fun b x _ _ => rfl), BM⟩
  case round =>
    clear OM BM
    obtain ⟨k, n, D, rfl, hk, hn, OM, HC, hb⟩ := hrel
    by_cases hlt : k < 140
    · have hlt' : (k : Int) < 140 := by omega
      have M1 := map_one ws s k (by omega) (by omega)
      have C := hidden (fun w' h => map_any (.slice av ws.length cv) ws s k 1 w' h hO.out (by unfold i64; omega) ll)
      rw [M1] at C
      clear M1
      cases ea : at1 ws s (k : Int) with
      | none =>
        rw [ea] at C
        have HC2 : Hid (Clean ws s (k + 1) D) := fun b x hb hx => HC.out b x (by omega) hx
        simp only [Option.map_none, Option.isSome_none, Option.getD_none] at C
        go_wp2_with fail
        refine (C.out _ (HW.out.ext hb)).mono ?_
        rintro e w2 ⟨v2, rfl, -, -, B2⟩
        go_wp2
        go_roundw
        case rel => exact ⟨k + 1, n, D, by go_num, by omega, by omega, OM.kept (grown_of B2) (by simp), HC2, below_then hb B2⟩
        case measure => simp [intOf]; omega
      | some x =>
        rw [ea] at C
        have HBK := hidden (back_one GWH.out ea)
        have hz0 := HC.out k x (Nat.le_refl _) ea
        have hxr := wR_all ((sel_mem (at1_mem ea).1).2.1)
        have hxh := hasB_iff.1 (at1_mem ea).2
        simp only at hxh
        have hpb : 0 ≤ ph x k ∧ ph x k < 512 := by unfold ph; omega
        have HC2 : Hid (∀ d, Clean ws s (k + 1) (D.put (.int .i64 (ph x k)) d)) := by
          intro d b y hb hy
          have hne : ph y b ≠ ph x k := fun e => by
            have := ph_inj GWH.out hy ea e
            omega
          rw [Maps.atKey_put_other (k := .int .i64 (ph x k)) (k' := .int .i64 (ph y b)) (by intro e; simp only [Lit.int.injEq, true_and] at e; exact hne e)]
          exact HC.out b y (by omega) hy
        simp only [Option.map_some, Option.isSome_some, Option.getD_some] at C
        clear ea hxr hxh HC
        generalize ph x k = P at *
        have hwf : (Lit.int .i64 P).wf = true := wf_small hpb
        have hkey : keyOf Try.prog 3 (.int .i64 P) = some (.int .i64 P) := Maps.keyOf_int_mk Try.underlying3 hwf
        have CB := hidden (fun w' h => back_any (.slice av ws.length cv) ws s P w' h hO.out ll)
        rw [HBK.out] at CB
        simp only [Option.isSome_some, Option.getD_some] at CB
        clear HBK
        go_wp2_with fail
        refine (C.out _ (HW.out.ext hb)).mono ?_
        rintro e w2 ⟨v2, rfl, P2, -, B2⟩
        replace OM := OM.kept (grown_of B2) (by simp)
        replace hb := below_then hb B2
        obtain ⟨a2, c2, rfl, -⟩ := id P2
        obtain ⟨pb, po, rfl, p0, p1, p2⟩ := P2.pn (i := 0) rfl
        obtain ⟨-, pc, pm, -⟩ := P2.at
        simp only [Nat.zero_mul, Nat.add_zero, List.length_cons, List.length_nil, Nat.zero_add] at p0 p1 p2 pc pm ⊢
        obtain ⟨c, hrun, hat, -⟩ := OM.lookup_int (Maps.int_keyed Try.underlying3) Try.underlying31 Try.underlying3 (zero_int _) hkey
        rw [hz0] at hat
        cases hat
        clear hz0 B2
        have hne : pb ≠ w1.heap.size := by
          intro e
          obtain ⟨es, clock, hbm, -⟩ := OM
          subst e
          simp [World.cell?, hbm] at p0
        have HOM := hidden OM
        have HP1 := hidden p1
        have H2 := hidden hb
        have lpb := lt_of_cell p0
        clear OM P2 hb
        go_wp2_with (at_mapUpdate; refine wpList_mapUpdate_own _ rfl _ _ _ 31 rfl 3 3 (Maps.int_keyed Try.underlying3) Try.underlying31 (plainElem (H := Unit) Try.prog 3) w1.heap.size n D rfl HOM.out (by unfold maxLen; omega) _ _ (.int .i64 P) rfl rfl hkey (.lit (.int .i64 1)) [] (plainElem_int Try.underlying3 (by decide)) ?_)
        intro w3 own3 gr3
        have H3 := hidden (H2.out.grown gr3 H2.out.size (fun k hk => by cases hk; exact Nat.le_refl _))
        have r1 : w3.cell? ⟨pb, po + 1, none⟩ = some (.int .i64 P) := by
          rw [← HP1.out]; exact World.cell?_of_block (a := ⟨pb, po + 1, none⟩) (gr3.block pb lpb (by intro e; cases e; exact hne rfl))
        clear p0 p1 p2 hrun gr3
        go_wp2_with fail
        refine (CB.out _ (HW.out.ext H3.out)).mono ?_
        rintro e w4 ⟨rfl, B4⟩
        go_wp2
        go_roundw
        case rel => exact ⟨k + 1, n + 1, _, by go_num, by omega, by omega, own3.kept (grown_of B4) (by simp), hidden (HC2.out _), below_then H3.out B4⟩
        case measure => simp [intOf]; omega
    · have hlt' : ¬ (k : Int) < 140 := by omega
      have CO := hidden (fun w' h => own_any (.slice av ws.length cv) ws w' h hO.out ll)
      rw [GWH.out.own] at CO
      have HB2 := hidden hb
      clear OM hb
      go_wp2_with fail
      refine (CO.out _ (HW.out.ext HB2.out)).mono ?_
      rintro e w2 ⟨rfl, B2⟩
      have B3 := hidden (below_then HB.out (below_then HB2.out B2))
      clear B2
      go_wp2_with fail
      refine (known_law _).mono ?_
      rintro e w4 ⟨rfl, B4⟩
      have B5 := hidden (below_then B3.out B4)
      clear B4
      go_wp2
      go_ret
      exact ⟨rfl, B5.out⟩

end Go.Proofs.Ytpahipoooiaoeaa
