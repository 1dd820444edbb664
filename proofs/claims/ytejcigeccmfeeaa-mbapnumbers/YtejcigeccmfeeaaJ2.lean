/- The contract of mbap's Put. -/
import Derived.Test.YtejcigeccmfeeaaJ1
import Derived.Deep.Cut
import Derived.RegionTactic
import Derived.BigRegion
namespace Go.Proofs.Ytejcigeccmfeeaa
open Go.RowKit

/-- append of one element that has just been laid -/
theorem wpList_push {P : Program} {w : World} {ops : Array Oper} {rest : List Oper} {o : Oper} {a : Act} {Q : Exit → Act → World → Prop} (hgd : o.guard = none) (s x : Operand) (t : TypeId)
    (ho : o.op = .call { callee := .builtin .append, args := #[s, x], argTypes := #[t, t] })
    (base : Nat) (e : TypeId) (z : Value) (bytes : Nat) (ht : P.underlying t = some (.slice e)) (hi : (P.info? e).map (fun i => (i.zero, i.size, i.bytes)) = some (some z, 1, bytes)) (hzs : z.cells.size = 1)
    {v : Value} {n : Nat} {xs : List Value} (hsv : a.eval s = v) (hown : w.ownsRow base e 1 v n xs) (g c : Nat) (u : Value) (hxv : a.eval x = .slice (some ⟨g, 0, none⟩) 1 c) (hs : w.cell? ⟨g, 0, none⟩ = some u) (h1 : u.oneCell' = true)
    (h63 : n + 1 ≤ maxLen) (hbytes : (n + 1) * bytes ≤ 140737488355328) (hbase : base ≤ w.heap.size)
    (h : ∀ v' w', w'.ownsRow base e 1 v' (n + 1) (xs ++ [u]) → w.grownBy w' v.ownBlock → (v'.ownBlock = v.ownBlock ∨ v'.ownBlock = some w.heap.size) → wpList P ops Q rest (a.put o.dst v') w') : wpList P ops Q (o :: rest) a w := by
  obtain ⟨i, hi, hz, hsz, hby⟩ := info_parts hi
  refine wpList_append_own_at (P := P) w hgd s x t ho base e i z 1 bytes ht hi hz hsz hby hzs (by decide) v n xs hsv hown ⟨g, 0, none⟩ 1 c [u] hxv rfl (fun j y hj => ?_) (by simpa using h1) h63 hbytes hbase (fun v' w' q1 q2 _ q4 => h v' w' q1 q2 q4)
  cases j with
  | zero =>
    simp only [List.getElem?_cons_zero, Option.some.injEq] at hj
    subst hj
    have e : (⟨g, 0, none⟩ : Addr).add 0 = ⟨g, 0, none⟩ := by unfold Addr.add; split <;> simp_all
    rw [e]; exact hs
  | succ j => simp at hj
theorem cell_lit (w : World) (u : Value) (e : TypeId) : (w.alloc (.cells #[u] e)).cell? ⟨w.heap.size, 0, none⟩ = some u := (Blk.new w e [u]).cell 0

theorem cell_of {w : World} {g i : Nat} {t : TypeId} {xs : List Value} {v : Value} (h : Blk w g t xs) (e : xs[i]? = some v) : w.cell? ⟨g, i, none⟩ = some v := (h.cell i).trans e

set_option maxHeartbeats 4000000 in
theorem sput_any (base g : Nat) (v vb : Value) (wait : List UInt8) (shut : Bool) (bs : List UInt8) (w : World) (hs : Str 58 w base g v wait shut) (hv : Row w vb (bs.map bV)) (hap : 0 < bs.length → Off (Ft g v) vb) (hbg : base ≤ g) (hok : OkW wait) (hlen : bs.length ≤ 2000000000000) :
    Calls Try.prog 15 #[ptrS g, vb] w fun e w' => ∃ v' vo, e = .returned vo ∧ Str 58 w' base g v' (smRun ⟨wait, shut, []⟩ bs).wait (smRun ⟨wait, shut, []⟩ bs).shut ∧ Mss 30 (Ft g v') w' w.heap.size vo (smRun ⟨wait, shut, []⟩ bs).out ∧ Kp (Ft g v) w w' ∧ (∀ k, v'.ownBlock = some k → v.ownBlock = some k ∨ w.heap.size ≤ k) := by
  obtain ⟨ab, cb, rfl, -⟩ := id hv
  obtain ⟨-, k1, k2, k3⟩ := hv.at
  unfold maxLen at k2
  simp only [List.length_map] at hv k1 k3 ⊢
  have hgl := hs.blk.lt
  have HC : Hid (∀ i, i < bs.length → ∃ b off, ab = some ⟨b, off, none⟩ ∧ ∀ w', Kp (Ft g v) w w' → w'.cell? ⟨b, off + i, none⟩ = some (bV (bs.getD i 0))) := fun i hi => by
    obtain ⟨b, off, rfl, hc⟩ := k3 i 0 hi
    refine ⟨b, off, rfl, fun w' k => ?_⟩
    rw [← hc i hi]
    exact World.cell?_of_block (a := ⟨b, off + i, none⟩) (k.block b (lt_of_cell (hc i hi)) (hap (by omega) b rfl))
  have HR : Hid (∀ k, smRun ⟨wait, shut, []⟩ (bs.take k) = smRun ⟨wait, shut, []⟩ (bs.take k)) := fun k => rfl
  have HT : Hid (∀ k, k < bs.length → smRun ⟨wait, shut, []⟩ (bs.take (k + 1)) = smStep (smRun ⟨wait, shut, []⟩ (bs.take k)) (bs.getD k 0)) := fun k hk => by
    rw [List.take_succ_eq_append_getElem hk, smRun_one]
    simp [List.getD_eq_getElem?_getD, hk]
  have HL : Hid (∀ k, (smRun ⟨wait, shut, []⟩ (bs.take k)).out.length ≤ k) := fun k => by
    have := (smRun_le (bs.take k) ⟨wait, shut, []⟩).2
    simp only [List.length_nil, List.length_take] at this
    omega
  have HO : Hid (∀ k, OkW (smRun ⟨wait, shut, []⟩ (bs.take k)).wait) := fun k => OkW.many _ _ hok
  have HE : Hid (smRun ⟨wait, shut, []⟩ (bs.take bs.length) = smRun ⟨wait, shut, []⟩ bs) := by show _ = _; rw [List.take_length]
  have HS : Hid (∀ k, (smRun ⟨wait, shut, []⟩ (bs.take k)).shut = true → smRun ⟨wait, shut, []⟩ (bs.take k) = smRun ⟨wait, shut, []⟩ bs) := fun k h => by
    have e : bs = bs.take k ++ bs.drop k := (List.take_append_drop k bs).symm
    conv => rhs; rw [e]
    rw [smRun_app, smRun_shut _ h]
  have H0 := hidden (show ∃ vc, Str 58 w base g vc (smRun ⟨wait, shut, []⟩ (bs.take 0)).wait (smRun ⟨wait, shut, []⟩ (bs.take 0)).shut ∧ Mss 30 (Ft g vc) w w.heap.size (.slice none 0 0) (smRun ⟨wait, shut, []⟩ (bs.take 0)).out ∧ Kp (Ft g v) w w ∧ (∀ k, vc.ownBlock = some k → v.ownBlock = some k ∨ w.heap.size ≤ k) from
    ⟨v, by simpa [smRun] using hs, by simpa [smRun] using Mss.nil _ _ _ _, Kp.refl _ _, fun k h => .inl h⟩)
  generalize hS : (fun k => smRun ⟨wait, shut, []⟩ (bs.take k)) = S at *
  have hSk : ∀ k, smRun ⟨wait, shut, []⟩ (bs.take k) = S k := fun k => by rw [← hS]
  simp only [hSk] at HT HL HO HE HS H0
  generalize smRun ⟨wait, shut, []⟩ bs = Z at *
  clear hS hSk HR k3 hv hs hap hok
  generalize bs.length = lb at *
  go_enter Try.func15, Try.ntmps15
  go_wp2
  go_loopw [5, 10] (fun z5 z10 wr => ∃ (k : Nat) (vc : Value), k ≤ lb ∧ z10 = .int .i64 (k : Int) ∧ Str 58 wr base g vc (S k).wait (S k).shut ∧ Mss 30 (Ft g vc) wr w.heap.size z5 (S k).out ∧ Kp (Ft g v) w wr ∧ (∀ i, vc.ownBlock = some i → v.ownBlock = some i ∨ w.heap.size ≤ i)) (fun _ i _ => lb - (intOf i).toNat)
  case atStart =>
    obtain ⟨vc, h1, h2, h3, h4⟩ := H0.out
    exact ⟨0, vc, Nat.zero_le _, rfl, h1, h2, h3, h4⟩
  case round =>
    clear H0
    obtain ⟨k, vc, hk, rfl, hst, hms, hkp, hvc⟩ := hrel
    by_cases hlt : k < lb
    · have hlt' : (k : Int) < (lb : Int) := by omega
      obtain ⟨b, off, rfl, hcell⟩ := HC.out k hlt
      have cx := hcell wr hkp
      have HCL := hidden hcell
      have T1 := hidden (HT.out k hlt)
      have L1 := HL.out k
      have O1 := hidden (HO.out k)
      have S1 := hidden (HS.out k)
      clear HT HL HO HE HS HC hcell
      have hxl := (bs.getD k 0).toNat_lt
      generalize bs.getD k 0 = x at *
      generalize S k = s at *
      obtain ⟨sw, ss, so⟩ := s
      simp only at *
      have c0 := hst.blk.cell 0
      have c1 := hst.blk.cell 1
      obtain ⟨av, cv, rfl⟩ := hst.slice
      simp at c0 c1
      cases ss
      · clear S1
        have hsl := O1.out.len
        have Bg := hidden (show base ≤ wr.heap.size by have := hst.blk.lt; omega)
        have O2 := hst.own.alloc (.cells #[bV x] 5)
        have AL : Below wr.heap.size wr (wr.alloc (.cells #[bV x] 5)) := (Below.refl _ _).alloc (Nat.le_refl _) _
        have hne := owns_blk hst.own hst.blk (by decide)
        have hgw := hst.blk.lt
        go_wp2_with (at_builtin; refine wpList_push rfl (.tmp 22) (.tmp 24) 27 rfl base 5 (.int .u8 0) 1 Try.underlying27 info_u8 rfl rfl O2 wr.heap.size 1 (bV x) rfl (cell_lit _ _ _) rfl (by simp [maxLen]; omega) (by simp; omega) (by simp; have := Bg.out; omega) ?_)
        intro v2 w2 ho2 hg2 hat2
        have K2 : Kp (fun k => (Value.slice av sw.length cv).ownBlock = some k) wr w2 := (Kp.of_below AL).grown hg2 (fun k _ h => h)
        have X2 := hst.blk.kp K2 hne
        have d0 := cell_of (i := 0) X2 rfl
        have f2 := X2.frozen
        obtain ⟨a2, c2, e2⟩ : ∃ a c, v2 = .slice a (sw.length + 1) c := by
          obtain ⟨a, c, e, -⟩ := Row.of_owns ho2
          exact ⟨a, c, by simpa using e⟩
        subst e2
        go_upto_region 7 with fail
        have X3 := X2.set 0 (.slice a2 (sw.length + 1) c2)
        rw [show ([Value.slice av sw.length cv, .bool false].set 0 (.slice a2 (sw.length + 1) c2)) = [.slice a2 (sw.length + 1) c2, .bool false] from rfl] at X3
        have hne2 : (Value.slice a2 (sw.length + 1) c2).ownBlock ≠ some g := by
          rcases hat2 with h | h
          · rw [h]; exact hne
          · rw [h]; simp; omega
        have K3 : Kp (fun k => k = g) w2 (w2.setCell ⟨g, 0, none⟩ (.slice a2 (sw.length + 1) c2)) := (Kp.refl (fun k => k = g) w2).set (p := ⟨g, 0, none⟩) (fun _ => rfl) _
        have O3 := owns_kp ho2 K3 (fun k hk e => hne2 (by rw [hk, e]))
        have KW : Kp (Ft g v) w (w2.setCell ⟨g, 0, none⟩ (.slice a2 (sw.length + 1) c2)) :=
          (hkp.then K2 (fun i h1 h2 => .inr ((hvc i h2).resolve_right (by omega)))).then K3 (fun i _ h2 => .inl h2)
        have HV : ∀ i, (Value.slice a2 (sw.length + 1) c2).ownBlock = some i → v.ownBlock = some i ∨ w.heap.size ≤ i := fun i hi => by
          rcases hat2 with h | h
          · exact hvc i (h ▸ hi)
          · right
            rw [h] at hi
            simp at hi
            have := hkp.size
            omega
        have M3 : Mss 30 (Ft g (.slice a2 (sw.length + 1) c2)) (w2.setCell ⟨g, 0, none⟩ (.slice a2 (sw.length + 1) c2)) w.heap.size u5 so := by
          have h1 := hms.off (N' := fun i => Ft g (.slice av sw.length cv) i ∨ Ft g (.slice a2 (sw.length + 1) c2) i) (fun i hi h => by
            rcases h with h | h | h
            · exact h
            · exact .inl h
            · rcases hat2 with h2 | h2
              · exact .inr (h2 ▸ h)
              · rw [h2] at h; simp at h; omega)
          have h2 := (h1.kp K2 (fun i h => .inl (.inr h))).kp K3 (fun i h => .inl (.inl h))
          exact h2.off (fun i _ h => .inr h)
        have E1 := hidden (fun (h : badB (sw ++ [x]) = true) => T1.out.trans (smStep_bad h))
        have E2 := hidden (fun (h : badB (sw ++ [x]) = false) h2 => T1.out.trans (smStep_whole h h2))
        have E3 := hidden (fun (h : badB (sw ++ [x]) = false) h2 => T1.out.trans (smStep_wait h h2))
        have EL := hidden (fun h h2 => whole_len (x := x) O1.out h h2)
        have RW := Row.of_owns O3
        rw [show sw.map bV ++ [bV x] = (sw ++ [x]).map bV by simp] at RW O3
        have EM : Hid ((sw ++ [x]).length = sw.length + 1) := by show _ = _; simp
        generalize sw ++ [x] = W at *
        generalize sw.length + 1 = m at *
        generalize w2.setCell ⟨g, 0, none⟩ (.slice a2 m c2) = w3 at *
        clear T1 O1 hst hms K2 K3 X2 O2 AL ho2 hg2 hat2 hkp hvc d0 f2 c0 c1 cx HCL hne
        have d0 := cell_of (i := 0) X3 rfl
        have d1 := cell_of (i := 1) X3 rfl
        have f0 := X3.frozen
        have Z3 := KW.size
        have gw := X3.lt
        have SB := hidden (fun h => bad_six (w := W) h)
        have SN := hidden (fun h => bad_not (w := W) h)
        have CS := hidden (sound_any _ W w3 RW)
        have CW := hidden (fun nq => whole_any _ W (w3.drewN nq) (RW.drewN nq))
        by_cases hm : m = 6
        · subst hm
          have SB' := SB.out EM.out
          cases hsd : soundB W
          · rw [hsd] at CS SB'
            have ES := hidden (E1.out (by simpa using SB'))
            clear E1 E2 E3 SB'
            go_wp2_with fail
            refine CS.out.mono ?_
            rintro e w4 ⟨rfl, n1, rfl⟩
            clear CS CW
            have Y := ((X3.drewN n1).set 0 (.slice none 0 0)).set 1 (.bool true)
            have KY : Kp (fun i => i = g) w3 (((w3.drewN n1).setCell ⟨g, 0, none⟩ (.slice none 0 0)).setCell ⟨g, 1, none⟩ (.bool true)) :=
              (((Kp.refl (fun i => i = g) w3).ext (below_drewn0 _ _ n1)).set (p := ⟨g, 0, none⟩) (fun _ => rfl) _).set (p := ⟨g, 1, none⟩) (fun _ => rfl) _
            have M4 := (M3.kp KY (fun i h => .inl h)).off (N' := Ft g (.slice none 0 0)) (fun i _ h => h.elim .inl (fun h => by cases h))
            go_wp2
            go_roundw
            case rel => exact ⟨k + 1, _, by omega, by go_num, by rw [ES.out]; exact ⟨Y, World.ownsRow_nil _ _ _ _⟩, by rw [ES.out]; exact M4, KW.then KY (fun i _ h => .inl h), fun i h => by cases h⟩
            case measure => simp [intOf]; omega
          · rw [hsd] at CS SB'
            have hb : badB W = false := by simpa using SB'
            clear SB' SB SN E1
            go_wp2_with fail
            refine CS.out.mono ?_
            rintro e w4 ⟨rfl, n1, rfl⟩
            cases hw : wholeB W
            · rw [hw] at CW
              go_wp2_with fail
              refine (CW.out n1).mono ?_
              rintro e w4 ⟨rfl, n2, rfl⟩
              go_wp2
              have ES := E3.out hb hw
              go_roundw
              case rel => exact ⟨k + 1, _, by omega, by go_num, by rw [ES]; exact ⟨X3.drewN _, by rw [EM.out]; exact owns_below O3 (below_drewn0 _ _ _)⟩, by rw [ES]; exact M3.ext (below_drewn0 _ _ _), KW.ext (below_drewn0 _ _ _), HV⟩
              case measure => simp [intOf]; omega
            · exact absurd (EL.out hb hw).1 (by rw [EM.out]; decide)
        · have e6 : ((m : Int) == 6) = false := by rw [beq_eq_false_iff_ne]; omega
          have hb := SN.out (by rw [EM.out]; exact hm)
          clear SB SN E1 CS
          have CW0 := hidden (whole_any _ W w3 RW)
          clear CW
          have CW := CW0
          clear CW0
          cases hw : wholeB W
          · rw [hw] at CW
            go_wp2_with fail
            refine CW.out.mono ?_
            rintro e w4 ⟨rfl, n2, rfl⟩
            go_wp2
            have ES := E3.out hb hw
            go_roundw
            case rel => exact ⟨k + 1, _, by omega, by go_num, by rw [ES]; exact ⟨X3.drewN _, by rw [EM.out]; exact owns_below O3 (below_drewn0 _ _ _)⟩, by rw [ES]; exact M3.ext (below_drewn0 _ _ _), KW.ext (below_drewn0 _ _ _), HV⟩
            case measure => simp [intOf]; omega
          · rw [hw] at CW
            obtain ⟨l8, l9⟩ := EL.out hb hw
            have ES := hidden (E2.out hb hw)
            go_wp2_with fail
            refine CW.out.mono ?_
            rintro e w4 ⟨rfl, n2, rfl⟩
            have D4 : Below w3.heap.size w3 (w3.drewN n2) := below_drewn0 _ _ _
            replace X3 := X3.below D4 X3.lt
            replace O3 := owns_below O3 D4
            replace RW := RW.below D4
            replace M3 := M3.ext D4
            replace KW := KW.ext D4
            replace d0 := cell_of (i := 0) X3 rfl
            replace d1 := cell_of (i := 1) X3 rfl
            replace f0 := X3.frozen
            replace Z3 := KW.size
            replace gw := X3.lt
            clear D4 CW
            generalize w3.drewN n2 = w4 at *
            go_wp2_with fail
            refine (message_any _ W _ RW l8 (by omega)).mono ?_
            rintro e w5 ⟨u, rfl, hu, B5⟩
            have hul : 0 < W.length - 7 := by omega
            have HMS : Hid (msgOf W = ⟨getN W 0, ((W.getD 6 0).toNat : Int), W.drop 7⟩) := rfl
            generalize getN W 0 = q0 at *
            generalize (((W.getD 6 0).toNat : Nat) : Int) = q6 at *
            have hud : (W.drop 7).length = W.length - 7 := by simp
            have huf : ∀ i, u.ownBlock = some i → w4.heap.size ≤ i := fun i h => (owns_lt hu h).1
            have hfr : Off (Ft g (.slice a2 m c2)) u := fun i hi h => by
              have := huf i hi
              rcases h with h | h
              · omega
              · have := (owns_lt O3 h).2; omega
            obtain ⟨ug, uc, rfl, -⟩ := owns_some hu hul
            replace X3 := X3.below B5 X3.lt
            replace O3 := owns_below O3 B5
            replace M3 := M3.ext B5
            replace KW := KW.ext B5
            have S5 := B5.size
            clear B5 RW d0 d1 f0
            have X6 := X3.alloc (.cells #[.int .i64 q0, .int .i64 q6, .slice (some ⟨ug, 0, none⟩) (W.length - 7) uc] 30)
            have AL : Below w5.heap.size w5 (w5.alloc (.cells #[.int .i64 q0, .int .i64 q6, .slice (some ⟨ug, 0, none⟩) (W.length - 7) uc] 30)) := (Below.refl _ _).alloc (Nat.le_refl _) _
            have BL := Blk.new w5 30 [.int .i64 q0, .int .i64 q6, .slice (some ⟨ug, 0, none⟩) (W.length - 7) uc]
            obtain ⟨us, hul2, hov, hof, hpd⟩ := M3.ext AL
            have HP := hidden hpd
            clear hpd
            obtain ⟨ii, hii, hiz, his, hib⟩ := info_parts info_msg
            have HII := hidden (And.intro hii (And.intro hiz (And.intro his hib)))
            clear hii hiz his hib
            have HOV := hidden hov
            go_wp2_with (at_builtin; refine wpList_append_own_at (P := Try.prog) _ rfl (.tmp 55) (.tmp 61) 39 rfl w.heap.size 30 ii _ 3 40 Try.underlying39 HII.out.1 HII.out.2.1 HII.out.2.2.1 HII.out.2.2.2 rfl (by decide) _ so.length _ rfl HOV.out ⟨w5.heap.size, 0, none⟩ 1 1 [.int .i64 q0, .int .i64 q6, .slice (some ⟨ug, 0, none⟩) (W.length - 7) uc] rfl rfl ?q1 ?q2 ?q3 ?q4 ?q5 ?q6)
            case q1 =>
              intro j y hj
              have : (⟨w5.heap.size, 0, none⟩ : Addr).add j = ⟨w5.heap.size, j, none⟩ := by unfold Addr.add; split <;> simp_all
              rw [this, BL.cell j, hj]
            case q2 => intro y hy; simp at hy; rcases hy with rfl | rfl | rfl <;> rfl
            case q3 => unfold maxLen; omega
            case q4 => first | omega | (simp; omega)
            case q5 => first | omega | (simp; omega)
            case q6 =>
              intro v7 w7 ho7 hg7 _ hat7
              have Q7 : Kp (fun i => u5.ownBlock = some i) w5 w7 := (Kp.of_below AL).grown hg7 (fun i _ h => h)
              have hg5 : ¬ (u5.ownBlock = some g) := fun h => hof g h (.inl rfl)
              have X7 := X3.kp Q7 hg5
              have O7 := owns_kp O3 Q7 (fun i hi h => hof i h (.inr hi))
              have KW7 := KW.then Q7 (fun i h1 h2 => absurd (owns_lt hov h2).1 (by omega))
              have M7 : Mss 30 (Ft g (.slice a2 m c2)) w7 w.heap.size v7 (so ++ [msgOf W]) := by
                rw [HMS.out]
                have hu' : (w5.alloc (.cells #[.int .i64 q0, .int .i64 q6, .slice (some ⟨ug, 0, none⟩) (W.length - 7) uc] 30)).ownsRow w.heap.size 5 1 (.slice (some ⟨ug, 0, none⟩) (W.length - 7) uc) (W.drop 7).length ((W.drop 7).map bV) := by
                  have := (owns_from hu (base' := w.heap.size) (by omega)).alloc (.cells #[.int .i64 q0, .int .i64 q6, .slice (some ⟨ug, 0, none⟩) (W.length - 7) uc] 30)
                  rw [← hud] at this
                  rw [← hud]
                  exact this
                refine Mss.push (by decide) hul2 hov hof HP.out hu' hfr ho7 rfl hg7 (fun i hi h => ?_)
                rcases hat7 with h7 | h7
                · exact hof i (h7 ▸ hi) h
                · rw [h7] at hi
                  simp at hi
                  rcases h with h | h
                  · omega
                  · have := (owns_lt O3 h).2; omega
              obtain ⟨a7, c7, e7⟩ : ∃ a c, v7 = .slice a (so.length + 1) c := by
                rcases ho7.2 with ⟨_, h⟩ | ⟨g', cap', cur', h, -⟩
                · omega
                · exact ⟨_, _, h⟩
              subst e7
              have d0 := cell_of (i := 0) X7 rfl
              have f7 := X7.frozen
              have Y7 := X7.set 0 (.slice a2 0 c2)
              rw [show ([Value.slice a2 m c2, .bool false].set 0 (.slice a2 0 c2)) = [.slice a2 0 c2, .bool false] from rfl] at Y7
              have K8 : Kp (fun i => i = g) w7 (w7.setCell ⟨g, 0, none⟩ (.slice a2 0 c2)) := (Kp.refl (fun i => i = g) w7).set (p := ⟨g, 0, none⟩) (fun _ => rfl) _
              have hO8 : (w7.setCell ⟨g, 0, none⟩ (.slice a2 0 c2)).ownsRow base 5 1 (.slice a2 0 c2) 0 [] := by
                have h := owns_kp O7 K8 (fun i hi e => hne2 (by rw [hi, e]))
                refine ⟨rfl, ?_⟩
                rcases h.2 with ⟨h1, -⟩ | ⟨g', cap', cur', h1, h2, h3, h4, h5, h6, h7⟩
                · simp only [Value.slice.injEq] at h1
                  exact .inl ⟨by rw [h1.1, h1.2.2], rfl⟩
                · simp only [Value.slice.injEq] at h1
                  exact .inr ⟨g', cap', cur', by rw [h1.1, h1.2.2], h2, h3, Nat.zero_le _, h5, h6, by simp⟩
              have KW8 := KW7.then K8 (fun i _ h => .inl h)
              have M8 := (M7.kp K8 (fun i h => .inl h)).off (N' := Ft g (.slice a2 0 c2)) (fun i _ h => h.elim .inl (fun h => .inr (by cases a2 <;> exact h)))
              have HV8 : ∀ i, (Value.slice a2 0 c2).ownBlock = some i → v.ownBlock = some i ∨ w.heap.size ≤ i := fun i h => HV i (by cases a2 <;> exact h)
              clear M7 O7 X7 KW7 Q7
              go_wp2
              go_roundw
              case rel => exact ⟨k + 1, _, by omega, by go_num, by rw [ES.out]; exact ⟨Y7, hO8⟩, by rw [ES.out]; exact M8, KW8, HV8⟩
              case measure => simp [intOf]; omega
      · clear T1
        go_wp2
        go_ret
        have := S1.out trivial
        exact ⟨_, _, rfl, by rw [← this]; exact hst, by rw [← this]; exact hms, hkp, hvc⟩
    · have : k = lb := by omega
      subst this
      have hlt' : ¬ (k : Int) < (k : Int) := by omega
      rw [HE.out] at hst hms
      go_wp2
      go_ret
      exact ⟨_, _, rfl, hst, hms, hkp, hvc⟩

end Go.Proofs.Ytejcigeccmfeeaa

namespace Go.Proofs.Ytejcigeccmfeeaa
open Go.RowKit

theorem info_u16 : (Try.prog.info? 66).map (fun i => (i.zero, i.size, i.bytes)) = some (some (.int .u16 0), 1, 2) := by kernel_rfl
set_option maxHeartbeats 400000 in
theorem put_any (v : Value) (bs : List UInt8) (n : Int) (w : World) (_hn : -9223372036854775808 ≤ n ∧ n ≤ 9223372036854775807) (hv : Row w v (bs.map bV)) (hr : bs.length ≤ 140737488351232) :
    Calls Try.prog 24 #[v, .int .i64 n] w fun e w' => ∃ v', e = .returned v' ∧ Row w' v' ((bs ++ [hiB (wOf n), loB (wOf n)]).map bV) ∧ Below w.heap.size w w' := by
  obtain ⟨a, cap, rfl, -⟩ := id hv
  obtain ⟨hl, hc, hm, -⟩ := hv.at
  simp only [List.length_map] at hl hc hv ⊢
  have hmk := mk_zer 27 5 (.int .u8 0) 1 Try.underlying27 info_u8 rfl ((bs.length : Int) + 2) (bs.length + 2) (by omega) (by omega) (by omega)
  have hb0 : Below w.heap.size w (w.alloc (.cells (zer (bs.length + 2) (.int .u8 0)) 5)) := (Below.refl _ _).alloc (Nat.le_refl _) _
  have hg0 := zer_blk w (bs.length + 2) (.int .u8 0) 5
  obtain ⟨w1, hrun, hg1, hb1⟩ := copy_run (P := Try.prog) hb0 27 27 3 5 Try.underlying27 (by kernel_rfl) w.heap.size 0 (bs.length + 2) (bs.length + 2) a bs.length cap _ _ hg0 (Nat.le_refl _) (bs.map bV) (hv.below hb0) (one_bytes bs) (by simp)
  have hg3 : Blk w1 w.heap.size 5 (bs.map bV ++ [.int .u8 0, .int .u8 0]) := by
    have e : splice (List.replicate (bs.length + 2) (Value.int .u8 0)) 0 ((bs.map bV).take (bs.length + 2)) = bs.map bV ++ [.int .u8 0, .int .u8 0] := by
      rw [List.take_of_length_le (by simp)]
      simp [splice, List.drop_replicate]
    rw [← e]; exact hg1
  clear hg1 hg0 hb0 hv
  go_enter Try.func24, Try.ntmps24
  go_wp2_with fail
  refine (lay_blk w.heap.size (bs.length + 2) (bs.length + 2) _ _ bs.length (wOf n) w1 _ _ hg3 (by simp) rfl (by rw [wOf_nat, IntKind.wrap_u16]) (by omega) (by unfold maxLen; omega)).mono ?_
  rintro e w2 ⟨rfl, hg4, hb4⟩
  go_wp2
  go_ret
  have e2 : ((bs.map bV ++ [Value.int .u8 0, .int .u8 0]).set bs.length (bV (hiB (wOf n)))).set (bs.length + 1) (bV (loB (wOf n))) = (bs ++ [hiB (wOf n), loB (wOf n)]).map bV := by
    simp
  rw [e2] at hg4
  refine ⟨_, rfl, ?_, ?_⟩
  · have := hg4.row (bs.length + 2) (by simp) (by unfold maxLen; omega)
    simpa using this
  · exact hb1.trans hb4

theorem bytes_step (l : List UInt16) (k : Nat) (h : k < l.length) :
    (((bytesL (l.take k)).map bV ++ List.replicate (2 * (l.length - k)) (Value.int .u8 0)).set (2 * k) (bV (hiB (l.getD k 0)))).set (2 * k + 1) (bV (loB (l.getD k 0))) =
      (bytesL (l.take (k + 1))).map bV ++ List.replicate (2 * (l.length - (k + 1))) (Value.int .u8 0) := by
  have e1 : (bytesL (l.take k)).length = 2 * k := by rw [bytesL_len, List.length_take]; omega
  have e2 : 2 * (l.length - k) = 2 * (l.length - (k + 1)) + 1 + 1 := by omega
  rw [bytesL_take_succ l k h, e2, List.replicate_succ, List.replicate_succ]
  have e3 : l.getD k 0 = l[k] := by simp [h]
  rw [e3]
  simp [e1]

end Go.Proofs.Ytejcigeccmfeeaa

namespace Go.Proofs.Ytejcigeccmfeeaa
open Go.RowKit

set_option maxHeartbeats 1000000 in
theorem concat_own (g : Nat) (vs : List Value) (xss : List (List UInt8)) (w : World) (hg : Blk w g 27 vs) (hl : vs.length = xss.length) (hr : ∀ i, i < vs.length → ∃ v, vs[i]? = some v ∧ Row w v ((xss.getD i []).map bV)) (h0 : 0 < (flatTo xss xss.length).length) (h1 : (flatTo xss xss.length).length ≤ 1000000) (h2 : vs.length ≤ 1000) :
    Calls Try.prog 25 #[.slice (some ⟨g, 0, none⟩) vs.length vs.length] w fun e w' => ∃ v', e = .returned v' ∧ w'.ownsRow w.heap.size 5 1 v' (flatTo xss xss.length).length ((flatTo xss xss.length).map bV) ∧ Below w.heap.size w w' := by
  have hlt := hg.lt
  have HR := hidden hr
  have HL := hidden hl
  have FL := hidden (flat_le xss)
  have FT := hidden (flat_take xss)
  clear hr hl
  generalize hn : vs.length = n at *
  have HN := hidden hn
  clear hn
  go_enter Try.func25, Try.ntmps25
  go_wp2
  go_loopw [3, 11] (fun z i wr => ∃ k : Nat, k ≤ n ∧ i = .int .i64 k ∧ z = .int .i64 ((flatTo xss k).length : Nat) ∧ w = wr) (fun _ i _ => n - (intOf i).toNat)
  case atStart => exact ⟨0, Nat.zero_le _, rfl, by simp [flatTo], rfl⟩
  case round =>
    obtain ⟨k, hk, rfl, rfl, rfl⟩ := hrel
    by_cases hkn : k < n
    · obtain ⟨v, e1, e2⟩ := HR.out k hkn
      obtain ⟨a, cap, rfl, -⟩ := e2
      have c0 : w.cell? ⟨g, k, none⟩ = _ := (hg.cell k).trans e1
      have S := FT.out k (by have := HL.out; omega)
      have Le := FL.out k
      have Le2 := FL.out (k + 1)
      rw [S, List.length_append] at Le2
      have S2 := hidden S
      clear e1 S
      simp only [List.length_map] at c0
      generalize xss.getD k [] = y at *
      generalize flatTo xss k = ys at *
      have u1 : ¬ ((ys.length : Int) + (y.length : Int) < 0) := by omega
      have hkn' : (k : Int) < (n : Int) := by omega
      go_wp2
      go_roundw
      case rel =>
        refine ⟨k + 1, by omega, by go_num, ?_, trivial⟩
        rw [S2.out, List.length_append]; simp
      case measure => simp [intOf]; omega
    · obtain rfl : k = n := by omega
      have HL' := HL.out
      rw [← HL'] at h0 h1
      have T := hidden HL'
      clear HL'
      have S3 : ((flatTo xss k).length : Int) < 1000001 := by omega
      have hkn' : ¬ (k : Int) < (k : Int) := by omega
      clear hkn
      go_wp2_with fail
      refine (grow_nil _ (flatTo xss k).length _ rfl h0 (by omega)).mono ?_
      rintro e w1 ⟨v1, rfl, ho1, b1⟩
      go_wp2
      go_loopw [6, 27] (fun z i wr => ∃ j : Nat, j ≤ k ∧ i = .int .i64 j ∧ wr.ownsRow w.heap.size 5 1 z (flatTo xss j).length ((flatTo xss j).map bV) ∧ Below w.heap.size w wr) (fun _ i _ => k - (intOf i).toNat)
      case atStart => exact ⟨0, Nat.zero_le _, rfl, by simpa [flatTo] using ho1, b1⟩
      case round =>
        obtain ⟨j, hj, rfl, ho, hb⟩ := hrel
        clear ho1 b1
        by_cases hjn : j < k
        · obtain ⟨v, e1, e2⟩ := HR.out j hjn
          have R2 := e2.below hb
          obtain ⟨a, cap, rfl, -⟩ := e2
          have c0 : wr.cell? ⟨g, j, none⟩ = _ := ((hg.below hb hlt).cell j).trans e1
          have S := FT.out j (by have := HL.out; omega)
          have Le := FL.out j
          have Le2 := FL.out (j + 1)
          rw [← T.out] at Le Le2
          rw [S, List.length_append] at Le2
          have S2 := hidden S
          clear e1 S
          simp only [List.length_map] at c0 R2
          generalize xss.getD j [] = y at *
          generalize flatTo xss j = ys at *
          have hjn' : (j : Int) < (k : Int) := by omega
          have hsz := hb.size
          go_wp2_with (at_builtin; refine wpList_app rfl (.tmp 31) (.tmp 32) 27 rfl w.heap.size 5 (.int .u8 0) 1 Try.underlying27 info_u8 rfl rfl ho rfl R2 ?k0 ?k1 ?k2 ?k3 ?_)
          case k0 => exact one_bytes y
          case k1 => simp [maxLen]; omega
          case k2 => simp; omega
          case k3 => exact hsz
          intro v2 w2 ho2 hg2
          have q := hb.grown hg2 hsz (fun k hk => (ho.lt k hk).1)
          go_wp2
          go_roundw
          case rel =>
            refine ⟨j + 1, by omega, by go_num, ?_, q⟩
            rw [S2.out, List.length_append]
            simpa using ho2
          case measure => simp [intOf]; omega
        · obtain rfl : j = k := by omega
          have hjn' : ¬ (j : Int) < (j : Int) := by omega
          clear hjn
          go_wp2
          go_ret
          rw [← T.out]
          exact ⟨_, rfl, ho, hb⟩

def bOf (n : Int) : UInt8 := UInt8.ofNat (n % 256).toNat
theorem bOf_V (n : Int) : Value.int .u8 (n % 256) = bV (bOf n) := by
  have : (((bOf n).toNat : Nat) : Int) = n % 256 := by rw [bOf, UInt8.toNat_ofNat']; omega
  rw [bV, this]
/-- a message as bytes -/
def msgL (i u : Int) (p : List UInt8) : List UInt8 := [hiB (wOf i), loB (wOf i), 0, 0, hiB (wOf (1 + (p.length : Int))), loB (wOf (1 + (p.length : Int))), bOf u] ++ p
def mbytesL (i u : Int) (p : List UInt8) : List UInt8 := if p.length < 1 ∨ 253 < p.length then [] else msgL i u p
theorem msgL_len (i u : Int) (p : List UInt8) : (msgL i u p).length = p.length + 7 := by simp [msgL]

set_option maxHeartbeats 1000000 in
theorem mbytes_any (i u : Int) (vp : Value) (p : List UInt8) (w : World) (hi : -9223372036854775808 ≤ i ∧ i ≤ 9223372036854775807) (hv : Row w vp (p.map bV)) :
    Calls Try.prog 10 #[.agg #[.int .i64 i, .int .i64 u, vp]] w fun e w' => ∃ v', e = .returned v' ∧ w'.ownsRow w.heap.size 5 1 v' (mbytesL i u p).length ((mbytesL i u p).map bV) ∧ Below w.heap.size w w' := by
  obtain ⟨a, cap, rfl, -⟩ := id hv
  obtain ⟨-, h2, h3, -⟩ := hv.at
  unfold maxLen at h3
  simp only [List.length_map] at hv h2 ⊢
  have W0 : Hid (∀ o, Below w.heap.size w (w.alloc o)) := fun o => (Below.refl w.heap.size w).alloc (Nat.le_refl _) o
  by_cases h1 : p.length < 1
  · have e : mbytesL i u p = [] := by simp [mbytesL, h1]
    rw [e]
    have t1 : (p.length : Int) < 1 := by omega
    go_enter Try.func10, Try.ntmps10
    go_wp2
    go_ret
    exact ⟨_, rfl, World.ownsRow_nil _ _ _ _, W0.out _⟩
  · have t1 : ¬ (p.length : Int) < 1 := by omega
    by_cases h4 : 253 < p.length
    · have e : mbytesL i u p = [] := by simp [mbytesL, h4]
      rw [e]
      have t2 : (253 : Int) < (p.length : Int) := by omega
      go_enter Try.func10, Try.ntmps10
      go_wp2
      go_ret
      exact ⟨_, rfl, World.ownsRow_nil _ _ _ _, W0.out _⟩
    · have e : mbytesL i u p = msgL i u p := by unfold mbytesL; rw [if_neg (by omega)]
      have EL := hidden (msgL_len i u p)
      rw [e]
      have t2 : ¬ (253 : Int) < (p.length : Int) := by omega
      have EF : Hid (flatTo [[] ++ [hiB (wOf i), loB (wOf i)] ++ [hiB (wOf 0), loB (wOf 0)] ++ [hiB (wOf (1 + (p.length : Int))), loB (wOf (1 + (p.length : Int)))], [bOf u], p] 3 = msgL i u p) := by
        show _ = _
        have e0 : hiB (wOf 0) = 0 := rfl
        have e1 : loB (wOf 0) = 0 := rfl
        simp [flatTo, msgL, e0, e1]
      have EB := hidden (bOf_V u)
      clear e h1 h4
      go_enter Try.func10, Try.ntmps10
      go_wp2_with fail
      refine (put_any _ [] i _ hi (Row.nil _) (by simp)).mono ?_
      rintro e w1 ⟨v1, rfl, r1, B1⟩
      have X1 := (Blk.new w 30 [.int .i64 i, .int .i64 u, .slice a p.length cap]).below B1 (by simp)
      replace B1 := below_then (W0.out _) B1
      have S1 := B1.size
      obtain ⟨a1, c1, rfl, -⟩ := id r1
      go_wp2_with fail
      refine (put_any _ _ 0 _ (by decide) r1 (by simp)).mono ?_
      rintro e w2 ⟨v2, rfl, r2, B2⟩
      replace X1 := X1.below B2 X1.lt
      replace B1 := below_then B1 B2
      clear B2 r1
      obtain ⟨a2, c2, rfl, -⟩ := id r2
      have d2 := cell_of (i := 2) X1 rfl
      have d1 := cell_of (i := 1) X1 rfl
      go_wp2_with fail
      refine (put_any _ _ (1 + (p.length : Int)) _ (by omega) r2 (by simp)).mono ?_
      rintro e w3 ⟨v3, rfl, r3, B3⟩
      replace X1 := X1.below B3 X1.lt
      replace B1 := below_then B1 B3
      clear B3 r2 d2 d1
      obtain ⟨a3, c3, rfl, -⟩ := id r3
      have d2 := cell_of (i := 2) X1 rfl
      have d1 := cell_of (i := 1) X1 rfl
      simp only [List.length_map] at r3 ⊢
      generalize hq : [] ++ [hiB (wOf i), loB (wOf i)] ++ [hiB (wOf 0), loB (wOf 0)] ++ [hiB (wOf (1 + (p.length : Int))), loB (wOf (1 + (p.length : Int)))] = q at *
      clear hq
      have gw := X1.lt
      have R1 : Row (w3.alloc (.cells #[.int .u8 (u % 256)] 5)) (.slice (some ⟨w3.heap.size, 0, none⟩) 1 1) ([bOf u].map bV) := by
        rw [show [bOf u].map bV = [Value.int .u8 (u % 256)] by rw [EB.out]; rfl]
        exact row_new w3 [.int .u8 (u % 256)] 5 1 rfl (by decide)
      have A1 : Below w3.heap.size w3 (w3.alloc (.cells #[.int .u8 (u % 256)] 5)) := (Below.refl _ _).alloc (Nat.le_refl _) _
      go_wp2_with fail
      have BN := Blk.new (w3.alloc (.cells #[.int .u8 (u % 256)] 5)) 27 [.slice a3 q.length c3, .slice (some ⟨w3.heap.size, 0, none⟩) 1 1, .slice a p.length cap]
      simp only [World.size_alloc] at BN
      have A2 : Below w3.heap.size w3 ((w3.alloc (.cells #[.int .u8 (u % 256)] 5)).alloc (.cells #[.slice a3 q.length c3, .slice (some ⟨w3.heap.size, 0, none⟩) 1 1, .slice a p.length cap] 27)) := A1.alloc (by simp) _
      have CV := concat_own (w3.heap.size + 1) [.slice a3 q.length c3, .slice (some ⟨w3.heap.size, 0, none⟩) 1 1, .slice a p.length cap] [q, [bOf u], p] _ BN rfl ?q1 ?q2 ?q3 (by simp)
      case q1 =>
        intro j hj
        match j, hj with
        | 0, _ => exact ⟨_, rfl, r3.below A2⟩
        | 1, _ => exact ⟨_, rfl, R1.below ((Below.refl _ _).alloc (Nat.le_refl _) _)⟩
        | 2, _ => exact ⟨_, rfl, hv.below (B1.trans (A2.mono B1.size))⟩
      case q2 => rw [show [q, [bOf u], p].length = 3 from rfl, EF.out, EL.out]; omega
      case q3 => rw [show [q, [bOf u], p].length = 3 from rfl, EF.out, EL.out]; omega
      refine CV.mono ?_
      rintro e w5 ⟨v5, rfl, o5, B5⟩
      rw [show [q, [bOf u], p].length = 3 from rfl, EF.out] at o5
      replace B5 := below_then (B1.trans (A2.mono B1.size)) B5
      have o6 := owns_from o5 (base' := w.heap.size) (by simp; omega)
      clear CV
      go_wp2
      go_ret
      exact ⟨_, rfl, o6, B5⟩

end Go.Proofs.Ytejcigeccmfeeaa

namespace Go.Proofs.Ytejcigeccmfeeaa
open Go.RowKit

/-- a row that lies in none of the blocks -/
def RowO (N : Nat → Prop) (w : World) (v : Value) (xs : List Value) : Prop := Row w v xs ∧ ∀ k, v.ownBlock = some k → ¬ N k ∧ k < w.heap.size
theorem RowO.put {g : Nat} {v v' u : Value} {w w' : World} {xs : List Value} (h : RowO (Ft g v) w u xs) (k : Kp (Ft g v) w w') (hv : ∀ k, v'.ownBlock = some k → v.ownBlock = some k ∨ w.heap.size ≤ k) : RowO (Ft g v') w' u xs := by
  refine ⟨h.1.kp k (fun i hi => (h.2 i hi).1), fun i hi => ?_⟩
  obtain ⟨h1, h2⟩ := h.2 i hi
  refine ⟨fun hn => ?_, Nat.lt_of_lt_of_le h2 k.size⟩
  rcases hn with hn | hn
  · exact h1 (.inl hn)
  · rcases hv i hn with h3 | h3
    · exact h1 (.inr h3)
    · omega
theorem RowO.ext {N : Nat → Prop} {w w' : World} {u : Value} {xs : List Value} (h : RowO N w u xs) (k : Below w.heap.size w w') : RowO N w' u xs :=
  ⟨h.1.below k, fun i hi => ⟨(h.2 i hi).1, Nat.lt_of_lt_of_le (h.2 i hi).2 k.size⟩⟩
theorem Mss.put {t : TypeId} {base g : Nat} {v v' u : Value} {w w' : World} {ms : List Ms} (h : Mss t (Ft g v) w base u ms) (k : Kp (Ft g v) w w') (hv : ∀ k, v'.ownBlock = some k → v.ownBlock = some k ∨ w.heap.size ≤ k) : Mss t (Ft g v') w' base u ms := by
  have h1 := h.off (N' := fun i => Ft g v i ∨ Ft g v' i) (fun i hi hn => by
    rcases hn with hn | hn | hn
    · exact hn
    · exact .inl hn
    · exact .inr ((hv i hn).resolve_right (by omega)))
  exact (h1.kp k (fun i h => .inl h)).off (fun i _ h => .inr h)
theorem RowO.of_owns {w : World} {base n : Nat} {v : Value} {xs : List Value} {N : Nat → Prop} (h : w.ownsRow base 5 1 v n xs) (hN : ∀ k, base ≤ k → k < w.heap.size → ¬ N k) : RowO N w v xs :=
  ⟨Row.of_owns h, fun k hk => ⟨hN k (owns_lt h hk).1 (owns_lt h hk).2, (owns_lt h hk).2⟩⟩
theorem Mss.at {t : TypeId} {N : Nat → Prop} {w : World} {base : Nat} {v : Value} {ms : List Ms} (h : Mss t N w base v ms) : ∃ a c, v = .slice a ms.length c ∧ ∀ (i : Nat) (m : Ms), ms[i]? = some m → ∃ b u, a = some ⟨b, 0, none⟩ ∧ w.cell? ⟨b, 3 * i, none⟩ = some (.int .i64 m.id) ∧ w.cell? ⟨b, 3 * i + 1, none⟩ = some (.int .i64 m.unit) ∧ w.cell? ⟨b, 3 * i + 2, none⟩ = some u ∧ Row w u (m.pdu.map bV) := by
  obtain ⟨us, h1, h2, h3, h4⟩ := h
  rcases id h2.2 with ⟨rfl, hn⟩ | ⟨g, cap, cur, rfl, -⟩
  · refine ⟨none, 0, by rw [hn], fun i m hm => ?_⟩
    rw [List.eq_nil_of_length_eq_zero hn] at hm
    simp at hm
  · have hc := fun j h => h2.cellAt j h
    refine ⟨_, cap, rfl, fun i m hm => ?_⟩
    obtain ⟨u, e, o, r⟩ := h4 i m hm
    obtain ⟨q1, q2, q3⟩ := mcs_get ms us i m u hm e
    have hi : i < ms.length := by
      rcases Nat.lt_or_ge i ms.length with h | h
      · exact h
      · rw [List.getElem?_eq_none h] at hm; cases hm
    have hl := mcs_len ms us h1
    refine ⟨g, u, rfl, ?_, ?_, ?_, Row.of_owns r⟩
    · have := hc (3 * i) (by omega); simpa [q1] using this
    · have := hc (3 * i + 1) (by omega); simpa [q2] using this
    · have := hc (3 * i + 2) (by omega); simpa [q3] using this

theorem RowO.take {N : Nat → Prop} {w : World} {b off n cap : Nat} {xs : List Value} (h : RowO N w (.slice (some ⟨b, off, none⟩) n cap) xs) (k : Nat) (hk : k ≤ n) : RowO N w (.slice (some ⟨b, off, none⟩) k cap) (xs.take k) := ⟨h.1.take k hk, h.2⟩
theorem RowO.from {N : Nat → Prop} {w : World} {b off n cap : Nat} {xs : List Value} (h : RowO N w (.slice (some ⟨b, off, none⟩) n cap) xs) (k : Nat) (hk : k ≤ n) : RowO N w (.slice (some ⟨b, off + k, none⟩) (n - k) (cap - k)) (xs.drop k) := ⟨h.1.from k hk, h.2⟩
theorem RowO.new {N : Nat → Prop} (w : World) (xs : List Value) (e : TypeId) (n : Nat) (hn : n = xs.length) (h : n ≤ maxLen) (hN : ¬ N w.heap.size) : RowO N (w.alloc (.cells xs.toArray e)) (.slice (some ⟨w.heap.size, 0, none⟩) n n) xs :=
  ⟨row_new w xs e n hn h, fun k hk => by
    simp only [Value.ownBlock, Option.some.injEq] at hk
    subst hk
    exact ⟨hN, by simp⟩⟩
theorem Str.foot {t : TypeId} {w : World} {base g : Nat} {v : Value} {wait : List UInt8} {shut : Bool} (h : Str t w base g v wait shut) (hg : base ≤ g) : ∀ k, Ft g v k → base ≤ k := fun k hk => by
  rcases hk with rfl | hk
  · exact hg
  · exact (owns_lt h.own hk).1
theorem Str.footlt {t : TypeId} {w : World} {base g : Nat} {v : Value} {wait : List UInt8} {shut : Bool} (h : Str t w base g v wait shut) : ∀ k, Ft g v k → k < w.heap.size := fun k hk => by
  rcases hk with rfl | hk
  · exact h.blk.lt
  · exact (owns_lt h.own hk).2
theorem Str.opened {t : TypeId} (ht : 5 ≠ t) {w : World} {base g : Nat} {v : Value} {wait : List UInt8} {shut : Bool} (h : Str t w base g v wait shut) : Str t (w.setCell ⟨g, 1, none⟩ (.bool false)) base g v wait false ∧ Kp (Ft g v) w (w.setCell ⟨g, 1, none⟩ (.bool false)) := by
  have k : Kp (fun k => k = g) w (w.setCell ⟨g, 1, none⟩ (.bool false)) := (Kp.refl (fun k => k = g) w).set (p := ⟨g, 1, none⟩) (fun _ => rfl) _
  refine ⟨⟨h.blk.set 1 (.bool false), owns_kp h.own k (fun i hi e => ?_)⟩, ((Kp.refl (Ft g v) w).set (p := ⟨g, 1, none⟩) (fun _ => .inl rfl) _)⟩
  exact owns_blk h.own h.blk ht (by rw [hi, e])
theorem sput_eq {base g : Nat} {v vb : Value} {wait : List UInt8} {shut : Bool} {bs : List UInt8} {w : World} (S : Sm) (hS : smRun ⟨wait, shut, []⟩ bs = S) (hs : Str 58 w base g v wait shut) (hv : RowO (Ft g v) w vb (bs.map bV)) (hbg : base ≤ g) (hok : OkW wait) (hlen : bs.length ≤ 2000000000000) :
    Calls Try.prog 15 #[ptrS g, vb] w fun e w' => ∃ v' vo, e = .returned vo ∧ Str 58 w' base g v' S.wait S.shut ∧ Mss 30 (Ft g v') w' w.heap.size vo S.out ∧ Kp (Ft g v) w w' ∧ (∀ k, v'.ownBlock = some k → v.ownBlock = some k ∨ w.heap.size ≤ k) := by
  subst hS
  exact sput_any base g v vb wait shut bs w hs hv.1 (fun _ k hk => (hv.2 k hk).1) hbg hok hlen

theorem known_bytes : mbytesL 65538 17 [3, 0] = [0, 2, 0, 0, 0, 3, 17, 3, 0] := by decide
theorem known_1 : smRun ⟨[], false, []⟩ [0, 2, 0, 0, 0] = ⟨[0, 2, 0, 0, 0], false, []⟩ := rfl
theorem known_2 : smRun ⟨[0, 2, 0, 0, 0], false, []⟩ [3, 17, 3, 0] = ⟨[], false, [⟨2, 17, [3, 0]⟩]⟩ := rfl
theorem known_3 : smRun ⟨[], false, []⟩ [0, 0, 0, 1, 0, 2] = ⟨[], true, []⟩ := rfl
theorem known_4 : smRun ⟨[], true, []⟩ [0, 2, 0, 0, 0, 3, 17, 3, 0] = ⟨[], true, []⟩ := rfl
theorem known_5 : smRun ⟨[], false, []⟩ [0, 2, 0, 0, 0, 3, 17, 3, 0] = ⟨[], false, [⟨2, 17, [3, 0]⟩]⟩ := rfl

theorem zeros_row (w : World) (n : Nat) (h : n ≤ maxLen) : Row (w.alloc (.cells (zer n (.int .u8 0)) 5)) (.slice (some ⟨w.heap.size, 0, none⟩) n n) ((List.replicate n (0 : UInt8)).map bV) := by
  have := (zer_blk w n (.int .u8 0) 5).row n (by simp) h
  rw [List.length_replicate] at this
  rw [List.map_replicate]
  exact this
theorem mbytes_long (i u : Int) (n : Nat) (h : 253 < n) : mbytesL i u (List.replicate n 0) = [] := by
  unfold mbytesL
  rw [List.length_replicate, if_pos (.inr h)]
theorem known_ok : OkW [0, 2, 0, 0, 0] := fun o => run_short o _ (by decide)

set_option maxHeartbeats 2000000 in
theorem known_any (w : World) : Calls Try.prog 12 #[] w fun e w' => e = .returned (.bool true) ∧ Below w.heap.size w w' := by
  go_enter Try.func12, Try.ntmps12
  go_wp2_with fail
  refine (new_any _).mono ?_
  rintro e w1 ⟨rfl, rfl⟩
  have T1 := Str.new w 58 w.heap.size
  have D1 : Below w.heap.size w (w.alloc (.cells #[.slice none 0 0, .bool false] 58)) := (Below.refl _ _).alloc (Nat.le_refl _) _
  have G1 := T1.blk.lt
  generalize w.alloc (.cells #[.slice none 0 0, .bool false] 58) = w1 at *
  go_wp2_with fail
  refine (mbytes_any 65538 17 _ [3, 0] _ (by decide) (row_new w1 [.int .u8 3, .int .u8 0] 5 2 rfl (by decide))).mono ?_
  rw [known_bytes]
  rintro e w2 ⟨v2, rfl, o2, B2⟩
  replace B2 := below_step (Below.refl w1.heap.size w1) B2
  have S2 := B2.size
  have RB : RowO (Ft w.heap.size (.slice none 0 0)) w2 v2 _ := RowO.of_owns o2 (fun k h1 h2 h => by
    simp at h1
    rcases h with h | h
    · omega
    · cases h)
  obtain ⟨g2, c2, rfl, -⟩ := owns_some o2 (by decide)
  replace RB : RowO (Ft w.heap.size (.slice none 0 0)) w2 (.slice (some ⟨g2, 0, none⟩) 9 c2) (([0, 2, 0, 0, 0, 3, 17, 3, 0] : List UInt8).map bV) := RB
  have hc2 : 9 ≤ c2 ∧ ¬ c2 = 5 := by
    obtain ⟨a, c, e, h1, -⟩ := RB.1
    simp only [Value.slice.injEq] at e
    obtain ⟨-, -, rfl⟩ := e
    simp at h1
    omega
  obtain ⟨hc9, hc5⟩ := hc2
  have T2 := T1.ext B2
  have D2 := D1.trans (B2.mono D1.size)
  clear T1 D1 B2 o2
  go_wp2_with fail
  refine (sput_eq _ known_1 T2 (RB.take 5 (by decide)) (Nat.le_refl _) OkW.nil (by decide)).mono ?_
  rintro e w3 ⟨v3, vx, rfl, T3, Mx, K3, F3⟩
  replace RB := RB.put K3 F3
  have D3 := D2.trans (K3.below w.heap.size D2.size (T2.foot (Nat.le_refl _)))
  obtain ⟨ax, cx, rfl, -⟩ := Mx.at
  clear Mx T2 D2 K3 F3
  have R5 : RowO (Ft w.heap.size v3) w3 (.slice (some ⟨g2, 5, none⟩) 4 (c2 - 5)) (([3, 17, 3, 0] : List UInt8).map bV) := by
    have := RB.from 5 (by decide)
    simpa using this
  go_wp2_with fail
  refine (sput_eq _ known_2 T3 R5 (Nat.le_refl _) known_ok (by decide)).mono ?_
  rintro e w4 ⟨v4, vy, rfl, T4, My, K4, F4⟩
  replace RB := RB.put K4 F4
  have D4 := D3.trans (K4.below w.heap.size D3.size (T3.foot (Nat.le_refl _)))
  clear T3 D3 K4 F4
  obtain ⟨ay, cy, rfl, -⟩ := My.at
  have L4 : Below w4.heap.size w4 (w4.alloc (.cells #[.int .u8 0, .int .u8 0, .int .u8 0, .int .u8 1, .int .u8 0, .int .u8 2] 5)) := (Below.refl _ _).alloc (Nat.le_refl _) _
  have R4 : RowO (Ft w.heap.size v4) _ _ _ := RowO.new w4 [.int .u8 0, .int .u8 0, .int .u8 0, .int .u8 1, .int .u8 0, .int .u8 2] 5 6 rfl (by decide) (fun h => by have := T4.footlt _ h; omega)
  replace RB := RB.ext L4
  replace My := My.ext L4
  replace T4 := T4.ext L4
  replace D4 := D4.trans (L4.mono D4.size)
  clear L4
  go_wp2_with fail
  generalize w4.alloc (.cells #[.int .u8 0, .int .u8 0, .int .u8 0, .int .u8 1, .int .u8 0, .int .u8 2] 5) = w4 at *
  refine (sput_eq (bs := [0, 0, 0, 1, 0, 2]) _ known_3 T4 R4 (Nat.le_refl _) OkW.nil (by decide)).mono ?_
  rintro e w5 ⟨v5, vn, rfl, T5, Mn, K5, F5⟩
  replace RB := RB.put K5 F5
  replace My := My.put K5 F5
  have D5 := D4.trans (K5.below w.heap.size D4.size (T4.foot (Nat.le_refl _)))
  obtain ⟨an, cn, rfl, -⟩ := Mn.at
  clear Mn T4 D4 K5 F5 R4
  go_wp2_with fail
  refine (closed_any _ _ _ _ T5.blk).mono ?_
  rintro e w5 ⟨rfl, rfl⟩
  go_wp2_with fail
  refine (sput_eq _ known_4 T5 RB (Nat.le_refl _) OkW.nil (by decide)).mono ?_
  rintro e w6 ⟨v6, vm, rfl, T6, Mm, K6, F6⟩
  replace RB := RB.put K6 F6
  replace My := My.put K6 F6
  have D6 := D5.trans (K6.below w.heap.size D5.size (T5.foot (Nat.le_refl _)))
  obtain ⟨am, cm, rfl, -⟩ := Mm.at
  clear Mm T5 D5 K6 F6
  go_wp2_with fail
  refine (open_any _ _ _ _ T6.blk).mono ?_
  rintro e w7 ⟨rfl, rfl⟩
  obtain ⟨T7, K7⟩ := T6.opened (by decide)
  replace RB := RB.put K7 (fun k h => .inl h)
  replace My := My.put K7 (fun k h => .inl h)
  have D7 := D6.trans (K7.below w.heap.size D6.size (T6.foot (Nat.le_refl _)))
  clear T6 D6 K7
  generalize w6.setCell ⟨w.heap.size, 1, none⟩ (.bool false) = w7 at *
  go_wp2_with fail
  refine (sput_eq _ known_5 T7 RB (Nat.le_refl _) OkW.nil (by decide)).mono ?_
  rintro e w8 ⟨v8, vz, rfl, T8, Mz, K8, F8⟩
  replace RB := RB.put K8 F8
  replace My := My.put K8 F8
  have D8 := D7.trans (K8.below w.heap.size D7.size (T7.foot (Nat.le_refl _)))
  obtain ⟨az, cz, rfl, -⟩ := Mz.at
  clear Mz T7 D7 K8 F8
  obtain ⟨ay', cy', ey, hy⟩ := My.at
  simp only [Value.slice.injEq] at ey
  obtain ⟨rfl, -, rfl⟩ := ey
  obtain ⟨by0, uy, rfl, y0, y1, y2, y3⟩ := hy 0 _ rfl
  clear hy My
  simp only [Nat.mul_zero, Nat.zero_add] at y0 y1 y2
  have cb := conv_row (P := Try.prog) RB.1 27 9 5 Try.underlying27 Try.underlying5 Try.underlying9
  have cy := conv_row (P := Try.prog) y3 27 9 5 Try.underlying27 Try.underlying5 Try.underlying9
  obtain ⟨auy, cuy, rfl, -⟩ := id y3
  replace y2 : w8.cell? ⟨by0, 2, none⟩ = some (.slice auy 2 cuy) := y2
  replace cy : (convert 27 9 (.slice auy 2 cuy)).run Try.prog w8 = .ok (.string ⟨#[3, 0]⟩) w8 := cy
  obtain ⟨a8, c8, e8⟩ := T8.slice
  subst e8
  simp only [List.length_nil] at T8
  go_wp2_with fail
  refine (len_any _ _ _ _ _ _ T8.blk).mono ?_
  rintro e w9 ⟨rfl, rfl⟩
  go_wp2_with fail
  refine (closed_any _ _ _ _ T8.blk).mono ?_
  rintro e w9 ⟨rfl, rfl⟩
  go_wp2_with fail
  refine (mbytes_any 0 0 _ [] _ (by decide) (Row.nil _)).mono ?_
  rw [show mbytesL 0 0 [] = [] from rfl]
  rintro e w9 ⟨v9, rfl, o9, B9⟩
  obtain ⟨a9, c9, e9, -⟩ := Row.of_owns o9
  replace e9 : v9 = .slice a9 0 c9 := e9
  subst e9
  have D9 := D8.trans (B9.mono D8.size)
  clear B9 o9 T8 RB y0 y1 y2 y3 cb cy D8
  have hmk := mk_zer 27 5 (.int .u8 0) 1 Try.underlying27 info_u8 rfl 254 254 rfl (by omega) (by omega) w9
  go_wp2_with fail
  refine (mbytes_any 0 0 _ (List.replicate 254 0) _ (by decide) (zeros_row w9 254 (by decide))).mono ?_
  rw [mbytes_long 0 0 254 (by decide)]
  rintro e w10 ⟨v10, rfl, o10, B10⟩
  obtain ⟨a10, c10, e10, -⟩ := Row.of_owns o10
  replace e10 : v10 = .slice a10 0 c10 := e10
  subst e10
  have D10 := D9.trans ((((Below.refl w9.heap.size w9).alloc (Nat.le_refl _) _).trans (B10.mono (by simp))).mono D9.size)
  go_wp2
  go_ret
  exact ⟨rfl, D10⟩

end Go.Proofs.Ytejcigeccmfeeaa

namespace Go.Proofs.Ytejcigeccmfeeaa
open Go.RowKit

theorem getN_lit (a0 a1 a2 a3 a4 a5 a6 : UInt8) (t : List UInt8) : getN ([a0, a1, a2, a3, a4, a5, a6] ++ t) 0 = ((mkW a0 a1).toNat : Int) ∧ getN ([a0, a1, a2, a3, a4, a5, a6] ++ t) 2 = ((mkW a2 a3).toNat : Int) ∧ getN ([a0, a1, a2, a3, a4, a5, a6] ++ t) 4 = ((mkW a4 a5).toNat : Int) := by
  refine ⟨?_, ?_, ?_⟩
  · unfold getN; rw [if_pos ⟨by decide, by simp; omega⟩]; rfl
  · unfold getN; rw [if_pos ⟨by decide, by simp; omega⟩]; rfl
  · unfold getN; rw [if_pos ⟨by decide, by simp; omega⟩]; rfl
theorem wOf_sm (n : Nat) (h : n < 65536) : ((wOf (n : Int)).toNat : Int) = (n : Int) := by rw [wOf_nat]; omega
theorem bOf_small (n : Nat) (h : n < 256) : ((bOf (n : Int)).toNat : Int) = (n : Int) := by
  have : (((bOf (n : Int)).toNat : Nat) : Int) = (n : Int) % 256 := by rw [bOf, UInt8.toNat_ofNat']; omega
  omega
/-- a message's bytes, and what is behind them -/
theorem run_bytes (o : List Ms) (i u : Int) (p t : List UInt8) (h1 : 1 ≤ p.length) (h2 : p.length ≤ 253) :
    smRun ⟨[], false, o⟩ (msgL i u p ++ t) = smRun ⟨[], false, o ++ [⟨((wOf i).toNat : Int), ((bOf u).toNat : Int), p⟩]⟩ t := by
  have e : msgL i u p ++ t = [hiB (wOf i), loB (wOf i), 0, 0, hiB (wOf (1 + (p.length : Int))), loB (wOf (1 + (p.length : Int))), bOf u] ++ (p ++ t) := by simp [msgL]
  obtain ⟨g0, g2, g4⟩ := getN_lit (hiB (wOf i)) (loB (wOf i)) 0 0 (hiB (wOf (1 + (p.length : Int)))) (loB (wOf (1 + (p.length : Int)))) (bOf u) (p ++ t)
  rw [mkW_hi_lo] at g0 g4
  have w4 : ((wOf (1 + (p.length : Int))).toNat : Int) = ((p.length + 1 : Nat) : Int) := by
    have := wOf_sm (p.length + 1) (by omega)
    rw [← this]; congr 3; omega
  have hs : soundB (msgL i u p ++ t) = true := by
    rw [e]; unfold soundB; rw [g2, g4, w4]
    have e0 : ((mkW 0 0).toNat : Int) = 0 := rfl
    rw [e0]; simp; omega
  have hl := msgL_len i u p
  have ht : (msgL i u p ++ t).take (6 + (p.length + 1)) = msgL i u p := by
    rw [show 6 + (p.length + 1) = (msgL i u p).length by omega]; simp
  have hd : (msgL i u p ++ t).drop (6 + (p.length + 1)) = t := by
    rw [show 6 + (p.length + 1) = (msgL i u p).length by omega]; simp
  rw [run_msg o _ (p.length + 1) hs (by rw [e, g4, w4]) (by simp [hl]; omega), ht, hd]
  have em : msgOf (msgL i u p) = ⟨((wOf i).toNat : Int), ((bOf u).toNat : Int), p⟩ := by
    obtain ⟨q0, -, -⟩ := getN_lit (hiB (wOf i)) (loB (wOf i)) 0 0 (hiB (wOf (1 + (p.length : Int)))) (loB (wOf (1 + (p.length : Int)))) (bOf u) p
    rw [mkW_hi_lo] at q0
    unfold msgOf
    rw [show getN (msgL i u p) 0 = _ from q0]
    rfl
  rw [em]

set_option maxHeartbeats 1000000 in
theorem sput_shut (g : Nat) (v vb : Value) (bs : List UInt8) (w : World) (hX : Blk w g 58 [v, .bool true]) (hv : Row w vb (bs.map bV)) :
    Calls Try.prog 15 #[ptrS g, vb] w fun e w' => e = .returned (.slice none 0 0) ∧ w = w' := by
  obtain ⟨ab, cb, rfl, -⟩ := id hv
  obtain ⟨-, k1, k2, k3⟩ := hv.at
  unfold maxLen at k2
  simp only [List.length_map] at hv k1 k3 ⊢
  have c1 := cell_of (i := 1) hX rfl
  by_cases h0 : 0 < bs.length
  · obtain ⟨b, off, rfl, hc⟩ := k3 0 0 h0
    have cx := hc 0 h0
    rw [Nat.add_zero] at cx
    clear k3 hc hv hX
    generalize bs.getD 0 0 = x at *
    generalize bs.length = lb at *
    have h0' : (0 : Int) < (lb : Int) := by omega
    go_enter Try.func15, Try.ntmps15
    go_wp2
    go_loopw [5, 10] (fun z5 z10 wr => z5 = .slice none 0 0 ∧ z10 = .int .i64 0 ∧ w = wr) (fun _ _ _ => 0)
    case atStart => exact ⟨rfl, rfl, rfl⟩
    case round =>
      obtain ⟨rfl, rfl, rfl⟩ := hrel
      go_wp2
      go_ret
      exact ⟨rfl, rfl⟩
  · have e0 : bs.length = 0 := by omega
    clear k3 hv
    rw [e0]
    go_enter Try.func15, Try.ntmps15
    go_wp2
    go_loopw [5, 10] (fun z5 z10 wr => z5 = .slice none 0 0 ∧ z10 = .int .i64 0 ∧ w = wr) (fun _ _ _ => 0)
    case atStart => exact ⟨rfl, rfl, rfl⟩
    case round =>
      obtain ⟨rfl, rfl, rfl⟩ := hrel
      go_wp2
      go_ret
      exact ⟨rfl, rfl⟩

end Go.Proofs.Ytejcigeccmfeeaa

namespace Go.Proofs.Ytejcigeccmfeeaa
open Go.RowKit

theorem mcs_appL : ∀ (a : List Ms) (ua : List Value) (b : List Ms) (ub : List Value), ua.length = a.length → mcs (a ++ b) (ua ++ ub) = mcs a ua ++ mcs b ub
  | [], [], _, _, _ => rfl
  | [], _ :: _, _, _, h => by simp at h
  | _ :: _, [], _, _, h => by simp at h
  | x :: a, y :: ua, b, ub, h => by
    have := mcs_appL a ua b ub (by simpa using h)
    simp [mcs, this]
theorem mcs_one : ∀ (ms : List Ms) (us : List Value), (∀ u ∈ us, u.oneCell' = true) → ∀ u ∈ mcs ms us, u.oneCell' = true
  | [], _, _, u, h => by simp [mcs] at h
  | _ :: _, [], _, u, h => by simp [mcs] at h
  | m :: ms, y :: us, h, u, hu => by
    simp only [mcs, List.mem_cons] at hu
    rcases hu with rfl | rfl | rfl | hu
    · rfl
    · rfl
    · exact h _ (by simp)
    · exact mcs_one ms us (fun v hv => h v (by simp [hv])) u hu
theorem Mss.len {t : TypeId} {N : Nat → Prop} {w : World} {base : Nat} {v : Value} {ms : List Ms} (h : Mss t N w base v ms) : ∃ a c, v = .slice a ms.length c ∧ ms.length ≤ c := by
  obtain ⟨us, -, h2, -⟩ := h
  rcases h2.2 with ⟨rfl, hn⟩ | ⟨g, cap, cur, rfl, -, -, h3, -⟩
  · exact ⟨none, 0, by rw [hn], by omega⟩
  · exact ⟨_, _, rfl, h3⟩
theorem owns_one {w : World} {base n : Nat} {u : Value} {xs : List Value} (h : w.ownsRow base 5 1 u n xs) : u.oneCell' = true := by
  obtain ⟨a, c, rfl, -⟩ := Row.of_owns h
  rfl
theorem appM_run {w : World} {base b2 : Nat} (t T ty : TypeId) (bytes : Nat) (N : Nat → Prop) (ht : Try.prog.underlying T = some (.slice t)) (hi : (Try.prog.info? t).map (fun i => (i.zero, i.size, i.bytes)) = some (some (.agg #[.int .i64 0, .int .i64 0, .slice none 0 0]), 3, bytes)) (htt : 5 ≠ t)
    {v sv : Value} {A B : List Ms} (hA : Mss t N w base v A) (hB : Mss t N w b2 sv B) (hb : base ≤ b2) (hz : base ≤ w.heap.size) (hN : ¬ N w.heap.size) (h63 : A.length + B.length ≤ maxLen) (hby : (A.length + B.length) * bytes ≤ 140737488355328) :
    ∃ v' w', (Builtin.append_ #[T, T] ty #[v, sv]).run Try.prog w = .ok v' w' ∧ Mss t N w' base v' (A ++ B) ∧ w.grownBy w' v.ownBlock := by
  obtain ⟨i, hi, hzz, hsz, hbb⟩ := info_parts hi
  obtain ⟨ua, la, oa, fa, ra⟩ := hA
  obtain ⟨ub, lb, ob, fb, rb⟩ := hB
  have hone : ∀ u ∈ ub, u.oneCell' = true := fun u hu => by
    obtain ⟨j, hj, e⟩ := List.getElem_of_mem hu
    obtain ⟨u', e1, -, o⟩ := rb j B[j] (by simp)
    rw [List.getElem?_eq_getElem hj, e] at e1
    rw [Option.some.inj e1]; exact owns_one o
  rcases id ob.2 with ⟨rfl, hn⟩ | ⟨gB, cap, cur, rfl, hgb, hg, hle, hm, hs, htk⟩
  · have hB0 : B = [] := List.eq_nil_of_length_eq_zero hn
    subst hB0
    refine ⟨v, w, run_append_owned_none (P := Try.prog) (w := w) base T ty t i 3 ht hi v _ _ oa, ?_, World.grownBy.refl _ _⟩
    rw [List.append_nil]
    exact ⟨ua, la, oa, fa, ra⟩
  · have hl := mcs_len B ub lb
    obtain ⟨v', w', hr, r1, r2, -, r4⟩ := run_append_own_at (P := Try.prog) w base T ty t i _ 3 bytes ht hi hzz hsz hbb rfl (by decide) v A.length _ oa ⟨gB, 0, none⟩ B.length cap (mcs B ub) hl (fun j u hj => by
      have hadd : (⟨gB, 0, none⟩ : Addr).add j = ⟨gB, j, none⟩ := by unfold Addr.add; split <;> simp_all
      have hjl : j < B.length * 3 := by
        rcases Nat.lt_or_ge j (mcs B ub).length with h | h
        · omega
        · rw [List.getElem?_eq_none h] at hj; cases hj
      rw [hadd, ob.cellAt j hjl, hj]) (mcs_one B ub hone) h63 hby hz
    have keep : ∀ {b u n ys}, w.ownsRow b 5 1 u n ys → w'.ownsRow b 5 1 u n ys := fun h => h.kept r2 (owns_apart3 h oa htt)
    refine ⟨v', w', hr, ⟨ua ++ ub, by simp [la, lb], by rw [mcs_appL A ua B ub la, List.length_append]; exact r1, fun k hk => ?_, fun j m hj => ?_⟩, r2⟩
    · rcases r4 with h | h
      · exact fa k (h ▸ hk)
      · rw [h, Option.some.injEq] at hk
        subst hk; exact hN
    · by_cases hlt : j < A.length
      · rw [List.getElem?_append_left hlt] at hj
        obtain ⟨y, e, o, r⟩ := ra j m hj
        exact ⟨y, by rw [List.getElem?_append_left (by omega)]; exact e, o, keep r⟩
      · rw [List.getElem?_append_right (by omega)] at hj
        obtain ⟨y, e, o, r⟩ := rb _ m hj
        exact ⟨y, by rw [List.getElem?_append_right (by omega), la]; exact e, o, owns_from (keep r) hb⟩
theorem wpList_appM {w : World} {ops : Array Oper} {rest : List Oper} {o : Oper} {a : Act} {Q : Exit → Act → World → Prop} (hgd : o.guard = none) (s x : Operand) (T : TypeId)
    (ho : o.op = .call { callee := .builtin .append, args := #[s, x], argTypes := #[T, T] })
    {base b2 : Nat} (t : TypeId) (bytes : Nat) (N : Nat → Prop) (ht : Try.prog.underlying T = some (.slice t)) (hi : (Try.prog.info? t).map (fun i => (i.zero, i.size, i.bytes)) = some (some (.agg #[.int .i64 0, .int .i64 0, .slice none 0 0]), 3, bytes)) (htt : 5 ≠ t)
    {v sv : Value} {A B : List Ms} (hsv : a.eval s = v) (hxv : a.eval x = sv) (hA : Mss t N w base v A) (hB : Mss t N w b2 sv B) (hb : base ≤ b2) (hz : base ≤ w.heap.size) (hN : ¬ N w.heap.size) (h63 : A.length + B.length ≤ maxLen) (hby : (A.length + B.length) * bytes ≤ 140737488355328)
    (h : ∀ v' w', Mss t N w' base v' (A ++ B) → w.grownBy w' v.ownBlock → wpList Try.prog ops Q rest (a.put o.dst v') w') : wpList Try.prog ops Q (o :: rest) a w := by
  refine wpList_plain hgd fun K hK => ?_
  obtain ⟨v', w', hrun, r1, r2⟩ := appM_run t T o.type bytes N ht hi htt hA hB hb hz hN h63 hby
  unfold Oper.wp
  simp [execOp, ho, resolve, invoke, builtin, hsv, hxv, hrun, Result.andThen]
  exact hK _ _ (h v' w' r1 r2)

end Go.Proofs.Ytejcigeccmfeeaa

namespace Go.Proofs.Ytejcigeccmfeeaa
open Go.RowKit

set_option maxHeartbeats 400000 in
theorem within_any (n lo hi : Int) (w : World) (hn : -9223372036854775808 ≤ n ∧ n ≤ 9223372036854775807) (h0 : -1000000000000000000 ≤ lo) (h1 : hi ≤ 1000000000000000000) (h2 : lo ≤ hi) :
    Calls Try.prog 13 #[.int .i64 n, .int .i64 lo, .int .i64 hi] w fun e w' => (∃ m, e = .returned (.int .i64 m) ∧ lo ≤ m ∧ m ≤ hi) ∧ w = w' := by
  obtain ⟨hn1, hn2⟩ := hn
  by_cases g1 : lo ≤ n ∧ n ≤ hi
  · obtain ⟨g1, g2⟩ := g1
    go_enter Try.func13, Try.ntmps13
    go_wp2
    go_ret
    exact ⟨⟨n, rfl, g1, g2⟩, rfl⟩
  · have d0 : 0 < hi - lo + 1 := by omega
    have b1 := Int.tmod_lt_of_pos n d0
    have b2 := Int.lt_tmod_of_pos n d0
    have hg : (lo ≤ n ∧ hi < n) ∨ n < lo := by omega
    generalize hq : n.tmod (hi - lo + 1) = q at *
    have HQ : Hid (n.tmod (hi - lo + 1) = q) := hq
    clear g1
    have hq0 : ((hi - lo + 1 : Int) == 0) = false := by simp; omega
    by_cases hneg : q < 0
    · rcases hg with ⟨g1, g2⟩ | g1
      all_goals
        go_enter Try.func13, Try.ntmps13
        go_wp2
        go_ret
        exact ⟨⟨_, rfl, by omega, by omega⟩, rfl⟩
    · rcases hg with ⟨g1, g2⟩ | g1
      all_goals
        go_enter Try.func13, Try.ntmps13
        go_wp2
        go_ret
        exact ⟨⟨_, rfl, by omega, by omega⟩, rfl⟩

end Go.Proofs.Ytejcigeccmfeeaa

namespace Go.Proofs.Ytejcigeccmfeeaa
open Go.RowKit

def whP (xss : List (List UInt8)) (i : Nat) : List UInt8 := bOf (i : Int) :: (xss.getD i []).take 40
def whM (xss : List (List UInt8)) (i : Nat) : Ms := ⟨(i : Int) * 7, (i : Int), whP xss i⟩
def whL (xss : List (List UInt8)) (k : Nat) : List Ms := (List.range k).map (whM xss)
def whB (xss : List (List UInt8)) (k : Nat) : List UInt8 := ((List.range k).map fun (i : Nat) => msgL ((i : Int) * 7) (i : Int) (whP xss i)).flatten
theorem whL_succ (xss : List (List UInt8)) (k : Nat) : whL xss (k + 1) = whL xss k ++ [whM xss k] := by simp [whL, List.range_succ]
theorem whB_succ (xss : List (List UInt8)) (k : Nat) : whB xss (k + 1) = whB xss k ++ msgL ((k : Int) * 7) (k : Int) (whP xss k) := by simp [whB, List.range_succ]
theorem whL_len (xss : List (List UInt8)) (k : Nat) : (whL xss k).length = k := by simp [whL]
theorem whP_len (xss : List (List UInt8)) (k : Nat) : 1 ≤ (whP xss k).length ∧ (whP xss k).length ≤ 41 := by simp [whP]; omega
theorem whB_len (xss : List (List UInt8)) : ∀ k, (whB xss k).length ≤ k * 48
  | 0 => by simp [whB]
  | k + 1 => by
    have := whB_len xss k
    have := whP_len xss k
    rw [whB_succ, List.length_append, msgL_len]; omega
theorem wh_run (xss : List (List UInt8)) : ∀ (k : Nat), k ≤ 10 → smRun ⟨[], false, []⟩ (whB xss k) = ⟨[], false, whL xss k⟩
  | 0, _ => rfl
  | k + 1, h => by
    have ih := wh_run xss k (by omega)
    have hp := whP_len xss k
    have := run_bytes (whL xss k) ((k : Int) * 7) (k : Int) (whP xss k) [] hp.1 (by omega)
    rw [List.append_nil] at this
    rw [whB_succ, smRun_app, ih, this, smRun_nil, whL_succ]
    have e1 : ((wOf ((k : Int) * 7)).toNat : Int) = (k : Int) * 7 := by rw [wOf_nat]; omega
    have e2 := bOf_small k (by omega)
    rw [e1, e2]; rfl
theorem wh_mbytes (xss : List (List UInt8)) (k : Nat) : mbytesL ((k : Int) * 7) (k : Int) (whP xss k) = msgL ((k : Int) * 7) (k : Int) (whP xss k) := by
  have := whP_len xss k
  unfold mbytesL; rw [if_neg (by omega)]

theorem RowO.cut {N : Nat → Prop} {w : World} {b off n cap : Nat} {xs : List Value} (h : RowO N w (.slice (some ⟨b, off, none⟩) n cap) xs) (k : Nat) (hk : k ≤ n) : RowO N w (.slice (if cap = k then some ⟨b, off, none⟩ else some ⟨b, off + k, none⟩) (n - k) (cap - k)) (xs.drop k) := by
  by_cases hc : cap = k
  · rw [if_pos hc]
    refine ⟨?_, h.2⟩
    obtain ⟨a, c, e, h1, h2, h3, -⟩ := h.1
    simp only [Value.slice.injEq] at e
    obtain ⟨rfl, rfl, rfl⟩ := e
    have e0 : xs.drop k = [] := List.eq_nil_of_length_eq_zero (by simp; omega)
    rw [e0]
    exact ⟨_, cap - k, by rw [show xs.length - k = [].length by simp; omega], by simp, by omega, (fun h => by cases h), .inl rfl⟩
  · rw [if_neg hc]; exact h.from k hk
theorem sm_more (bs : List UInt8) (d q : Nat) (s : Sm) (h : smRun ⟨[], false, []⟩ (bs.take d) = s) : smRun ⟨[], false, []⟩ (bs.take (d + q)) = ⟨(smRun ⟨s.wait, s.shut, []⟩ ((bs.drop d).take q)).wait, (smRun ⟨s.wait, s.shut, []⟩ ((bs.drop d).take q)).shut, s.out ++ (smRun ⟨s.wait, s.shut, []⟩ ((bs.drop d).take q)).out⟩ := by
  have e : bs.take (d + q) = bs.take d ++ (bs.drop d).take q := by rw [List.take_add]
  rw [e, smRun_app, h]
  have := smRun_out s.out ((bs.drop d).take q) ⟨s.wait, s.shut, []⟩
  simpa using this

end Go.Proofs.Ytejcigeccmfeeaa

namespace Go.Proofs.Ytejcigeccmfeeaa
open Go.RowKit

/-- the words of b, none of an odd length -/
def wordsR (bs : List UInt8) : List UInt16 := if bs.length % 2 = 0 then wordsL bs else []

theorem words_step (bs : List UInt8) (k : Nat) (h : k < bs.length / 2) :
    (((wordsL bs).take k).map wV ++ List.replicate (bs.length / 2 - k) (Value.int .u16 0)).set k (wV (mkW (bs.getD (2 * k) 0) (bs.getD (2 * k + 1) 0))) =
      ((wordsL bs).take (k + 1)).map wV ++ List.replicate (bs.length / 2 - (k + 1)) (Value.int .u16 0) := by
  have hl := wordsL_len bs
  have e1 : (((wordsL bs).take k).map wV).length = k := by simp; omega
  have e2 : bs.length / 2 - k = (bs.length / 2 - (k + 1)) + 1 := by omega
  have e3 : (wordsL bs)[k]'(by omega) = mkW (bs.getD (2 * k) 0) (bs.getD (2 * k + 1) 0) := by
    simp only [wordsL_eq, List.getElem_map, List.getElem_range]
  rw [List.take_succ_eq_append_getElem (by omega), e3, e2, List.replicate_succ, List.set_append]
  rw [e1]
  simp

theorem pack_step (l : List Bool) (n k : Nat) (hk : k < l.length) (_hn : k / 8 < n) :
    ((List.range n).map fun j => bV (packB (l.take (k + 1)) j)) = if l[k] then ((List.range n).map fun j => bV (packB (l.take k) j)).set (k / 8) (.int .u8 (((packB (l.take k) (k / 8)).toNat ||| 2 ^ (k % 8) : Nat) : Int)) else ((List.range n).map fun j => bV (packB (l.take k) j)) := by
  apply List.ext_getElem
  · split <;> simp
  · intro i h1 h2
    have hs := packB_step l k i hk
    split
    · rename_i hx
      rw [List.getElem_set]
      simp only [List.getElem_map, List.getElem_range, bV, hs]
      by_cases hi : k / 8 = i
      · subst hi; simp [hx]
      · rw [if_neg hi, if_neg (by intro h; exact hi h.1.symm)]
    · rename_i hx
      simp only [List.getElem_map, List.getElem_range, bV, hs]
      rw [if_neg (by intro h; exact hx h.2)]

theorem or_bit (y : UInt8) (k : Nat) : bits BinOp.or IntKind.u8 (y.toNat : Int) ((2 : Int) ^ (k % 8) % 256) = ((y.toNat ||| 2 ^ (k % 8) : Nat) : Int) := by
  have h := pow8 (k % 8) (by omega)
  rw [h.1, u8_or_nat _ _ y.toNat_lt h.2]

end Go.Proofs.Ytejcigeccmfeeaa

namespace Go.Proofs.Ytejcigeccmfeeaa
open Go.RowKit

/-- is what is behind the first n bits of b nought? -/
def blankB (bs : List UInt8) (n : Nat) : Bool := decide (n % 8 = 0) || decide ((bs.getD (n / 8) 0).toNat / 2 ^ (n % 8) = 0)

theorem div_beq (x t : Nat) : ((x : Int) / 2 ^ t == 0) = decide (x / 2 ^ t = 0) := by
  have e : (x : Int) / 2 ^ t = ((x / 2 ^ t : Nat) : Int) := by simp
  rw [e, Bool.eq_iff_iff]
  generalize x / 2 ^ t = q
  simp only [beq_iff_eq, decide_eq_true_eq]
  omega

theorem openOk_blank (bs : List UInt8) (n : Nat) (h : bs.length = (n + 7) / 8) : openOk bs n = blankB bs n := by
  have h0 : decide ((0 : Int) ≤ (n : Int)) = true := by simp
  have h1 : decide ((bs.length : Int) = ((n : Int) + 7) / 8) = true := by simp; omega
  unfold openOk
  rw [h0, h1, Bool.true_and, Bool.true_and, Bool.eq_iff_iff]
  simp only [List.all_eq_true, List.mem_range, blankB, Bool.or_eq_true, decide_eq_true_eq, Bool.not_eq_true', Int.ofNat_lt]
  constructor
  · intro hall
    by_cases h8 : n % 8 = 0
    · exact .inl h8
    · right
      rw [← Nat.shiftRight_eq_div_pow]
      apply Nat.eq_of_testBit_eq
      intro t
      rw [Nat.testBit_shiftRight, Nat.zero_testBit]
      by_cases ht : n % 8 + t < 8
      · have := hall (n + t) (by omega)
        rcases this with this | this
        · omega
        · unfold bitAt at this
          rw [show (n + t) / 8 = n / 8 by omega, show (n + t) % 8 = n % 8 + t by omega] at this
          exact this
      · exact Nat.testBit_lt_two_pow (Nat.lt_of_lt_of_le (UInt8.toNat_lt _) (Nat.pow_le_pow_right (by decide) (by omega)))
  · intro hb i hi
    by_cases hin : i < n
    · exact .inl hin
    · right
      rcases hb with hb | hb
      · omega
      · unfold bitAt
        rw [show i / 8 = n / 8 by omega]
        have : i % 8 = n % 8 + (i - n) := by omega
        rw [this, ← Nat.testBit_shiftRight, Nat.shiftRight_eq_div_pow, hb, Nat.zero_testBit]

theorem openOk_neg (bs : List UInt8) (n : Int) (h : n < 0) : openOk bs n = false := by
  unfold openOk; rw [show decide (0 ≤ n) = false by simp; omega]; simp
theorem openOk_len (bs : List UInt8) (n : Int) (h : ¬ (bs.length : Int) = (n + 7) / 8) : openOk bs n = false := by
  unfold openOk; rw [show decide ((bs.length : Int) = (n + 7) / 8) = false by simpa using h]; simp

theorem bit_test (x : UInt8) (k : Nat) (_h : k < 8) : (bits BinOp.and IntKind.u8 ((x.toNat : Int) / 2 ^ k) 1 == 1) = x.toNat.testBit k := by
  have e : (x.toNat : Int) / 2 ^ k = ((x.toNat / 2 ^ k : Nat) : Int) := by simp
  have hx := x.toNat_lt
  have hd : x.toNat / 2 ^ k < 256 := Nat.lt_of_le_of_lt (Nat.div_le_self _ _) hx
  have e1 := u8_and_nat _ 1 hd (by decide)
  rw [nat_mask1] at e1
  have e2 : bits BinOp.and IntKind.u8 ((x.toNat / 2 ^ k : Nat) : Int) 1 = ((x.toNat / 2 ^ k % 2 : Nat) : Int) := e1
  rw [e, e2, Nat.testBit_eq_decide_div_mod_eq, Bool.eq_iff_iff]
  generalize x.toNat / 2 ^ k % 2 = q
  simp only [beq_iff_eq, decide_eq_true_eq]
  omega

theorem open_step (bs : List UInt8) (n k : Nat) (h : k < n) (b : Bool) (hb : b = bitAt bs k) :
    ((openL bs k).map Value.bool ++ List.replicate (n - k) (Value.bool false)).set k (Value.bool b) = (openL bs (k + 1)).map Value.bool ++ List.replicate (n - (k + 1)) (Value.bool false) := by
  subst hb
  have e1 : ((openL bs k).map Value.bool).length = k := by simp [openL]
  have e2 : n - k = (n - (k + 1)) + 1 := by omega
  have e3 : openL bs (k + 1) = openL bs k ++ [bitAt bs k] := by simp [openL, List.range_succ]
  rw [e3, e2, List.replicate_succ, List.set_append, e1]
  simp

/-- what Open answers -/
def openR (bs : List UInt8) (n : Int) : List Bool := if openOk bs n then openL bs n.toNat else []
theorem openR_no {bs : List UInt8} {n : Int} (h : openOk bs n = false) : openR bs n = [] := by simp [openR, h]
theorem openR_yes {bs : List UInt8} {n : Int} (h : openOk bs n = true) : openR bs n = openL bs n.toNat := by simp [openR, h]

end Go.Proofs.Ytejcigeccmfeeaa

namespace Go.Proofs.Ytejcigeccmfeeaa
open Go.RowKit

theorem or_int (x y : UInt8) : bits BinOp.or IntKind.i64 ((x.toNat : Int) * 256) (y.toNat : Int) = ((mkW x y).toNat : Int) := by
  have hx' := x.toNat_lt
  have hy' := y.toNat_lt
  rw [mkW_nat, show ((x.toNat : Int) * 256) = ((x.toNat * 256 : Nat) : Int) by omega, i64_or_nat _ _ (by omega) (by omega), nat_join 8 _ _ (by omega) (by omega)]

set_option maxHeartbeats 400000 in
theorem rget_any (v : Value) (bs : List UInt8) (n : Int) (w : World) (hn : -9223372036854775808 ≤ n ∧ n ≤ 9223372036854775807) (hv : Row w v (bs.map bV)) :
    Calls Try.prog 33 #[v, .int .i64 n] w fun e w' => e = .returned (.tuple #[.int .i64 (getN bs n), .bool (getOk bs n)]) ∧ ∃ nq, w' = w.drewN nq := by
  obtain ⟨a, cap, rfl, -⟩ := id hv
  obtain ⟨hl, hc, hm, hcell⟩ := hv.at
  simp only [List.length_map] at hl hc ⊢
  by_cases h : 0 ≤ n ∧ n + 2 ≤ bs.length
  · obtain ⟨b, off, rfl, hcl⟩ := hcell n.toNat 0 (by simp; omega)
    have hm' : bs.length ≤ maxLen := by omega
    have c0 := hcl n.toNat (by simp; omega)
    have c1 := hcl (n.toNat + 1) (by simp; omega)
    have ok : getOk bs n = true := by simp [getOk]; omega
    have gn : getN bs n = (mkW (bs.getD n.toNat 0) (bs.getD (n.toNat + 1) 0)).toNat := by simp [getN, h]
    rw [ok, gn]
    obtain ⟨i, rfl⟩ : ∃ i : Nat, n = (i : Int) := ⟨n.toNat, by omega⟩
    rw [Int.toNat_natCast] at *
    obtain ⟨g1, g2⟩ := h
    clear hcell hcl hv ok gn
    unfold maxLen at hm hm'
    generalize bs.getD i 0 = x at *
    generalize bs.getD (i + 1) 0 = y at *
    have hx := x.toNat_lt
    have hy := y.toNat_lt
    have t1 : ¬ (i : Int) < 0 := by omega
    have t2 : ¬ (bs.length : Int) - 2 < (i : Int) := by omega
    have t3 : (i : Int) < (bs.length : Int) := by omega
    have t4 : (i : Int) + 1 < (bs.length : Int) := by omega
    go_enter Try.func33, Try.ntmps33
    go_wp2
    go_quiet (fail)
    go_wp2
    go_ret2
    exact ⟨ret_int_bool (or_int x y), _, rfl⟩
  · have ok : getOk bs n = false := by simp [getOk]; omega
    have gn : getN bs n = 0 := by simp [getN]; omega
    rw [ok, gn]
    clear hcell hv ok gn
    unfold maxLen at hm
    have hmx : bs.length ≤ 9223372036854775807 := by omega
    by_cases t1 : n < 0
    · go_enter Try.func33, Try.ntmps33
      go_wp2
      go_ret2
      exact ⟨rfl, 0, rfl⟩
    · have t2 : (bs.length : Int) - 2 < n := by omega
      go_enter Try.func33, Try.ntmps33
      go_wp2
      go_ret2
      exact ⟨rfl, 0, rfl⟩

theorem pow8' (t : Nat) (h : t < 8) : ((2 : Int) ^ t) = ((2 ^ t : Nat) : Int) ∧ 2 ^ t < 256 := by
  have := pow8 t h
  refine ⟨by simp, this.2⟩

set_option maxHeartbeats 400000 in
theorem rpack_any (v : Value) (l : List Bool) (w : World) (hv : Row w v (l.map Value.bool)) (hr : l.length ≤ 140737488351232) :
    Calls Try.prog 48 #[v] w fun e w' => ∃ v', e = .returned v' ∧ Row w' v' ((packL l).map bV) ∧ Below w.heap.size w w' ∧ NewV w.heap.size v' := by
  obtain ⟨a, cap, rfl, -⟩ := id hv
  obtain ⟨hl, hc, hm, -⟩ := hv.at
  simp only [List.length_map] at hl hc hv ⊢
  have hmk := mk_zer 27 5 (.int .u8 0) 1 Try.underlying27 info_u8 rfl (((l.length : Int) + 7) / 8) ((l.length + 7) / 8) (by omega) (by omega) (by omega)
  have hb0 : Below w.heap.size w (w.alloc (.cells (zer ((l.length + 7) / 8) (.int .u8 0)) 5)) := (Below.refl _ _).alloc (Nat.le_refl _) _
  have hg0 := zer_blk w ((l.length + 7) / 8) (.int .u8 0) 5
  go_enter Try.func48, Try.ntmps48
  go_wp2
  go_loopw [13] (fun i wr => ∃ k : Nat, k ≤ l.length ∧ i = .int .i64 k ∧ Blk wr w.heap.size 5 ((List.range ((l.length + 7) / 8)).map fun j => bV (packB (l.take k) j)) ∧ Below w.heap.size w wr) (fun i _ => l.length - (intOf i).toNat)
  case atStart =>
    refine ⟨0, Nat.zero_le _, rfl, ?_, hb0⟩
    have e : ((List.range ((l.length + 7) / 8)).map fun j => bV (packB (l.take 0) j)) = List.replicate ((l.length + 7) / 8) (.int .u8 0) := by
      apply List.ext_getElem
      · simp
      · intro i h1 h2
        simp [bV, packB_nat, ofBits]
    rw [e]; exact hg0
  case round =>
    obtain ⟨k, hk, rfl, hg, hb⟩ := hrel
    clear hmk hb0 hg0
    by_cases hlt : k < l.length
    · obtain ⟨-, -, -, hcell⟩ := (hv.below hb).at
      obtain ⟨b, off, rfl, hcl⟩ := hcell k false hlt
      have c0 := hcl k hlt
      clear hcl hcell hv
      have S : Hid _ := pack_step l ((l.length + 7) / 8) k hlt (by omega)
      have ex : l.getD k false = l[k] := by simp [hlt]
      rw [ex] at c0
      clear ex
      generalize l[k] = x at *
      have hsz : (k / 8 : Nat) < ((List.range ((l.length + 7) / 8)).map fun j => bV (packB (l.take k) j)).length := by simp; omega
      have cu := hg.cell (k / 8)
      rw [List.getElem?_eq_getElem hsz] at cu
      simp only [List.getElem_map, List.getElem_range] at cu
      have fu := hg.frozen (k / 8)
      generalize packB (l.take k) (k / 8) = y at *
      have hy := y.toNat_lt
      have hlt' : (k : Int) / 8 < (((l.length + 7) / 8 : Nat) : Int) := by omega
      cases x
      · go_wp2
        go_roundw
        case rel =>
          have S' := S.out
          rw [if_neg (by simp)] at S'
          exact ⟨k + 1, by omega, by go_num, by rw [S']; exact hg, hb⟩
        case measure => simp [intOf]; omega
      · go_wp2
        go_roundw
        case rel =>
          have S' := S.out
          rw [if_pos rfl] at S'
          refine ⟨k + 1, by omega, by go_num, ?_, ?_⟩
          · rw [or_bit, S']
            exact hg.set (k / 8) _
          · exact hb.setCell (p := ⟨w.heap.size, k / 8, none⟩) (Nat.le_refl _) _
        case measure => simp [intOf]; omega
    · have : k = l.length := by omega
      subst this
      go_wp2
      go_ret
      refine ⟨_, rfl, ?_, hb, NewV.some _ _ _ _ _ (Nat.le_refl _)⟩
      rw [List.take_length] at hg
      have e : ((List.range ((l.length + 7) / 8)).map fun j => bV (packB l j)) = (packL l).map bV := by simp [packL]
      rw [e] at hg
      have := hg.row ((l.length + 7) / 8) (by simp [packL_len]) (by unfold maxLen; omega)
      simpa [packL_len] using this

set_option maxHeartbeats 400000 in
theorem rput_own (v : Value) (bs : List UInt8) (n : Int) (w : World) (_hn : -9223372036854775808 ≤ n ∧ n ≤ 9223372036854775807) (hv : Row w v (bs.map bV)) (hr : bs.length ≤ 140737488351232) :
    Calls Try.prog 26 #[v, .int .i64 n] w fun e w' => ∃ v', e = .returned v' ∧ w'.ownsRow w.heap.size 5 1 v' (bs.length + 2) ((bs ++ [hiB (wOf n), loB (wOf n)]).map bV) ∧ Below w.heap.size w w' := by
  have hb0 : Below w.heap.size w (w.alloc (.cells #[] 5)) := (Below.refl _ _).alloc (Nat.le_refl _) _
  have ho0 := World.ownsRow_made (base := w.heap.size) (e := 5) (size := 1) w #[] 0 (Nat.le_refl _) (Nat.zero_le _) (by simp)
  have hv0 := hv.below hb0
  obtain ⟨a, cap, rfl, -⟩ := id hv
  go_enter Try.func26, Try.ntmps26
  go_wp2_with (at_builtin; refine wpList_app rfl (.tmp 5) (.tmp 6) 27 rfl w.heap.size 5 (.int .u8 0) 1 Try.underlying27 info_u8 rfl rfl ho0 rfl hv0 (one_bytes bs) ?h1 ?h2 ?h3 ?_)
  case h1 => simp [maxLen]; omega
  case h2 => simp; omega
  case h3 => simp
  intro v1 w1 ho1 hg1
  have hz1 : w.heap.size ≤ w1.heap.size := by have := hg1.size; simp at this; omega
  have hr1 := row_new w1 [.int .u8 (IntKind.u64.wrap n / 256 % 256), .int .u8 (n % 256)] 5 2 rfl (by decide)
  go_wp2_with (at_builtin; refine wpList_app rfl (.tmp 7) (.tmp 14) 27 rfl w.heap.size 5 (.int .u8 0) 1 Try.underlying27 info_u8 rfl rfl (ho1.alloc _) rfl hr1 ?k0 ?k1 ?k2 ?k3 ?_)
  case k0 => intro u hu; simp at hu; rcases hu with rfl | rfl <;> rfl
  case k1 => simp [maxLen]; omega
  case k2 => simp; omega
  case k3 => simp; omega
  intro v2 w2 ho2 hg2
  go_wp2
  go_ret
  have e : (bs.map bV ++ [Value.int .u8 (IntKind.u64.wrap n / 256 % 256), .int .u8 (n % 256)]) = (bs ++ [hiB (wOf n), loB (wOf n)]).map bV := by
    have h1 : (IntKind.u64.wrap n / 256 % 256) = ((hiB (wOf n)).toNat : Int) := by
      have := wOf_nat n
      rw [hiB_nat, IntKind.wrap_u64]; omega
    have h2 : (n % 256) = ((loB (wOf n)).toNat : Int) := by
      have := wOf_nat n
      rw [loB_nat]; omega
    rw [h1, h2]; simp
  rw [e] at ho2
  refine ⟨_, rfl, by simpa using ho2, ?_⟩
  have q1 : Below w.heap.size w w1 := hb0.grown hg1 (by simp) (fun k hk => by simp [Value.ownBlock] at hk; omega)
  exact (q1.alloc hz1 _).grown hg2 (by simp; omega) (fun k hk => (ho1.lt k hk).1)

end Go.Proofs.Ytejcigeccmfeeaa

namespace Go.Proofs.Ytejcigeccmfeeaa
open Go.RowKit

theorem wp_app_at {P : Program} {w : World} {o : Oper} {a : Act} {K : Act → World → Prop} {Q : Exit → Act → World → Prop} (s x : Operand) (t : TypeId)
    (ho : o.op = .call { callee := .builtin .append, args := #[s, x], argTypes := #[t, t] })
    (base : Nat) (e : TypeId) (i : TypeInfo) (z : Value) (size bytes : Nat) (ht : P.underlying t = some (.slice e)) (hi : P.info? e = some i) (hz : i.zero = some z)
    (hsize : i.size = size) (hby : i.bytes = bytes) (hzs : z.cells.size = size) (hsz : 0 < size)
    (v : Value) (n : Nat) (xs : List Value) (hsv : a.eval s = v) (hown : w.ownsRow base e size v n xs)
    (ad : Addr) (m c : Nat) (news : List Value) (hx : a.eval x = .slice (some ad) m c) (hl : news.length = m * size) (hnews : ∀ j u, news[j]? = some u → w.cell? (ad.add j) = some u) (h1 : ∀ u ∈ news, u.oneCell' = true)
    (h63 : n + m ≤ maxLen) (hbytes : (n + m) * bytes ≤ 140737488355328) (hbase : base ≤ w.heap.size)
    (h : ∀ v' w', w'.ownsRow base e size v' (n + m) (xs ++ news) → w.grownBy w' v.ownBlock → (v'.ownBlock = v.ownBlock ∨ v'.ownBlock = some w.heap.size) → K (a.put o.dst v') w') : o.wp P a w K Q := by
  obtain ⟨v', w', hr, h2, h3, -, h5⟩ := run_append_own_at (P := P) w base t o.type e i z size bytes ht hi hz hsize hby hzs hsz v n xs hown ad m c news hl hnews h1 h63 hbytes hbase
  unfold Oper.wp
  simp [execOp, ho, resolve, invoke, builtin, hsv, hx, hr, Result.andThen]
  exact h v' w' h2 h3 h5

theorem cell_step {w w' : World} {b o : Nat} {u : Value} (h : w.cell? ⟨b, o, none⟩ = some u) (B : Below w.heap.size w w') : w'.cell? ⟨b, o, none⟩ = some u := (B.cell (p := ⟨b, o, none⟩) (lt_of_cell h)).trans h
def lenC (w : World) (g : Nat) : Nat := match w.cell? ⟨g, 0, none⟩ with
  | some (.slice _ n _) => n
  | _ => 0
theorem lenC_of {w : World} {g n c : Nat} {a : Option Addr} {t : TypeId} {b : Value} (h : Blk w g t [.slice a n c, b]) : lenC w g = n := by
  unfold lenC; rw [cell_of (i := 0) h rfl]
theorem ropen_any (g : Nat) (v : Value) (b : Bool) (w : World) (h : Blk w g 51 [v, .bool b]) :
    Calls Try.prog 23 #[ptrS g] w fun e w' => e = .returned (.tuple #[]) ∧ w.setCell ⟨g, 1, none⟩ (.bool false) = w' := by
  have c1 : w.cell? ⟨g, 1, none⟩ = some (.bool b) := h.cell 1
  have f1 := h.frozen 1
  clear h
  go_enter Try.func23, Try.ntmps23
  go_wp2
  go_end0
  exact ⟨rfl, rfl⟩

set_option maxRecDepth 100000 in
set_option maxHeartbeats 4000000 in
theorem rput_any (base g : Nat) (v vb : Value) (wait : List UInt8) (shut : Bool) (bs : List UInt8) (w : World) (hs : Str 51 w base g v wait shut) (hv : Row w vb (bs.map bV)) (hbg : base ≤ g) (hok : OkW wait) (hlen : bs.length ≤ 2000000000000) :
    Calls Try.prog 22 #[ptrS g, vb] w fun e w' => ∃ v' vo, e = .returned vo ∧ Str 51 w' base g v' (smRun ⟨wait, shut, []⟩ bs).wait (smRun ⟨wait, shut, []⟩ bs).shut ∧ Mss 33 (Ft g v') w' w.heap.size vo (smRun ⟨wait, shut, []⟩ bs).out ∧ Kp (Ft g v) w w' ∧ (∀ k, v'.ownBlock = some k → v.ownBlock = some k ∨ w.heap.size ≤ k) := by
  obtain ⟨ab, cb, rfl, -⟩ := id hv
  obtain ⟨-, k1, k2, -⟩ := hv.at
  unfold maxLen at k2
  simp only [List.length_map] at hv k1 ⊢
  have c0 := cell_of (i := 0) hs.blk rfl
  have c1 := cell_of (i := 1) hs.blk rfl
  have gl := hs.blk.lt
  cases shut
  · have hZ := hok.run [] bs
    rw [hZ]
    clear hZ
    generalize hZ : smRun ⟨[], false, []⟩ (wait ++ bs) = Z
    have HZ := hidden hZ
    have hwl := hok.len
    have hbl : (wait ++ bs).length ≤ 2000000000260 := by simp; omega
    have W0 : Below w.heap.size w (w.alloc (.cells #[] 5)) := (Below.refl _ _).alloc (Nat.le_refl _) _
    have O0 : (w.alloc (.cells #[] 5)).ownsRow w.heap.size 5 1 (.slice (some ⟨w.heap.size, 0, none⟩) 0 0) 0 [] :=
      ⟨rfl, .inr ⟨w.heap.size, 0, #[], rfl, Nat.le_refl _, heap_alloc_new w _, Nat.zero_le _, by unfold maxLen; omega, by simp, by simp⟩⟩
    have R0 := (Row.of_owns hs.own).below W0
    obtain ⟨av, cv, rfl⟩ := hs.slice
    have hbz : base ≤ w.heap.size := by omega
    have HS := hidden hs
    clear hs hZ
    go_enter Try.func22, Try.ntmps22
    go_wp2_with (at_builtin; refine wpList_app rfl (.tmp 17) (.tmp 21) 27 rfl w.heap.size 5 (.int .u8 0) 1 Try.underlying27 info_u8 rfl rfl O0 rfl R0 (one_bytes wait) (by simp [maxLen]; omega) (by simp; omega) (by simp) ?_)
    intro v2 w2 o2 hg2
    have B2 : Below w.heap.size w w2 := W0.grown hg2 (by simp) (fun k hk => (O0.lt k hk).1)
    clear R0 O0 W0 hg2
    replace o2 : w2.ownsRow w.heap.size 5 1 v2 wait.length (wait.map bV) := by simpa using o2
    have R2 := hv.below B2
    have S2 := B2.size
    go_wp2_with (at_builtin; refine wpList_app rfl (.tmp 22) (.tmp 23) 27 rfl w.heap.size 5 (.int .u8 0) 1 Try.underlying27 info_u8 rfl rfl o2 rfl R2 (one_bytes bs) (by simp [maxLen]; omega) (by simp; omega) (by omega) ?_)
    intro v3 w3 o3 hg3
    have B3 : Below w.heap.size w w3 := B2.grown hg3 (by omega) (fun k hk => (o2.lt k hk).1)
    replace o3 : w3.ownsRow w.heap.size 5 1 v3 (wait ++ bs).length ((wait ++ bs).map bV) := by simpa using o3
    have X3 := HS.out.blk.below B3 gl
    obtain ⟨a3, c3, rfl⟩ : ∃ a c, v3 = .slice a (wait ++ bs).length c := by
      obtain ⟨a, c, e, -⟩ := Row.of_owns o3
      exact ⟨a, c, by simpa using e⟩
    clear o2 R2 B2 hg3 S2 hv
    generalize wait ++ bs = B0 at *
    have d0 := cell_of (i := 0) X3 rfl
    have d1 := cell_of (i := 1) X3 rfl
    have f0 := X3.frozen
    have X4 := X3.set 0 (.slice a3 B0.length c3)
    rw [show ([Value.slice av wait.length cv, .bool false].set 0 (.slice a3 B0.length c3)) = [.slice a3 B0.length c3, .bool false] from rfl] at X4
    have KS : Kp (fun k => k = g) w3 (w3.setCell ⟨g, 0, none⟩ (.slice a3 B0.length c3)) := (Kp.refl (fun k => k = g) w3).set (p := ⟨g, 0, none⟩) (fun _ => rfl) _
    have O4 := owns_kp o3 KS (fun k hk e => by have := (owns_lt o3 hk).1; omega)
    have K4 : Kp (fun k => k = g) w (w3.setCell ⟨g, 0, none⟩ (.slice a3 B0.length c3)) := (Kp.of_below B3).then KS (fun _ _ h => h)
    have HL0 := hidden (fun k (h : (Value.slice a3 B0.length c3).ownBlock = some k) => (owns_lt o3 h).1)
    go_wp2
    clear X3 KS o3 B3 d0 d1 f0 c0 c1
    generalize w3.setCell ⟨g, 0, none⟩ (.slice a3 B0.length c3) = w4 at *
    go_loopw [5, 6, 7, 8, 9, 10, 11] (fun z5 _ _ _ _ _ _ wr => ∃ (B : List UInt8) (o : List Ms) (vc : Value), Hid (smRun ⟨[], false, o⟩ B = Z) ∧ o.length + B.length ≤ 2000000000260 ∧ Blk wr g 51 [vc, .bool false] ∧ wr.ownsRow w.heap.size 5 1 vc B.length (B.map bV) ∧ Mss 33 (Ft g vc) wr w.heap.size z5 o ∧ Kp (fun k => k = g) w wr) (fun _ _ _ _ _ _ _ wr => lenC wr g)
    case atStart => exact ⟨B0, [], _, HZ, by simpa using hbl, X4, O4, Mss.nil _ _ _ _, K4⟩
    case round =>
      clear X4 O4 K4 HL0
      obtain ⟨B, o, vc, HB, hol, X, O, M, K⟩ := hrel
      have LC : Hid (∀ n a c, vc = .slice a n c → lenC wr g = n) := fun n a c e => by subst e; exact lenC_of X
      have FIN : Hid (∀ (w' : World) (v' vo : Value) (S : Sm), S = Z → Blk w' g 51 [v', .bool S.shut] → w'.ownsRow w.heap.size 5 1 v' S.wait.length (S.wait.map bV) → Mss 33 (Ft g v') w' w.heap.size vo S.out → Kp (fun k => k = g) w w' → ∃ v' vo', Ending.returned vo = .returned vo' ∧ Str 51 w' base g v' Z.wait Z.shut ∧ Mss 33 (Ft g v') w' w.heap.size vo' Z.out ∧ Kp (Ft g (.slice av wait.length cv)) w w' ∧ (∀ k, v'.ownBlock = some k → (Value.slice av wait.length cv).ownBlock = some k ∨ w.heap.size ≤ k)) := fun w' v' vo S e h1 h2 h3 h4 => by
        subst e
        exact ⟨v', vo, rfl, ⟨h1, owns_from h2 hbz⟩, h3, h4.then (Kp.refl (fun _ => False) _) (fun _ _ h => h.elim) |>.then (Kp.refl (fun _ => False) _) (fun _ _ h => h.elim) |> fun h => ⟨h.os, h.tape, h.output, h.size, fun k hk hF => h.block k hk (fun e => hF (.inl e))⟩, fun k hk => .inr (owns_lt h2 hk).1⟩
      obtain ⟨aB, cB, rfl⟩ : ∃ a c, vc = .slice a B.length c := by
        obtain ⟨a, c, e, -⟩ := Row.of_owns O
        exact ⟨a, c, by simpa using e⟩
      have d0 := cell_of (i := 0) X rfl
      have d1 := cell_of (i := 1) X rfl
      have f0 := X.frozen
      have hcB : B.length ≤ cB ∧ cB ≤ 9223372036854775807 := by
        obtain ⟨-, g1, g2, -⟩ := (Row.of_owns O).at
        unfold maxLen at g2
        exact ⟨by simpa using g1, g2⟩
      obtain ⟨hcB1, hcB2⟩ := hcB
      by_cases h6 : 6 ≤ B.length
      · have h6' : (6 : Int) ≤ (B.length : Int) := by omega
        have RB := Row.of_owns O
        have C0 := hidden (rget_any _ B 0 wr (by decide) RB)
        have C2 := hidden (fun n => rget_any _ B 2 (wr.drewN n) (by decide) (RB.drewN n))
        have C4 := hidden (fun n => rget_any _ B 4 (wr.drewN n) (by decide) (RB.drewN n))
        have b1 := getN_nn B 4
        have b2 := getN_le B 4
        cases hsd : soundB B
        · have EZ := hidden ((run_bad o B h6 hsd).symm.trans HB.out)
          have hcase : (getN B 2 != 0) = true ∨ ((getN B 2 != 0) = false ∧ getN B 4 < 2) ∨ ((getN B 2 != 0) = false ∧ ¬ getN B 4 < 2 ∧ 254 < getN B 4) := by
            unfold soundB at hsd
            simp only [bne_iff_ne, ne_eq, bne_eq_false_iff_eq]
            simp at hsd
            omega
          generalize getN B 0 = id at *
          generalize getN B 2 = z at *
          generalize getN B 4 = n at *
          clear hsd HB
          have Y := (X.set 0 (.slice none 0 0)).set 1 (.bool true)
          rcases hcase with hz | ⟨hz, hn⟩ | ⟨hz, hn, hn2⟩
          all_goals
            go_wp2_with fail
            refine C0.out.mono ?_
            rintro e w5 ⟨rfl, n0, rfl⟩
            go_wp2_with fail
            refine (C2.out n0).mono ?_
            rintro e w5 ⟨rfl, n1, rfl⟩
            go_wp2_with fail
            refine (C4.out (n0 + n1)).mono ?_
            rintro e w5 ⟨rfl, n2, rfl⟩
            have KY : Kp (fun k => k = g) wr (((wr.drewN (n0 + n1 + n2)).setCell ⟨g, 0, none⟩ (.slice none 0 0)).setCell ⟨g, 1, none⟩ (.bool true)) :=
              (((Kp.refl (fun k => k = g) wr).ext (below_drewn0 _ _ _)).set (p := ⟨g, 0, none⟩) (fun _ => rfl) _).set (p := ⟨g, 1, none⟩) (fun _ => rfl) _
            have M4 := (M.kp KY (fun k h => .inl h)).off (N' := Ft g (.slice none 0 0)) (fun k _ h => h.elim .inl (fun h => by cases h))
            have Y2 := ((X.drewN (n0 + n1 + n2)).set 0 (.slice none 0 0)).set 1 (.bool true)
            go_wp2
            go_ret
            exact FIN.out _ _ _ ⟨[], true, o⟩ EZ.out Y2 (World.ownsRow_nil _ _ _ _) M4 (K.then KY (fun _ _ h => h))
        · obtain ⟨s1, s2, s3⟩ := sound_bounds hsd
          obtain ⟨n, hn⟩ : ∃ n : Nat, getN B 4 = (n : Int) := ⟨(getN B 4).toNat, by omega⟩
          have EP := hidden (fun h => (run_part o B hsd h).symm.trans HB.out)
          have EM := hidden (fun h => (run_msg o B n hsd hn h).symm.trans HB.out)
          have MO : Hid (6 + n ≤ B.length → msgOf (B.take (6 + n)) = ⟨getN B 0, ((B.getD 6 0).toNat : Int), (B.drop 7).take (n - 1)⟩) := by
            intro hle
            unfold msgOf
            rw [pre_get B (6 + n) 0 (by omega) (by omega), List.drop_take, show 6 + n - 7 = n - 1 by omega]
            congr 3
            rw [List.getD_eq_getElem?_getD, List.getElem?_take, if_pos (by omega), ← List.getD_eq_getElem?_getD]
          rw [s1] at C2
          rw [hn] at C4 EP s2 s3
          generalize getN B 0 = id at *
          clear s1 hn hsd HB b1 b2
          by_cases hp : B.length < 6 + n
          · have hp' : (B.length : Int) < 6 + (n : Int) := by omega
            have EZ := hidden (EP.out hp')
            go_wp2_with fail
            refine C0.out.mono ?_
            rintro e w5 ⟨rfl, n0, rfl⟩
            go_wp2_with fail
            refine (C2.out n0).mono ?_
            rintro e w5 ⟨rfl, n1, rfl⟩
            go_wp2_with fail
            refine (C4.out (n0 + n1)).mono ?_
            rintro e w5 ⟨rfl, n2, rfl⟩
            have D5 : Below wr.heap.size wr (wr.drewN (n0 + n1 + n2)) := below_drewn0 _ _ _
            go_wp2
            go_ret
            exact FIN.out _ _ _ ⟨B, false, o⟩ EZ.out (X.drewN _) (owns_below O D5) (M.ext D5) (K.ext D5)
          · have hp' : ¬ (B.length : Int) < 6 + (n : Int) := by omega
            obtain ⟨gB, rfl⟩ : ∃ gB, aB = some ⟨gB, 0, none⟩ := by
              rcases O.2 with ⟨h, -⟩ | ⟨gB, cap, cur, h, -⟩
              · simp only [Value.slice.injEq] at h; omega
              · simp only [Value.slice.injEq] at h; exact ⟨gB, h.1⟩
            have EZ := hidden (EM.out (by omega))
            rw [MO.out (by omega)] at EZ
            have hx6 := (B.getD 6 0).toNat_lt
            have c6 : wr.cell? ⟨gB, 6, none⟩ = some (bV (B.getD 6 0)) := by
              have := O.cellAt 6 (by omega)
              rw [this]
              simp [List.getD_eq_getElem?_getD, show 6 < B.length by omega]
            generalize B.getD 6 0 = x at *
            have hgB := (owns_lt O (k := gB) rfl)
            have hgn : gB ≠ g := by omega
            have HP : Hid (((B.drop 7).take (n - 1)).length = n - 1) := by show _ = _; simp; omega
            have HR : Hid (∀ w', w'.ownsRow w.heap.size 5 1 (.slice (some ⟨gB, 0, none⟩) B.length cB) B.length (B.map bV) → Row w' (.slice (some ⟨gB, 7, none⟩) (6 + n - 7) (cB - 7)) (((B.drop 7).take (n - 1)).map bV)) := fun w' h => by
              rw [show 6 + n - 7 = n - 1 by omega]
              have h1 := ((Row.of_owns h).from 7 (by omega)).take (n - 1) (by omega)
              rw [← List.map_drop, ← List.map_take] at h1
              simpa using h1
            have HD : Hid (∀ w', w'.ownsRow w.heap.size 5 1 (.slice (some ⟨gB, 0, none⟩) B.length cB) B.length (B.map bV) → ∃ ad, (if cB = 6 + n then some (⟨gB, 0, none⟩ : Addr) else some ⟨gB, 6 + n, none⟩) = ad ∧ Row w' (.slice ad (B.length - (6 + n)) (cB - (6 + n))) ((B.drop (6 + n)).map bV)) := fun w' h => by
              refine ⟨_, rfl, ?_⟩
              have h1 : RowO (fun _ => False) w' (.slice (some ⟨gB, 0, none⟩) B.length cB) (B.map bV) := ⟨Row.of_owns h, fun k hk => ⟨fun h => h, (owns_lt h hk).2⟩⟩
              have h2 := (h1.cut (6 + n) (by omega)).1
              rw [← List.map_drop] at h2
              simpa using h2
            have HDL : Hid ((B.drop (6 + n)).length = B.length - (6 + n)) := by show _ = _; simp
            generalize (B.drop 7).take (n - 1) = PD at *
            have w6n : IntKind.i64.wrap (6 + (n : Int)) = 6 + (n : Int) := by rw [IntKind.wrap_i64]; omega
            have t6n : (6 + (n : Int)).toNat = 6 + n := by omega
            have hn7 : (7 : Int) ≤ 6 + (n : Int) := by omega
            have hn8 : 6 + (n : Int) ≤ (cB : Int) := by omega
            have hn9 : 6 + n ≤ cB := by omega
            have hc7 : ¬ cB = 7 := by omega
            have hx7 : (6 : Int) < (B.length : Int) := by omega
            go_wp2_with fail
            refine C0.out.mono ?_
            rintro e w5 ⟨rfl, n0, rfl⟩
            go_wp2_with fail
            refine (C2.out n0).mono ?_
            rintro e w5 ⟨rfl, n1, rfl⟩
            go_wp2_with fail
            refine (C4.out (n0 + n1)).mono ?_
            rintro e w5 ⟨rfl, n2, rfl⟩
            go_wp2
            refine c_begin 22 rfl (by kernel_rfl) ?_
            have ED : Below wr.heap.size wr (wr.drewN (n0 + n1 + n2)).drew := (below_drewn0 _ _ _).drew
            replace X := X.below ED X.lt
            replace O := owns_below O ED
            replace M := M.ext ED
            replace K := K.ext ED
            replace c6 := (ED.cell (p := ⟨gB, 6, none⟩) hgB.2).trans c6
            replace hgB := owns_lt O (k := gB) rfl
            clear ED d0 d1 f0 C0 C2 C4 RB FIN
            generalize (wr.drewN (n0 + n1 + n2)).drew = c0 at *
            have d0 := cell_of (i := 0) X rfl
            have c60 := c6
            have K0 := K
            refine c_pure trivial (by kernel_rfl) (fun _ _ _ d _ h => by cases d <;> exact h) 0 rfl (by kernel_rfl) (by kernel_rfl) (fun w' => by go_simp; with_reducible rfl) ?_; try simp only [Act.put, List.setIfInBounds_toArray, List.set_cons_zero, List.set_cons_succ]
            refine c_pure trivial (by kernel_rfl) (fun _ _ _ d _ h => by cases d <;> exact h) 1 rfl (by kernel_rfl) (by kernel_rfl) (fun w' => by go_simp; with_reducible rfl) ?_; try simp only [Act.put, List.setIfInBounds_toArray, List.set_cons_zero, List.set_cons_succ]
            refine c_pure trivial (by kernel_rfl) (fun _ _ _ d _ h => by cases d <;> exact h) 2 rfl (by kernel_rfl) (by kernel_rfl) (fun w' => by go_simp; with_reducible rfl) ?_; try simp only [Act.put, List.setIfInBounds_toArray, List.set_cons_zero, List.set_cons_succ]
            refine c_pure trivial (by kernel_rfl) (fun _ _ _ d _ h => by cases d <;> exact h) 3 rfl (by kernel_rfl) (by kernel_rfl) (fun w' => by go_simp; with_reducible rfl) ?_; try simp only [Act.put, List.setIfInBounds_toArray, List.set_cons_zero, List.set_cons_succ]
            refine c_pure trivial (by kernel_rfl) (fun _ _ _ d _ h => by cases d <;> exact h) 4 rfl (by kernel_rfl) (by kernel_rfl) (fun w' => by go_simp; with_reducible rfl) ?_; try simp only [Act.put, List.setIfInBounds_toArray, List.set_cons_zero, List.set_cons_succ]
            refine c_pure trivial (by kernel_rfl) (fun _ _ _ d _ h => by cases d <;> exact h) 10 rfl (by kernel_rfl) (by kernel_rfl) (fun w' => by go_simp; with_reducible rfl) ?_; try simp only [Act.put, List.setIfInBounds_toArray, List.set_cons_zero, List.set_cons_succ]
            refine c_pure trivial (by kernel_rfl) (fun _ _ _ d _ h => by cases d <;> exact h) 11 rfl (by kernel_rfl) (by kernel_rfl) (fun w' => by go_simp; with_reducible rfl) ?_; try simp only [Act.put, List.setIfInBounds_toArray, List.set_cons_zero, List.set_cons_succ]
            refine c_pure trivial (by kernel_rfl) (fun _ _ _ d _ h => by cases d <;> exact h) 12 rfl (by kernel_rfl) (by kernel_rfl) (fun w' => by go_simp; with_reducible rfl) ?_; try simp only [Act.put, List.setIfInBounds_toArray, List.set_cons_zero, List.set_cons_succ]
            refine c_pure trivial (by kernel_rfl) (fun _ _ _ d _ h => by cases d <;> exact h) 14 rfl (by kernel_rfl) (by kernel_rfl) (fun w' => by go_simp; with_reducible rfl) ?_; try simp only [Act.put, List.setIfInBounds_toArray, List.set_cons_zero, List.set_cons_succ]
            refine c_pure trivial (by kernel_rfl) (fun _ _ _ d _ h => by cases d <;> exact h) 15 rfl (by kernel_rfl) (by kernel_rfl) (fun w' => by go_simp; with_reducible rfl) ?_; try simp only [Act.put, List.setIfInBounds_toArray, List.set_cons_zero, List.set_cons_succ]
            refine c_read (fun w' => w'.cell? ⟨g, 0, none⟩ = some (.slice (some ⟨gB, 0, none⟩) B.length cB)) d0 trivial (by kernel_rfl) (fun _ _ _ d _ h => by cases d <;> exact h) 5 rfl (by kernel_rfl) (by kernel_rfl) (fun w' hx => by go_simp; with_reducible rfl) ?_; try simp only [Act.put, List.setIfInBounds_toArray, List.set_cons_zero, List.set_cons_succ]
            refine c_pure ⟨d0, trivial⟩ (by kernel_rfl) (fun _ _ _ d _ h => by cases d <;> exact h) 6 rfl (by kernel_rfl) (by kernel_rfl) (fun w' => by go_simp; with_reducible rfl) ?_; try simp only [Act.put, List.setIfInBounds_toArray, List.set_cons_zero, List.set_cons_succ]
            refine c_read (fun w' => w'.cell? ⟨gB, 6, none⟩ = some (bV x)) c6 ⟨d0, trivial⟩ (by kernel_rfl) (fun _ _ _ d _ h => by cases d <;> exact h) 7 rfl (by kernel_rfl) (by kernel_rfl) (fun w' hx => by go_simp; with_reducible rfl) ?_; try simp only [Act.put, List.setIfInBounds_toArray, List.set_cons_zero, List.set_cons_succ]
            refine c_pure ⟨c6, d0, trivial⟩ (by kernel_rfl) (fun _ _ _ d _ h => by cases d <;> exact h) 8 rfl (by kernel_rfl) (by kernel_rfl) (fun w' => by go_simp; with_reducible rfl) ?_; try simp only [Act.put, List.setIfInBounds_toArray, List.set_cons_zero, List.set_cons_succ]
            refine c_read (fun w' => w'.cell? ⟨g, 0, none⟩ = some (.slice (some ⟨gB, 0, none⟩) B.length cB)) d0 ⟨c6, d0, trivial⟩ (by kernel_rfl) (fun _ _ _ d _ h => by cases d <;> exact h) 13 rfl (by kernel_rfl) (by kernel_rfl) (fun w' hx => by go_simp; with_reducible rfl) ?_; try simp only [Act.put, List.setIfInBounds_toArray, List.set_cons_zero, List.set_cons_succ]
            refine c_pure ⟨d0, c6, d0, trivial⟩ (by kernel_rfl) (fun _ _ _ d _ h => by cases d <;> exact h) 16 rfl (by kernel_rfl) (by kernel_rfl) (fun w' => by go_simp; with_reducible rfl) ?_; try simp only [Act.put, List.setIfInBounds_toArray, List.set_cons_zero, List.set_cons_succ]
            refine c_move 9 (by kernel_rfl) (c_op 9 [(13, (fun w' => w'.cell? ⟨g, 0, none⟩ = some (.slice (some ⟨gB, 0, none⟩) B.length cB))), (7, (fun w' => w'.cell? ⟨gB, 6, none⟩ = some (bV x))), (5, (fun w' => w'.cell? ⟨g, 0, none⟩ = some (.slice (some ⟨gB, 0, none⟩) B.length cB)))] (by kernel_rfl) rfl (by kernel_rfl) (fun K1 hK => ?_))
            have N9 : Below c0.heap.size c0 (c0.alloc (.cells #[] 5)) := (Below.refl _ _).alloc (Nat.le_refl _) _
            have O0 : (c0.alloc (.cells #[] 5)).ownsRow c0.heap.size 5 1 (.slice (some ⟨c0.heap.size, 0, none⟩) 0 0) 0 [] :=
              ⟨rfl, .inr ⟨c0.heap.size, 0, #[], rfl, Nat.le_refl _, heap_alloc_new c0 _, Nat.zero_le _, by unfold maxLen; omega, by simp, by simp⟩⟩
            replace d0 := cell_step d0 N9
            replace c6 := cell_step c6 N9
            go_simp
            refine hK.out _ _ ⟨d0, c6, d0, trivial⟩ ?_
            clear K1 hK
            try simp only [Act.put, List.setIfInBounds_toArray, List.set_cons_zero, List.set_cons_succ]
            have RQ := HR.out _ (owns_below O N9)
            refine c_move 17 (by kernel_rfl) (c_op 17 [(13, (fun w' => w'.cell? ⟨g, 0, none⟩ = some (.slice (some ⟨gB, 0, none⟩) B.length cB))), (7, (fun w' => w'.cell? ⟨gB, 6, none⟩ = some (bV x))), (5, (fun w' => w'.cell? ⟨g, 0, none⟩ = some (.slice (some ⟨gB, 0, none⟩) B.length cB)))] (by kernel_rfl) rfl (by kernel_rfl) (fun K1 hK => ?_))
            refine wp_app (.tmp 92) (.tmp 99) 27 rfl c0.heap.size 5 (.int .u8 0) 1 Try.underlying27 info_u8 rfl rfl O0 rfl RQ (one_bytes PD) (by have := HP.out; simp [maxLen]; omega) (by have := HP.out; simp; omega) (by simp) ?_
            intro v6 c2 o6 hg6
            have E2 : Below c0.heap.size c0 c2 := N9.grown hg6 (by simp) (fun k hk => (O0.lt k hk).1)
            replace d0 := cell_of (i := 0) (X.below E2 X.lt) rfl
            replace c6 : c2.cell? ⟨gB, 6, none⟩ = some (bV x) := (E2.cell (p := ⟨gB, 6, none⟩) hgB.2).trans c60
            refine hK.out _ _ ⟨d0, c6, d0, trivial⟩ ?_
            clear K1 hK
            try simp only [Act.put, List.setIfInBounds_toArray, List.set_cons_zero, List.set_cons_succ]
            replace o6 : c2.ownsRow c0.heap.size 5 1 v6 PD.length (PD.map bV) := by simpa using o6
            obtain ⟨a6, c6', rfl⟩ : ∃ a c, v6 = .slice a (n - 1) c := by
              obtain ⟨a, c, e, -⟩ := Row.of_owns o6
              exact ⟨a, c, by rw [e]; simp [HP.out]⟩
            replace X := X.below E2 X.lt
            replace O := owns_below O E2
            replace M := M.ext E2
            replace K := K.ext E2
            have S2 := E2.size
            have hgl := X.lt
            clear N9 O0 RQ hg6
            refine c_pure ⟨d0, c6, d0, trivial⟩ (by kernel_rfl) (fun _ _ _ d _ h => by cases d <;> exact h) 18 rfl (by kernel_rfl) (by kernel_rfl) (fun w' => by go_simp; with_reducible rfl) ?_; try simp only [Act.put, List.setIfInBounds_toArray, List.set_cons_zero, List.set_cons_succ]
            refine c_move 19 (by kernel_rfl) (c_op 19 [(13, (fun w' => w'.cell? ⟨g, 0, none⟩ = some (.slice (some ⟨gB, 0, none⟩) B.length cB))), (7, (fun w' => w'.cell? ⟨gB, 6, none⟩ = some (bV x))), (5, (fun w' => w'.cell? ⟨g, 0, none⟩ = some (.slice (some ⟨gB, 0, none⟩) B.length cB)))] (by kernel_rfl) rfl (by kernel_rfl) (fun K1 hK => ?_))
            have N19 : Below c2.heap.size c2 (c2.alloc (.cells #[.int .i64 id, .int .i64 (x.toNat : Int), .slice a6 (n - 1) c6'] 33)) := (Below.refl _ _).alloc (Nat.le_refl _) _
            have BM := Blk.new c2 33 [.int .i64 id, .int .i64 (x.toNat : Int), .slice a6 (n - 1) c6']
            have wx : IntKind.i64.wrap (x.toNat : Int) = (x.toNat : Int) := by rw [IntKind.wrap_i64]; omega
            replace d0 := cell_step d0 N19
            replace c6 := cell_step c6 N19
            go_simp
            refine hK.out _ _ ⟨d0, c6, d0, trivial⟩ ?_
            clear K1 hK
            try simp only [Act.put, List.setIfInBounds_toArray, List.set_cons_zero, List.set_cons_succ]
            obtain ⟨us, hul2, hov, hof, hpd⟩ := M.ext N19
            have HPd := hidden hpd
            clear hpd
            obtain ⟨ii, hii, hiz, his, hib⟩ := info_parts info_rmsg
            replace X := X.below N19 X.lt
            replace O := owns_below O N19
            replace K := K.ext N19
            replace o6 := owns_below o6 N19
            have S3 := N19.size
            refine c_move 20 (by kernel_rfl) (c_op 20 [(13, (fun w' => w'.cell? ⟨g, 0, none⟩ = some (.slice (some ⟨gB, 0, none⟩) B.length cB))), (7, (fun w' => w'.cell? ⟨gB, 6, none⟩ = some (bV x))), (5, (fun w' => w'.cell? ⟨g, 0, none⟩ = some (.slice (some ⟨gB, 0, none⟩) B.length cB)))] (by kernel_rfl) rfl (by kernel_rfl) (fun K1 hK => ?_))
            refine wp_app_at (.tmp 83) (.tmp 102) 53 rfl w.heap.size 33 ii _ 3 40 Try.underlying53 hii hiz his hib rfl (by decide) _ o.length _ rfl hov ⟨c2.heap.size, 0, none⟩ 1 1 [.int .i64 id, .int .i64 (x.toNat : Int), .slice a6 (n - 1) c6'] rfl rfl ?p1 ?p2 ?p3 ?p4 ?p5 ?p6
            case p1 =>
              intro j y hj
              have : (⟨c2.heap.size, 0, none⟩ : Addr).add j = ⟨c2.heap.size, j, none⟩ := by unfold Addr.add; split <;> simp_all
              rw [this, BM.cell j, hj]
            case p2 => intro y hy; simp at hy; rcases hy with rfl | rfl | rfl <;> rfl
            case p3 => unfold maxLen; omega
            case p4 => omega
            case p5 => simp; omega
            case p6 =>
              intro v7 c4 o7 hg7 hat7
              have Q7 : Kp (fun k => u5.ownBlock = some k) (c2.alloc (.cells #[.int .i64 id, .int .i64 (x.toNat : Int), .slice a6 (n - 1) c6'] 33)) c4 := (Kp.refl _ _).grown hg7 (fun k _ h => h)
              have X7 := X.kp Q7 (fun h => hof g h (.inl rfl))
              have O7 := owns_kp O Q7 (fun k hk h => hof k h (.inr hk))
              have K7 := K.then Q7 (fun k h1 h2 => absurd (owns_lt hov h2).1 (by omega))
              have M7 : Mss 33 (Ft g (.slice (some ⟨gB, 0, none⟩) B.length cB)) c4 w.heap.size v7 (o ++ [⟨id, (x.toNat : Int), PD⟩]) := by
                have hz0 : w.heap.size ≤ c0.heap.size := K0.size
                refine Mss.push (by decide) hul2 hov hof HPd.out (owns_from o6 hz0) (fun k hk h => ?_) o7 rfl hg7 (fun k hk h => ?_)
                · have h1 := (owns_lt o6 hk).1
                  rcases h with h | h
                  · omega
                  · have h2 := hgB.2; simp [Value.ownBlock] at h; omega
                · rcases hat7 with h7 | h7
                  · exact hof k (h7 ▸ hk) h
                  · rw [h7] at hk
                    simp at hk
                    rcases h with h | h
                    · omega
                    · have h2 := hgB.2; simp [Value.ownBlock] at h; omega
              replace d0 := cell_of (i := 0) X7 rfl
              replace c6 : c4.cell? ⟨gB, 6, none⟩ = some (bV x) := (World.cell?_of_block (a := ⟨gB, 6, none⟩) (Q7.block gB (by simp; omega) (fun h => hof gB h (.inr rfl)))).trans c6
              refine hK.out _ _ ⟨d0, c6, d0, trivial⟩ ?_
              clear K1 hK
              try simp only [Act.put, List.setIfInBounds_toArray, List.set_cons_zero, List.set_cons_succ]
              obtain ⟨a7, c7, rfl⟩ : ∃ a c, v7 = .slice a (o.length + 1) c := by
                rcases o7.2 with ⟨_, h⟩ | ⟨g', cap', cur', h, -⟩
                · omega
                · exact ⟨_, _, h⟩
              refine c_pure ⟨d0, c6, d0, trivial⟩ (by kernel_rfl) (fun _ _ _ d _ h => by cases d <;> exact h) 21 rfl (by kernel_rfl) (by kernel_rfl) (fun w' => by go_simp; with_reducible rfl) ?_; try simp only [Act.put, List.setIfInBounds_toArray, List.set_cons_zero, List.set_cons_succ]
              refine c_done (by kernel_rfl) ?_
              obtain ⟨ad, had, RD⟩ := HD.out _ O7
              have NA : Below c4.heap.size c4 (c4.alloc (.cells #[] 5)) := (Below.refl _ _).alloc (Nat.le_refl _) _
              have O8 : (c4.alloc (.cells #[] 5)).ownsRow c4.heap.size 5 1 (.slice (some ⟨c4.heap.size, 0, none⟩) 0 0) 0 [] :=
                ⟨rfl, .inr ⟨c4.heap.size, 0, #[], rfl, Nat.le_refl _, heap_alloc_new c4 _, Nat.zero_le _, by unfold maxLen; omega, by simp, by simp⟩⟩
              replace RD := RD.below NA
              have hg4 := X7.lt
              have hK7 := K7.size
              have hB7 := (owns_lt O7 (k := gB) rfl).2
              clear HR HD EM EP d0 c6 c60 hat7 hg7 o7 hov hof Q7 BM N19 o6 X O K M HPd
              have d0 := cell_of (i := 0) X7 rfl
              have HDD := HDL
              generalize B.drop (6 + n) = B1 at *
              go_wp2_with (at_builtin; refine wpList_app rfl (.tmp 105) (.tmp 112) 27 rfl c4.heap.size 5 (.int .u8 0) 1 Try.underlying27 info_u8 rfl rfl O8 rfl RD (one_bytes B1) (by have := HDL.out; simp [maxLen]; omega) (by have := HDL.out; simp; omega) (by simp) ?_)
              intro v9 c9 o9 hg9
              have E9 : Below c4.heap.size c4 c9 := NA.grown hg9 (by simp) (fun k hk => (O8.lt k hk).1)
              replace o9 : c9.ownsRow c4.heap.size 5 1 v9 B1.length (B1.map bV) := by simpa using o9
              obtain ⟨a9, c9', rfl⟩ : ∃ a c, v9 = .slice a B1.length c := by
                obtain ⟨a, c, e, -⟩ := Row.of_owns o9
                exact ⟨a, c, by simpa using e⟩
              have X9 := X7.below E9 X7.lt
              have M9 := M7.ext E9
              have K9 := K7.ext E9
              have KS : Kp (fun k => k = g) c9 (c9.setCell ⟨g, 0, none⟩ (.slice a9 B1.length c9')) := (Kp.refl (fun k => k = g) c9).set (p := ⟨g, 0, none⟩) (fun _ => rfl) _
              have XA := X9.set 0 (.slice a9 B1.length c9')
              rw [show ([Value.slice (some ⟨gB, 0, none⟩) B.length cB, .bool false].set 0 (.slice a9 B1.length c9')) = [.slice a9 B1.length c9', .bool false] from rfl] at XA
              have hS9 := E9.size
              have OA := owns_from (owns_kp o9 KS (fun k hk e => by have := (owns_lt o9 hk).1; omega)) (base' := w.heap.size) (by omega)
              have MA := ((M9.kp KS (fun k h => .inl h)).off (N' := fun k => k = g) (fun k _ h => .inl h))
              have MB : Mss 33 (Ft g (.slice a9 B1.length c9')) (c9.setCell ⟨g, 0, none⟩ (.slice a9 B1.length c9')) w.heap.size (.slice a7 (o.length + 1) c7) (o ++ [⟨id, (x.toNat : Int), PD⟩]) := by
                have h1 := M7.off (N' := fun k => k = g ∨ c4.heap.size ≤ k) (fun k hk h => h.elim .inl (fun h => absurd hk (by omega)))
                have h2 := (h1.ext E9).kp KS (fun k h => .inl h)
                exact h2.off (fun k _ h => h.elim .inl (fun h => .inr ((owns_lt o9 h).1)))
              have KA := K9.then KS (fun _ _ h => h)
              have LA := lenC_of XA
              have f9 := X9.frozen
              replace d0 := cell_of (i := 0) X9 rfl
              have hfl := hidden (show (o ++ [(⟨id, (x.toNat : Int), PD⟩ : Ms)]).length + B1.length ≤ 2000000000260 by have := HDL.out; simp; omega)
              clear X7 O7 K7 M7 E9 O8 NA RD hg9 K9 M9 o9 MA had
              go_wp2
              go_roundw
              case rel => exact ⟨B1, _, _, EZ, hfl.out, XA, OA, MB, KA⟩
              case measure =>
                have h1 := LC.out _ _ _ rfl
                have h2 := HDL.out
                rw [LA, h1]; omega
      · have h6' : ¬ (6 : Int) ≤ (B.length : Int) := by omega
        have EZ := hidden ((run_short o B (by omega)).symm.trans HB.out)
        go_wp2
        go_ret
        exact FIN.out _ _ _ ⟨B, false, o⟩ EZ.out X O M K
  · rw [smRun_shut _ rfl]
    go_enter Try.func22, Try.ntmps22
    go_wp2
    go_ret
    exact ⟨v, _, rfl, hs, Mss.nil _ _ _ _, Kp.refl _ _, fun k h => .inl h⟩

end Go.Proofs.Ytejcigeccmfeeaa

namespace Go.Proofs.Ytejcigeccmfeeaa
open Go.RowKit

set_option maxHeartbeats 1000000 in
theorem r5bytes_any (i u : Int) (vp : Value) (p : List UInt8) (w : World) (hi : -9223372036854775808 ≤ i ∧ i ≤ 9223372036854775807) (hv : Row w vp (p.map bV)) :
    Calls Try.prog 11 #[.agg #[.int .i64 i, .int .i64 u, vp]] w fun e w' => ∃ v', e = .returned v' ∧ w'.ownsRow w.heap.size 5 1 v' (mbytesL i u p).length ((mbytesL i u p).map bV) ∧ Below w.heap.size w w' := by
  obtain ⟨a, cap, rfl, -⟩ := id hv
  obtain ⟨-, h2, h3, -⟩ := hv.at
  unfold maxLen at h3
  simp only [List.length_map] at hv h2 ⊢
  have W0 : Hid (∀ o, Below w.heap.size w (w.alloc o)) := fun o => (Below.refl w.heap.size w).alloc (Nat.le_refl _) o
  by_cases h1 : p.length < 1
  · have e : mbytesL i u p = [] := by simp [mbytesL, h1]
    rw [e]
    have t1 : (p.length : Int) < 1 := by omega
    go_enter Try.func11, Try.ntmps11
    go_wp2
    go_ret
    exact ⟨_, rfl, World.ownsRow_nil _ _ _ _, W0.out _⟩
  · have t1 : ¬ (p.length : Int) < 1 := by omega
    by_cases h4 : 253 < p.length
    · have e : mbytesL i u p = [] := by simp [mbytesL, h4]
      rw [e]
      have t2 : (253 : Int) < (p.length : Int) := by omega
      go_enter Try.func11, Try.ntmps11
      go_wp2
      go_ret
      exact ⟨_, rfl, World.ownsRow_nil _ _ _ _, W0.out _⟩
    · have e : mbytesL i u p = msgL i u p := by unfold mbytesL; rw [if_neg (by omega)]
      have EL := hidden (msgL_len i u p)
      rw [e]
      have t2 : ¬ (253 : Int) < (p.length : Int) := by omega
      have EF : Hid ((([] ++ [hiB (wOf i), loB (wOf i)] ++ [hiB (wOf 0), loB (wOf 0)] ++ [hiB (wOf ((p.length : Int) + 1)), loB (wOf ((p.length : Int) + 1))]) ++ [bOf u]) ++ p = msgL i u p) := by
        show _ = _
        have e0 : hiB (wOf 0) = 0 := rfl
        have e1 : loB (wOf 0) = 0 := rfl
        rw [Int.add_comm (p.length : Int) 1]
        simp [msgL, e0, e1]
      have EB := hidden (bOf_V u)
      clear e h1 h4
      generalize msgL i u p = MM at *
      go_enter Try.func11, Try.ntmps11
      go_wp2_with fail
      refine (rput_own _ [] i _ hi (Row.nil _) (by simp)).mono ?_
      rintro e w1 ⟨v1, rfl, r1, B1⟩
      have X1 := (Blk.new w 33 [.int .i64 i, .int .i64 u, .slice a p.length cap]).below B1 (by simp)
      replace B1 := below_then (W0.out _) B1
      go_wp2_with fail
      refine (rput_own _ _ 0 _ (by decide) (Row.of_owns r1) (by simp)).mono ?_
      rintro e w2 ⟨v2, rfl, r2, B2⟩
      replace X1 := X1.below B2 X1.lt
      replace B1 := below_then B1 B2
      clear B2 r1
      have h52 := X1.lt
      go_wp2_with fail
      refine (rput_own _ _ ((p.length : Int) + 1) _ (by omega) (Row.of_owns r2) (by simp)).mono ?_
      rintro e w3 ⟨v3, rfl, r3, B3⟩
      replace X1 := X1.below B3 X1.lt
      replace r3 := owns_from r3 (base' := w.heap.size + 1) (by omega)
      replace B1 := below_then B1 B3
      clear B3 r2
      generalize [] ++ [hiB (wOf i), loB (wOf i)] ++ [hiB (wOf 0), loB (wOf 0)] ++ [hiB (wOf ((p.length : Int) + 1)), loB (wOf ((p.length : Int) + 1))] = q at *
      replace r3 : w3.ownsRow (w.heap.size + 1) 5 1 v3 6 (q.map bV) := r3
      go_wp2
      refine c_begin 10 rfl (by kernel_rfl) ?_
      have ED := (Below.refl w3.heap.size w3).drew
      replace X1 := X1.below ED X1.lt
      replace r3 := owns_below r3 ED
      replace B1 := below_then B1 ED
      clear ED
      generalize w3.drew = c0 at *
      have d1 := cell_of (i := 1) X1 rfl
      have d2 := cell_of (i := 2) X1 rfl
      have wu : IntKind.u8.wrap u = u % 256 := by rw [IntKind.wrap_u8]
      refine c_pure trivial (by kernel_rfl) (fun _ _ _ d _ h => by cases d <;> exact h) 0 rfl (by kernel_rfl) (by kernel_rfl) (fun w' => by go_simp; with_reducible rfl) ?_; try simp only [Act.put, List.setIfInBounds_toArray, List.set_cons_zero, List.set_cons_succ]
      refine c_pure trivial (by kernel_rfl) (fun _ _ _ d _ h => by cases d <;> exact h) 1 rfl (by kernel_rfl) (by kernel_rfl) (fun w' => by go_simp; with_reducible rfl) ?_; try simp only [Act.put, List.setIfInBounds_toArray, List.set_cons_zero, List.set_cons_succ]
      refine c_pure trivial (by kernel_rfl) (fun _ _ _ d _ h => by cases d <;> exact h) 6 rfl (by kernel_rfl) (by kernel_rfl) (fun w' => by go_simp; with_reducible rfl) ?_; try simp only [Act.put, List.setIfInBounds_toArray, List.set_cons_zero, List.set_cons_succ]
      refine c_read (fun w' => w'.cell? ⟨w.heap.size, 1, none⟩ = some (.int .i64 u)) d1 trivial (by kernel_rfl) (fun _ _ _ d _ h => by cases d <;> exact h) 2 rfl (by kernel_rfl) (by kernel_rfl) (fun w' hx => by go_simp; with_reducible rfl) ?_; try simp only [Act.put, List.setIfInBounds_toArray, List.set_cons_zero, List.set_cons_succ]
      refine c_pure ⟨d1, trivial⟩ (by kernel_rfl) (fun _ _ _ d _ h => by cases d <;> exact h) 3 rfl (by kernel_rfl) (by kernel_rfl) (fun w' => by go_simp; with_reducible rfl) ?_; try simp only [Act.put, List.setIfInBounds_toArray, List.set_cons_zero, List.set_cons_succ]
      refine c_read (fun w' => w'.cell? ⟨w.heap.size, 2, none⟩ = some (.slice a p.length cap)) d2 ⟨d1, trivial⟩ (by kernel_rfl) (fun _ _ _ d _ h => by cases d <;> exact h) 7 rfl (by kernel_rfl) (by kernel_rfl) (fun w' hx => by go_simp; with_reducible rfl) ?_; try simp only [Act.put, List.setIfInBounds_toArray, List.set_cons_zero, List.set_cons_succ]
      refine c_move 4 (by kernel_rfl) (c_op 4 [(7, (fun w' => w'.cell? ⟨w.heap.size, 2, none⟩ = some (.slice a p.length cap))), (2, (fun w' => w'.cell? ⟨w.heap.size, 1, none⟩ = some (.int .i64 u)))] (by kernel_rfl) rfl (by kernel_rfl) (fun K hK => ?_))
      have N4 : Below c0.heap.size c0 (c0.alloc (.cells #[.int .u8 (u % 256)] 5)) := (Below.refl _ _).alloc (Nat.le_refl _) _
      replace d1 := cell_step d1 N4
      replace d2 := cell_step d2 N4
      go_simp
      refine hK.out _ _ ⟨d2, d1, trivial⟩ ?_
      clear K hK
      try simp only [Act.put, List.setIfInBounds_toArray, List.set_cons_zero, List.set_cons_succ]
      have R4 := row_new c0 [.int .u8 (u % 256)] 5 1 rfl (by decide)
      replace X1 := X1.below N4 X1.lt
      replace r3 := owns_below r3 N4
      replace B1 := below_then B1 N4
      clear N4
      generalize c0.alloc (.cells #[.int .u8 (u % 256)] 5) = c1 at *
      have z1 := X1.lt
      refine c_move 5 (by kernel_rfl) (c_op 5 [(7, (fun w' => w'.cell? ⟨w.heap.size, 2, none⟩ = some (.slice a p.length cap))), (2, (fun w' => w'.cell? ⟨w.heap.size, 1, none⟩ = some (.int .i64 u)))] (by kernel_rfl) rfl (by kernel_rfl) (fun K hK => ?_))
      refine wp_app (.tmp 21) (.tmp 25) 27 rfl (w.heap.size + 1) 5 (.int .u8 0) 1 Try.underlying27 info_u8 rfl rfl r3 rfl R4 (by intro y hy; simp at hy; subst hy; rfl) (by simp [maxLen]) (by simp) (by omega) ?_
      intro v5 c2 o5 hg5
      have K5 : Kp (fun k => w.heap.size + 1 ≤ k) c1 c2 := (Kp.refl _ _).grown hg5 (fun k _ h => (r3.lt k h).1)
      replace X1 := X1.kp K5 (by omega)
      replace B1 := B1.trans (K5.below w.heap.size (by omega) (fun k h => by omega))
      replace d1 := cell_of (i := 1) X1 rfl
      replace d2 := cell_of (i := 2) X1 rfl
      refine hK.out _ _ ⟨d2, d1, trivial⟩ ?_
      clear K hK R4
      try simp only [Act.put, List.setIfInBounds_toArray, List.set_cons_zero, List.set_cons_succ]
      have Rv := hv.below B1
      have z2 := X1.lt
      replace o5 : c2.ownsRow (w.heap.size + 1) 5 1 v5 7 ((q ++ [bOf u]).map bV) := by
        rw [List.map_append, List.map_cons, List.map_nil, ← EB.out]
        exact o5
      refine c_move 8 (by kernel_rfl) (c_op 8 [(2, (fun w' => w'.cell? ⟨w.heap.size, 1, none⟩ = some (.int .i64 u)))] (by kernel_rfl) rfl (by kernel_rfl) (fun K hK => ?_))
      refine wp_app (.tmp 26) (.tmp 28) 27 rfl (w.heap.size + 1) 5 (.int .u8 0) 1 Try.underlying27 info_u8 rfl rfl o5 rfl Rv (one_bytes p) (by simp [maxLen]; omega) (by simp; omega) (by omega) ?_
      intro v6 c3 o6 hg6
      have K6 : Kp (fun k => w.heap.size + 1 ≤ k) c2 c3 := (Kp.refl _ _).grown hg6 (fun k _ h => (o5.lt k h).1)
      replace X1 := X1.kp K6 (by omega)
      replace B1 := B1.trans (K6.below w.heap.size (by omega) (fun k h => by omega))
      replace d1 := cell_of (i := 1) X1 rfl
      replace d2 := cell_of (i := 2) X1 rfl
      refine hK.out _ _ ⟨d1, trivial⟩ ?_
      clear K hK Rv
      try simp only [Act.put, List.setIfInBounds_toArray, List.set_cons_zero, List.set_cons_succ]
      have O7 : c3.ownsRow w.heap.size 5 1 v6 MM.length (MM.map bV) := by
        have h := owns_from o6 (base' := w.heap.size) (by omega)
        rw [← List.map_append, EF.out] at h
        have e : 7 + (p.map bV).length = MM.length := by rw [EL.out, List.length_map]; omega
        rw [e] at h
        exact h
      refine c_pure ⟨d1, trivial⟩ (by kernel_rfl) (fun _ _ _ d _ h => by cases d <;> exact h) 9 rfl (by kernel_rfl) (by kernel_rfl) (fun w' => by go_simp; with_reducible rfl) ?_; try simp only [Act.put, List.setIfInBounds_toArray, List.set_cons_zero, List.set_cons_succ]
      refine c_done (by kernel_rfl) ?_
      clear d1 d2 X1
      go_wp2
      go_ret
      exact ⟨_, rfl, O7, B1⟩
set_option maxHeartbeats 1000000 in
theorem msgs_any (va vb : Value) (ms : List Ms) (N N2 : Nat → Prop) (b1 b2 : Nat) (w : World) (hA : Mss 30 N w b1 va ms) (hB : Mss 33 N2 w b2 vb ms) (hl : ms.length ≤ 1000000000000000) :
    Calls Try.prog 21 #[va, vb] w fun e w' => e = .returned (.bool true) ∧ ∃ nq, w' = w.drewN nq := by
  obtain ⟨a7, c7, rfl, hg⟩ := hA.at
  obtain ⟨a8, c8, rfl, hw⟩ := hB.at
  have HG := hidden hg
  have HW := hidden hw
  clear hg hw hA hB
  have HJ : Hid (∀ j, j < ms.length → ∃ m, ms[j]? = some m) := fun j h => ⟨ms[j], by simp⟩
  generalize ms.length = lw at *
  go_enter Try.func21, Try.ntmps21
  go_wp2
  go_loopw [13, 5] (fun z _ wr => ∃ j n : Nat, j ≤ lw ∧ z = .int .i64 (j : Int) ∧ wr = w.drewN n) (fun i _ _ => lw - (intOf i).toNat)
  case atStart => exact ⟨0, 0, Nat.zero_le _, rfl, rfl⟩
  case round =>
    obtain ⟨j, n, hj, rfl, rfl⟩ := hrel
    by_cases hjl : j < lw
    · have hjl' : (j : Int) < (lw : Int) := by omega
      obtain ⟨m, hm⟩ := HJ.out j hjl
      obtain ⟨bG, uG, rfl, g0, g1, g2, gr⟩ := HG.out j m hm
      obtain ⟨bW, uW, rfl, y0, y1, y2, yr⟩ := HW.out j m hm
      have CG := fun x => conv_row (P := Try.prog) (gr.drewN x) 27 9 5 Try.underlying27 Try.underlying5 Try.underlying9
      have CW := fun x => conv_row (P := Try.prog) (yr.drewN x) 27 9 5 Try.underlying27 Try.underlying5 Try.underlying9
      obtain ⟨aG, cG, rfl, -⟩ := id gr
      obtain ⟨aW, cW, rfl, -⟩ := id yr
      rw [Nat.mul_comm 3 j] at g0 g1 g2 y0 y1 y2
      simp only [List.length_map] at g2 y2 CG CW
      clear gr yr hm
      go_wp2
      go_quiet (fail)
      go_wp2
      go_roundw
      case rel => exact ⟨j + 1, n + nq, by omega, by go_num, rfl⟩
      case measure => simp [intOf]; omega
    · have : j = lw := by omega
      subst this
      have hjl' : ¬ (j : Int) < (j : Int) := by omega
      go_wp2
      go_ret
      exact ⟨rfl, n, rfl⟩

end Go.Proofs.Ytejcigeccmfeeaa
