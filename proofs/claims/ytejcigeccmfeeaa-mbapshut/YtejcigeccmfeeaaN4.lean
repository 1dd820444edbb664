/- The contract of mbap's Put. -/
import Derived.Test.YtejcigeccmfeeaaN3
import Derived.Deep.Cut
namespace Go.Proofs.Ytejcigeccmfeeaa
open Go.RowKit

/-- append of one element that has just been laid -/
theorem wpList_push {P : Program} {w : World} {ops : Array Oper} {rest : List Oper} {o : Oper} {a : Act} {Q : Exit → Act → World → Prop} (hgd : o.guard = none) (s x : Operand) (t : TypeId)
    (ho : o.op = .call { callee := .builtin .append, args := #[s, x], argTypes := #[t, t] })
    (base : Nat) (e : TypeId) (z : Value) (bytes : Nat) (ht : P.underlying t = some (.slice e)) (hi : (P.info? e).map (fun i => (i.zero, i.size, i.bytes)) = some (some z, 1, bytes)) (hzs : z.cells.size = 1)
    {v : Value} {n : Nat} {xs : List Value} (hsv : a.eval s = v) (hown : w.ownsRow base e 1 v n xs) (g c : Nat) (u : Value) (hxv : a.eval x = .slice (some ⟨g, 0, none⟩) 1 c) (hs : w.cell? ⟨g, 0, none⟩ = some u) (h1 : u.oneCell' = true)
    (h63 : n + 1 ≤ maxLen) (hbytes : (n + 1) * bytes ≤ 140737488355328) (hbase : base ≤ w.heap.size)
    (h : ∀ v' w', w'.ownsRow base e 1 v' (n + 1) (xs ++ [u]) → w.grownBy w' v.ownBlock → (v'.ownBlock = v.ownBlock ∨ v'.ownBlock = some w.heap.size) → wpList P ops Q rest (a.put o.dst v') w') : wpList P ops Q (o :: rest) a w := by
  obtain ⟨i, hi, hz, hsz, hby⟩ := info_parts hi
  refine wpList_append_own_at (P := P) w hgd s x t ho base e i z 1 bytes ht hi hz hsz hby hzs (by decide) v n xs hsv hown ⟨g, 0, none⟩ 1 c [u] hxv rfl (fun j y hj => ?_) (by simpa using h1) h63 hbytes hbase (fun v' w' q1 q2 _ q4 => h v' w' q1 q2 q4)
  cases j with
  | zero =>
    simp only [List.getElem?_cons_zero, Option.some.injEq] at hj
    subst hj
    have e : (⟨g, 0, none⟩ : Addr).add 0 = ⟨g, 0, none⟩ := by unfold Addr.add; split <;> simp_all
    rw [e]; exact hs
  | succ j => simp at hj
theorem cell_lit (w : World) (u : Value) (e : TypeId) : (w.alloc (.cells #[u] e)).cell? ⟨w.heap.size, 0, none⟩ = some u := (Blk.new w e [u]).cell 0

theorem cell_of {w : World} {g i : Nat} {t : TypeId} {xs : List Value} {v : Value} (h : Blk w g t xs) (e : xs[i]? = some v) : w.cell? ⟨g, i, none⟩ = some v := (h.cell i).trans e

set_option maxHeartbeats 4000000 in
theorem sput_any (base g : Nat) (v vb : Value) (wait : List UInt8) (shut : Bool) (bs : List UInt8) (w : World) (hs : Str 58 w base g v wait shut) (hv : Row w vb (bs.map bV)) (hap : 0 < bs.length → Off (Ft g v) vb) (hbg : base ≤ g) (hok : OkW wait) (hlen : bs.length ≤ 2000000000000) :
    Calls Try.prog 15 #[ptrS g, vb] w fun e w' => ∃ v' vo, e = .returned vo ∧ Str 58 w' base g v' (smRun ⟨wait, shut, []⟩ bs).wait (smRun ⟨wait, shut, []⟩ bs).shut ∧ Mss 30 (Ft g v') w' w.heap.size vo (smRun ⟨wait, shut, []⟩ bs).out ∧ Kp (Ft g v) w w' ∧ (∀ k, v'.ownBlock = some k → v.ownBlock = some k ∨ w.heap.size ≤ k) := by
  obtain ⟨ab, cb, rfl, -⟩ := id hv
  obtain ⟨-, k1, k2, k3⟩ := hv.at
  unfold maxLen at k2
  simp only [List.length_map] at hv k1 k3 ⊢
  have hgl := hs.blk.lt
  have HC : Hid (∀ i, i < bs.length → ∃ b off, ab = some ⟨b, off, none⟩ ∧ ∀ w', Kp (Ft g v) w w' → w'.cell? ⟨b, off + i, none⟩ = some (bV (bs.getD i 0))) := fun i hi => by
    obtain ⟨b, off, rfl, hc⟩ := k3 i 0 hi
    refine ⟨b, off, rfl, fun w' k => ?_⟩
    rw [← hc i hi]
    exact World.cell?_of_block (a := ⟨b, off + i, none⟩) (k.block b (lt_of_cell (hc i hi)) (hap (by omega) b rfl))
  have HR : Hid (∀ k, smRun ⟨wait, shut, []⟩ (bs.take k) = smRun ⟨wait, shut, []⟩ (bs.take k)) := fun k => rfl
  have HT : Hid (∀ k, k < bs.length → smRun ⟨wait, shut, []⟩ (bs.take (k + 1)) = smStep (smRun ⟨wait, shut, []⟩ (bs.take k)) (bs.getD k 0)) := fun k hk => by
    rw [List.take_succ_eq_append_getElem hk, smRun_one]
    simp [List.getD_eq_getElem?_getD, hk]
  have HL : Hid (∀ k, (smRun ⟨wait, shut, []⟩ (bs.take k)).out.length ≤ k) := fun k => by
    have := (smRun_le (bs.take k) ⟨wait, shut, []⟩).2
    simp only [List.length_nil, List.length_take] at this
    omega
  have HO : Hid (∀ k, OkW (smRun ⟨wait, shut, []⟩ (bs.take k)).wait) := fun k => OkW.many _ _ hok
  have HE : Hid (smRun ⟨wait, shut, []⟩ (bs.take bs.length) = smRun ⟨wait, shut, []⟩ bs) := by show _ = _; rw [List.take_length]
  have HS : Hid (∀ k, (smRun ⟨wait, shut, []⟩ (bs.take k)).shut = true → smRun ⟨wait, shut, []⟩ (bs.take k) = smRun ⟨wait, shut, []⟩ bs) := fun k h => by
    have e : bs = bs.take k ++ bs.drop k := (List.take_append_drop k bs).symm
    conv => rhs; rw [e]
    rw [smRun_app, smRun_shut _ h]
  have H0 := hidden (show ∃ vc, Str 58 w base g vc (smRun ⟨wait, shut, []⟩ (bs.take 0)).wait (smRun ⟨wait, shut, []⟩ (bs.take 0)).shut ∧ Mss 30 (Ft g vc) w w.heap.size (.slice none 0 0) (smRun ⟨wait, shut, []⟩ (bs.take 0)).out ∧ Kp (Ft g v) w w ∧ (∀ k, vc.ownBlock = some k → v.ownBlock = some k ∨ w.heap.size ≤ k) from
    ⟨v, by simpa [smRun] using hs, by simpa [smRun] using Mss.nil _ _ _ _, Kp.refl _ _, fun k h => .inl h⟩)
  generalize hS : (fun k => smRun ⟨wait, shut, []⟩ (bs.take k)) = S at *
  have hSk : ∀ k, smRun ⟨wait, shut, []⟩ (bs.take k) = S k := fun k => by rw [← hS]
  simp only [hSk] at HT HL HO HE HS H0
  generalize smRun ⟨wait, shut, []⟩ bs = Z at *
  clear hS hSk HR k3 hv hs hap hok
  generalize bs.length = lb at *
  go_enter Try.func15, Try.ntmps15
  go_wp2
  go_loopw [5, 10] (fun z5 z10 wr => ∃ (k : Nat) (vc : Value), k ≤ lb ∧ z10 = .int .i64 (k : Int) ∧ Str 58 wr base g vc (S k).wait (S k).shut ∧ Mss 30 (Ft g vc) wr w.heap.size z5 (S k).out ∧ Kp (Ft g v) w wr ∧ (∀ i, vc.ownBlock = some i → v.ownBlock = some i ∨ w.heap.size ≤ i)) (fun _ i _ => lb - (intOf i).toNat)
  case atStart =>
    obtain ⟨vc, h1, h2, h3, h4⟩ := H0.out
    exact ⟨0, vc, Nat.zero_le _, rfl, h1, h2, h3, h4⟩
  case round =>
    clear H0
    obtain ⟨k, vc, hk, rfl, hst, hms, hkp, hvc⟩ := hrel
    by_cases hlt : k < lb
    · have hlt' : (k : Int) < (lb : Int) := by omega
      obtain ⟨b, off, rfl, hcell⟩ := HC.out k hlt
      have cx := hcell wr hkp
      have HCL := hidden hcell
      have T1 := hidden (HT.out k hlt)
      have L1 := HL.out k
      have O1 := hidden (HO.out k)
      have S1 := hidden (HS.out k)
      clear HT HL HO HE HS HC hcell
      have hxl := (bs.getD k 0).toNat_lt
      generalize bs.getD k 0 = x at *
      generalize S k = s at *
      obtain ⟨sw, ss, so⟩ := s
      simp only at *
      have c0 := hst.blk.cell 0
      have c1 := hst.blk.cell 1
      obtain ⟨av, cv, rfl⟩ := hst.slice
      simp at c0 c1
      cases ss
      · clear S1
        have hsl := O1.out.len
        have Bg := hidden (show base ≤ wr.heap.size by have := hst.blk.lt; omega)
        have O2 := hst.own.alloc (.cells #[bV x] 5)
        have AL : Below wr.heap.size wr (wr.alloc (.cells #[bV x] 5)) := (Below.refl _ _).alloc (Nat.le_refl _) _
        have hne := owns_blk hst.own hst.blk (by decide)
        have hgw := hst.blk.lt
        go_wp2_with (at_builtin; refine wpList_push rfl (.tmp 22) (.tmp 24) 27 rfl base 5 (.int .u8 0) 1 Try.underlying27 info_u8 rfl rfl O2 wr.heap.size 1 (bV x) rfl (cell_lit _ _ _) rfl (by simp [maxLen]; omega) (by simp; omega) (by simp; have := Bg.out; omega) ?_)
        intro v2 w2 ho2 hg2 hat2
        have K2 : Kp (fun k => (Value.slice av sw.length cv).ownBlock = some k) wr w2 := (Kp.of_below AL).grown hg2 (fun k _ h => h)
        have X2 := hst.blk.kp K2 hne
        have d0 := cell_of (i := 0) X2 rfl
        have f2 := X2.frozen
        obtain ⟨a2, c2, e2⟩ : ∃ a c, v2 = .slice a (sw.length + 1) c := by
          obtain ⟨a, c, e, -⟩ := Row.of_owns ho2
          exact ⟨a, c, by simpa using e⟩
        subst e2
        go_upto_region 7 with fail
        have X3 := X2.set 0 (.slice a2 (sw.length + 1) c2)
        rw [show ([Value.slice av sw.length cv, .bool false].set 0 (.slice a2 (sw.length + 1) c2)) = [.slice a2 (sw.length + 1) c2, .bool false] from rfl] at X3
        have hne2 : (Value.slice a2 (sw.length + 1) c2).ownBlock ≠ some g := by
          rcases hat2 with h | h
          · rw [h]; exact hne
          · rw [h]; simp; omega
        have K3 : Kp (fun k => k = g) w2 (w2.setCell ⟨g, 0, none⟩ (.slice a2 (sw.length + 1) c2)) := (Kp.refl (fun k => k = g) w2).set (p := ⟨g, 0, none⟩) (fun _ => rfl) _
        have O3 := owns_kp ho2 K3 (fun k hk e => hne2 (by rw [hk, e]))
        have KW : Kp (Ft g v) w (w2.setCell ⟨g, 0, none⟩ (.slice a2 (sw.length + 1) c2)) :=
          (hkp.then K2 (fun i h1 h2 => .inr ((hvc i h2).resolve_right (by omega)))).then K3 (fun i _ h2 => .inl h2)
        have HV : ∀ i, (Value.slice a2 (sw.length + 1) c2).ownBlock = some i → v.ownBlock = some i ∨ w.heap.size ≤ i := fun i hi => by
          rcases hat2 with h | h
          · exact hvc i (h ▸ hi)
          · right
            rw [h] at hi
            simp at hi
            have := hkp.size
            omega
        have M3 : Mss 30 (Ft g (.slice a2 (sw.length + 1) c2)) (w2.setCell ⟨g, 0, none⟩ (.slice a2 (sw.length + 1) c2)) w.heap.size u5 so := by
          have h1 := hms.off (N' := fun i => Ft g (.slice av sw.length cv) i ∨ Ft g (.slice a2 (sw.length + 1) c2) i) (fun i hi h => by
            rcases h with h | h | h
            · exact h
            · exact .inl h
            · rcases hat2 with h2 | h2
              · exact .inr (h2 ▸ h)
              · rw [h2] at h; simp at h; omega)
          have h2 := (h1.kp K2 (fun i h => .inl (.inr h))).kp K3 (fun i h => .inl (.inl h))
          exact h2.off (fun i _ h => .inr h)
        have E1 := hidden (fun (h : badB (sw ++ [x]) = true) => T1.out.trans (smStep_bad h))
        have E2 := hidden (fun (h : badB (sw ++ [x]) = false) h2 => T1.out.trans (smStep_whole h h2))
        have E3 := hidden (fun (h : badB (sw ++ [x]) = false) h2 => T1.out.trans (smStep_wait h h2))
        have EL := hidden (fun h h2 => whole_len (x := x) O1.out h h2)
        have RW := Row.of_owns O3
        rw [show sw.map bV ++ [bV x] = (sw ++ [x]).map bV by simp] at RW O3
        have EM : Hid ((sw ++ [x]).length = sw.length + 1) := by show _ = _; simp
        generalize sw ++ [x] = W at *
        generalize sw.length + 1 = m at *
        generalize w2.setCell ⟨g, 0, none⟩ (.slice a2 m c2) = w3 at *
        clear T1 O1 hst hms K2 K3 X2 O2 AL ho2 hg2 hat2 hkp hvc d0 f2 c0 c1 cx HCL hne
        have d0 := cell_of (i := 0) X3 rfl
        have d1 := cell_of (i := 1) X3 rfl
        have f0 := X3.frozen
        have Z3 := KW.size
        have gw := X3.lt
        have SB := hidden (fun h => bad_six (w := W) h)
        have SN := hidden (fun h => bad_not (w := W) h)
        have CS := hidden (sound_any _ W w3 RW)
        have CW := hidden (fun nq => whole_any _ W (w3.drewN nq) (RW.drewN nq))
        by_cases hm : m = 6
        · subst hm
          have SB' := SB.out EM.out
          cases hsd : soundB W
          · rw [hsd] at CS SB'
            have ES := hidden (E1.out (by simpa using SB'))
            clear E1 E2 E3 SB'
            go_wp2_with fail
            refine CS.out.mono ?_
            rintro e w4 ⟨rfl, n1, rfl⟩
            clear CS CW
            have Y := ((X3.drewN n1).set 0 (.slice none 0 0)).set 1 (.bool true)
            have KY : Kp (fun i => i = g) w3 (((w3.drewN n1).setCell ⟨g, 0, none⟩ (.slice none 0 0)).setCell ⟨g, 1, none⟩ (.bool true)) :=
              (((Kp.refl (fun i => i = g) w3).ext (below_drewn0 _ _ n1)).set (p := ⟨g, 0, none⟩) (fun _ => rfl) _).set (p := ⟨g, 1, none⟩) (fun _ => rfl) _
            have M4 := (M3.kp KY (fun i h => .inl h)).off (N' := Ft g (.slice none 0 0)) (fun i _ h => h.elim .inl (fun h => by cases h))
            go_wp2
            go_roundw
            case rel => exact ⟨k + 1, _, by omega, by go_num, by rw [ES.out]; exact ⟨Y, World.ownsRow_nil _ _ _ _⟩, by rw [ES.out]; exact M4, KW.then KY (fun i _ h => .inl h), fun i h => by cases h⟩
            case measure => simp [intOf]; omega
          · rw [hsd] at CS SB'
            have hb : badB W = false := by simpa using SB'
            clear SB' SB SN E1
            go_wp2_with fail
            refine CS.out.mono ?_
            rintro e w4 ⟨rfl, n1, rfl⟩
            cases hw : wholeB W
            · rw [hw] at CW
              go_wp2_with fail
              refine (CW.out n1).mono ?_
              rintro e w4 ⟨rfl, n2, rfl⟩
              go_wp2
              have ES := E3.out hb hw
              go_roundw
              case rel => exact ⟨k + 1, _, by omega, by go_num, by rw [ES]; exact ⟨X3.drewN _, by rw [EM.out]; exact owns_below O3 (below_drewn0 _ _ _)⟩, by rw [ES]; exact M3.ext (below_drewn0 _ _ _), KW.ext (below_drewn0 _ _ _), HV⟩
              case measure => simp [intOf]; omega
            · exact absurd (EL.out hb hw).1 (by rw [EM.out]; decide)
        · have e6 : ((m : Int) == 6) = false := by rw [beq_eq_false_iff_ne]; omega
          have hb := SN.out (by rw [EM.out]; exact hm)
          clear SB SN E1 CS
          have CW0 := hidden (whole_any _ W w3 RW)
          clear CW
          have CW := CW0
          clear CW0
          cases hw : wholeB W
          · rw [hw] at CW
            go_wp2_with fail
            refine CW.out.mono ?_
            rintro e w4 ⟨rfl, n2, rfl⟩
            go_wp2
            have ES := E3.out hb hw
            go_roundw
            case rel => exact ⟨k + 1, _, by omega, by go_num, by rw [ES]; exact ⟨X3.drewN _, by rw [EM.out]; exact owns_below O3 (below_drewn0 _ _ _)⟩, by rw [ES]; exact M3.ext (below_drewn0 _ _ _), KW.ext (below_drewn0 _ _ _), HV⟩
            case measure => simp [intOf]; omega
          · rw [hw] at CW
            obtain ⟨l8, l9⟩ := EL.out hb hw
            have ES := hidden (E2.out hb hw)
            go_wp2_with fail
            refine CW.out.mono ?_
            rintro e w4 ⟨rfl, n2, rfl⟩
            have D4 : Below w3.heap.size w3 (w3.drewN n2) := below_drewn0 _ _ _
            replace X3 := X3.below D4 X3.lt
            replace O3 := owns_below O3 D4
            replace RW := RW.below D4
            replace M3 := M3.ext D4
            replace KW := KW.ext D4
            replace d0 := cell_of (i := 0) X3 rfl
            replace d1 := cell_of (i := 1) X3 rfl
            replace f0 := X3.frozen
            replace Z3 := KW.size
            replace gw := X3.lt
            clear D4 CW
            generalize w3.drewN n2 = w4 at *
            go_wp2_with fail
            refine (message_any _ W _ RW l8 (by omega)).mono ?_
            rintro e w5 ⟨u, rfl, hu, B5⟩
            have hul : 0 < W.length - 7 := by omega
            have HMS : Hid (msgOf W = ⟨getN W 0, ((W.getD 6 0).toNat : Int), W.drop 7⟩) := rfl
            generalize getN W 0 = q0 at *
            generalize (((W.getD 6 0).toNat : Nat) : Int) = q6 at *
            have hud : (W.drop 7).length = W.length - 7 := by simp
            have huf : ∀ i, u.ownBlock = some i → w4.heap.size ≤ i := fun i h => (owns_lt hu h).1
            have hfr : Off (Ft g (.slice a2 m c2)) u := fun i hi h => by
              have := huf i hi
              rcases h with h | h
              · omega
              · have := (owns_lt O3 h).2; omega
            obtain ⟨ug, uc, rfl, -⟩ := owns_some hu hul
            replace X3 := X3.below B5 X3.lt
            replace O3 := owns_below O3 B5
            replace M3 := M3.ext B5
            replace KW := KW.ext B5
            have S5 := B5.size
            clear B5 RW d0 d1 f0
            have X6 := X3.alloc (.cells #[.int .i64 q0, .int .i64 q6, .slice (some ⟨ug, 0, none⟩) (W.length - 7) uc] 30)
            have AL : Below w5.heap.size w5 (w5.alloc (.cells #[.int .i64 q0, .int .i64 q6, .slice (some ⟨ug, 0, none⟩) (W.length - 7) uc] 30)) := (Below.refl _ _).alloc (Nat.le_refl _) _
            have BL := Blk.new w5 30 [.int .i64 q0, .int .i64 q6, .slice (some ⟨ug, 0, none⟩) (W.length - 7) uc]
            obtain ⟨us, hul2, hov, hof, hpd⟩ := M3.ext AL
            have HP := hidden hpd
            clear hpd
            obtain ⟨ii, hii, hiz, his, hib⟩ := info_parts info_msg
            have HII := hidden (And.intro hii (And.intro hiz (And.intro his hib)))
            clear hii hiz his hib
            have HOV := hidden hov
            go_wp2_with (at_builtin; refine wpList_append_own_at (P := Try.prog) _ rfl (.tmp 55) (.tmp 61) 39 rfl w.heap.size 30 ii _ 3 40 Try.underlying39 HII.out.1 HII.out.2.1 HII.out.2.2.1 HII.out.2.2.2 rfl (by decide) _ so.length _ rfl HOV.out ⟨w5.heap.size, 0, none⟩ 1 1 [.int .i64 q0, .int .i64 q6, .slice (some ⟨ug, 0, none⟩) (W.length - 7) uc] rfl rfl ?q1 ?q2 ?q3 ?q4 ?q5 ?q6)
            case q1 =>
              intro j y hj
              have : (⟨w5.heap.size, 0, none⟩ : Addr).add j = ⟨w5.heap.size, j, none⟩ := by unfold Addr.add; split <;> simp_all
              rw [this, BL.cell j, hj]
            case q2 => intro y hy; simp at hy; rcases hy with rfl | rfl | rfl <;> rfl
            case q3 => unfold maxLen; omega
            case q4 => first | omega | (simp; omega)
            case q5 => first | omega | (simp; omega)
            case q6 =>
              intro v7 w7 ho7 hg7 _ hat7
              have Q7 : Kp (fun i => u5.ownBlock = some i) w5 w7 := (Kp.of_below AL).grown hg7 (fun i _ h => h)
              have hg5 : ¬ (u5.ownBlock = some g) := fun h => hof g h (.inl rfl)
              have X7 := X3.kp Q7 hg5
              have O7 := owns_kp O3 Q7 (fun i hi h => hof i h (.inr hi))
              have KW7 := KW.then Q7 (fun i h1 h2 => absurd (owns_lt hov h2).1 (by omega))
              have M7 : Mss 30 (Ft g (.slice a2 m c2)) w7 w.heap.size v7 (so ++ [msgOf W]) := by
                rw [HMS.out]
                have hu' : (w5.alloc (.cells #[.int .i64 q0, .int .i64 q6, .slice (some ⟨ug, 0, none⟩) (W.length - 7) uc] 30)).ownsRow w.heap.size 5 1 (.slice (some ⟨ug, 0, none⟩) (W.length - 7) uc) (W.drop 7).length ((W.drop 7).map bV) := by
                  have := (owns_from hu (base' := w.heap.size) (by omega)).alloc (.cells #[.int .i64 q0, .int .i64 q6, .slice (some ⟨ug, 0, none⟩) (W.length - 7) uc] 30)
                  rw [← hud] at this
                  rw [← hud]
                  exact this
                refine Mss.push (by decide) hul2 hov hof HP.out hu' hfr ho7 rfl hg7 (fun i hi h => ?_)
                rcases hat7 with h7 | h7
                · exact hof i (h7 ▸ hi) h
                · rw [h7] at hi
                  simp at hi
                  rcases h with h | h
                  · omega
                  · have := (owns_lt O3 h).2; omega
              obtain ⟨a7, c7, e7⟩ : ∃ a c, v7 = .slice a (so.length + 1) c := by
                rcases ho7.2 with ⟨_, h⟩ | ⟨g', cap', cur', h, -⟩
                · omega
                · exact ⟨_, _, h⟩
              subst e7
              have d0 := cell_of (i := 0) X7 rfl
              have f7 := X7.frozen
              have Y7 := X7.set 0 (.slice a2 0 c2)
              rw [show ([Value.slice a2 m c2, .bool false].set 0 (.slice a2 0 c2)) = [.slice a2 0 c2, .bool false] from rfl] at Y7
              have K8 : Kp (fun i => i = g) w7 (w7.setCell ⟨g, 0, none⟩ (.slice a2 0 c2)) := (Kp.refl (fun i => i = g) w7).set (p := ⟨g, 0, none⟩) (fun _ => rfl) _
              have hO8 : (w7.setCell ⟨g, 0, none⟩ (.slice a2 0 c2)).ownsRow base 5 1 (.slice a2 0 c2) 0 [] := by
                have h := owns_kp O7 K8 (fun i hi e => hne2 (by rw [hi, e]))
                refine ⟨rfl, ?_⟩
                rcases h.2 with ⟨h1, -⟩ | ⟨g', cap', cur', h1, h2, h3, h4, h5, h6, h7⟩
                · simp only [Value.slice.injEq] at h1
                  exact .inl ⟨by rw [h1.1, h1.2.2], rfl⟩
                · simp only [Value.slice.injEq] at h1
                  exact .inr ⟨g', cap', cur', by rw [h1.1, h1.2.2], h2, h3, Nat.zero_le _, h5, h6, by simp⟩
              have KW8 := KW7.then K8 (fun i _ h => .inl h)
              have M8 := (M7.kp K8 (fun i h => .inl h)).off (N' := Ft g (.slice a2 0 c2)) (fun i _ h => h.elim .inl (fun h => .inr (by cases a2 <;> exact h)))
              have HV8 : ∀ i, (Value.slice a2 0 c2).ownBlock = some i → v.ownBlock = some i ∨ w.heap.size ≤ i := fun i h => HV i (by cases a2 <;> exact h)
              clear M7 O7 X7 KW7 Q7
              go_wp2
              go_roundw
              case rel => exact ⟨k + 1, _, by omega, by go_num, by rw [ES.out]; exact ⟨Y7, hO8⟩, by rw [ES.out]; exact M8, KW8, HV8⟩
              case measure => simp [intOf]; omega
      · clear T1
        go_wp2
        go_ret
        have := S1.out trivial
        exact ⟨_, _, rfl, by rw [← this]; exact hst, by rw [← this]; exact hms, hkp, hvc⟩
    · have : k = lb := by omega
      subst this
      have hlt' : ¬ (k : Int) < (k : Int) := by omega
      rw [HE.out] at hst hms
      go_wp2
      go_ret
      exact ⟨_, _, rfl, hst, hms, hkp, hvc⟩

end Go.Proofs.Ytejcigeccmfeeaa
