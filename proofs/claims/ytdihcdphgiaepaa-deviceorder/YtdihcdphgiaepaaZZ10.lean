/- Contracts of pdu.counted and put. -/
import Derived.Test.YtdihcdphgiaepaaZZ9
import Derived.Lib.AppendZeros
import Derived.Test.YtdihcdphgiaepaaZZ2
namespace Go.Proofs.Ytdihcdphgiaepaa
open Go.RowKit
theorem zero_is (w : World) : IsRq w (rqV 0 0 0 0 0 (.slice none 0 0) (.slice none 0 0) 0 0) zeroQ := ⟨_, _, rfl, Row.nil w, Row.nil w⟩
theorem IsRq.slices {w : World} {v : Value} {q : Rq} (h : IsRq w v q) : ∃ ab capb av capv, v = rqV q.fn q.loc q.cnt q.wat q.sub (.slice ab q.bits.length capb) (.slice av q.vals.length capv) q.land q.lor ∧ q.bits.length ≤ 9223372036854775807 ∧ q.vals.length ≤ 9223372036854775807 := by
 obtain ⟨vb, vv, rfl, hb, hv⟩ := h
 obtain ⟨ab, capb, rfl, h1, h2, -⟩ := hb
 obtain ⟨av, capv, rfl, h3, h4, -⟩ := hv
 simp only [List.length_map] at h1 h3 ⊢
 unfold maxLen at h2 h4
 exact ⟨ab, capb, av, capv, rfl, by omega, by omega⟩
theorem rightE_12 {q : Rq} (hk : knownB q.fn = true) (h : ¬ formP q ∨ (numB q.loc && numB q.wat && numB q.sub && numB q.cnt) = false ∨ listB q = false) : rightE q = 12 := by
 unfold rightE
 rw [if_neg (by rw [hk]; simp)]
 by_cases h1 : formP q
 ·
  rw [if_neg (by simp [h1])]
  by_cases h2 : (numB q.loc && numB q.wat && numB q.sub && numB q.cnt) = false
  ·
   rw [if_pos h2]
  ·
   rw [if_neg h2]
   rcases h with h | h | h
   ·
    exact absurd h1 h
   ·
    exact absurd h h2
   ·
    rw [if_pos h]
 ·
  rw [if_pos h1]
theorem rightE_0 {q : Rq} (hk : knownB q.fn = true) (h1 : formP q) (h2 : (numB q.loc && numB q.wat && numB q.sub && numB q.cnt) = true) (h3 : listB q = true) : rightE q = 0 := by
 unfold rightE
 rw [if_neg (by rw [hk]; simp), if_neg (by simp [h1]), if_neg (by rw [h2]; simp), if_neg (by rw [h3]; simp)]
set_option maxHeartbeats 1600000 in
theorem right_pdu (v : Value) (q : Rq) (w : World) (h : IsRq w v q) :
  Calls Try.prog 14 #[v] w fun e w' => e = .returned (.int .i64 (rightE q)) ∧ Below w.heap.size w w' := by
 obtain ⟨ab, capb, av, capv, rfl, -, -⟩ := h.slices
 have W0 := fun o => (Below.refl w.heap.size w).alloc (Nat.le_refl _) o
 have HQ := fun o => h.below (W0 o)
 have HW := hidden W0
 have HI3 : ∀ {w3 : World}, Below w.heap.size w w3 → IsRq w3 _ q := fun hb => h.below hb
 have HH := hidden HQ
 have HF := hidden (others_form q)
 have HE := hidden (@rightE_12 q)
 have H0 := hidden (@rightE_0 q)
 have Hq : Hid (∃ q' : Rq, q' = q) := ⟨q, rfl⟩
 clear h W0 HQ
 obtain ⟨f, a, c, p, s, bs, vs, m, o⟩ := q
 simp only at HE H0 HF HH ⊢
 cases hk : knownB f
 ·
  have e : rightE ⟨f, a, c, p, s, bs, vs, m, o⟩ = 15 := by simp [rightE, hk]
  rw [e]
  have KK := hidden hk
  clear hk e
  go_enter Try.func14, Try.ntmps14
  go_wp2_with (go_at_call 23; refine (known_pdu f _).mono ?_; rintro e w1 ⟨rfl, rfl⟩; rw [KK.out])
  go_ret
  exact ⟨rfl, HW.out _⟩
 ·
  have KK := hidden hk
  clear hk
  go_enter Try.func14, Try.ntmps14
  go_wp2_with (go_at_call 23; refine (known_pdu f _).mono ?_; rintro e w1 ⟨rfl, rfl⟩; rw [KK.out])
  refine (others_pdu _ _ _ (HH.out _) KK.out).mono ?_
  rintro e w2 ⟨v2, rfl, hv2, B2⟩
  have X := (Blk.new w 33 [.int .i64 f, .int .i64 a, .int .i64 c, .int .i64 p, .int .i64 s, .slice ab bs.length capb, .slice av vs.length capv, wV m, wV o]).below B2 (by simp)
  replace B2 := below_then (HW.out _) B2
  go_wp2_with fail
  refine (same_pdu _ _ _ _ _ hv2 (zero_is _)).mono ?_
  rintro e w3 ⟨rfl, B3⟩
  replace X := X.below B3 X.lt
  replace B3 := below_then B2 B3
  clear B2 hv2
  have c0 := X.cell 0
  have c1 := X.cell 1
  have c2 := X.cell 2
  have c3 := X.cell 3
  have c4 := X.cell 4
  have c5 := X.cell 5
  have c6 := X.cell 6
  have c7 := X.cell 7
  have c8 := X.cell 8
  simp at c0 c1 c2 c3 c4 c5 c6 c7 c8
  by_cases hf : othersQ ⟨f, a, c, p, s, bs, vs, m, o⟩ = zeroQ
  ·
   have F1 := hidden (show decide (othersQ ⟨f, a, c, p, s, bs, vs, m, o⟩ = zeroQ) = true by simpa using hf)
   have G1 := hidden ((HF.out KK.out).1 hf)
   clear hf
   rw [F1.out]
   cases ha : numB a
   ·
    have L := hidden (HE.out KK.out (.inr (.inl (by rw [ha]; simp))))
    have Na := hidden ha
    clear ha
    go_wp2_with (go_at_call 26; refine (number_pdu _ _).mono ?_; rintro e w4 ⟨rfl, rfl⟩; first | rw [Na.out])
    go_ret
    exact ⟨ret_int L.out.symm, B3⟩
   ·
    have Na := hidden ha
    clear ha
    cases hp : numB p
    ·
     have L := hidden (HE.out KK.out (.inr (.inl (by rw [hp]; simp))))
     have Np := hidden hp
     clear hp
     go_wp2_with (go_at_call 26; refine (number_pdu _ _).mono ?_; rintro e w4 ⟨rfl, rfl⟩; first | rw [Na.out] | rw [Np.out])
     go_ret
     exact ⟨ret_int L.out.symm, B3⟩
    ·
     have Np := hidden hp
     clear hp
     cases hs : numB s
     ·
      have L := hidden (HE.out KK.out (.inr (.inl (by rw [hs]; simp))))
      have Ns := hidden hs
      clear hs
      go_wp2_with (go_at_call 26; refine (number_pdu _ _).mono ?_; rintro e w4 ⟨rfl, rfl⟩; first | rw [Na.out] | rw [Np.out] | rw [Ns.out])
      go_ret
      exact ⟨ret_int L.out.symm, B3⟩
     ·
      have Ns := hidden hs
      clear hs
      cases hc : numB c
      ·
       have L := hidden (HE.out KK.out (.inr (.inl (by rw [hc]; simp))))
       have Nc := hidden hc
       clear hc
       go_wp2_with (go_at_call 26; refine (number_pdu _ _).mono ?_; rintro e w4 ⟨rfl, rfl⟩; first | rw [Na.out] | rw [Np.out] | rw [Ns.out] | rw [Nc.out])
       go_ret
       exact ⟨ret_int L.out.symm, B3⟩
      ·
       have Nc := hidden hc
       clear hc
       have E2 := hidden (show (numB a && numB p && numB s && numB c) = true by rw [Na.out, Np.out, Ns.out, Nc.out]; rfl)
       go_wp2_with (go_at_call 26; refine (number_pdu _ _).mono ?_; rintro e w4 ⟨rfl, rfl⟩; first | rw [Na.out] | rw [Np.out] | rw [Ns.out] | rw [Nc.out])
       refine (listed_pdu _ ⟨f, a, c, p, s, bs, vs, m, o⟩ _ (HI3 B3) KK.out).mono ?_
       rintro e w5 ⟨rfl, B5⟩
       cases hl : listB ⟨f, a, c, p, s, bs, vs, m, o⟩
       ·
        have L := hidden (HE.out KK.out (.inr (.inr hl)))
        clear hl
        go_wp2
        go_ret
        exact ⟨ret_int L.out.symm, below_then B3 B5⟩
       ·
        have L := hidden (H0.out KK.out G1.out E2.out hl)
        clear hl
        go_wp2
        go_ret
        exact ⟨ret_int L.out.symm, below_then B3 B5⟩
  ·
   have F1 := hidden (show decide (othersQ ⟨f, a, c, p, s, bs, vs, m, o⟩ = zeroQ) = false by simpa using hf)
   have L := hidden (HE.out KK.out (.inl (fun h => hf ((HF.out KK.out).2 h))))
   clear hf
   rw [F1.out]
   go_wp2
   go_ret
   exact ⟨ret_int L.out.symm, B3⟩
end Go.Proofs.Ytdihcdphgiaepaa
namespace Go.Proofs.Ytdihcdphgiaepaa
open Go.RowKit
set_option maxHeartbeats 1000000 in
theorem grow_nil (n : Int) (k : Nat) (w : World) (hn : n = (k : Int)) (h0 : 0 < k) (h1 : k ≤ 140737488355328) :
  Calls Try.prog 90 #[.slice none 0 0, .int .i64 n] w fun e w' => ∃ v', e = .returned v' ∧ w'.ownsRow w.heap.size 5 1 v' 0 [] ∧ Below w.heap.size w w' := by
 subst hn
 obtain ⟨i, hi, hz, hsz, hby⟩ := info_parts info_u8
 have hrz : ∀ ty, (Builtin.append_ #[28, 3] ty #[.slice none 0 0, .int .i64 (k : Int)]).run Try.prog w = _ := fun ty => Lib.run_append_nil_zeros w 28 3 ty 5 i _ .i64 .i64 Try.underlying28 Try.underlying3 hi hz k h0 (by omega) (by omega) (by rw [hby]; omega)
 have hGn : k ≤ grownCap w k 0 5 := grownCap_ge w _ _ _
 have hG63 := grownCap_le_maxLen w k 0 5 (by unfold maxLen; omega)
 unfold maxLen at hG63
 have hB : Hid (∀ o, Below w.heap.size w (w.drew.alloc o)) := fun o => (Below.refl w.heap.size w).drew.alloc (Nat.le_refl _) o
 have hO : Hid (∀ C : Array Value, C.size = grownCap w k 0 5 → (w.drew.alloc (.cells C 5)).ownsRow w.heap.size 5 1 (.slice (some ⟨w.heap.size, 0, none⟩) 0 (grownCap w k 0 5)) 0 []) := fun C hC =>
  ⟨rfl, .inr ⟨w.heap.size, _, C, rfl, Nat.le_refl _, heap_alloc_new w.drew _, Nat.zero_le _, by unfold maxLen; omega, by omega, by simp⟩⟩
 have hS : Hid (∀ G, k ≤ G → (Builtin.zeroCells (Value.int .u8 0).cells k ++ Builtin.zeroCells (Value.int .u8 0).cells (G - k)).size = G) := fun G hG => by
  simp [Builtin.zeroCells, Value.cells]; omega
 generalize grownCap w k 0 5 = G at *
 have t1 : ¬ ((k : Int) < 0) := by omega
 have t2 : (0 : Int) < (k : Int) := by omega
 have HG := hidden hGn
 go_enter Try.func90, Try.ntmps90
 go_wp2_with (at_builtin; refine Lib.wpList_append_run _ rfl _ _ _ _ rfl _ _ rfl rfl _ _ (hrz _) ?_)
 go_ret
 exact ⟨_, rfl, hO.out _ (hS.out _ HG.out), hB.out _⟩
def flatTo (xss : List (List UInt8)) (k : Nat) : List UInt8 := (xss.take k).flatten
theorem flat_all (xss : List (List UInt8)) : flatTo xss xss.length = xss.flatten := by simp [flatTo]
theorem flat_take (xss : List (List UInt8)) (k : Nat) (h : k < xss.length) : flatTo xss (k + 1) = flatTo xss k ++ xss.getD k [] := by
 unfold flatTo
 rw [List.take_succ_eq_append_getElem h, List.flatten_append]; simp [List.getD_eq_getElem?_getD, h]
theorem flat_le (xss : List (List UInt8)) (k : Nat) : (flatTo xss k).length ≤ (flatTo xss xss.length).length := by
 rw [flat_all]
 have := congrArg (fun l => l.flatten.length) (List.take_append_drop k xss)
 simp only [List.flatten_append, List.length_append] at this
 unfold flatTo
 omega
set_option maxHeartbeats 1000000 in
theorem concat_any (g : Nat) (vs : List Value) (xss : List (List UInt8)) (w : World) (hg : Blk w g 28 vs) (hl : vs.length = xss.length) (hr : ∀ i, i < vs.length → ∃ v, vs[i]? = some v ∧ Row w v ((xss.getD i []).map bV)) (h0 : 0 < (flatTo xss xss.length).length) (h1 : (flatTo xss xss.length).length ≤ 1000000) (h2 : vs.length ≤ 1000) :
  Calls Try.prog 83 #[.slice (some ⟨g, 0, none⟩) vs.length vs.length] w fun e w' => ∃ v', e = .returned v' ∧ Row w' v' ((flatTo xss xss.length).map bV) ∧ Below w.heap.size w w' := by
 have hlt := hg.lt
 have HR := hidden hr
 have HL := hidden hl
 have FL := hidden (flat_le xss)
 have FT := hidden (flat_take xss)
 clear hr hl
 generalize hn : vs.length = n at *
 have HN := hidden hn
 clear hn
 go_enter Try.func83, Try.ntmps83
 go_wp2
 go_loopw [3, 11] (fun z i wr => ∃ k : Nat, k ≤ n ∧ i = .int .i64 k ∧ z = .int .i64 ((flatTo xss k).length : Nat) ∧ w = wr) (fun _ i _ => n - (intOf i).toNat)
 case atStart => exact ⟨0, Nat.zero_le _, rfl, by simp [flatTo], rfl⟩
 case round =>
  obtain ⟨k, hk, rfl, rfl, rfl⟩ := hrel
  by_cases hkn : k < n
  ·
   obtain ⟨v, e1, e2⟩ := HR.out k hkn
   obtain ⟨a, cap, rfl, -⟩ := e2
   have c0 : w.cell? ⟨g, k, none⟩ = _ := (hg.cell k).trans e1
   have S := FT.out k (by have := HL.out; omega)
   have Le := FL.out k
   have Le2 := FL.out (k + 1)
   rw [S, List.length_append] at Le2
   have S2 := hidden S
   clear e1 S
   simp only [List.length_map] at c0
   generalize xss.getD k [] = y at *
   generalize flatTo xss k = ys at *
   have u1 : ¬ ((ys.length : Int) + (y.length : Int) < 0) := by omega
   have hkn' : (k : Int) < (n : Int) := by omega
   go_wp2
   go_roundw
   case rel =>
    refine ⟨k + 1, by omega, by go_num, ?_, trivial⟩
    rw [S2.out, List.length_append]; simp
   case measure => simp [intOf]; omega
  ·
   obtain rfl : k = n := by omega
   have HL' := HL.out
   rw [← HL'] at h0 h1
   have T := hidden HL'
   clear HL'
   have S3 : ((flatTo xss k).length : Int) < 1000001 := by omega
   have hkn' : ¬ (k : Int) < (k : Int) := by omega
   clear hkn
   go_wp2_with fail
   refine (grow_nil _ (flatTo xss k).length _ rfl h0 (by omega)).mono ?_
   rintro e w1 ⟨v1, rfl, ho1, b1⟩
   go_wp2
   go_loopw [6, 27] (fun z i wr => ∃ j : Nat, j ≤ k ∧ i = .int .i64 j ∧ wr.ownsRow w.heap.size 5 1 z (flatTo xss j).length ((flatTo xss j).map bV) ∧ Below w.heap.size w wr) (fun _ i _ => k - (intOf i).toNat)
   case atStart => exact ⟨0, Nat.zero_le _, rfl, by simpa [flatTo] using ho1, b1⟩
   case round =>
    obtain ⟨j, hj, rfl, ho, hb⟩ := hrel
    clear ho1 b1
    by_cases hjn : j < k
    ·
     obtain ⟨v, e1, e2⟩ := HR.out j hjn
     have R2 := e2.below hb
     obtain ⟨a, cap, rfl, -⟩ := e2
     have c0 : wr.cell? ⟨g, j, none⟩ = _ := ((hg.below hb hlt).cell j).trans e1
     have S := FT.out j (by have := HL.out; omega)
     have Le := FL.out j
     have Le2 := FL.out (j + 1)
     rw [← T.out] at Le Le2
     rw [S, List.length_append] at Le2
     have S2 := hidden S
     clear e1 S
     simp only [List.length_map] at c0 R2
     generalize xss.getD j [] = y at *
     generalize flatTo xss j = ys at *
     have hjn' : (j : Int) < (k : Int) := by omega
     have hsz := hb.size
     go_wp2_with (at_builtin; refine wpList_app rfl (.tmp 31) (.tmp 32) 28 rfl w.heap.size 5 (.int .u8 0) 1 Try.underlying28 info_u8 rfl rfl ho rfl R2 ?k0 ?k1 ?k2 ?k3 ?_)
     case k0 => exact one_bytes y
     case k1 => simp [maxLen]; omega
     case k2 => simp; omega
     case k3 => exact hsz
     intro v2 w2 ho2 hg2
     have q := hb.grown hg2 hsz (fun k hk => (ho.lt k hk).1)
     go_wp2
     go_roundw
     case rel =>
      refine ⟨j + 1, by omega, by go_num, ?_, q⟩
      rw [S2.out, List.length_append]
      simpa using ho2
     case measure => simp [intOf]; omega
    ·
     obtain rfl : j = k := by omega
     have hjn' : ¬ (j : Int) < (j : Int) := by omega
     clear hjn
     go_wp2
     go_ret
     rw [← T.out]
     exact ⟨_, rfl, Row.of_owns ho, hb⟩
end Go.Proofs.Ytdihcdphgiaepaa
namespace Go.Proofs.Ytdihcdphgiaepaa
open Go.RowKit
set_option maxHeartbeats 1000000 in
theorem counted_pdu (u v : Value) (xs ys : List UInt8) (w : World) (hu : Row w u (xs.map bV)) (hv : Row w v (ys.map bV)) (h1 : xs.length ≤ 100000) (h2 : ys.length ≤ 100000) :
  Calls Try.prog 76 #[u, v] w fun e w' => ∃ v', e = .returned v' ∧ Row w' v' ((xs ++ cntL ys).map bV) ∧ Below w.heap.size w w' := by
 obtain ⟨a, cap, rfl, -⟩ := id hu
 obtain ⟨a2, cap2, rfl, -⟩ := id hv
 simp only [List.length_map] at hu hv ⊢
 have W0 := hidden (fun o1 o2 => ((Below.refl w.heap.size w).alloc (Nat.le_refl _) o1).alloc (by simp) o2)
 have ef : flatTo [xs, [UInt8.ofNat ys.length], ys] 3 = xs ++ cntL ys := by simp [flatTo, cntL]
 have EF := hidden ef
 clear ef
 have e8 : ((UInt8.ofNat ys.length).toNat : Int) = (ys.length : Int) % 256 := by rw [UInt8.toNat_ofNat']; omega
 have E8 := hidden e8
 clear e8
 have R1 := hidden (row_new w [.int .u8 ((ys.length : Int) % 256)] 5 1 rfl (by decide))
 go_enter Try.func76, Try.ntmps76
 go_wp2_with fail
 have C := concat_any (w.heap.size + 1) [.slice a xs.length cap, .slice (some ⟨w.heap.size, 0, none⟩) 1 1, .slice a2 ys.length cap2] [xs, [UInt8.ofNat ys.length], ys]
  ((w.alloc (.cells #[.int .u8 ((ys.length : Int) % 256)] 5)).alloc (.cells #[.slice a xs.length cap, .slice (some ⟨w.heap.size, 0, none⟩) 1 1, .slice a2 ys.length cap2] 28)) (by simpa using Blk.new (w.alloc (.cells #[.int .u8 ((ys.length : Int) % 256)] 5)) 28 [.slice a xs.length cap, .slice (some ⟨w.heap.size, 0, none⟩) 1 1, .slice a2 ys.length cap2]) rfl ?q1 ?q2 ?q3 (by simp)
 case q1 =>
  intro i hi
  match i, hi with
  | 0, _ => exact ⟨_, rfl, hu.below (W0.out _ _)⟩
  | 1, _ =>
   refine ⟨_, rfl, ?_⟩
   have : ([UInt8.ofNat ys.length].map bV) = [.int .u8 ((ys.length : Int) % 256)] := by simp only [List.map_cons, List.map_nil, bV, E8.out]
   show Row _ _ ([UInt8.ofNat ys.length].map bV)
   rw [this]
   exact R1.out.below ((Below.refl _ _).alloc (Nat.le_refl _) _)
  | 2, _ => exact ⟨_, rfl, hv.below (W0.out _ _)⟩
 case q2 => rw [show [xs, [UInt8.ofNat ys.length], ys].length = 3 from rfl, EF.out]; simp [cntL]; omega
 case q3 => rw [show [xs, [UInt8.ofNat ys.length], ys].length = 3 from rfl, EF.out]; simp [cntL]; omega
 refine C.mono ?_
 rintro e w2 ⟨v2, rfl, hr2, B2⟩
 rw [show [xs, [UInt8.ofNat ys.length], ys].length = 3 from rfl, EF.out] at hr2
 replace B2 := below_then (W0.out _ _) B2
 go_wp2
 go_ret
 exact ⟨_, rfl, hr2, B2⟩
def pwL (l : List Int) : List UInt8 := l.flatMap pw
theorem pwL_len (l : List Int) : (pwL l).length = 2 * l.length := by
 induction l with
 | nil => rfl
 | cons x r ih => simp [pwL, pw] at ih ⊢; omega
theorem pwL_take (l : List Int) (k : Nat) (h : k < l.length) : pwL (l.take (k + 1)) = pwL (l.take k) ++ [hiB (wOf (l.getD k 0)), loB (wOf (l.getD k 0))] := by
 rw [List.take_succ_eq_append_getElem h]
 unfold pwL
 rw [List.flatMap_append]
 simp [pw, List.getD_eq_getElem?_getD, h]
abbrev iV (n : Int) : Value := .int .i64 n
set_option maxHeartbeats 1000000 in
theorem put_pdu (u v : Value) (xs : List UInt8) (l : List Int) (w : World) (hu : Row w u (xs.map bV)) (hv : Row w v (l.map iV)) (hl : ∀ i, i < l.length → -9223372036854775808 ≤ l.getD i 0 ∧ l.getD i 0 ≤ 9223372036854775807) (h1 : xs.length ≤ 100000) (h2 : l.length ≤ 1000) :
  Calls Try.prog 74 #[u, v] w fun e w' => ∃ v', e = .returned v' ∧ Row w' v' ((xs ++ pwL l).map bV) ∧ Below w.heap.size w w' := by
 obtain ⟨a2, cap2, rfl, -⟩ := id hv
 simp only [List.length_map] at hv ⊢
 have HI := hidden hl
 clear hl
 have PT := hidden (pwL_take l)
 go_enter Try.func74, Try.ntmps74
 go_wp2
 go_loopw [0, 9] (fun z i wr => ∃ k : Nat, k ≤ l.length ∧ i = .int .i64 k ∧ Row wr z ((xs ++ pwL (l.take k)).map bV) ∧ Below w.heap.size w wr) (fun _ i _ => l.length - (intOf i).toNat)
 case atStart => exact ⟨0, Nat.zero_le _, rfl, by simpa [pwL] using hu, Below.refl _ _⟩
 case round =>
  obtain ⟨k, hk, rfl, hz, hb⟩ := hrel
  clear hu
  by_cases hkn : k < l.length
  ·
   obtain ⟨-, -, -, hcell⟩ := (hv.below hb).at
   obtain ⟨b, off, rfl, hcl⟩ := hcell k 0 hkn
   have c0 := hcl k hkn
   obtain ⟨n1, n2⟩ := HI.out k hkn
   have S := hidden (PT.out k hkn)
   have Ln : (pwL (l.take k)).length ≤ 2 * l.length := by rw [pwL_len, List.length_take]; omega
   clear hcl hcell hv
   generalize l.getD k 0 = x at *
   generalize pwL (l.take k) = ys at *
   have hkn' : (k : Int) < (l.length : Int) := by omega
   go_wp2_with fail
   refine (put_any _ (xs ++ ys) x _ ⟨n1, n2⟩ hz (by rw [List.length_append]; omega)).mono ?_
   rintro e w2 ⟨v2, rfl, hr2, B2⟩
   replace B2 := below_then hb B2
   go_wp2
   go_roundw
   case rel =>
    refine ⟨k + 1, by omega, by go_num, ?_, B2⟩
    rw [S.out, ← List.append_assoc]
    exact hr2
   case measure => simp [intOf]; omega
  ·
   obtain rfl : k = l.length := by omega
   rw [List.take_length] at hz
   clear hkn
   go_wp2
   go_ret
   exact ⟨_, rfl, hz, hb⟩
end Go.Proofs.Ytdihcdphgiaepaa
