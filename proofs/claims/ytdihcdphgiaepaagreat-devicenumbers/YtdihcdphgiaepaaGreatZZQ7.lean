/- Joined texts. -/
import Derived.Test.YtdihcdphgiaepaaGreatZZ49
import Derived.Test.YtdihcdphgiaepaaGreatZZ50
namespace Go.Proofs.YtdihcdphgiaepaaGreat
open Go.RowKit
theorem blk_grown {w w' : World} {g : Nat} {e : TypeId} {xs : List Value} {r : Option Nat} (h : Blk w g e xs) (hg : w.grownBy w' r) (hne : r = some g → False) : Blk w' g e xs :=
 (hg.block g h.lt (fun x => hne x.symm)).trans h
theorem RowsB.nil9 (w : World) : RowsB w nS [] := ⟨[], Row.nil _, rfl, fun i hi => by simp at hi⟩
theorem zrowB9 (u : World) (n : Nat) (h : n ≤ 100000) : Row (u.alloc (.cells (zer n (.bool false)) 4)) (.slice (some ⟨u.heap.size, 0, none⟩) n n) ((List.replicate n false).map Value.bool) := by
 rw [List.map_replicate];exact row_new u (List.replicate n (.bool false)) 4 n (by simp) (by unfold maxLen; omega)
theorem zrowW9 (u : World) (n : Nat) (h : n ≤ 100000) : Row (u.alloc (.cells (zer n (U 0)) 31)) (.slice (some ⟨u.heap.size, 0, none⟩) n n) ((List.replicate n (0 : UInt16)).map wV) := by
 rw [List.map_replicate];exact row_new u (List.replicate n (U 0)) 31 n (by simp) (by unfold maxLen; omega)
def PsZ (n m i : Nat) (v : Value) (w : World) : Prop :=
 match i with
 | 2 => Row w v ((List.replicate n false).map Value.bool)
 | 6 => Row w v ((List.replicate n (0 : UInt16)).map wV)
 | 10 => Row w v ((List.replicate m (0 : UInt16)).map wV)
 | 13 => Row w v ((List.replicate 1 (0 : UInt16)).map wV)
 | 3 => ∃ a c, v = .agg #[J 15, J 0, J (n : Int), J 0, J 0, .slice a n c, nS, U 0, U 0] ∧ Row w (.slice a n c) ((List.replicate n false).map Value.bool)
 | 7 => ∃ a c, v = .agg #[J 16, J 0, J (n : Int), J 0, J 0, nS, .slice a n c, U 0, U 0] ∧ Row w (.slice a n c) ((List.replicate n (0 : UInt16)).map wV)
 | 11 => ∃ a c, v = .agg #[J 23, J 0, J 1, J 0, J 0, nS, .slice a m c, U 0, U 0] ∧ Row w (.slice a m c) ((List.replicate m (0 : UInt16)).map wV)
 | 14 => ∃ a c, v = .agg #[J 23, J 0, J (n : Int), J 0, J 0, nS, .slice a 1 c, U 0, U 0] ∧ Row w (.slice a 1 c) ((List.replicate 1 (0 : UInt16)).map wV)
 | 15 => ∃ b, v = .slice (some ⟨b, 0, none⟩) 4 4 ∧ Reqs w (.slice (some ⟨b, 0, none⟩) 4 4) [⟨15, 0, n, 0, 0, List.replicate n false, [], 0, 0⟩, ⟨16, 0, n, 0, 0, [], List.replicate n 0, 0, 0⟩, ⟨23, 0, 1, 0, 0, [], List.replicate m 0, 0, 0⟩, ⟨23, 0, n, 0, 0, [], List.replicate 1 0, 0, 0⟩]
 | 16 => v = .bool true
 | 17 => v = .bool false
 | _ => True
theorem PsZ.ext {n m : Nat} (i : Nat) (v : Value) (w w' : World) (h : PsZ n m i v w) (hx : Ext w w') : PsZ n m i v w' := by
 unfold PsZ at h ⊢
 split at h
 ·
  exact h.below hx
 ·
  exact h.below hx
 ·
  exact h.below hx
 ·
  exact h.below hx
 ·
  obtain ⟨a, c, e, h⟩ := h; exact ⟨a, c, e, h.below hx⟩
 ·
  obtain ⟨a, c, e, h⟩ := h; exact ⟨a, c, e, h.below hx⟩
 ·
  obtain ⟨a, c, e, h⟩ := h; exact ⟨a, c, e, h.below hx⟩
 ·
  obtain ⟨a, c, e, h⟩ := h; exact ⟨a, c, e, h.below hx⟩
 ·
  obtain ⟨b, e, h⟩ := h; exact ⟨b, e, h.ext hx⟩
 ·
  exact h
 ·
  exact h
 ·
  trivial
set_option maxRecDepth 100000 in
set_option maxHeartbeats 16000000 in
theorem numbers9 (w : World) : Calls Tryz.prog 3 #[] w fun e w' => e = .returned (.bool true) ∧ Bo w w' := by
 have BW := Below.refl w.heap.size w;go_enter Tryz.func3, Tryz.ntmps3;go_wp2_with fail
 go_loopw [1] (fun z wr => ∃ k : Nat, 1 ≤ k ∧ k ≤ 30 ∧ z = J k ∧ Bo w wr) (fun z _ => 30 - (intOf z).toNat)
 case atStart => exact ⟨1, by omega, by omega, rfl, BW⟩
 case round =>
  clear BW;obtain ⟨k, hk1, hk2, rfl, BW⟩ := hrel;by_cases hlt : k < 30
  ·
   have hlt' : (k : Int) < 30 := by omega
   go_wp2_with fail
   refine (tape_law9 k wr (by omega)).mono ?_;rintro e wa ⟨v1, rfl, l, ht, hi, E⟩;replace BW := bT BW E;clear E;obtain ⟨at', ct, rfl, -⟩ := id ht;simp only [List.length_map] at ht ⊢;go_wp2_with fail
   refine (requests_law9 at' l.length ct l 30 wa ht hi (by omega)).mono ?_;rintro e wb ⟨v2, rfl, qs, Q1, -, E⟩;replace BW := bT BW E;clear E ht hi;have m1 : IntKind.i64.wrap (3 * (k : Int)) = 3 * (k : Int) := IntWalk.i64_in _ (by omega);go_wp2_with fail
   clear m1;have E := aL wb (.cells #[.int .u8 (k : Int)] 5);have N1 := row_new wb [.int .u8 (k : Int)] 5 1 rfl (by unfold maxLen; omega);have s1 := Hh (sza wb (.cells #[.int .u8 (k : Int)] 5));replace BW := bT BW E;replace Q1 := Q1.ext E;clear E;generalize wb.heap.size = g1 at *;generalize wb.alloc (.cells #[.int .u8 (k : Int)] 5) = wc at *;rw [← s1.out];clear s1;have E := aL wc (.cells #[.int .u8 1, .int .u8 2, .int .u8 3] 5);have N2 := row_new wc [.int .u8 1, .int .u8 2, .int .u8 3] 5 3 rfl (by unfold maxLen; omega);have s1 := Hh (sza wc (.cells #[.int .u8 1, .int .u8 2, .int .u8 3] 5));replace BW := bT BW E;replace Q1 := Q1.ext E;replace N1 := N1.below E;clear E;generalize wc.heap.size = g2 at *;generalize wc.alloc (.cells #[.int .u8 1, .int .u8 2, .int .u8 3] 5) = wd at *;rw [← s1.out];clear s1;have E := aL wd (.cells #[.int .u8 (128 + (k : Int)), .int .u8 0] 5);have N3 := row_new wd [.int .u8 (128 + (k : Int)), .int .u8 0] 5 2 rfl (by unfold maxLen; omega);have s1 := Hh (sza wd (.cells #[.int .u8 (128 + (k : Int)), .int .u8 0] 5));replace BW := bT BW E;replace Q1 := Q1.ext E;replace N1 := N1.below E;replace N2 := N2.below E;clear E;generalize wd.heap.size = g3 at *;generalize wd.alloc (.cells #[.int .u8 (128 + (k : Int)), .int .u8 0] 5) = we at *;rw [← s1.out];clear s1;have E := aL we (.cells #[.slice (some ⟨g1, 0, none⟩) 1 1, nS, .slice (some ⟨g2, 0, none⟩) 3 3, .slice (some ⟨g3, 0, none⟩) 2 2] 27);have N4 := row_new we [.slice (some ⟨g1, 0, none⟩) 1 1, nS, .slice (some ⟨g2, 0, none⟩) 3 3, .slice (some ⟨g3, 0, none⟩) 2 2] 27 4 rfl (by unfold maxLen; omega);have s1 := Hh (sza we (.cells #[.slice (some ⟨g1, 0, none⟩) 1 1, nS, .slice (some ⟨g2, 0, none⟩) 3 3, .slice (some ⟨g3, 0, none⟩) 2 2] 27));replace BW := bT BW E;replace Q1 := Q1.ext E;replace N1 := N1.below E;replace N2 := N2.below E;replace N3 := N3.below E;clear E;generalize we.heap.size = g4 at *;generalize we.alloc (.cells #[.slice (some ⟨g1, 0, none⟩) 1 1, nS, .slice (some ⟨g2, 0, none⟩) 3 3, .slice (some ⟨g3, 0, none⟩) 2 2] 27) = wf at *;clear s1;have k1 : (b8 (k : Int)).toNat = k := by have := b8_val (k : Int) (by omega) (by omega); omega
   have k2 : ((b8 (128 + (k : Int))).toNat : Int) = 128 + (k : Int) := b8_val _ (by omega) (by omega);have RB : RowsB wf (.slice (some ⟨g4, 0, none⟩) 4 4) [[b8 (k : Int)], [], [1, 2, 3], [b8 (128 + (k : Int)), 0]] := by
    refine ⟨_, N4, rfl, fun i hi => ?_⟩
    match i, hi with
    | 0, _ => exact ⟨_, rfl, by show Row _ _ [Value.int .u8 ((b8 (k : Int)).toNat : Int)]; rw [k1]; exact N1⟩
    | 1, _ => exact ⟨_, rfl, Row.nil _⟩
    | 2, _ => exact ⟨_, rfl, N2⟩
    | 3, _ => exact ⟨_, rfl, by show Row _ _ [Value.int .u8 ((b8 (128 + (k : Int))).toNat : Int), .int .u8 0]; rw [k2]; exact N3⟩
   clear N1 N2 N3 N4 k1 k2;refine (play9 (3 * (k : Int)) _ _ qs [[b8 (k : Int)], [], [1, 2, 3], [b8 (128 + (k : Int)), 0]] wf Q1 RB (fun i => by match i with
        | 0 => simp
        | 1 => simp
        | 2 => simp
        | 3 => simp
        | i + 4 => simp) (by omega)).mono ?_
   rintro e wg ⟨rfl, E⟩;have HB := Hh (bT BW E);clear E BW Q1 RB;go_wp2;exact ⟨⟨k + 1, by omega, by omega, by simp, HB.out⟩, by simp only [intOf]; omega⟩
  ·
   have hlt' : ¬ (k : Int) < 30 := by omega
   clear hk1 hk2 hlt;go_wp2_with fail
   have hb12 : w.heap.size ≤ wr.heap.size := BW.size;have E := aL wr (.cells #[J 0, J 1, J 121, J 122, J 123, J 124, J 125, J 126, J 1968, J 1969, J 2000, J 2001] 3);have N12 := Blk.new wr 3 [J 0, J 1, J 121, J 122, J 123, J 124, J 125, J 126, J 1968, J 1969, J 2000, J 2001];have s1 := Hh (sza wr (.cells #[J 0, J 1, J 121, J 122, J 123, J 124, J 125, J 126, J 1968, J 1969, J 2000, J 2001] 3));replace BW := bT BW E;clear E;generalize wr.heap.size = b12 at *;generalize wr.alloc (.cells #[J 0, J 1, J 121, J 122, J 123, J 124, J 125, J 126, J 1968, J 1969, J 2000, J 2001] 3) = w2 at *;clear s1;have hz12 := N12.lt;clear hlt';go_loopw [2, 4, 6, 31, 35, 36, 37] (fun z2 _ _ z31 _ _ _ wr => ∃ (i : Nat) (qs : List Rq), i ≤ 12 ∧ z31 = J i ∧ qs.length ≤ 4 * i ∧ OReqs (fun _ => False) wr (b12 + 1) z2 qs ∧ Blk wr b12 3 [J 0, J 1, J 121, J 122, J 123, J 124, J 125, J 126, J 1968, J 1969, J 2000, J 2001] ∧ Bo w wr ∧ b12 + 1 ≤ wr.heap.size) (fun _ _ _ z31 _ _ _ _ => 12 - (intOf z31).toNat)
   case atStart => exact ⟨0, [], by omega, rfl, by simp, OReqs.nil _ _ (fun i hi => hi.elim), N12, BW, hz12⟩
   case round =>
    clear N12 BW hz12;obtain ⟨i, qs, hi, rfl, hql, O, N12, BW, hz12⟩ := hrel;by_cases hlt : i < 12
    ·
     have hlt' : (i : Int) < 12 := by omega
     obtain ⟨x, hx⟩ : ∃ x : Int, ([J 0, J 1, J 121, J 122, J 123, J 124, J 125, J 126, J 1968, J 1969, J 2000, J 2001] : List Value)[i]? = some (J x) := by
      match i, hlt with
      | 0, _ => exact ⟨0, rfl⟩
      | 1, _ => exact ⟨1, rfl⟩
      | 2, _ => exact ⟨121, rfl⟩
      | 3, _ => exact ⟨122, rfl⟩
      | 4, _ => exact ⟨123, rfl⟩
      | 5, _ => exact ⟨124, rfl⟩
      | 6, _ => exact ⟨125, rfl⟩
      | 7, _ => exact ⟨126, rfl⟩
      | 8, _ => exact ⟨1968, rfl⟩
      | 9, _ => exact ⟨1969, rfl⟩
      | 10, _ => exact ⟨2000, rfl⟩
      | 11, _ => exact ⟨2001, rfl⟩
     have cx := (N12.cell i).trans hx;clear hx;go_wp2_with fail
     clear cx;obtain ⟨wo, hwo⟩ := exb (wr);subst hwo;have hne0 : Hid (∀ r, u2.ownBlock = some r → r < wo.heap.size) := fun r hr => by
      obtain ⟨-, xs, h1, -⟩ := O;exact (h1.lt r hr).2
     have E := aL wo (.cells #[J 1, J 2, J 3, J 4] 3);have N4 := Blk.new wo 3 [J 1, J 2, J 3, J 4];have s1 := Hh (sza wo (.cells #[J 1, J 2, J 3, J 4] 3));replace BW := bT BW E;replace O := O.ext E;replace N12 := N12.below E N12.lt;clear E;generalize wo.heap.size = b4 at *;generalize wo.alloc (.cells #[J 1, J 2, J 3, J 4] 3) = w3 at *;clear s1;have hz4 := N4.lt;have hne : Hid (∀ r, u2.ownBlock = some r → r ≠ b4) := fun r hr e => by
      have := hne0.out r hr;omega
     clear hne0;go_loopw [2, 6, 37] (fun z2 _ z37 wr => ∃ (j : Nat) (qs' : List Rq), j ≤ 4 ∧ z37 = J j ∧ qs'.length ≤ 4 * i + j ∧ OReqs (fun _ => False) wr (b12 + 1) z2 qs' ∧ Blk wr b12 3 [J 0, J 1, J 121, J 122, J 123, J 124, J 125, J 126, J 1968, J 1969, J 2000, J 2001] ∧ Blk wr b4 3 [J 1, J 2, J 3, J 4] ∧ Hid (∀ r, z2.ownBlock = some r → r ≠ b4) ∧ Bo w wr) (fun _ _ z37 _ => 4 - (intOf z37).toNat)
     case atStart => exact ⟨0, qs, by omega, rfl, by omega, O, N12, N4, hne, BW⟩
     case round =>
      clear O N12 N4 hne BW hz4;obtain ⟨j, qs', hj, rfl, hql', O, N12, N4, hne, BW⟩ := hrel;by_cases hltj : j < 4
      ·
       have hltj' : (j : Int) < 4 := by omega
       obtain ⟨y, hy⟩ : ∃ y : Int, ([J 1, J 2, J 3, J 4] : List Value)[j]? = some (J y) := by
        match j, hltj with
        | 0, _ => exact ⟨1, rfl⟩
        | 1, _ => exact ⟨2, rfl⟩
        | 2, _ => exact ⟨3, rfl⟩
        | 3, _ => exact ⟨4, rfl⟩
       have cy := (N4.cell j).trans hy;clear hy;have XB := Blk.new wr tQ [J y, J 0, J x, J 0, J 0, nS, nS, U 0, U 0];have EB := aL wr (.cells #[J y, J 0, J x, J 0, J 0, nS, nS, U 0, U 0] tQ);have AK : ReqL (fun _ => False) (wr.alloc (.cells #[J y, J 0, J x, J 0, J 0, nS, nS, U 0, U 0] tQ)) u2 (fun j => ([J y, J 0, J x, J 0, J 0, nS, nS, U 0, U 0] : List Value)[j]?) ⟨y, 0, x, 0, 0, [], [], 0, 0⟩ := ⟨_, _, ⟨rfl, rfl, rfl, rfl, rfl, rfl, rfl, rfl, rfl⟩, ⟨Row.nil _, fun h => absurd rfl h⟩, ⟨Row.nil _, fun h => absurd rfl h⟩⟩;have O3 := O.ext EB;have hz2 := N12.lt;have N12' := N12.below EB N12.lt;have N4' := N4.below EB N4.lt;have hzw := BW.size;have B3 := Hh (bT BW EB);obtain ⟨hT, xs, h1, h2⟩ := O3;have H2 := Hh h2;have HA := Hh AK;have HNE := Hh hne.out;have hz4 := N4.lt;clear O AK h2 EB BW N12 N4 hne;go_wp2_with (at_builtin; refine wpList_pushR rfl (.tmp 41) (.tmp 45) rfl (b12 + 1) rfl h1 _ _ _ rfl XB rfl (by simp [Value.oneCell']) (by omega) (by simp; omega) ?_)
       intro v5 w5 q1 q2 q4;have PS := Hh (OReqs.push hT h1 H2.out HA.out q1 q2 (by simpa using q4));have lt1 := fun r hr => h1.lt r hr;have M12 := Hh (blk_grown N12' q2 (fun e => by have := (lt1 b12 e).1; omega));have M4 := Hh (blk_grown N4' q2 (fun e => HNE.out b4 e rfl));have NE5 : Hid (∀ r, v5.ownBlock = some r → r ≠ b4) := fun r hr e => by
        subst e;rcases q4 with q4 | q4
        ·
         exact HNE.out r (q4 ▸ hr) rfl
        ·
         rw [q4] at hr;simp at hr; omega
       have E5 := Hh (B3.out.grown q2 (by simp; omega) (fun r hr => by have := (lt1 r hr).1; omega));clear q1 q2 q4 h1 H2 HA XB hT B3 cy lt1 N12' N4' HNE;go_wp2;exact ⟨⟨j + 1, qs' ++ [⟨y, 0, x, 0, 0, [], [], 0, 0⟩], by omega, by simp, by simp; omega, PS.out, M12.out, M4.out, NE5, E5.out⟩, by simp only [intOf]; omega⟩
      ·
       have hltj' : ¬ (j : Int) < 4 := by omega
       have HO := Hh O;have HN := Hh N12;have HW := Hh BW;have hz := N12.lt;clear O N12 N4 BW hne;go_wp2;exact ⟨⟨i + 1, qs', by omega, by simp, by omega, HO.out, HN.out, HW.out, by omega⟩, by simp only [intOf]; omega⟩
    ·
     have hlt' : ¬ (i : Int) < 12 := by omega
     clear hi hql hlt N12 hz12 hb12;have RL := O.reqs;clear O;go_wp2_with fail
     clear hlt';have E := aL wr (.cells #[J 0, J 1, J 121, J 122, J 123, J 124, J 1968, J 1969] 3);have N8 := Blk.new wr 3 [J 0, J 1, J 121, J 122, J 123, J 124, J 1968, J 1969];have s1 := Hh (sza wr (.cells #[J 0, J 1, J 121, J 122, J 123, J 124, J 1968, J 1969] 3));replace BW := bT BW E;replace RL := RL.ext E;clear E;generalize wr.heap.size = b8 at *;generalize wr.alloc (.cells #[J 0, J 1, J 121, J 122, J 123, J 124, J 1968, J 1969] 3) = w4 at *;clear s1;have hz8 := N8.lt;go_loopw [8, 51] (fun _ z51 wr => ∃ j : Nat, j ≤ 8 ∧ z51 = J j ∧ Reqs wr u2 qs ∧ Blk wr b8 3 [J 0, J 1, J 121, J 122, J 123, J 124, J 1968, J 1969] ∧ Bo w wr) (fun _ z51 _ => 8 - (intOf z51).toNat)
     case atStart => exact ⟨0, by omega, rfl, RL, N8, BW⟩
     case round =>
      clear RL N8 BW hz8;obtain ⟨j, hj, rfl, RL, N8, BW⟩ := hrel;by_cases hlt : j < 8
      ·
       have hlt' : (j : Int) < 8 := by omega
       obtain ⟨n, hn, hx⟩ : ∃ n : Nat, n ≤ 2000 ∧ ([J 0, J 1, J 121, J 122, J 123, J 124, J 1968, J 1969] : List Value)[j]? = some (J (n : Int)) := by
        match j, hlt with
        | 0, _ => exact ⟨0, by omega, rfl⟩
        | 1, _ => exact ⟨1, by omega, rfl⟩
        | 2, _ => exact ⟨121, by omega, rfl⟩
        | 3, _ => exact ⟨122, by omega, rfl⟩
        | 4, _ => exact ⟨123, by omega, rfl⟩
        | 5, _ => exact ⟨124, by omega, rfl⟩
        | 6, _ => exact ⟨1968, by omega, rfl⟩
        | 7, _ => exact ⟨1969, by omega, rfl⟩
       have cx := (N8.cell j).trans hx;clear hx;have hz8 := N8.lt;obtain ⟨m, hm, hmin⟩ : ∃ m : Nat, m ≤ 127 ∧ (if (127 : Int) < (n : Int) then (127 : Int) else (n : Int)) = (m : Int) := by
        by_cases h : (127 : Int) < (n : Int)
        ·
         exact ⟨127, by omega, by rw [if_pos h]; rfl⟩
        ·
         exact ⟨n, by omega, by rw [if_neg h]⟩
       have MB := Hh (fun u => mk_zer 29 4 (.bool false) 1 Tryz.underlying29 info_bool rfl (n : Int) n rfl (by omega) (by omega) u);have MV := Hh (fun u => mk_zer 30 31 (U 0) 2 Tryz.underlying30 info_w16 rfl (n : Int) n rfl (by omega) (by omega) u);have MM := Hh (fun u => mk_zer 30 31 (U 0) 2 Tryz.underlying30 info_w16 rfl (m : Int) m rfl (by omega) (by omega) u);have M1 := Hh (fun u => mk_zer 30 31 (U 0) 2 Tryz.underlying30 info_w16 rfl 1 1 rfl (by omega) (by omega) u);have HB := Hh (fun u => zrowB9 u n (by omega));have HV := Hh (fun u => zrowW9 u n (by omega));have HM := Hh (fun u => zrowW9 u m (by omega));have H1 := Hh (fun u => zrowW9 u 1 (by omega));go_upto_region 19 with fail
       clear cx;refine c_begin 18 rfl (by kernel_rfl) ?_;have BH := Hh (bT BW (Below.refl wr.heap.size wr).drew);have RH := Hh (RL.ext (Below.refl wr.heap.size wr).drew);have NH := Hh (N8.below (Below.refl wr.heap.size wr).drew N8.lt);clear RL N8 BW hz8;generalize wr.drew = w0 at *;refine c_P trivial 0 rfl ?_;refine c_P trivial 1 rfl ?_;refine c_P trivial 4 rfl ?_;refine c_P trivial 5 rfl ?_;refine c_P trivial 8 rfl ?_;refine c_P trivial 9 rfl ?_;refine c_P trivial 12 rfl ?_;refine c_phase (n := 0) [2, 3, 6, 7, 10, 11, 13, 14, 15, 16, 17] [(some 57, 2), (some 58, 3), (some 61, 6), (some 62, 7), (some 65, 10), (some 66, 11), (some 68, 13), (some 69, 14), (some 70, 15), (some 71, 16), (some 72, 17)] (PsZ n m) (fun _ _ => True) (fun _ _ _ => trivial) (by kernel_rfl) (by kernel_rfl) ?mono ?hC ?hops ?hend
       case mono => exact PsZ.ext
       case hC => exact fun w' hx => trivial
       case hops =>
        intro i hi vs w3 hx hd;simp only [List.mem_cons, List.not_mem_nil, or_false] at hi;rcases hi with rfl | rfl | rfl | rfl | rfl | rfl | rfl | rfl | rfl | rfl | rfl
        ·
         refine phase_op 2 [] (by kernel_rfl) rfl (fun K hK => ?_);simp only [putsD];have hm := MB.out w3;go_simp;exact hK.out _ _ (aL _ _) (HB.out w3) (fun _ _ _ _ _ => trivial)
        ·
         have r : PsZ n m 2 (vs 2) w3 := hd 2 (by simp) (by kernel_rfl);obtain ⟨a, c, e, -⟩ := id r;rw [List.length_map, List.length_replicate] at e;rw [e] at r;refine phase_op 3 [(some 57, 2)] (by kernel_rfl) rfl (fun K hK => ?_);simp only [putsD, e];try simp only [Pu]
         go_simp;have h := hK.out _ _ (Below.refl _ _) ⟨a, c, rfl, r⟩ (fun _ _ _ _ _ => trivial);simp only [putsD, e] at h;exact h
        ·
         refine phase_op 6 [] (by kernel_rfl) rfl (fun K hK => ?_);simp only [putsD];have hm := MV.out w3;go_simp;exact hK.out _ _ (aL _ _) (HV.out w3) (fun _ _ _ _ _ => trivial)
        ·
         have r : PsZ n m 6 (vs 6) w3 := hd 6 (by simp) (by kernel_rfl);obtain ⟨a, c, e, -⟩ := id r;rw [List.length_map, List.length_replicate] at e;rw [e] at r;refine phase_op 7 [(some 61, 6)] (by kernel_rfl) rfl (fun K hK => ?_);simp only [putsD, e];try simp only [Pu]
         go_simp;have h := hK.out _ _ (Below.refl _ _) ⟨a, c, rfl, r⟩ (fun _ _ _ _ _ => trivial);simp only [putsD, e] at h;exact h
        ·
         refine phase_op 10 [] (by kernel_rfl) rfl (fun K hK => ?_);simp only [putsD];have hm := MM.out w3;go_simp;exact hK.out _ _ (aL _ _) (HM.out w3) (fun _ _ _ _ _ => trivial)
        ·
         have r : PsZ n m 10 (vs 10) w3 := hd 10 (by simp) (by kernel_rfl);obtain ⟨a, c, e, -⟩ := id r;rw [List.length_map, List.length_replicate] at e;rw [e] at r;refine phase_op 11 [(some 65, 10)] (by kernel_rfl) rfl (fun K hK => ?_);simp only [putsD, e];try simp only [Pu]
         go_simp;have h := hK.out _ _ (Below.refl _ _) ⟨a, c, rfl, r⟩ (fun _ _ _ _ _ => trivial);simp only [putsD, e] at h;exact h
        ·
         refine phase_op 13 [] (by kernel_rfl) rfl (fun K hK => ?_);simp only [putsD];have hm := M1.out w3;go_simp;exact hK.out _ _ (aL _ _) (H1.out w3) (fun _ _ _ _ _ => trivial)
        ·
         have r : PsZ n m 13 (vs 13) w3 := hd 13 (by simp) (by kernel_rfl);obtain ⟨a, c, e, -⟩ := id r;rw [List.length_map, List.length_replicate] at e;rw [e] at r;refine phase_op 14 [(some 68, 13)] (by kernel_rfl) rfl (fun K hK => ?_);simp only [putsD, e];try simp only [Pu]
         go_simp;have h := hK.out _ _ (Below.refl _ _) ⟨a, c, rfl, r⟩ (fun _ _ _ _ _ => trivial);simp only [putsD, e] at h;exact h
        ·
         obtain ⟨a3, c3, e3, r3⟩ : PsZ n m 3 (vs 3) w3 := hd 3 (by simp) (by kernel_rfl);obtain ⟨a7, c7, e7, r7⟩ : PsZ n m 7 (vs 7) w3 := hd 7 (by simp) (by kernel_rfl);obtain ⟨a11, c11, e11, r11⟩ : PsZ n m 11 (vs 11) w3 := hd 11 (by simp) (by kernel_rfl);obtain ⟨a14, c14, e14, r14⟩ : PsZ n m 14 (vs 14) w3 := hd 14 (by simp) (by kernel_rfl);refine phase_op 15 [(some 58, 3), (some 62, 7), (some 66, 11), (some 69, 14)] (by kernel_rfl) rfl (fun K hK => ?_);simp only [putsD, e3, e7, e11, e14] at hK ⊢;try simp only [Pu]
         clear e3 e7 e11 e14 hd;go_simp;have XB := Blk.new w3 tQ [J 15, J 0, J (n : Int), J 0, J 0, .slice a3 n c3, nS, U 0, U 0, J 16, J 0, J (n : Int), J 0, J 0, nS, .slice a7 n c7, U 0, U 0, J 23, J 0, J 1, J 0, J 0, nS, .slice a11 m c11, U 0, U 0, J 23, J 0, J (n : Int), J 0, J 0, nS, .slice a14 1 c14, U 0, U 0];have E := aL w3 (.cells #[J 15, J 0, J (n : Int), J 0, J 0, .slice a3 n c3, nS, U 0, U 0, J 16, J 0, J (n : Int), J 0, J 0, nS, .slice a7 n c7, U 0, U 0, J 23, J 0, J 1, J 0, J 0, nS, .slice a11 m c11, U 0, U 0, J 23, J 0, J (n : Int), J 0, J 0, nS, .slice a14 1 c14, U 0, U 0] tQ);replace r3 := r3.below E;replace r7 := r7.below E;replace r11 := r11.below E;replace r14 := r14.below E;refine hK.out _ _ E ⟨_, rfl, _, 4, rfl, Nat.le_refl _, by unfold maxLen; omega, fun i hi => ⟨_, 0, rfl, fun j q hq => ?_⟩⟩ (fun _ _ _ _ _ => trivial);clear E hK K hx
         match j, hq with
         | 0, hq =>
          have hq := (Option.some.inj hq).symm;subst hq;exact ⟨_, _, ⟨XB.cell 0, XB.cell 1, XB.cell 2, XB.cell 3, XB.cell 4, XB.cell 5, XB.cell 6, XB.cell 7, XB.cell 8⟩, r3, Row.nil _⟩
         | 1, hq =>
          have hq := (Option.some.inj hq).symm;subst hq;exact ⟨_, _, ⟨XB.cell 9, XB.cell 10, XB.cell 11, XB.cell 12, XB.cell 13, XB.cell 14, XB.cell 15, XB.cell 16, XB.cell 17⟩, Row.nil _, r7⟩
         | 2, hq =>
          have hq := (Option.some.inj hq).symm;subst hq;exact ⟨_, _, ⟨XB.cell 18, XB.cell 19, XB.cell 20, XB.cell 21, XB.cell 22, XB.cell 23, XB.cell 24, XB.cell 25, XB.cell 26⟩, Row.nil _, r11⟩
         | 3, hq =>
          have hq := (Option.some.inj hq).symm;subst hq;exact ⟨_, _, ⟨XB.cell 27, XB.cell 28, XB.cell 29, XB.cell 30, XB.cell 31, XB.cell 32, XB.cell 33, XB.cell 34, XB.cell 35⟩, Row.nil _, r14⟩
         | j + 4, hq => exact absurd hq (by simp)
        ·
         obtain ⟨b, e, RQ⟩ : PsZ n m 15 (vs 15) w3 := hd 15 (by simp) (by kernel_rfl);refine phase_op 16 [(some 70, 15)] (by kernel_rfl) rfl (fun K hK => ?_);simp only [putsD, e] at hK ⊢;try simp only [Pu]
         clear e;go_wp2_with fail
         refine (play9 2100 _ _ _ [] w3 RQ (RowsB.nil9 _) (fun i => by simp) (by omega)).mono ?_;rintro e w5 ⟨rfl, E⟩;go_simp;exact hK.out _ _ E rfl (fun _ _ _ _ _ => trivial)
        ·
         have e : vs 16 = .bool true := hd 16 (by simp) (by kernel_rfl);refine phase_op 17 [(some 71, 16)] (by kernel_rfl) rfl (fun K hK => ?_);simp only [putsD, e] at hK ⊢;try simp only [Pu]
         go_simp;exact hK.out _ _ (Below.refl _ _) rfl (fun _ _ _ _ _ => trivial)
       case hend =>
        intro vs w3 BZ hP hR;have e17 : vs 17 = .bool false := hP 17 (by simp);clear hP hR;have B3 := Hh (bT BH.out BZ);have R3 := Hh (RH.out.ext BZ);have N3 := Hh (NH.out.below BZ NH.out.lt);clear BZ BH RH NH MB MV MM M1 HB HV HM H1;simp only [putsD, e17];clear e17;generalize vs 2 = v2 at *;generalize vs 3 = v3 at *;generalize vs 6 = v6 at *;generalize vs 7 = v7 at *;generalize vs 10 = v10 at *;generalize vs 11 = v11 at *;generalize vs 13 = v13 at *;generalize vs 14 = v14 at *;generalize vs 15 = v15 at *;generalize vs 16 = v16 at *;clear vs;try simp only [Pu]
        refine c_done (by kernel_rfl) ?_;go_wp2;exact ⟨⟨j + 1, by omega, by simp, R3.out, N3.out, B3.out⟩, by simp only [intOf]; omega⟩
      ·
       have hlt' : ¬ (j : Int) < 8 := by omega
       clear N8 hj hlt;go_wp2_with fail
       refine (play9 2100 _ _ qs [] wr RL (RowsB.nil9 _) (fun i => by simp) (by omega)).mono ?_;rintro e w5 ⟨rfl, E⟩;replace BW := bT BW E;clear E RL hlt';go_wp2_with fail
       refine (play9 0 _ _ [] [] w5 (Reqs.nil _) (RowsB.nil9 _) (fun i => by simp) (by omega)).mono ?_;rintro e w6 ⟨rfl, E⟩;replace BW := bT BW E;clear E;go_wp2_with fail
       refine (known9 w6).mono ?_;rintro e w7 ⟨rfl, E⟩;replace BW := Hh (bT BW E);clear E;go_wp2;go_ret;exact ⟨rfl, BW.out⟩
end Go.Proofs.YtdihcdphgiaepaaGreat
