/- What stays behind a Put; the contract of burgagelaw6's known. -/
import Derived.Test.YtejcigeccmfeeaaN5
namespace Go.Proofs.Ytejcigeccmfeeaa
open Go.RowKit

/-- a row that lies in none of the blocks -/
def RowO (N : Nat → Prop) (w : World) (v : Value) (xs : List Value) : Prop := Row w v xs ∧ ∀ k, v.ownBlock = some k → ¬ N k ∧ k < w.heap.size
theorem RowO.put {g : Nat} {v v' u : Value} {w w' : World} {xs : List Value} (h : RowO (Ft g v) w u xs) (k : Kp (Ft g v) w w') (hv : ∀ k, v'.ownBlock = some k → v.ownBlock = some k ∨ w.heap.size ≤ k) : RowO (Ft g v') w' u xs := by
  refine ⟨h.1.kp k (fun i hi => (h.2 i hi).1), fun i hi => ?_⟩
  obtain ⟨h1, h2⟩ := h.2 i hi
  refine ⟨fun hn => ?_, Nat.lt_of_lt_of_le h2 k.size⟩
  rcases hn with hn | hn
  · exact h1 (.inl hn)
  · rcases hv i hn with h3 | h3
    · exact h1 (.inr h3)
    · omega
theorem RowO.ext {N : Nat → Prop} {w w' : World} {u : Value} {xs : List Value} (h : RowO N w u xs) (k : Below w.heap.size w w') : RowO N w' u xs :=
  ⟨h.1.below k, fun i hi => ⟨(h.2 i hi).1, Nat.lt_of_lt_of_le (h.2 i hi).2 k.size⟩⟩
theorem Mss.put {t : TypeId} {base g : Nat} {v v' u : Value} {w w' : World} {ms : List Ms} (h : Mss t (Ft g v) w base u ms) (k : Kp (Ft g v) w w') (hv : ∀ k, v'.ownBlock = some k → v.ownBlock = some k ∨ w.heap.size ≤ k) : Mss t (Ft g v') w' base u ms := by
  have h1 := h.off (N' := fun i => Ft g v i ∨ Ft g v' i) (fun i hi hn => by
    rcases hn with hn | hn | hn
    · exact hn
    · exact .inl hn
    · exact .inr ((hv i hn).resolve_right (by omega)))
  exact (h1.kp k (fun i h => .inl h)).off (fun i _ h => .inr h)
theorem RowO.of_owns {w : World} {base n : Nat} {v : Value} {xs : List Value} {N : Nat → Prop} (h : w.ownsRow base 5 1 v n xs) (hN : ∀ k, base ≤ k → k < w.heap.size → ¬ N k) : RowO N w v xs :=
  ⟨Row.of_owns h, fun k hk => ⟨hN k (owns_lt h hk).1 (owns_lt h hk).2, (owns_lt h hk).2⟩⟩
theorem Mss.at {t : TypeId} {N : Nat → Prop} {w : World} {base : Nat} {v : Value} {ms : List Ms} (h : Mss t N w base v ms) : ∃ a c, v = .slice a ms.length c ∧ ∀ (i : Nat) (m : Ms), ms[i]? = some m → ∃ b u, a = some ⟨b, 0, none⟩ ∧ w.cell? ⟨b, 3 * i, none⟩ = some (.int .i64 m.id) ∧ w.cell? ⟨b, 3 * i + 1, none⟩ = some (.int .i64 m.unit) ∧ w.cell? ⟨b, 3 * i + 2, none⟩ = some u ∧ Row w u (m.pdu.map bV) := by
  obtain ⟨us, h1, h2, h3, h4⟩ := h
  rcases id h2.2 with ⟨rfl, hn⟩ | ⟨g, cap, cur, rfl, -⟩
  · refine ⟨none, 0, by rw [hn], fun i m hm => ?_⟩
    rw [List.eq_nil_of_length_eq_zero hn] at hm
    simp at hm
  · have hc := fun j h => h2.cellAt j h
    refine ⟨_, cap, rfl, fun i m hm => ?_⟩
    obtain ⟨u, e, o, r⟩ := h4 i m hm
    obtain ⟨q1, q2, q3⟩ := mcs_get ms us i m u hm e
    have hi : i < ms.length := by
      rcases Nat.lt_or_ge i ms.length with h | h
      · exact h
      · rw [List.getElem?_eq_none h] at hm; cases hm
    have hl := mcs_len ms us h1
    refine ⟨g, u, rfl, ?_, ?_, ?_, Row.of_owns r⟩
    · have := hc (3 * i) (by omega); simpa [q1] using this
    · have := hc (3 * i + 1) (by omega); simpa [q2] using this
    · have := hc (3 * i + 2) (by omega); simpa [q3] using this

theorem RowO.take {N : Nat → Prop} {w : World} {b off n cap : Nat} {xs : List Value} (h : RowO N w (.slice (some ⟨b, off, none⟩) n cap) xs) (k : Nat) (hk : k ≤ n) : RowO N w (.slice (some ⟨b, off, none⟩) k cap) (xs.take k) := ⟨h.1.take k hk, h.2⟩
theorem RowO.from {N : Nat → Prop} {w : World} {b off n cap : Nat} {xs : List Value} (h : RowO N w (.slice (some ⟨b, off, none⟩) n cap) xs) (k : Nat) (hk : k ≤ n) : RowO N w (.slice (some ⟨b, off + k, none⟩) (n - k) (cap - k)) (xs.drop k) := ⟨h.1.from k hk, h.2⟩
theorem RowO.new {N : Nat → Prop} (w : World) (xs : List Value) (e : TypeId) (n : Nat) (hn : n = xs.length) (h : n ≤ maxLen) (hN : ¬ N w.heap.size) : RowO N (w.alloc (.cells xs.toArray e)) (.slice (some ⟨w.heap.size, 0, none⟩) n n) xs :=
  ⟨row_new w xs e n hn h, fun k hk => by
    simp only [Value.ownBlock, Option.some.injEq] at hk
    subst hk
    exact ⟨hN, by simp⟩⟩
theorem Str.foot {t : TypeId} {w : World} {base g : Nat} {v : Value} {wait : List UInt8} {shut : Bool} (h : Str t w base g v wait shut) (hg : base ≤ g) : ∀ k, Ft g v k → base ≤ k := fun k hk => by
  rcases hk with rfl | hk
  · exact hg
  · exact (owns_lt h.own hk).1
theorem Str.footlt {t : TypeId} {w : World} {base g : Nat} {v : Value} {wait : List UInt8} {shut : Bool} (h : Str t w base g v wait shut) : ∀ k, Ft g v k → k < w.heap.size := fun k hk => by
  rcases hk with rfl | hk
  · exact h.blk.lt
  · exact (owns_lt h.own hk).2
theorem Str.opened {t : TypeId} (ht : 5 ≠ t) {w : World} {base g : Nat} {v : Value} {wait : List UInt8} {shut : Bool} (h : Str t w base g v wait shut) : Str t (w.setCell ⟨g, 1, none⟩ (.bool false)) base g v wait false ∧ Kp (Ft g v) w (w.setCell ⟨g, 1, none⟩ (.bool false)) := by
  have k : Kp (fun k => k = g) w (w.setCell ⟨g, 1, none⟩ (.bool false)) := (Kp.refl (fun k => k = g) w).set (p := ⟨g, 1, none⟩) (fun _ => rfl) _
  refine ⟨⟨h.blk.set 1 (.bool false), owns_kp h.own k (fun i hi e => ?_)⟩, ((Kp.refl (Ft g v) w).set (p := ⟨g, 1, none⟩) (fun _ => .inl rfl) _)⟩
  exact owns_blk h.own h.blk ht (by rw [hi, e])
theorem sput_eq {base g : Nat} {v vb : Value} {wait : List UInt8} {shut : Bool} {bs : List UInt8} {w : World} (S : Sm) (hS : smRun ⟨wait, shut, []⟩ bs = S) (hs : Str 58 w base g v wait shut) (hv : RowO (Ft g v) w vb (bs.map bV)) (hbg : base ≤ g) (hok : OkW wait) (hlen : bs.length ≤ 2000000000000) :
    Calls Try.prog 15 #[ptrS g, vb] w fun e w' => ∃ v' vo, e = .returned vo ∧ Str 58 w' base g v' S.wait S.shut ∧ Mss 30 (Ft g v') w' w.heap.size vo S.out ∧ Kp (Ft g v) w w' ∧ (∀ k, v'.ownBlock = some k → v.ownBlock = some k ∨ w.heap.size ≤ k) := by
  subst hS
  exact sput_any base g v vb wait shut bs w hs hv.1 (fun _ k hk => (hv.2 k hk).1) hbg hok hlen

theorem known_bytes : mbytesL 65538 17 [3, 0] = [0, 2, 0, 0, 0, 3, 17, 3, 0] := by decide
theorem known_1 : smRun ⟨[], false, []⟩ [0, 2, 0, 0, 0] = ⟨[0, 2, 0, 0, 0], false, []⟩ := rfl
theorem known_2 : smRun ⟨[0, 2, 0, 0, 0], false, []⟩ [3, 17, 3, 0] = ⟨[], false, [⟨2, 17, [3, 0]⟩]⟩ := rfl
theorem known_3 : smRun ⟨[], false, []⟩ [0, 0, 0, 1, 0, 2] = ⟨[], true, []⟩ := rfl
theorem known_4 : smRun ⟨[], true, []⟩ [0, 2, 0, 0, 0, 3, 17, 3, 0] = ⟨[], true, []⟩ := rfl
theorem known_5 : smRun ⟨[], false, []⟩ [0, 2, 0, 0, 0, 3, 17, 3, 0] = ⟨[], false, [⟨2, 17, [3, 0]⟩]⟩ := rfl

theorem zeros_row (w : World) (n : Nat) (h : n ≤ maxLen) : Row (w.alloc (.cells (zer n (.int .u8 0)) 5)) (.slice (some ⟨w.heap.size, 0, none⟩) n n) ((List.replicate n (0 : UInt8)).map bV) := by
  have := (zer_blk w n (.int .u8 0) 5).row n (by simp) h
  rw [List.length_replicate] at this
  rw [List.map_replicate]
  exact this
theorem mbytes_long (i u : Int) (n : Nat) (h : 253 < n) : mbytesL i u (List.replicate n 0) = [] := by
  unfold mbytesL
  rw [List.length_replicate, if_pos (.inr h)]
theorem known_ok : OkW [0, 2, 0, 0, 0] := fun o => run_short o _ (by decide)

set_option maxHeartbeats 2000000 in
theorem known_any (w : World) : Calls Try.prog 12 #[] w fun e w' => e = .returned (.bool true) ∧ Below w.heap.size w w' := by
  go_enter Try.func12, Try.ntmps12
  go_wp2_with fail
  refine (new_any _).mono ?_
  rintro e w1 ⟨rfl, rfl⟩
  have T1 := Str.new w 58 w.heap.size
  have D1 : Below w.heap.size w (w.alloc (.cells #[.slice none 0 0, .bool false] 58)) := (Below.refl _ _).alloc (Nat.le_refl _) _
  have G1 := T1.blk.lt
  generalize w.alloc (.cells #[.slice none 0 0, .bool false] 58) = w1 at *
  go_wp2_with fail
  refine (mbytes_any 65538 17 _ [3, 0] _ (by decide) (row_new w1 [.int .u8 3, .int .u8 0] 5 2 rfl (by decide))).mono ?_
  rw [known_bytes]
  rintro e w2 ⟨v2, rfl, o2, B2⟩
  replace B2 := below_step (Below.refl w1.heap.size w1) B2
  have S2 := B2.size
  have RB : RowO (Ft w.heap.size (.slice none 0 0)) w2 v2 _ := RowO.of_owns o2 (fun k h1 h2 h => by
    simp at h1
    rcases h with h | h
    · omega
    · cases h)
  obtain ⟨g2, c2, rfl, -⟩ := owns_some o2 (by decide)
  replace RB : RowO (Ft w.heap.size (.slice none 0 0)) w2 (.slice (some ⟨g2, 0, none⟩) 9 c2) (([0, 2, 0, 0, 0, 3, 17, 3, 0] : List UInt8).map bV) := RB
  have hc2 : 9 ≤ c2 ∧ ¬ c2 = 5 := by
    obtain ⟨a, c, e, h1, -⟩ := RB.1
    simp only [Value.slice.injEq] at e
    obtain ⟨-, -, rfl⟩ := e
    simp at h1
    omega
  obtain ⟨hc9, hc5⟩ := hc2
  have T2 := T1.ext B2
  have D2 := D1.trans (B2.mono D1.size)
  clear T1 D1 B2 o2
  go_wp2_with fail
  refine (sput_eq _ known_1 T2 (RB.take 5 (by decide)) (Nat.le_refl _) OkW.nil (by decide)).mono ?_
  rintro e w3 ⟨v3, vx, rfl, T3, Mx, K3, F3⟩
  replace RB := RB.put K3 F3
  have D3 := D2.trans (K3.below w.heap.size D2.size (T2.foot (Nat.le_refl _)))
  obtain ⟨ax, cx, rfl, -⟩ := Mx.at
  clear Mx T2 D2 K3 F3
  have R5 : RowO (Ft w.heap.size v3) w3 (.slice (some ⟨g2, 5, none⟩) 4 (c2 - 5)) (([3, 17, 3, 0] : List UInt8).map bV) := by
    have := RB.from 5 (by decide)
    simpa using this
  go_wp2_with fail
  refine (sput_eq _ known_2 T3 R5 (Nat.le_refl _) known_ok (by decide)).mono ?_
  rintro e w4 ⟨v4, vy, rfl, T4, My, K4, F4⟩
  replace RB := RB.put K4 F4
  have D4 := D3.trans (K4.below w.heap.size D3.size (T3.foot (Nat.le_refl _)))
  clear T3 D3 K4 F4
  obtain ⟨ay, cy, rfl, -⟩ := My.at
  have L4 : Below w4.heap.size w4 (w4.alloc (.cells #[.int .u8 0, .int .u8 0, .int .u8 0, .int .u8 1, .int .u8 0, .int .u8 2] 5)) := (Below.refl _ _).alloc (Nat.le_refl _) _
  have R4 : RowO (Ft w.heap.size v4) _ _ _ := RowO.new w4 [.int .u8 0, .int .u8 0, .int .u8 0, .int .u8 1, .int .u8 0, .int .u8 2] 5 6 rfl (by decide) (fun h => by have := T4.footlt _ h; omega)
  replace RB := RB.ext L4
  replace My := My.ext L4
  replace T4 := T4.ext L4
  replace D4 := D4.trans (L4.mono D4.size)
  clear L4
  go_wp2_with fail
  generalize w4.alloc (.cells #[.int .u8 0, .int .u8 0, .int .u8 0, .int .u8 1, .int .u8 0, .int .u8 2] 5) = w4 at *
  refine (sput_eq (bs := [0, 0, 0, 1, 0, 2]) _ known_3 T4 R4 (Nat.le_refl _) OkW.nil (by decide)).mono ?_
  rintro e w5 ⟨v5, vn, rfl, T5, Mn, K5, F5⟩
  replace RB := RB.put K5 F5
  replace My := My.put K5 F5
  have D5 := D4.trans (K5.below w.heap.size D4.size (T4.foot (Nat.le_refl _)))
  obtain ⟨an, cn, rfl, -⟩ := Mn.at
  clear Mn T4 D4 K5 F5 R4
  go_wp2_with fail
  refine (closed_any _ _ _ _ T5.blk).mono ?_
  rintro e w5 ⟨rfl, rfl⟩
  go_wp2_with fail
  refine (sput_eq _ known_4 T5 RB (Nat.le_refl _) OkW.nil (by decide)).mono ?_
  rintro e w6 ⟨v6, vm, rfl, T6, Mm, K6, F6⟩
  replace RB := RB.put K6 F6
  replace My := My.put K6 F6
  have D6 := D5.trans (K6.below w.heap.size D5.size (T5.foot (Nat.le_refl _)))
  obtain ⟨am, cm, rfl, -⟩ := Mm.at
  clear Mm T5 D5 K6 F6
  go_wp2_with fail
  refine (open_any _ _ _ _ T6.blk).mono ?_
  rintro e w7 ⟨rfl, rfl⟩
  obtain ⟨T7, K7⟩ := T6.opened (by decide)
  replace RB := RB.put K7 (fun k h => .inl h)
  replace My := My.put K7 (fun k h => .inl h)
  have D7 := D6.trans (K7.below w.heap.size D6.size (T6.foot (Nat.le_refl _)))
  clear T6 D6 K7
  generalize w6.setCell ⟨w.heap.size, 1, none⟩ (.bool false) = w7 at *
  go_wp2_with fail
  refine (sput_eq _ known_5 T7 RB (Nat.le_refl _) OkW.nil (by decide)).mono ?_
  rintro e w8 ⟨v8, vz, rfl, T8, Mz, K8, F8⟩
  replace RB := RB.put K8 F8
  replace My := My.put K8 F8
  have D8 := D7.trans (K8.below w.heap.size D7.size (T7.foot (Nat.le_refl _)))
  obtain ⟨az, cz, rfl, -⟩ := Mz.at
  clear Mz T7 D7 K8 F8
  obtain ⟨ay', cy', ey, hy⟩ := My.at
  simp only [Value.slice.injEq] at ey
  obtain ⟨rfl, -, rfl⟩ := ey
  obtain ⟨by0, uy, rfl, y0, y1, y2, y3⟩ := hy 0 _ rfl
  clear hy My
  simp only [Nat.mul_zero, Nat.zero_add] at y0 y1 y2
  have cb := conv_row (P := Try.prog) RB.1 27 9 5 Try.underlying27 Try.underlying5 Try.underlying9
  have cy := conv_row (P := Try.prog) y3 27 9 5 Try.underlying27 Try.underlying5 Try.underlying9
  obtain ⟨auy, cuy, rfl, -⟩ := id y3
  replace y2 : w8.cell? ⟨by0, 2, none⟩ = some (.slice auy 2 cuy) := y2
  replace cy : (convert 27 9 (.slice auy 2 cuy)).run Try.prog w8 = .ok (.string ⟨#[3, 0]⟩) w8 := cy
  obtain ⟨a8, c8, e8⟩ := T8.slice
  subst e8
  simp only [List.length_nil] at T8
  go_wp2_with fail
  refine (len_any _ _ _ _ _ _ T8.blk).mono ?_
  rintro e w9 ⟨rfl, rfl⟩
  go_wp2_with fail
  refine (closed_any _ _ _ _ T8.blk).mono ?_
  rintro e w9 ⟨rfl, rfl⟩
  go_wp2_with fail
  refine (mbytes_any 0 0 _ [] _ (by decide) (Row.nil _)).mono ?_
  rw [show mbytesL 0 0 [] = [] from rfl]
  rintro e w9 ⟨v9, rfl, o9, B9⟩
  obtain ⟨a9, c9, e9, -⟩ := Row.of_owns o9
  replace e9 : v9 = .slice a9 0 c9 := e9
  subst e9
  have D9 := D8.trans (B9.mono D8.size)
  clear B9 o9 T8 RB y0 y1 y2 y3 cb cy D8
  have hmk := mk_zer 27 5 (.int .u8 0) 1 Try.underlying27 info_u8 rfl 254 254 rfl (by omega) (by omega) w9
  go_wp2_with fail
  refine (mbytes_any 0 0 _ (List.replicate 254 0) _ (by decide) (zeros_row w9 254 (by decide))).mono ?_
  rw [mbytes_long 0 0 254 (by decide)]
  rintro e w10 ⟨v10, rfl, o10, B10⟩
  obtain ⟨a10, c10, e10, -⟩ := Row.of_owns o10
  replace e10 : v10 = .slice a10 0 c10 := e10
  subst e10
  have D10 := D9.trans ((((Below.refl w9.heap.size w9).alloc (Nat.le_refl _) _).trans (B10.mono (by simp))).mono D9.size)
  go_wp2
  go_ret
  exact ⟨rfl, D10⟩

end Go.Proofs.Ytejcigeccmfeeaa
