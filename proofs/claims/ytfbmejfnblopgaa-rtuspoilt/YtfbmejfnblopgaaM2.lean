/- Plain mathematics of chapter 2: the sum, as a machine that takes bit by bit. Nothing of the program. -/
import Derived.Test.YtfbmejfnblopgaaM1
namespace Go.Proofs.Ytfbmejfnblopgaa

/-- one down, and, if the bit that fell out was 1, exclusive or 0xa001 -/
def crcBit (s : Nat) : Nat := if s % 2 = 1 then (s / 2) ^^^ 40961 else s / 2
def crcBits : Nat → Nat → Nat
  | 0, s => s
  | n + 1, s => crcBits n (crcBit s)
def crcByte (s : Nat) (x : UInt8) : Nat := crcBits 8 (s ^^^ x.toNat)
def crcFrom (s : Nat) (b : List UInt8) : Nat := b.foldl crcByte s
def crcN (b : List UInt8) : Nat := crcFrom 65535 b

theorem xor_lt16 {a b : Nat} (ha : a < 65536) (hb : b < 65536) : a ^^^ b < 65536 := Nat.xor_lt_two_pow (n := 16) ha hb
theorem crcBit_lt {s : Nat} (h : s < 65536) : crcBit s < 65536 := by
  unfold crcBit
  split
  · exact xor_lt16 (by omega) (by decide)
  · omega
theorem crcBits_lt : ∀ (n s : Nat), s < 65536 → crcBits n s < 65536
  | 0, _, h => h
  | n + 1, _, h => crcBits_lt n _ (crcBit_lt h)
theorem crcByte_lt {s : Nat} (h : s < 65536) (x : UInt8) : crcByte s x < 65536 := crcBits_lt 8 _ (xor_lt16 h (by have := x.toNat_lt; omega))
theorem crcFrom_lt : ∀ (b : List UInt8) (s : Nat), s < 65536 → crcFrom s b < 65536
  | [], _, h => h
  | x :: r, _, h => crcFrom_lt r _ (crcByte_lt h x)
theorem crcN_lt (b : List UInt8) : crcN b < 65536 := crcFrom_lt b _ (by decide)
theorem crcFrom_append (s : Nat) (a b : List UInt8) : crcFrom s (a ++ b) = crcFrom (crcFrom s a) b := by simp [crcFrom]
theorem crcFrom_snoc (s : Nat) (a : List UInt8) (x : UInt8) : crcFrom s (a ++ [x]) = crcByte (crcFrom s a) x := by simp [crcFrom]

theorem crcBit_xor (a b : Nat) : crcBit (a ^^^ b) = crcBit a ^^^ crcBit b := by
  unfold crcBit
  have h : (a ^^^ b) % 2 = (a % 2 + b % 2) % 2 := by
    have h1 := Nat.xor_mod_two_eq_one (a := a) (b := b)
    rcases Nat.mod_two_eq_zero_or_one a with ha | ha <;> rcases Nat.mod_two_eq_zero_or_one b with hb | hb <;> rcases Nat.mod_two_eq_zero_or_one (a ^^^ b) with hc | hc <;> rw [ha, hb, hc] at h1 <;> rw [ha, hb, hc] <;> simp at h1 ⊢
  rw [Nat.xor_div_two]
  rcases Nat.mod_two_eq_zero_or_one a with ha | ha <;> rcases Nat.mod_two_eq_zero_or_one b with hb | hb <;> simp [h, ha, hb]
  · rw [Nat.xor_assoc]
  · rw [Nat.xor_assoc, Nat.xor_assoc, Nat.xor_comm (b / 2)]
  · rw [Nat.xor_assoc, ← Nat.xor_assoc 40961, Nat.xor_comm 40961, Nat.xor_assoc, Nat.xor_self, Nat.xor_zero]
theorem crcBits_xor : ∀ (n a b : Nat), crcBits n (a ^^^ b) = crcBits n a ^^^ crcBits n b
  | 0, _, _ => rfl
  | n + 1, a, b => by rw [crcBits, crcBits, crcBits, crcBit_xor, crcBits_xor n]

theorem xor_cancel (a b : Nat) : a ^^^ b ^^^ b = a := by rw [Nat.xor_assoc, Nat.xor_self, Nat.xor_zero]
theorem xor_eq_zero {a b : Nat} (h : a ^^^ b = 0) : a = b := by
  have := congrArg (· ^^^ b) h
  simpa [xor_cancel] using this

theorem crcBit_zero {s : Nat} (hs : s < 65536) (h : crcBit s = 0) : s = 0 := by
  unfold crcBit at h
  split at h
  · have := xor_eq_zero h
    omega
  · omega
theorem crcBits_zero : ∀ (n s : Nat), s < 65536 → crcBits n s = 0 → s = 0
  | 0, _, _, h => h
  | n + 1, _, hs, h => crcBit_zero hs (crcBits_zero n _ (crcBit_lt hs) h)
theorem crcBits_of_zero : ∀ n, crcBits n 0 = 0
  | 0 => rfl
  | n + 1 => crcBits_of_zero n
theorem crcBits_inj {n a b : Nat} (ha : a < 65536) (hb : b < 65536) (h : crcBits n a = crcBits n b) : a = b := by
  apply xor_eq_zero
  apply crcBits_zero n _ (xor_lt16 ha hb)
  rw [crcBits_xor, h, Nat.xor_self]
theorem xor_inj {a b c : Nat} (h : a ^^^ c = b ^^^ c) : a = b := by
  have := congrArg (· ^^^ c) h
  simpa [xor_cancel] using this
theorem xor_inj' {a b c : Nat} (h : c ^^^ a = c ^^^ b) : a = b := by
  rw [Nat.xor_comm c a, Nat.xor_comm c b] at h; exact xor_inj h

/-- an even one falls, and touches nothing -/
theorem crcBit_even (c : Nat) : crcBit (2 * c) = c := by unfold crcBit; simp
theorem crcBits_add : ∀ (m n s : Nat), crcBits (m + n) s = crcBits n (crcBits m s)
  | 0, n, s => by simp [crcBits]
  | m + 1, n, s => by rw [Nat.succ_add, crcBits, crcBits, crcBits_add m n]
theorem crcBits_even : ∀ (n c : Nat), crcBits n (2 ^ n * c) = c
  | 0, c => by simp [crcBits]
  | n + 1, c => by rw [crcBits, Nat.pow_succ, Nat.mul_comm (2 ^ n) 2, Nat.mul_assoc, crcBit_even, crcBits_even n]

/-- two bytes at once -/
theorem crc_two (s : Nat) (x y : UInt8) : crcByte (crcByte s x) y = crcBits 16 (s ^^^ (x.toNat + 256 * y.toNat)) := by
  unfold crcByte
  have hx := x.toNat_lt
  have e1 : x.toNat + 256 * y.toNat = x.toNat ^^^ (2 ^ 8 * y.toNat) := by
    rw [Nat.add_comm, show 256 = 2 ^ 8 from rfl, Nat.two_pow_add_eq_or_of_lt (i := 8) hx]
    apply Nat.eq_of_testBit_eq
    intro t
    simp only [Nat.testBit_or, Nat.testBit_xor]
    by_cases ht : t < 8
    · have : (2 ^ 8 * y.toNat).testBit t = false := by rw [Nat.testBit_two_pow_mul]; simp; omega
      simp [this]
    · have : x.toNat.testBit t = false := Nat.testBit_lt_two_pow (Nat.lt_of_lt_of_le hx (Nat.pow_le_pow_right (n := 2) (by decide) (by omega)))
      simp [this]
  rw [e1, show 16 = 8 + 8 from rfl, crcBits_add 8 8, ← Nat.xor_assoc, crcBits_xor 8 _ (2 ^ 8 * y.toNat), crcBits_even]

/-- the sum's own bytes, the lower one first -/
def sumB (b : List UInt8) : List UInt8 := [UInt8.ofNat (crcN b % 256), UInt8.ofNat (crcN b / 256)]
def sealL (b : List UInt8) : List UInt8 := b ++ sumB b
theorem sealL_len (b : List UInt8) : (sealL b).length = b.length + 2 := by simp [sealL, sumB]
theorem sum_pair (s : Nat) (hs : s < 65536) (x y : UInt8) : crcByte (crcByte s x) y = 0 ↔ x = UInt8.ofNat (s % 256) ∧ y = UInt8.ofNat (s / 256) := by
  have hx := x.toNat_lt
  have hy := y.toNat_lt
  rw [crc_two]
  constructor
  · intro h
    have h2 := xor_eq_zero (crcBits_zero 16 _ (xor_lt16 hs (by omega)) h)
    constructor
    · apply UInt8.toNat_inj.1; rw [UInt8.toNat_ofNat']; omega
    · apply UInt8.toNat_inj.1; rw [UInt8.toNat_ofNat']; omega
  · rintro ⟨rfl, rfl⟩
    rw [UInt8.toNat_ofNat', UInt8.toNat_ofNat']
    have : s % 256 % 2 ^ 8 + 256 * (s / 256 % 2 ^ 8) = s := by omega
    rw [this, Nat.xor_self, crcBits_of_zero]
theorem crc_seal (b : List UInt8) : crcN (sealL b) = 0 := by
  unfold crcN sealL sumB
  rw [crcFrom_append]
  exact (sum_pair _ (crcN_lt b) _ _).2 ⟨rfl, rfl⟩

/-- may b be opened? -/
def unsealOk (b : List UInt8) : Bool := decide (2 ≤ b.length) && decide (crcN b = 0)
def unsealR (b : List UInt8) : List UInt8 := if unsealOk b = true then b.take (b.length - 2) else []

theorem split_two (b : List UInt8) (h : 2 ≤ b.length) : ∃ p x y, b = p ++ [x, y] ∧ p.length = b.length - 2 := by
  have h1 : (b.drop (b.length - 2)).length = 2 := by simp; omega
  match hd : b.drop (b.length - 2), h1 with
  | [x, y], _ => exact ⟨b.take (b.length - 2), x, y, by rw [← hd, List.take_append_drop], by simp⟩

/-- one opens just what is its own beginning, sealed -/
theorem unseal_iff (b : List UInt8) (h : 2 ≤ b.length) : (crcN b = 0) ↔ sealL (b.take (b.length - 2)) = b := by
  obtain ⟨p, x, y, rfl, hl⟩ := split_two b h
  have e : (p ++ [x, y]).take ((p ++ [x, y]).length - 2) = p := by simp
  rw [e]
  have e2 : crcN (p ++ [x, y]) = crcByte (crcByte (crcN p) x) y := by
    unfold crcN; rw [crcFrom_append]; rfl
  rw [e2, sum_pair _ (crcN_lt p)]
  unfold sealL sumB
  constructor
  · rintro ⟨rfl, rfl⟩; rfl
  · intro h2
    have := List.append_cancel_left h2
    simp at this
    exact ⟨this.1.symm, this.2.symm⟩
theorem unsealOk_iff (b : List UInt8) (h : 2 ≤ b.length) : unsealOk b = (sealL (b.take (b.length - 2)) == b) := by
  unfold unsealOk
  rw [Bool.eq_iff_iff]
  simp [h, unseal_iff b h]

/-- sums mix as the rows do -/
theorem crcByte_xor (s t : Nat) (x y : UInt8) (z : UInt8) (hz : z.toNat = x.toNat ^^^ y.toNat) : crcByte (s ^^^ t) z = crcByte s x ^^^ crcByte t y := by
  unfold crcByte
  rw [hz, ← crcBits_xor]
  congr 1
  rw [Nat.xor_assoc, Nat.xor_assoc, ← Nat.xor_assoc t, ← Nat.xor_assoc x.toNat, Nat.xor_comm t]
theorem crcFrom_xor : ∀ (a b c : List UInt8) (s t : Nat), a.length = b.length → a.length = c.length → (∀ i, i < a.length → (c.getD i 0).toNat = (a.getD i 0).toNat ^^^ (b.getD i 0).toNat) → crcFrom (s ^^^ t) c = crcFrom s a ^^^ crcFrom t b
  | [], b, c, s, t, h1, h2, _ => by
    obtain rfl := List.eq_nil_of_length_eq_zero h1.symm
    obtain rfl := List.eq_nil_of_length_eq_zero h2.symm
    rfl
  | x :: a, [], c, s, t, h1, _, _ => by simp at h1
  | x :: a, y :: b, [], s, t, _, h2, _ => by simp at h2
  | x :: a, y :: b, z :: c, s, t, h1, h2, h3 => by
    have hz := h3 0 (by simp)
    simp at hz
    show crcFrom (crcByte (s ^^^ t) z) c = crcFrom (crcByte s x) a ^^^ crcFrom (crcByte t y) b
    rw [crcByte_xor s t x y z hz]
    refine crcFrom_xor a b c _ _ (by simpa using h1) (by simpa using h2) (fun i hi => ?_)
    have := h3 (i + 1) (by simp; omega)
    simpa using this
theorem crcN_xor (a b c : List UInt8) (h1 : a.length = b.length) (h2 : a.length = c.length) (h3 : ∀ i, i < a.length → (c.getD i 0).toNat = (a.getD i 0).toNat ^^^ (b.getD i 0).toNat) :
    crcN c = (crcN a ^^^ crcN b) ^^^ crcN (List.replicate a.length 0) := by
  have e := crcFrom_xor a b c 65535 0 h1 h2 h3
  have e2 := crcFrom_xor (List.replicate a.length 0) b b 65535 (65535 ^^^ 65535) (by simpa using h1) (by simpa using h1) (fun i hi => by
    simp at hi
    simp [List.getD_eq_getElem?_getD, hi])
  rw [Nat.xor_self, Nat.xor_zero] at e2
  rw [Nat.xor_zero] at e
  unfold crcN
  rw [e, e2, Nat.xor_comm (crcFrom 65535 (List.replicate a.length 0)), Nat.xor_assoc (crcFrom 65535 a), xor_cancel]

/-- the machine, bit by bit -/
def bitB (s : Nat) (b : Bool) : Nat := crcBit (s ^^^ b.toNat)
theorem bitB_lt {s : Nat} (h : s < 65536) (b : Bool) : bitB s b < 65536 := crcBit_lt (xor_lt16 h (by cases b <;> decide))
def machine (s : Nat) (l : List Bool) : Nat := l.foldl bitB s
theorem machine_lt : ∀ (l : List Bool) (s : Nat), s < 65536 → machine s l < 65536
  | [], _, h => h
  | b :: r, _, h => machine_lt r _ (bitB_lt h b)
theorem machine_append (s : Nat) (a b : List Bool) : machine s (a ++ b) = machine (machine s a) b := by simp [machine]
/-- so many bits, all put on ahead -/
theorem machine_ofBits : ∀ (l : List Bool) (s : Nat), machine s l = crcBits l.length (s ^^^ ofBits l)
  | [], s => by simp [machine, ofBits, crcBits]
  | b :: r, s => by
    show machine (bitB s b) r = _
    rw [machine_ofBits r, List.length_cons, crcBits]
    congr 1
    have e : ofBits (b :: r) = b.toNat ^^^ (2 * ofBits r) := by
      rw [ofBits]
      generalize ofBits r = q
      apply Nat.eq_of_testBit_eq
      intro t
      cases b
      · simp
      · rw [Nat.testBit_xor]
        cases t with
        | zero => simp [Nat.testBit_zero]
        | succ t =>
          rw [Nat.testBit_succ, Nat.testBit_succ, Nat.testBit_succ]
          simp
          congr 1
          omega
    rw [e, ← Nat.xor_assoc, crcBit_xor (s ^^^ b.toNat), crcBit_even, bitB]
theorem machine_inj : ∀ (l : List Bool) (s t : Nat), s < 65536 → t < 65536 → machine s l = machine t l → s = t := by
  intro l s t hs ht h
  rw [machine_ofBits, machine_ofBits] at h
  induction l generalizing s t with
  | nil => simpa [ofBits, crcBits] using h
  | cons b r ih =>
    rw [← machine_ofBits, ← machine_ofBits] at h
    have h2 : machine (bitB s b) r = machine (bitB t b) r := h
    rw [machine_ofBits, machine_ofBits] at h2
    have := ih (bitB s b) (bitB t b) (bitB_lt hs b) (bitB_lt ht b) h2
    exact xor_inj (crcBits_inj (n := 1) (xor_lt16 hs (by cases b <;> decide)) (xor_lt16 ht (by cases b <;> decide)) this)
theorem ofBits_inj : ∀ (a b : List Bool), a.length = b.length → ofBits a = ofBits b → a = b
  | [], [], _, _ => rfl
  | [], _ :: _, h, _ => by simp at h
  | _ :: _, [], h, _ => by simp at h
  | x :: a, y :: b, h, e => by
    unfold ofBits at e
    have hxy : x = y := by cases x <;> cases y <;> simp at e ⊢ <;> omega
    subst hxy
    rw [ofBits_inj a b (by simpa using h) (by omega)]
/-- rows of bits that differ in sixteen side by side at most have not the same sum -/
theorem machine_burst (p a b r : List Bool) (s : Nat) (hs : s < 65536) (h : a.length = b.length) (h16 : a.length ≤ 16) (e : machine s (p ++ a ++ r) = machine s (p ++ b ++ r)) : a = b := by
  rw [machine_append, machine_append, machine_append, machine_append] at e
  have hp := machine_lt p s hs
  have e2 := machine_inj r _ _ (machine_lt a _ hp) (machine_lt b _ hp) e
  rw [machine_ofBits a, machine_ofBits b, ← h] at e2
  have k : ∀ l : List Bool, l.length ≤ 16 → ofBits l < 65536 := fun l hl => Nat.lt_of_lt_of_le (ofBits_lt l) (Nat.pow_le_pow_right (n := 2) (by decide) hl)
  exact ofBits_inj a b h (xor_inj' (crcBits_inj (xor_lt16 hp (k a h16)) (xor_lt16 hp (k b (by omega))) e2))

/-- the bits of a byte, the lowest first -/
def bits8 (x : UInt8) : List Bool := (List.range 8).map x.toNat.testBit
def bitsL (b : List UInt8) : List Bool := b.flatMap bits8
theorem bits8_len (x : UInt8) : (bits8 x).length = 8 := by simp [bits8]
theorem bits8_get (x : UInt8) (t : Nat) (h : t < 8) : (bits8 x)[t]? = some (x.toNat.testBit t) := by simp [bits8, h]
theorem ofBits_bits8 (x : UInt8) : ofBits (bits8 x) = x.toNat := by
  apply Nat.eq_of_testBit_eq
  intro t
  rw [ofBits_testBit, List.getD_eq_getElem?_getD]
  by_cases h : t < 8
  · rw [bits8_get x t h]; rfl
  · rw [List.getElem?_eq_none (by rw [bits8_len]; omega)]
    have e1 : x.toNat < 2 ^ t := Nat.lt_of_lt_of_le x.toNat_lt (Nat.pow_le_pow_right (by decide) (by omega))
    rw [Nat.testBit_lt_two_pow e1]; rfl
theorem crcByte_machine (s : Nat) (x : UInt8) : crcByte s x = machine s (bits8 x) := by
  rw [machine_ofBits, bits8_len, ofBits_bits8]; rfl
theorem crcFrom_machine : ∀ (b : List UInt8) (s : Nat), crcFrom s b = machine s (bitsL b)
  | [], _ => rfl
  | x :: r, s => by
    show crcFrom (crcByte s x) r = machine s (bits8 x ++ bitsL r)
    rw [machine_append, ← crcByte_machine, crcFrom_machine r]
theorem bitsL_len (b : List UInt8) : (bitsL b).length = 8 * b.length := by
  induction b with
  | nil => rfl
  | cons x r ih => simp [bitsL, bits8_len] at ih ⊢; omega
theorem bitsL_get : ∀ (b : List UInt8) (i : Nat), i < 8 * b.length → (bitsL b)[i]? = some (bitAt b i)
  | [], i, h => by simp at h
  | x :: r, i, h => by
    show (bits8 x ++ bitsL r)[i]? = _
    by_cases hi : i < 8
    · rw [List.getElem?_append_left (by rw [bits8_len]; exact hi), bits8_get x i hi]
      have e1 : i / 8 = 0 := by omega
      have e2 : i % 8 = i := by omega
      simp [bitAt, e1, e2]
    · rw [List.getElem?_append_right (by rw [bits8_len]; omega), bits8_len, bitsL_get r (i - 8) (by simp at h; omega)]
      have e1 : i / 8 = (i - 8) / 8 + 1 := by omega
      have e2 : (i - 8) % 8 = i % 8 := by omega
      simp [bitAt, e1, e2]
theorem bitsL_inj (a b : List UInt8) (h : a.length = b.length) (e : bitsL a = bitsL b) : a = b := by
  apply List.ext_getElem h
  intro i h1 h2
  apply u8_ext
  intro t ht
  have e1 := bitsL_get a (8 * i + t) (by omega)
  have e2 := bitsL_get b (8 * i + t) (by omega)
  rw [e] at e1
  rw [e1] at e2
  simp only [Option.some.injEq] at e2
  have k1 : (8 * i + t) / 8 = i := by omega
  have k2 : (8 * i + t) % 8 = t := by omega
  simp only [bitAt, k1, k2] at e2
  simpa [List.getD_eq_getElem?_getD, h1, h2] using e2

/-- rows as long that differ in sixteen bits side by side at most, and sum to the same, are the same -/
theorem crc_burst (x z : List UInt8) (k : Nat) (hl : z.length = x.length) (h : ∀ i, i < 8 * x.length → i < k ∨ k + 16 ≤ i → bitAt z i = bitAt x i) (e : crcN z = crcN x) : z = x := by
  apply bitsL_inj z x hl
  have cut : ∀ l : List Bool, l = (l.take k ++ (l.drop k).take 16) ++ l.drop (k + 16) := by
    intro l
    rw [List.append_assoc, show l.drop (k + 16) = (l.drop k).drop 16 by simp, List.take_append_drop, List.take_append_drop]
  have lz := bitsL_len z
  have lx := bitsL_len x
  rw [hl] at lz
  have ht : (bitsL z).take k = (bitsL x).take k := by
    apply List.ext_getElem?
    intro i
    rw [List.getElem?_take, List.getElem?_take]
    split
    · by_cases hi : i < 8 * x.length
      · rw [bitsL_get z i (by omega), bitsL_get x i hi, h i hi (.inl (by omega))]
      · rw [List.getElem?_eq_none (by omega), List.getElem?_eq_none (by omega)]
    · rfl
  have hd : (bitsL z).drop (k + 16) = (bitsL x).drop (k + 16) := by
    apply List.ext_getElem?
    intro i
    rw [List.getElem?_drop, List.getElem?_drop]
    by_cases hi : k + 16 + i < 8 * x.length
    · rw [bitsL_get z _ (by omega), bitsL_get x _ hi, h _ hi (.inr (by omega))]
    · rw [List.getElem?_eq_none (by omega), List.getElem?_eq_none (by omega)]
  unfold crcN at e
  rw [crcFrom_machine, crcFrom_machine, cut (bitsL z), cut (bitsL x), ht, hd] at e
  have hm := machine_burst _ _ _ _ 65535 (by decide) (by simp; omega) (by simp; omega) e
  rw [cut (bitsL z), cut (bitsL x), ht, hd, hm]

end Go.Proofs.Ytfbmejfnblopgaa
