/- The document's field on the numbers 0 to 255: products bit by bit are products of powers of 2, so the numbers but 0 are a commutative group under them; sums are bit by bit. No condition. -/
namespace Go.Proofs.YtmfpiodlecapiaaDoor.Gf

def dbl (a : Nat) : Nat := bif Nat.ble 256 (2 * a) then Nat.xor (2 * a) 285 else 2 * a

def mulAux : Nat → Nat → Nat → Nat → Nat
  | 0, _, _, p => p
  | n + 1, a, b, p => mulAux n (dbl a) (b / 2) (bif Nat.beq (b % 2) 1 then Nat.xor p a else p)

def mul (a b : Nat) : Nat := mulAux 8 a b 0

def E : Nat := 0x8e47add86c361b83cfe9fa7db0582c160b8bcbebfbf3f7f5f47a3d90482412098a45ac562b9bc3eff9f279b259a251a653a7dde070381c0e078dc86432198241ae57a5dc6e3795c46231964babdbe3fff1f67bb3d7e5fc7e3f91c663bfd1e673b7d5e472399249aa55a452299a4da8542a158442219e4fa9da6db85c2e1785cc663397c5ec763b93c7edf87c3e1f81ce67bdd068341a0d884422118643afd9e271b65ba3dfe1fe7fb1d66bbbd3e7fdf0783c1e0f89ca65bc5e2f99c261be5fa1de6fb9d269ba5da05028140a058c46239fc1ee77b5d46a35944a259c4e279dc06030180c06038fc9ea75b45a2d984c261387cde8743a1d8040201008040201
def L : Nat := 0xaf5850a8eaf4d674e8ade7e6e9d5ae4fd72c757aeb16f50b51a0a99cb05f59cb5a3eccbbb18660fbaa559d29523ba16cf66f0c7fec4917c476a47bb7d8432d1fa2416d4753393c849e5d2a14abd356f261befcdcb2978790cdcfbc955bd13f372e892023d99244117cb4b8267799a5e318fec531edde4a670d63808cf7c0700757a7f373ace5d44e2b79150a9f9b5eca3dba85fa54283a6b6e7e48c3a3b6421e404638835c13d2f1bddb968fce94d03688229110b32598e2fd30dd66628bbf06a672e44d78099ac9b9f9276a7dc2b51d458212f0da8e9335210f24e12f658a05714c08c8f869c11c81ef8d340ee064044bc7681bee33df03c61a320219010000
def ex (i : Nat) : Nat := (E >>> (8 * i)) % 256
def lg (a : Nat) : Nat := (L >>> (8 * a)) % 256

def allB : Nat → (Nat → Bool) → Bool
  | 0, _ => true
  | n + 1, f => bif f n then allB n f else false

theorem allB_spec {n : Nat} {f : Nat → Bool} (h : allB n f = true) : ∀ i, i < n → f i = true := by
  induction n with
  | zero => intro i hi; omega
  | succ n ih =>
    intro i hi
    simp only [allB] at h
    cases hf : f n with
    | false => rw [hf] at h; simp at h
    | true =>
      rw [hf] at h
      by_cases hin : i = n
      · subst hin; exact hf
      · exact ih h i (by omega)

theorem exps : allB 255 (fun i => Nat.ble 1 (ex i) && Nat.beq (lg (ex i)) i && Nat.beq (dbl (ex i)) (ex ((i + 1) % 255))) = true := by decide +kernel
theorem logs : allB 256 (fun a => Nat.beq a 0 || (Nat.beq (ex (lg a)) a && Nat.ble (lg a) 254)) = true := by decide +kernel
theorem muls : allB 256 (fun a => allB 256 (fun b => Nat.beq (mul a b) (bif Nat.beq a 0 || Nat.beq b 0 then 0 else ex ((lg a + lg b) % 255)))) = true := by decide +kernel

theorem beq_no {a b : Nat} (h : a ≠ b) : Nat.beq a b = false := by
  cases hb : Nat.beq a b with
  | false => rfl
  | true => exact absurd (Nat.beq_eq.mp hb) h
theorem ex_lt (i : Nat) : ex i < 256 := Nat.mod_lt _ (by decide)
theorem lg_lt (a : Nat) : lg a < 256 := Nat.mod_lt _ (by decide)
theorem ex_pos {i : Nat} (h : i < 255) : ex i ≠ 0 := by
  have := allB_spec exps i h
  simp only [Bool.and_eq_true, Nat.ble_eq] at this
  omega
theorem lg_ex {i : Nat} (h : i < 255) : lg (ex i) = i := by
  have := allB_spec exps i h
  simp only [Bool.and_eq_true, Nat.ble_eq, Nat.beq_eq] at this
  exact this.1.2
theorem ex_lg {a : Nat} (h : a < 256) (h0 : a ≠ 0) : ex (lg a) = a := by
  have := allB_spec logs a h
  simp only [Bool.and_eq_true, Bool.or_eq_true, Nat.ble_eq, Nat.beq_eq] at this
  omega
theorem lg_lt' {a : Nat} (h : a < 256) (h0 : a ≠ 0) : lg a < 255 := by
  have := allB_spec logs a h
  simp only [Bool.and_eq_true, Bool.or_eq_true, Nat.ble_eq, Nat.beq_eq] at this
  omega
theorem mul_tab {a b : Nat} (ha : a < 256) (hb : b < 256) : mul a b = if a = 0 ∨ b = 0 then 0 else ex ((lg a + lg b) % 255) := by
  have := allB_spec (allB_spec muls a ha) b hb
  simp only [Nat.beq_eq] at this
  rw [this]
  by_cases h0 : a = 0 ∨ b = 0
  · have : (Nat.beq a 0 || Nat.beq b 0) = true := by simp [h0]
    rw [this, if_pos h0]; rfl
  · have : (Nat.beq a 0 || Nat.beq b 0) = false := by
      rw [beq_no (fun x => h0 (Or.inl x)), beq_no (fun x => h0 (Or.inr x))]; rfl
    rw [this, if_neg h0]; rfl

theorem mul_zero {a : Nat} (ha : a < 256) : mul a 0 = 0 := by rw [mul_tab ha (by decide)]; simp
theorem zero_mul {b : Nat} (hb : b < 256) : mul 0 b = 0 := by rw [mul_tab (by decide) hb]; simp
theorem mul_lt {a b : Nat} (ha : a < 256) (hb : b < 256) : mul a b < 256 := by
  rw [mul_tab ha hb]; split
  · decide
  · exact ex_lt _
theorem mul_comm {a b : Nat} (ha : a < 256) (hb : b < 256) : mul a b = mul b a := by
  rw [mul_tab ha hb, mul_tab hb ha, Nat.add_comm]
  by_cases h : a = 0 ∨ b = 0
  · rw [if_pos h, if_pos h.symm]
  · rw [if_neg h, if_neg (fun x => h x.symm)]
theorem mul_ne {a b : Nat} (ha : a < 256) (hb : b < 256) (h1 : a ≠ 0) (h2 : b ≠ 0) : mul a b ≠ 0 := by
  rw [mul_tab ha hb, if_neg (by omega)]
  exact ex_pos (Nat.mod_lt _ (by decide))
theorem lg_mul {a b : Nat} (ha : a < 256) (hb : b < 256) (h1 : a ≠ 0) (h2 : b ≠ 0) : lg (mul a b) = (lg a + lg b) % 255 := by
  rw [mul_tab ha hb, if_neg (by omega)]
  exact lg_ex (Nat.mod_lt _ (by decide))
theorem eq_of_lg {a b : Nat} (ha : a < 256) (hb : b < 256) (h1 : a ≠ 0) (h2 : b ≠ 0) (h : lg a = lg b) : a = b := by
  rw [← ex_lg ha h1, ← ex_lg hb h2, h]
theorem mul_assoc {a b c : Nat} (ha : a < 256) (hb : b < 256) (hc : c < 256) : mul (mul a b) c = mul a (mul b c) := by
  by_cases h1 : a = 0
  · subst h1; rw [zero_mul hb, zero_mul hc, zero_mul (mul_lt hb hc)]
  by_cases h2 : b = 0
  · subst h2; rw [mul_zero ha, zero_mul hc, mul_zero ha]
  by_cases h3 : c = 0
  · subst h3; rw [mul_zero (mul_lt ha hb), mul_zero hb, mul_zero ha]
  apply eq_of_lg (mul_lt (mul_lt ha hb) hc) (mul_lt ha (mul_lt hb hc)) (mul_ne (mul_lt ha hb) hc (mul_ne ha hb h1 h2) h3) (mul_ne ha (mul_lt hb hc) h1 (mul_ne hb hc h2 h3))
  rw [lg_mul (mul_lt ha hb) hc (mul_ne ha hb h1 h2) h3, lg_mul ha (mul_lt hb hc) h1 (mul_ne hb hc h2 h3), lg_mul ha hb h1 h2, lg_mul hb hc h2 h3]
  omega

theorem lg_one : lg 1 = 0 := by decide +kernel
theorem mul_one {a : Nat} (ha : a < 256) : mul a 1 = a := by
  by_cases h : a = 0
  · subst h; exact zero_mul (by decide)
  apply eq_of_lg (mul_lt ha (by decide)) ha (mul_ne ha (by decide) h (by decide)) h
  rw [lg_mul ha (by decide) h (by decide), lg_one]
  have := lg_lt' ha h
  omega
theorem one_mul {a : Nat} (ha : a < 256) : mul 1 a = a := by rw [mul_comm (by decide) ha, mul_one ha]

/- The inverse, as the 254th power. -/
def invAux : Nat → Nat → Nat → Nat
  | 0, _, r => r
  | n + 1, a, r => invAux n (mul a a) (mul r (mul a a))
def inv (a : Nat) : Nat := invAux 7 a 1

theorem invs : allB 256 (fun a => Nat.beq a 0 || (Nat.beq (mul a (inv a)) 1 && Nat.ble (inv a) 255 && Nat.ble 1 (inv a))) = true := by decide +kernel
theorem mul_inv {a : Nat} (ha : a < 256) (h : a ≠ 0) : mul a (inv a) = 1 := by
  have := allB_spec invs a ha
  simp only [Bool.and_eq_true, Bool.or_eq_true, Nat.ble_eq, Nat.beq_eq] at this
  omega
theorem inv_lt {a : Nat} (ha : a < 256) (h : a ≠ 0) : inv a < 256 := by
  have := allB_spec invs a ha
  simp only [Bool.and_eq_true, Bool.or_eq_true, Nat.ble_eq, Nat.beq_eq] at this
  omega
theorem inv_pos {a : Nat} (ha : a < 256) (h : a ≠ 0) : 1 ≤ inv a := by
  have := allB_spec invs a ha
  simp only [Bool.and_eq_true, Bool.or_eq_true, Nat.ble_eq, Nat.beq_eq] at this
  omega
theorem inv_unique {a n : Nat} (ha : a < 256) (h : a ≠ 0) (hn : n < 256) (h1 : mul a n = 1) : n = inv a := by
  have hi := inv_lt ha h
  have e : mul (mul n a) (inv a) = mul n (mul a (inv a)) := mul_assoc hn ha hi
  rw [mul_comm hn ha, h1, mul_inv ha h, mul_one hn, one_mul hi] at e
  exact e.symm

/- Sums. -/
theorem xor_lt {a b : Nat} (ha : a < 256) (hb : b < 256) : a ^^^ b < 256 := Nat.xor_lt_two_pow (n := 8) ha hb
theorem dbl_eq (a : Nat) : dbl a = if 256 ≤ 2 * a then (2 * a) ^^^ 285 else 2 * a := by
  unfold dbl
  by_cases h : 256 ≤ 2 * a
  · have : Nat.ble 256 (2 * a) = true := by simp [h]
    rw [this, if_pos h]; rfl
  · have : Nat.ble 256 (2 * a) = false := by
      cases hb : Nat.ble 256 (2 * a) with
      | false => rfl
      | true => exact absurd (Nat.ble_eq.mp hb) h
    rw [this, if_neg h]; rfl
theorem dbls : allB 256 (fun a => Nat.ble (dbl a) 255) = true := by decide +kernel
theorem dbl_lt {a : Nat} (ha : a < 256) : dbl a < 256 := by
  have := allB_spec dbls a ha
  simp only [Nat.ble_eq] at this
  omega

/- The product with no count of rounds. -/
theorem mulAux_succ (n a b p : Nat) : mulAux (n + 1) a b p = mulAux n (dbl a) (b / 2) (if b % 2 = 1 then p ^^^ a else p) := by
  show mulAux n (dbl a) (b / 2) _ = _
  by_cases h : b % 2 = 1
  · have : Nat.beq (b % 2) 1 = true := by simp [h]
    rw [this, if_pos h]; rfl
  · have : Nat.beq (b % 2) 1 = false := by
      cases hb : Nat.beq (b % 2) 1 with
      | false => rfl
      | true => exact absurd (Nat.beq_eq.mp hb) h
    rw [this, if_neg h]; rfl
theorem mulAux_zero (n a p : Nat) : mulAux n a 0 p = p := by
  induction n generalizing a p with
  | zero => rfl
  | succ n ih => rw [mulAux_succ]; simpa using ih (dbl a) p
theorem mulAux_more (n a b p : Nat) (h : b < 2 ^ n) : mulAux (n + 1) a b p = mulAux n a b p := by
  induction n generalizing a b p with
  | zero =>
    have : b = 0 := by simpa using h
    subst this; rw [mulAux_zero]; rfl
  | succ n ih =>
    rw [Nat.pow_succ] at h
    rw [mulAux_succ (n + 1) a b p, ih _ _ _ (by omega), ← mulAux_succ]
/- One round: what a product loop's head says. -/
def rest (a b p : Nat) : Nat := mulAux 8 a b p
theorem rest_zero (a p : Nat) : rest a 0 p = p := mulAux_zero 8 a p
theorem rest_step {a b p : Nat} (hb : b < 256) : rest a b p = rest (dbl a) (b / 2) (if b % 2 = 1 then p ^^^ a else p) := by
  unfold rest
  rw [← mulAux_more 8 a b p hb, mulAux_succ]
theorem rest_mul (a b : Nat) : rest a b 0 = mul a b := rfl

/- Products of sums. -/
theorem mulAux_xor (n a b p : Nat) : mulAux n a b p = p ^^^ mulAux n a b 0 := by
  induction n generalizing a b p with
  | zero => simp [mulAux]
  | succ n ih =>
    rw [mulAux_succ, mulAux_succ, ih (dbl a) (b / 2) (if b % 2 = 1 then p ^^^ a else p), ih (dbl a) (b / 2) (if b % 2 = 1 then 0 ^^^ a else 0)]
    split
    · rw [Nat.zero_xor, Nat.xor_assoc]
    · rw [Nat.zero_xor]
theorem xor_swap (a b c d : Nat) : (a ^^^ b) ^^^ (c ^^^ d) = (a ^^^ c) ^^^ (b ^^^ d) := by
  rw [Nat.xor_assoc, ← Nat.xor_assoc b, Nat.xor_comm b c, Nat.xor_assoc c, ← Nat.xor_assoc]
theorem mulAux_add (n a b c : Nat) : mulAux n a (b ^^^ c) 0 = mulAux n a b 0 ^^^ mulAux n a c 0 := by
  induction n generalizing a b c with
  | zero => simp [mulAux]
  | succ n ih =>
    rw [mulAux_succ, mulAux_succ n a b, mulAux_succ n a c, mulAux_xor n (dbl a) _ (if (b ^^^ c) % 2 = 1 then _ else _), mulAux_xor n (dbl a) (b / 2), mulAux_xor n (dbl a) (c / 2), Nat.xor_div_two, ih, xor_swap]
    congr 1
    have hx : (b ^^^ c) % 2 = (b % 2 + c % 2) % 2 := by
      have := Nat.xor_mod_two_pow (a := b) (b := c) (n := 1)
      rw [Nat.pow_one] at this
      rw [this]
      rcases Nat.mod_two_eq_zero_or_one b with h | h <;> rcases Nat.mod_two_eq_zero_or_one c with h' | h' <;> rw [h, h'] <;> rfl
    rw [hx]
    rcases Nat.mod_two_eq_zero_or_one b with h | h <;> rcases Nat.mod_two_eq_zero_or_one c with h' | h' <;> rw [h, h'] <;> simp
theorem mul_add (a b c : Nat) : mul a (b ^^^ c) = mul a b ^^^ mul a c := mulAux_add 8 a b c
theorem add_mul {a b c : Nat} (ha : a < 256) (hb : b < 256) (hc : c < 256) : mul (a ^^^ b) c = mul a c ^^^ mul b c := by
  rw [mul_comm (xor_lt ha hb) hc, mul_add, mul_comm hc ha, mul_comm hc hb]
end Go.Proofs.YtmfpiodlecapiaaDoor.Gf
