/- The text of bytes, six bits a letter, and back; what a packet is: plain numbers and lists. -/
import Derived.Test.YtmfpiodlecapiaaDoorCutting
namespace Go.Proofs.YtmfpiodlecapiaaDoor
namespace Tx

/- The number that n bits make, from place a on, the highest first. -/
def val (f : Nat → Nat) (a : Nat) : Nat → Nat
  | 0 => 0
  | n + 1 => 2 * val f a n + f (a + n)
theorem val_lt {f : Nat → Nat} (hf : ∀ k, f k < 2) (a n : Nat) : val f a n < 2 ^ n := by
  induction n with
  | zero => simp [val]
  | succ n ih => have := hf (a + n); rw [val, Nat.pow_succ]; omega
theorem val_add (f : Nat → Nat) (a m n : Nat) : val f a (m + n) = val f a m * 2 ^ n + val f (a + m) n := by
  induction n with
  | zero => simp [val]
  | succ n ih =>
    have e : val f a m * (2 ^ n * 2) = 2 * (val f a m * 2 ^ n) := by rw [← Nat.mul_assoc, Nat.mul_comm]
    rw [← Nat.add_assoc, val, ih, val, Nat.pow_succ, Nat.add_assoc a m n, e]
    omega
theorem val_div {f : Nat → Nat} (hf : ∀ k, f k < 2) (a m n : Nat) : val f a (m + n) / 2 ^ n = val f a m := by
  rw [val_add, Nat.mul_comm, Nat.mul_add_div (Nat.two_pow_pos n), Nat.div_eq_of_lt (val_lt hf _ _), Nat.add_zero]
theorem val_mod {f : Nat → Nat} (hf : ∀ k, f k < 2) (a m n : Nat) : val f a (m + n) % 2 ^ n = val f (a + m) n := by
  rw [val_add, Nat.mul_comm, Nat.mul_add_mod, Nat.mod_eq_of_lt (val_lt hf _ _)]
theorem val_congr {f g : Nat → Nat} {a b n : Nat} (h : ∀ i, i < n → f (a + i) = g (b + i)) : val f a n = val g b n := by
  induction n with
  | zero => rfl
  | succ n ih => rw [val, val, ih (fun i hi => h i (by omega)), h n (by omega)]
theorem val_zero {f : Nat → Nat} {a n : Nat} (h : ∀ i, i < n → f (a + i) = 0) : val f a n = 0 := by
  induction n with
  | zero => rfl
  | succ n ih => rw [val, ih (fun i hi => h i (by omega)), h n (by omega)]
theorem val_zero_at {f : Nat → Nat} {a n : Nat} (h : val f a n = 0) : ∀ i, i < n → f (a + i) = 0 := by
  induction n with
  | zero => intro i hi; omega
  | succ n ih =>
    rw [val] at h
    intro i hi
    by_cases e : i = n
    · subst e; omega
    · exact ih (by omega) i (by omega)

/- The bits of bytes; of sixes. -/
def bit8 (d : List Nat) (k : Nat) : Nat := d[k / 8]?.getD 0 / 2 ^ (7 - k % 8) % 2
def bit6 (t : List Nat) (k : Nat) : Nat := t[k / 6]?.getD 0 / 2 ^ (5 - k % 6) % 2
theorem bit8_lt (d : List Nat) (k : Nat) : bit8 d k < 2 := Nat.mod_lt _ (by decide)
theorem bit6_lt (t : List Nat) (k : Nat) : bit6 t k < 2 := Nat.mod_lt _ (by decide)
theorem bit8_beyond {d : List Nat} {k : Nat} (h : 8 * d.length ≤ k) : bit8 d k = 0 := by
  unfold bit8
  rw [List.getElem?_eq_none (by omega)]
  simp
set_option maxRecDepth 100000 in
theorem val8_all : ∀ x, x < 256 → val (fun i => x / 2 ^ (7 - i % 8) % 2) 0 8 = x := by decide
set_option maxRecDepth 100000 in
theorem val6_all : ∀ x, x < 64 → val (fun i => x / 2 ^ (5 - i % 6) % 2) 0 6 = x := by decide
theorem val_byte (d : List Nat) (m : Nat) (h : d[m]?.getD 0 < 256) : val (bit8 d) (8 * m) 8 = d[m]?.getD 0 := by
  refine Eq.trans (val_congr (g := fun i => d[m]?.getD 0 / 2 ^ (7 - i % 8) % 2) (b := 0) fun i hi => ?_) (val8_all _ h)
  unfold bit8
  have e1 : (8 * m + i) / 8 = m := by omega
  have e2 : (8 * m + i) % 8 = (0 + i) % 8 := by omega
  rw [e1, e2]
theorem val_six (t : List Nat) (m : Nat) (h : t[m]?.getD 0 < 64) : val (bit6 t) (6 * m) 6 = t[m]?.getD 0 := by
  refine Eq.trans (val_congr (g := fun i => t[m]?.getD 0 / 2 ^ (5 - i % 6) % 2) (b := 0) fun i hi => ?_) (val6_all _ h)
  unfold bit6
  have e1 : (6 * m + i) / 6 = m := by omega
  have e2 : (6 * m + i) % 6 = (0 + i) % 6 := by omega
  rw [e1, e2]
theorem bit6_snoc {t : List Nat} {x k : Nat} (h : k < 6 * t.length) : bit6 (t ++ [x]) k = bit6 t k := by
  unfold bit6
  rw [List.getElem?_append_left (by omega)]
theorem val6_snoc {t : List Nat} {x a n : Nat} (h : a + n ≤ 6 * t.length) : val (bit6 (t ++ [x])) a n = val (bit6 t) a n :=
  val_congr fun i hi => bit6_snoc (by omega)

/- A letter's bytes, and its rune. -/
def lett (n : Nat) : List Nat := if n < 26 then [65 + n] else if n < 52 then [71 + n] else [206, 125 + n]
def rn (n : Nat) : Nat := if n < 26 then 65 + n else if n < 52 then 71 + n else 893 + n
theorem rn_inj {a b : Nat} (ha : a < 64) (hb : b < 64) (h : rn a = rn b) : a = b := by
  unfold rn at h
  split at h <;> split at h <;> (try split at h) <;> (try split at h) <;> omega

/- The first e letters of a text; all of it. -/
def pre (d : List Nat) (e : Nat) : List Nat := (List.range e).flatMap (fun j => lett (val (bit8 d) (6 * j) 6))
theorem pre_zero (d : List Nat) : pre d 0 = [] := rfl
theorem pre_succ (d : List Nat) (e : Nat) : pre d (e + 1) = pre d e ++ lett (val (bit8 d) (6 * e) 6) := by
  unfold pre
  rw [List.range_succ, List.flatMap_append]
  simp
theorem lett_length (n : Nat) : (lett n).length ≤ 2 := by
  unfold lett
  split
  · simp
  · split <;> simp
theorem pre_length (d : List Nat) (e : Nat) : (pre d e).length ≤ 2 * e := by
  induction e with
  | zero => simp [pre_zero]
  | succ e ih => have := lett_length (val (bit8 d) (6 * e) 6); rw [pre_succ, List.length_append]; omega
theorem lett_lt {n : Nat} (h : n < 64) : ∀ x ∈ lett n, x < 256 := by
  intro x hx
  unfold lett at hx
  split at hx
  · simp at hx; omega
  · split at hx
    · simp at hx; omega
    · simp at hx; omega
theorem pre_lt (d : List Nat) (e : Nat) : ∀ x ∈ pre d e, x < 256 := by
  intro x hx
  unfold pre at hx
  rw [List.mem_flatMap] at hx
  obtain ⟨j, _, h⟩ := hx
  exact lett_lt (val_lt (bit8_lt d) _ 6) x h
def textN (d : List Nat) : List Nat := pre d ((8 * d.length + 5) / 6)

/- The letter at a place of a text: its number (-1: a blank or a line's end; -2: none), how many bytes it has. -/
abbrev greek (bs : List Nat) (i : Nat) : Prop := bs[i]?.getD 0 = 206 ∧ i + 1 < bs.length ∧ 177 ≤ bs[i + 1]?.getD 0 ∧ bs[i + 1]?.getD 0 ≤ 188
def numAt (bs : List Nat) (i : Nat) : Int :=
  if bs[i]?.getD 0 = 32 ∨ bs[i]?.getD 0 = 10 then -1
  else if 65 ≤ bs[i]?.getD 0 ∧ bs[i]?.getD 0 ≤ 90 then (bs[i]?.getD 0 : Int) - 65
  else if 97 ≤ bs[i]?.getD 0 ∧ bs[i]?.getD 0 ≤ 122 then (bs[i]?.getD 0 : Int) - 71
  else if greek bs i then (bs[i + 1]?.getD 0 : Int) - 125
  else -2
def sizeAt (bs : List Nat) (i : Nat) : Nat := if greek bs i then 2 else 1
theorem sizeAt_pos (bs : List Nat) (i : Nat) : 1 ≤ sizeAt bs i ∧ sizeAt bs i ≤ 2 := by unfold sizeAt; split <;> omega
theorem sizeAt_le (bs : List Nat) (i : Nat) (h : i < bs.length) : i + sizeAt bs i ≤ bs.length := by
  unfold sizeAt
  split
  · rename_i hg; have := hg.2.1; omega
  · omega
theorem numAt_range (bs : List Nat) (i : Nat) : numAt bs i = -2 ∨ numAt bs i = -1 ∨ (0 ≤ numAt bs i ∧ numAt bs i < 64) := by
  unfold numAt
  split
  · omega
  · split
    · omega
    · split
      · omega
      · split
        · rename_i hg; have := hg.2.2; omega
        · omega
def parse (bs : List Nat) : Nat → Nat → Option (List Nat)
  | 0, _ => some []
  | f + 1, i => if i < bs.length then (if numAt bs i = -2 then none else if numAt bs i = -1 then parse bs f (i + 1) else (parse bs f (i + sizeAt bs i)).map ((numAt bs i).toNat :: ·)) else some []
def parseAll (bs : List Nat) : Option (List Nat) := parse bs bs.length 0
theorem parse_end (bs : List Nat) (f i : Nat) (h : ¬ i < bs.length) : parse bs f i = some [] := by
  cases f with
  | zero => rfl
  | succ f => rw [parse, if_neg h]
/- What was read up to a place, and what is still to be read, are the whole. -/
def Upto (bs t : List Nat) (i : Nat) : Prop := ∃ f, bs.length ≤ i + f ∧ parseAll bs = (parse bs f i).map (t ++ ·)
theorem upto_zero (bs : List Nat) : Upto bs [] 0 := ⟨bs.length, by omega, by rw [parseAll]; simp⟩
theorem Upto.ends {bs t : List Nat} {i : Nat} (h : Upto bs t i) (hi : ¬ i < bs.length) : parseAll bs = some t := by
  obtain ⟨f, _, e⟩ := h
  rw [e, parse_end _ _ _ hi]
  simp
theorem Upto.none {bs t : List Nat} {i : Nat} (h : Upto bs t i) (hi : i < bs.length) (hn : numAt bs i = -2) : parseAll bs = none := by
  obtain ⟨f, hf, e⟩ := h
  obtain ⟨f, rfl⟩ : ∃ g, f = g + 1 := ⟨f - 1, by omega⟩
  rw [e, parse, if_pos hi, if_pos hn]
  rfl
theorem Upto.blank {bs t : List Nat} {i : Nat} (h : Upto bs t i) (hi : i < bs.length) (hn : numAt bs i = -1) : Upto bs t (i + 1) := by
  obtain ⟨f, hf, e⟩ := h
  obtain ⟨f, rfl⟩ : ∃ g, f = g + 1 := ⟨f - 1, by omega⟩
  exact ⟨f, by omega, by rw [e, parse, if_pos hi, if_neg (by omega), if_pos hn]⟩
theorem Upto.letter {bs t : List Nat} {i n : Nat} (h : Upto bs t i) (hi : i < bs.length) (hn : numAt bs i = (n : Int)) : Upto bs (t ++ [n]) (i + sizeAt bs i) := by
  obtain ⟨f, hf, e⟩ := h
  obtain ⟨f, rfl⟩ : ∃ g, f = g + 1 := ⟨f - 1, by omega⟩
  have := sizeAt_pos bs i
  refine ⟨f, by omega, ?_⟩
  rw [e, parse, if_pos hi, if_neg (by omega), if_neg (by omega), hn]
  simp
  cases parse bs f (i + sizeAt bs i) <;> simp

/- The bytes of a text. -/
def bytesN (t : List Nat) : List Nat := (List.range (6 * t.length / 8)).map (fun j => val (bit6 t) (8 * j) 8)
abbrev restOk (t : List Nat) : Prop := 6 * t.length % 8 < 6 ∧ val (bit6 t) (8 * (6 * t.length / 8)) (6 * t.length % 8) = 0
def readText (bs : List Nat) : Option (List Nat) := (parseAll bs).bind (fun t => if restOk t then some (bytesN t) else none)
theorem bytesN_length (t : List Nat) : (bytesN t).length = 6 * t.length / 8 := by simp [bytesN]
theorem bytesN_lt (t : List Nat) : ∀ x ∈ bytesN t, x < 256 := by
  intro x hx
  simp only [bytesN, List.mem_map] at hx
  obtain ⟨j, _, rfl⟩ := hx
  exact val_lt (bit6_lt t) _ 8
theorem bytesN_snoc_same {t : List Nat} {x : Nat} (h : 6 * (t.length + 1) / 8 = 6 * t.length / 8) : bytesN (t ++ [x]) = bytesN t := by
  unfold bytesN
  rw [List.length_append, List.length_singleton, h]
  apply List.map_congr_left
  intro j hj
  rw [List.mem_range] at hj
  exact val6_snoc (by omega)
theorem bytesN_snoc_more {t : List Nat} {x : Nat} (h : 6 * (t.length + 1) / 8 = 6 * t.length / 8 + 1) : bytesN (t ++ [x]) = bytesN t ++ [val (bit6 (t ++ [x])) (8 * (6 * t.length / 8)) 8] := by
  unfold bytesN
  rw [List.length_append, List.length_singleton, h, List.range_succ, List.map_append]
  congr 1
  apply List.map_congr_left
  intro j hj
  rw [List.mem_range] at hj
  exact val6_snoc (by omega)

/- One letter more. -/
theorem val_step {t : List Nat} {n : Nat} (hn : n < 64) : val (bit6 (t ++ [n])) (8 * (6 * t.length / 8)) (6 * t.length % 8 + 6) = val (bit6 t) (8 * (6 * t.length / 8)) (6 * t.length % 8) * 64 + n := by
  have e : 8 * (6 * t.length / 8) + 6 * t.length % 8 = 6 * t.length := by omega
  have h6 : (t ++ [n])[t.length]?.getD 0 = n := by simp
  have hv := val_six (t ++ [n]) t.length (by rw [h6]; exact hn)
  rw [val_add, val6_snoc (by omega), e, hv, h6]

/- What a packet is. -/
abbrev IsPacket (l : List Nat) : Prop :=
  11 ≤ l.length ∧ l[0]?.getD 0 = 70 ∧ 256 * l[3]?.getD 0 + l[4]?.getD 0 ≤ 2000 ∧ (1 ≤ l[5]?.getD 0 ∧ l[5]?.getD 0 ≤ 16) ∧ (1 ≤ l[6]?.getD 0 ∧ l[6]?.getD 0 ≤ 20) ∧ l[7]?.getD 0 ≤ 20 ∧
  Cut.blocks (Cut.pieces (256 * l[3]?.getD 0 + l[4]?.getD 0) (l[5]?.getD 0)) (l[6]?.getD 0) ≤ 256 ∧
  l[8]?.getD 0 < Cut.blocks (Cut.pieces (256 * l[3]?.getD 0 + l[4]?.getD 0) (l[5]?.getD 0)) (l[6]?.getD 0) ∧
  l[9]?.getD 0 < (Cut.sizes (256 * l[3]?.getD 0 + l[4]?.getD 0) (l[5]?.getD 0) (l[6]?.getD 0))[l[8]?.getD 0]?.getD 0 + l[7]?.getD 0 ∧
  l.length = 10 + l[5]?.getD 0
end Tx
end Go.Proofs.YtmfpiodlecapiaaDoor
