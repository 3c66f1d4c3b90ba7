/- The bits of a text's letters in a list; the bytes that they make, step by step. -/
import Derived.Test.YtmfpiodlecapiaaDoorTextSpec
namespace Go.Proofs.YtmfpiodlecapiaaDoor
namespace Tx

def bitsL (t : List Nat) : List Nat := (List.range (6 * t.length)).map (bit6 t)
theorem bitsL_length (t : List Nat) : (bitsL t).length = 6 * t.length := by simp [bitsL]
theorem bitsL_at {t : List Nat} {k : Nat} (h : k < 6 * t.length) : (bitsL t)[k]? = some (bit6 t k) := by simp [bitsL, h]
/- The first j bits of a letter's number. -/
def six (n j : Nat) : List Nat := (List.range j).map (fun i => n / 2 ^ (5 - i) % 2)
theorem six_zero (n : Nat) : six n 0 = [] := rfl
theorem six_succ (n j : Nat) : six n (j + 1) = six n j ++ [n / 2 ^ (5 - j) % 2] := by
  unfold six
  rw [List.range_succ, List.map_append]
  rfl
theorem six_length (n j : Nat) : (six n j).length = j := by simp [six]
theorem bitsL_snoc (t : List Nat) (n : Nat) : bitsL (t ++ [n]) = bitsL t ++ six n 6 := by
  apply List.ext_getElem?
  intro k
  have hl : (t ++ [n]).length = t.length + 1 := by simp
  by_cases h1 : k < 6 * t.length
  · rw [List.getElem?_append_left (by rw [bitsL_length]; exact h1), bitsL_at h1, bitsL_at (by rw [hl]; omega), bit6_snoc h1]
  · rw [List.getElem?_append_right (by rw [bitsL_length]; omega), bitsL_length]
    by_cases h2 : k < 6 * t.length + 6
    · rw [bitsL_at (by rw [hl]; omega)]
      have e1 : k / 6 = t.length := by omega
      have e2 : k % 6 = k - 6 * t.length := by omega
      unfold bit6 six
      rw [e1, e2]
      simp only [List.getElem?_map, List.getElem?_range (show k - 6 * t.length < 6 by omega), Option.map_some]
      simp
    · rw [List.getElem?_eq_none (by rw [bitsL_length, hl]; omega), List.getElem?_eq_none (by rw [six_length]; omega)]
/- The bytes when k bits have gone in. -/
def part (t : List Nat) (m k : Nat) : List Nat := (List.range m).map (fun j => val (bit6 t) (8 * j) (min 8 (k - 8 * j)))
theorem part_length (t : List Nat) (m k : Nat) : (part t m k).length = m := by simp [part]
theorem part_zero (t : List Nat) (m : Nat) : part t m 0 = List.replicate m 0 := by
  apply List.ext_getElem?
  intro j
  by_cases h : j < m
  · simp [part, h, val]
  · rw [List.getElem?_eq_none (by rw [part_length]; omega), List.getElem?_eq_none (by simp; omega)]
theorem part_at {t : List Nat} {m k j : Nat} (h : j < m) : (part t m k)[j]? = some (val (bit6 t) (8 * j) (min 8 (k - 8 * j))) := by simp [part, h]
theorem part_all (t : List Nat) : part t (6 * t.length / 8) (8 * (6 * t.length / 8)) = bytesN t := by
  unfold part bytesN
  apply List.map_congr_left
  intro j hj
  rw [List.mem_range] at hj
  rw [show min 8 (8 * (6 * t.length / 8) - 8 * j) = 8 by omega]
theorem part_set {t : List Nat} {m k q r : Nat} (hk : k = 8 * q + r) (hr : r < 8) (hq : q < m) : (part t m k).set q (2 * val (bit6 t) (8 * q) r + bit6 t k) = part t m (k + 1) := by
  apply List.ext_getElem?
  intro j
  rw [List.getElem?_set]
  by_cases e : q = j
  · subst e
    rw [if_pos rfl, if_pos (by rw [part_length]; exact hq), part_at hq, show min 8 (k + 1 - 8 * q) = r + 1 by omega, val, hk]
  · rw [if_neg e]
    by_cases h : j < m
    · rw [part_at h, part_at h]
      congr 2
      omega
    · rw [List.getElem?_eq_none (by rw [part_length]; omega), List.getElem?_eq_none (by rw [part_length]; omega)]
end Tx
end Go.Proofs.YtmfpiodlecapiaaDoor
