/- What a text's rune at a place is, by its bytes. -/
import Derived.Test.YtmfpiodlecapiaaDoorTextSpec
import Derived.Test.YtmfpiodlecapiaaDoorRefPack
namespace Go.Proofs.YtmfpiodlecapiaaDoor
open Go.RowKit Go.Deep

theorem get!_bytes (s : ByteArray) (i : Nat) (h : i < s.size) : (s.get! i).toNat = (bytesOf s)[i]?.getD 0 := by
  unfold bytesOf
  have hi : i < s.data.size := h
  have e : s.data[i]! = s.data[i] := getElem!_pos s.data i hi
  have e2 : s.data[i]? = some s.data[i] := Array.getElem?_eq_getElem hi
  simp [ByteArray.get!, e, e2]
theorem bytes_lt (s : ByteArray) (i : Nat) : (bytesOf s)[i]?.getD 0 < 256 := by
  by_cases h : i < s.size
  · rw [← get!_bytes s i h]; exact UInt8.toNat_lt _
  · rw [List.getElem?_eq_none (by rw [bytesOf_length]; omega)]; simp
theorem rn_range {n : Nat} (h : n < 64) : (65 ≤ Tx.rn n ∧ Tx.rn n ≤ 90) ∨ (97 ≤ Tx.rn n ∧ Tx.rn n ≤ 122) ∨ (945 ≤ Tx.rn n ∧ Tx.rn n ≤ 956) := by
  unfold Tx.rn
  split
  · omega
  · split <;> omega
/- What a rune of more than one byte may be. -/
theorem decode_far (s : ByteArray) (i : Nat) (h : i < s.size) (hc : 128 ≤ (bytesOf s)[i]?.getD 0) :
    (Tx.greek (bytesOf s) i ∧ Utf8.decode s i = (768 + (bytesOf s)[i + 1]?.getD 0, 2)) ∨
    (¬ Tx.greek (bytesOf s) i ∧ 128 ≤ (Utf8.decode s i).1 ∧ ¬ (945 ≤ (Utf8.decode s i).1 ∧ (Utf8.decode s i).1 ≤ 956)) := by
  have h0 := get!_bytes s i h
  have hb0 := bytes_lt s i
  have hb1 := bytes_lt s (i + 1)
  have h1 : i + 1 < s.size → (s.get! (i + 1)).toNat = (bytesOf s)[i + 1]?.getD 0 := get!_bytes s (i + 1)
  have hl := bytesOf_length s
  unfold Utf8.decode
  simp only [Nat.add_zero, h0]
  rw [if_neg (by omega)]
  unfold Tx.greek
  rw [hl]
  generalize (bytesOf s)[i]?.getD 0 = c at *
  generalize (bytesOf s)[i + 1]?.getD 0 = c' at *
  by_cases hn : i + 1 < s.size
  · rw [h1 hn]
    clear h1 h0
    generalize (s.get! (i + 2)).toNat = c2
    generalize (s.get! (i + 3)).toNat = c3
    split
    · rename_i hx
      simp only [Bool.and_eq_true, beq_iff_eq, decide_eq_true_eq] at hx
      split
      · by_cases hg : c = 206 ∧ 177 ≤ c' ∧ c' ≤ 188
        · left
          refine ⟨⟨hg.1, hn, hg.2⟩, ?_⟩
          simp only [Prod.mk.injEq, and_true]
          omega
        · right
          refine ⟨fun hh => hg ⟨hh.1, hh.2.2⟩, by omega, ?_⟩
          show ¬ (945 ≤ c % 32 * 64 + c' % 64 ∧ c % 32 * 64 + c' % 64 ≤ 956)
          omega
      · right
        refine ⟨fun hh => ?_, by decide, by decide⟩
        omega
    · rename_i hx
      simp only [Bool.and_eq_true, beq_iff_eq, decide_eq_true_eq] at hx
      right
      refine ⟨fun hh => hx ⟨by omega, hn, by omega⟩, ?_⟩
      split
      · split
        · rename_i hy
          simp only [Bool.and_eq_true, decide_eq_true_eq] at hy
          constructor <;> omega
        · exact ⟨by decide, by decide⟩
      · split
        · split
          · rename_i hy
            simp only [Bool.and_eq_true, decide_eq_true_eq] at hy
            constructor <;> omega
          · exact ⟨by decide, by decide⟩
        · exact ⟨by decide, by decide⟩
  · right
    refine ⟨fun hh => hn hh.2.1, ?_⟩
    simp only [hn, decide_false, Bool.false_and, Bool.and_false, Bool.false_eq_true, if_false]
    exact ⟨by decide, by decide⟩
theorem decode_num (s : ByteArray) (i : Nat) (h : i < s.size) :
    (Tx.numAt (bytesOf s) i = -1 ∧ ((Utf8.decode s i).1 = 32 ∨ (Utf8.decode s i).1 = 10) ∧ (Utf8.decode s i).2 = 1) ∨
    (∃ n : Nat, n < 64 ∧ Tx.numAt (bytesOf s) i = (n : Int) ∧ (Utf8.decode s i).1 = Tx.rn n ∧ (Utf8.decode s i).2 = Tx.sizeAt (bytesOf s) i) ∨
    (Tx.numAt (bytesOf s) i = -2 ∧ (Utf8.decode s i).1 ≠ 32 ∧ (Utf8.decode s i).1 ≠ 10 ∧ ∀ n : Nat, n < 64 → Tx.rn n ≠ (Utf8.decode s i).1) := by
  have h0 := get!_bytes s i h
  have hb0 := bytes_lt s i
  by_cases hc : (bytesOf s)[i]?.getD 0 < 128
  · have hd : Utf8.decode s i = ((bytesOf s)[i]?.getD 0, 1) := by
      unfold Utf8.decode
      simp only [Nat.add_zero, h0]
      rw [if_pos hc]
    have hng : ¬ Tx.greek (bytesOf s) i := fun hg => by have := hg.1; omega
    have hsz : Tx.sizeAt (bytesOf s) i = 1 := by unfold Tx.sizeAt; rw [if_neg hng]
    rw [hd, hsz]
    unfold Tx.numAt
    simp only [hng, if_false]
    generalize (bytesOf s)[i]?.getD 0 = c at *
    by_cases h1 : c = 32 ∨ c = 10
    · left; rw [if_pos h1]; exact ⟨rfl, h1, trivial⟩
    · rw [if_neg h1]
      by_cases h2 : 65 ≤ c ∧ c ≤ 90
      · right; left
        rw [if_pos h2]
        refine ⟨c - 65, by omega, by omega, ?_, trivial⟩
        show c = _
        unfold Tx.rn
        rw [if_pos (by omega)]; omega
      · rw [if_neg h2]
        by_cases h3 : 97 ≤ c ∧ c ≤ 122
        · right; left
          rw [if_pos h3]
          refine ⟨c - 71, by omega, by omega, ?_, trivial⟩
          show c = _
          unfold Tx.rn
          rw [if_neg (by omega), if_pos (by omega)]; omega
        · right; right
          rw [if_neg h3]
          refine ⟨rfl, fun e => h1 (Or.inl e), fun e => h1 (Or.inr e), fun n hn e => ?_⟩
          have := rn_range hn
          have e' : Tx.rn n = c := e
          omega
  · rcases decode_far s i h (by omega) with ⟨hg, hd⟩ | ⟨hg, h1, h2⟩
    · right; left
      have hg2 := hg.2.2
      refine ⟨(bytesOf s)[i + 1]?.getD 0 - 125, by omega, ?_, ?_, ?_⟩
      · unfold Tx.numAt
        rw [if_neg (by omega), if_neg (by omega), if_neg (by omega), if_pos hg]
        omega
      · rw [hd]
        unfold Tx.rn
        rw [if_neg (by omega), if_neg (by omega)]
        show 768 + _ = _
        omega
      · rw [hd]
        unfold Tx.sizeAt
        rw [if_pos hg]
    · right; right
      refine ⟨?_, by omega, by omega, fun n hn e => ?_⟩
      · unfold Tx.numAt
        rw [if_neg (by omega), if_neg (by omega), if_neg (by omega), if_neg hg]
      · have := rn_range hn
        omega
end Go.Proofs.YtmfpiodlecapiaaDoor
