/- The document's own packets: they are those that the program makes. -/
import Derived.Test.YtmfpiodlecapiaaRefPackets
namespace Go.Proofs.Ytmfpiodlecapiaa
open Go.RowKit Go.Deep

theorem Try.infoStr : (Try.prog.info? 9).map (fun i => (i.zero, i.size, i.bytes)) = some (some (.string ⟨#[]⟩), 1, 16) := by kernel_rfl

theorem strOf_extract (a : List Nat) (i j : Nat) : (strOf a).extract i j = strOf ((a.take j).drop i) := by
  rw [strOf_eq, strOf_eq]
  apply ByteArray.ext
  rw [ByteArray.data_extract]
  apply Array.ext'
  simp [List.map_take, List.map_drop, List.extract_eq_take_drop, List.drop_take]

/- What is left of an object behind x pieces. -/
def restL (obj : List Nat) (s x : Nat) : List Nat := obj.drop (x * s) ++ List.replicate s 0
theorem restL_zero (obj : List Nat) (s : Nat) : restL obj s 0 = obj ++ List.replicate s 0 := by simp [restL]
theorem restL_length (obj : List Nat) (s x : Nat) : (restL obj s x).length = obj.length - x * s + s := by simp [restL]
theorem restL_step {obj : List Nat} {s x : Nat} (h : s ≤ obj.length - x * s) : (restL obj s x).drop s = restL obj s (x + 1) := by
  unfold restL
  rw [List.drop_append_of_le_length (by simpa using h), List.drop_drop, Nat.succ_mul]
theorem restL_last {obj : List Nat} {s x : Nat} (h : obj.length - x * s < s) : (restL obj s x).drop s ++ List.replicate (s - (obj.length - x * s)) 0 = restL obj s (x + 1) := by
  unfold restL
  have e1 : obj.drop ((x + 1) * s) = [] := by
    rw [List.drop_eq_nil_iff, Nat.succ_mul]; omega
  rw [e1, List.drop_append, List.drop_eq_nil_iff.2 (by simp; omega), List.drop_replicate]
  simp only [List.nil_append, List.length_drop, List.replicate_append_replicate]
  congr 1
  omega
theorem restL_take {obj : List Nat} {s x M : Nat} (hM : (x + 1) * s ≤ M) : (restL obj s x).take s = ((Pk.filled obj M).drop (x * s)).take s := by
  have hM' : x * s + s ≤ M := by rw [Nat.succ_mul] at hM; exact hM
  apply List.ext_getElem?
  intro j
  by_cases hj : j < s
  · rw [List.getElem?_take, List.getElem?_take, if_pos hj, if_pos hj, List.getElem?_drop]
    unfold restL
    by_cases h1 : x * s + j < obj.length
    · rw [filled_head h1, List.getElem?_append_left (by rw [List.length_drop]; omega), List.getElem?_drop]
    · rw [filled_tail (by omega) (by omega), List.getElem?_append_right (by rw [List.length_drop]; omega), List.getElem?_replicate, if_pos (by rw [List.length_drop]; omega)]
  · rw [List.getElem?_eq_none (by rw [List.length_take]; omega), List.getElem?_eq_none (by rw [List.length_take]; omega)]
theorem restL_lt {obj : List Nat} (h : ∀ x ∈ obj, x < 256) (s x : Nat) : ∀ y ∈ restL obj s x, y < 256 := by
  intro y hy
  unfold restL at hy
  rcases List.mem_append.1 hy with h1 | h1
  · exact h y (List.mem_of_mem_drop h1)
  · have := List.eq_of_mem_replicate h1; omega

/- The pieces of the block z. -/
def psOf (D L : List Nat) (s z : Nat) : List (List Nat) := (List.range (L[z]?.getD 0)).map (fun i => Pk.piece (Pk.blkAt D L s z) s i)
theorem psOf_length (D L : List Nat) (s z : Nat) : (psOf D L s z).length = L[z]?.getD 0 := by simp [psOf]
theorem psOf_at {D L : List Nat} {s z i : Nat} (hi : i < L[z]?.getD 0) : (psOf D L s z)[i]? = some (Pk.piece (Pk.blkAt D L s z) s i) := by simp [psOf, hi]
theorem psOf_rest {obj L : List Nat} {s z i M : Nat} (hi : i < L[z]?.getD 0) (hM : ((L.take z).sum + i + 1) * s ≤ M) : (psOf (Pk.filled obj M) L s z)[i]? = some ((restL obj s ((L.take z).sum + i)).take s) := by
  rw [psOf_at hi, piece_of _ _ _ _ _ hi, restL_take hM]
theorem psOf_ok {D L : List Nat} {s z K : Nat} (hK : L[z]?.getD 0 = K) (hD : ∀ x ∈ D, x < 256) (hl : (Pk.blkAt D L s z).length = K * s) : Pcs (psOf D L s z) s K := by
  refine ⟨by rw [psOf_length, hK], fun p hp => ?_⟩
  unfold psOf at hp
  obtain ⟨i, hi, rfl⟩ := List.mem_map.1 hp
  have hi' : i < K := by have := List.mem_range.1 hi; omega
  exact ⟨Pk.piece_length hl hi', Pk.piece_lt (fun x hx => hD x (List.mem_of_mem_drop (List.mem_of_mem_take hx))) s i⟩
theorem filled_lt {obj : List Nat} (h : ∀ x ∈ obj, x < 256) (M : Nat) : ∀ x ∈ Pk.filled obj M, x < 256 := by
  intro x hx
  unfold Pk.filled at hx
  rcases List.mem_append.1 hx with h1 | h1
  · exact h x h1
  · have := List.eq_of_mem_replicate h1; omega
theorem take_snoc' {α : Type} {l : List α} {k : Nat} {v : α} (h : l[k]? = some v) : l.take (k + 1) = l.take k ++ [v] := (take_snoc h).symm
theorem strs_append (a b : List (List Nat)) : strs (a ++ b) = strs a ++ strs b := by simp [strs]
end Go.Proofs.Ytmfpiodlecapiaa
