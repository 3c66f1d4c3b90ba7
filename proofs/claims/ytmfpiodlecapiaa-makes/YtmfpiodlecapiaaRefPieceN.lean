/- The document's own piece of a block: it is the piece that the program makes. -/
import Derived.Test.YtmfpiodlecapiaaRefPiece
namespace Go.Proofs.Ytmfpiodlecapiaa
open Go.RowKit Go.Deep

/- The sum of a block's pieces, each so many times, as it is gathered. -/
def gather (ps : List (List Nat)) (r : List Nat) (s : Nat) : Nat → List Nat
  | 0 => List.replicate s 0
  | k + 1 => if r[k]?.getD 0 = 0 then gather ps r s k else xorL (gather ps r s k) (timesL (ps[k]?.getD []) (r[k]?.getD 0))
theorem gather_zero (ps : List (List Nat)) (r : List Nat) (s : Nat) : gather ps r s 0 = List.replicate s 0 := rfl
theorem gather_skip {ps : List (List Nat)} {r : List Nat} {s k : Nat} (h : r[k]?.getD 0 = 0) : gather ps r s (k + 1) = gather ps r s k := by
  show (if _ then _ else _) = _
  rw [if_pos h]
theorem gather_step {ps : List (List Nat)} {r : List Nat} {s k : Nat} (h : r[k]?.getD 0 ≠ 0) : gather ps r s (k + 1) = xorL (gather ps r s k) (timesL (ps[k]?.getD []) (r[k]?.getD 0)) := by
  show (if _ then _ else _) = _
  rw [if_neg h]
theorem timesL_lt {bs : List Nat} {t : Nat} (hb : ∀ x ∈ bs, x < 256) (ht : t < 256) : ∀ x ∈ timesL bs t, x < 256 := by
  intro x hx
  unfold timesL at hx
  obtain ⟨y, hy, rfl⟩ := List.mem_map.1 hx
  exact Gf.mul_lt (hb y hy) ht
theorem addTimes_eq (S bs : List Nat) (t : Nat) : xorL S (timesL bs t) = Pk.addTimes S bs t := by
  unfold xorL timesL Pk.addTimes
  rw [List.zipWith_map_right]
theorem times_one {bs : List Nat} (hb : ∀ x ∈ bs, x < 256) : timesL bs 1 = bs := by
  unfold timesL
  conv => rhs; rw [← List.map_id bs]
  exact List.map_congr_left (fun x hx => Gf.mul_one (hb x hx))
theorem xorL_zeros_left (bs : List Nat) : xorL (List.replicate bs.length 0) bs = bs := by
  unfold xorL
  apply List.ext_getElem?
  intro i
  rw [List.getElem?_zipWith]
  by_cases h : i < bs.length
  · simp [h]
  · simp [List.getElem?_eq_none (show bs.length ≤ i by omega)]

structure Pcs (ps : List (List Nat)) (s K : Nat) : Prop where
  len : ps.length = K
  each : ∀ p ∈ ps, p.length = s ∧ ∀ x ∈ p, x < 256
theorem Pcs.at_ {ps : List (List Nat)} {s K k : Nat} (h : Pcs ps s K) (hk : k < K) : (ps[k]?.getD []).length = s ∧ ∀ x ∈ ps[k]?.getD [], x < 256 := by
  have hk' : k < ps.length := by rw [h.len]; exact hk
  have e : ps[k]?.getD [] = ps[k] := by simp [hk']
  rw [e]
  exact h.each _ (List.getElem_mem hk')
theorem gather_ok {ps : List (List Nat)} {r : List Nat} {s K : Nat} (h : Pcs ps s K) (hr : ∀ x ∈ r, x < 256) : ∀ k, k ≤ K → (gather ps r s k).length = s ∧ ∀ x ∈ gather ps r s k, x < 256 := by
  intro k
  induction k with
  | zero => intro _; rw [gather_zero]; exact ⟨by simp, by intro x hx; simp at hx; omega⟩
  | succ k ih =>
    intro hk
    obtain ⟨h1, h2⟩ := ih (by omega)
    by_cases h0 : r[k]?.getD 0 = 0
    · rw [gather_skip h0]; exact ⟨h1, h2⟩
    · obtain ⟨h3, h4⟩ := h.at_ (show k < K by omega)
      have ht : r[k]?.getD 0 < 256 := by
        by_cases hkr : k < r.length
        · exact getD_lt hr hkr
        · rw [List.getElem?_eq_none (by omega)]; decide
      rw [gather_step h0]
      exact ⟨by rw [xorL_length (by rw [h1, timesL_length, h3]), h1], xorL_lt h2 (timesL_lt h4 ht)⟩

theorem rowL_lt {K n : Nat} (hK : K ≤ 20) (hn : n < K + 32) : ∀ x ∈ rowL K n, x < 256 := by
  intro x hx
  unfold rowL at hx
  split at hx
  · rcases List.mem_or_eq_of_mem_set hx with h | h
    · have := List.eq_of_mem_replicate h; omega
    · omega
  · obtain ⟨i, hi, rfl⟩ := List.mem_map.1 hx
    exact Pk.weight_lt (by omega) (by have := List.mem_range.1 hi; omega)
theorem rowL_at {K n k : Nat} (hk : k < K) : (rowL K n)[k]?.getD 0 = if n < K then (if k = n then 1 else 0) else Pk.weight (n - K) k := by
  unfold rowL
  split
  · rw [List.getElem?_set]
    by_cases h : n = k
    · subst h; simp [hk]
    · rw [if_neg h, if_neg (fun e => h e.symm)]; simp [hk]
  · simp [hk]
/- What is gathered by the row of the piece n is the piece n. -/
theorem gather_piece {blk : List Nat} {ps : List (List Nat)} {s K n : Nat} (h : Pcs ps s K) (hp : ∀ i, i < K → ps[i]?.getD [] = Pk.piece blk s i) (hK : K ≤ 20) (hn : n < K + 32) :
    gather ps (rowL K n) s K = Pk.pieceN blk s K n := by
  unfold Pk.pieceN
  by_cases hnK : n < K
  · rw [if_pos hnK]
    have key : ∀ k, k ≤ K → gather ps (rowL K n) s k = if n < k then ps[n]?.getD [] else List.replicate s 0 := by
      intro k
      induction k with
      | zero => intro _; rw [gather_zero, if_neg (by omega)]
      | succ k ih =>
        intro hk
        have hr := rowL_at (n := n) (show k < K by omega)
        rw [if_pos hnK] at hr
        by_cases hkn : k = n
        · rw [if_pos hkn] at hr
          rw [gather_step (by rw [hr]; decide), ih (by omega), if_neg (by omega), if_pos (by omega), hr]
          subst hkn
          obtain ⟨h1, h2⟩ := h.at_ hnK
          rw [times_one h2]
          have e := xorL_zeros_left (ps[k]?.getD [])
          rw [h1] at e
          exact e
        · rw [if_neg hkn] at hr
          rw [gather_skip hr, ih (by omega)]
          by_cases h3 : n < k
          · rw [if_pos h3, if_pos (by omega)]
          · rw [if_neg h3, if_neg (by omega)]
    rw [key K (Nat.le_refl _), if_pos hnK, hp n hnK]
  · rw [if_neg hnK]
    have key : ∀ k, k ≤ K → gather ps (rowL K n) s k = Pk.sumTo blk s (n - K) k := by
      intro k
      induction k with
      | zero => intro _; rw [gather_zero]; rfl
      | succ k ih =>
        intro hk
        have hr := rowL_at (n := n) (show k < K by omega)
        rw [if_neg hnK] at hr
        have hne := Pk.weight_ne (j := n - K) (i := k) (by omega) (by omega)
        have hps := Gf.inv_pos (a := (255 - (n - K)) ^^^ k) (Gf.xor_lt (by omega) (by omega)) hne
        have hw : Pk.weight (n - K) k ≠ 0 := by unfold Pk.weight; omega
        rw [gather_step (by rw [hr]; exact hw), hr, addTimes_eq, ih (by omega), hp k (by omega)]
        rfl
    exact key K (Nat.le_refl _)
end Go.Proofs.Ytmfpiodlecapiaa
