/- How the document cuts an object: the blocks' sizes, as numbers. -/
namespace Go.Proofs.YtmfpiodlecapiaaDoor.Cut
def pieces (len s : Nat) : Nat := max 1 ((len + s - 1) / s)
def blocks (n m : Nat) : Nat := (n + m - 1) / m
def shareL (n z : Nat) : List Nat := (List.range z).map (fun i => n / z + if i < n % z then 1 else 0)
def sizes (len s m : Nat) : List Nat := shareL (pieces len s) (blocks (pieces len s) m)
theorem shareL_length (n z : Nat) : (shareL n z).length = z := by simp [shareL]
theorem pieces_pos (len s : Nat) : 1 ≤ pieces len s := by unfold pieces; omega
theorem pieces_le {len s : Nat} (hl : len ≤ 2000) (hs : 1 ≤ s) : pieces len s ≤ 2000 := by
  unfold pieces
  have : (len + s - 1) / s ≤ 2000 := by
    rw [Nat.div_le_iff_le_mul (by omega)]
    have : 2000 * 1 ≤ 2000 * s := Nat.mul_le_mul_left _ hs
    have h2 : 1999 * 1 ≤ 1999 * s := Nat.mul_le_mul_left _ hs
    omega
  omega
theorem blocks_pos {n m : Nat} (hn : 1 ≤ n) (hm : 1 ≤ m) : 1 ≤ blocks n m := by
  unfold blocks
  rw [Nat.le_div_iff_mul_le (by omega)]
  omega
theorem blocks_le {n m : Nat} (hn : 1 ≤ n) (hm : 1 ≤ m) : blocks n m ≤ n := by
  unfold blocks
  rw [Nat.div_le_iff_le_mul (by omega)]
  have : n * 1 ≤ n * m := Nat.mul_le_mul_left _ hm
  obtain ⟨k, rfl⟩ : ∃ k, n = k + 1 := ⟨n - 1, by omega⟩
  have : k * 1 ≤ k * m := Nat.mul_le_mul_left _ hm
  rw [Nat.succ_mul]
  omega

theorem share_sum (q r : Nat) : ∀ k, ((List.range k).map (fun i => q + if i < r then 1 else 0)).sum = k * q + min k r := by
  intro k
  induction k with
  | zero => simp
  | succ k ih =>
    rw [List.range_succ, List.map_append, List.sum_append, ih, Nat.succ_mul]
    simp
    split <;> omega
theorem shareL_sum {n z : Nat} (hz : 1 ≤ z) : (shareL n z).sum = n := by
  unfold shareL
  rw [share_sum]
  have := Nat.mod_lt n (show 0 < z by omega)
  have h2 := Nat.div_add_mod n z
  have e : min z (n % z) = n % z := by omega
  rw [e]
  exact h2
theorem shareL_at {n z i : Nat} (h : i < z) : (shareL n z)[i]? = some (n / z + if i < n % z then 1 else 0) := by simp [shareL, h]
theorem shareL_bounds {n z m : Nat} (hz : 1 ≤ z) (hzn : z ≤ n) (hm : n ≤ z * m) : ∀ k ∈ shareL n z, 1 ≤ k ∧ k ≤ m := by
  intro k hk
  simp only [shareL, List.mem_map, List.mem_range] at hk
  obtain ⟨i, hi, rfl⟩ := hk
  have h1 : 1 ≤ n / z := by rw [Nat.le_div_iff_mul_le (by omega)]; omega
  have h2 := Nat.div_add_mod n z
  have h3 := Nat.mod_lt n (show 0 < z by omega)
  refine ⟨by omega, ?_⟩
  split
  · rename_i h
    rcases Nat.lt_or_ge (n / z) m with h4 | h4
    · omega
    · have := Nat.mul_le_mul_left z h4
      omega
  · rcases Nat.lt_or_ge m (n / z) with h4 | h4
    · have := Nat.mul_le_mul_left z h4
      rw [Nat.mul_succ] at this
      omega
    · omega
theorem blocks_cover {n m : Nat} (hm : 1 ≤ m) : n ≤ blocks n m * m := by
  unfold blocks
  have := Nat.div_add_mod (n + m - 1) m
  have h2 := Nat.mod_lt (n + m - 1) (show 0 < m by omega)
  rw [Nat.mul_comm]
  omega
theorem pieces_cover {len s : Nat} (hs : 1 ≤ s) : len ≤ pieces len s * s := by
  have h := blocks_cover (n := len) (m := s) hs
  unfold blocks at h
  unfold pieces
  have : (len + s - 1) / s * s ≤ max 1 ((len + s - 1) / s) * s := Nat.mul_le_mul_right _ (by omega)
  omega
theorem sizes_sum {len s m : Nat} (hm : 1 ≤ m) : (sizes len s m).sum = pieces len s := shareL_sum (blocks_pos (pieces_pos _ _) hm)
theorem sizes_length (len s m : Nat) : (sizes len s m).length = blocks (pieces len s) m := shareL_length _ _
theorem sizes_bounds {len s m : Nat} (hm : 1 ≤ m) : ∀ k ∈ sizes len s m, 1 ≤ k ∧ k ≤ m :=
  shareL_bounds (blocks_pos (pieces_pos _ _) hm) (blocks_le (pieces_pos _ _) hm) (blocks_cover hm)
end Go.Proofs.YtmfpiodlecapiaaDoor.Cut
