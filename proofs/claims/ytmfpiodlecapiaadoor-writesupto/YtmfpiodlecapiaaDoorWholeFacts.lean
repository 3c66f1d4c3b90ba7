/- What the pieces that are no spare ones hold, one behind the other: the object, filled up. -/
import Derived.Test.YtmfpiodlecapiaaDoorPacketsOpen
namespace Go.Proofs.YtmfpiodlecapiaaDoor
open Go.RowKit Go.Deep

theorem piece_of (D L : List Nat) (s k i : Nat) (hi : i < L[k]?.getD 0) : Pk.piece (Pk.blkAt D L s k) s i = (D.drop (((L.take k).sum + i) * s)).take s := by
  unfold Pk.piece Pk.blkAt
  rw [List.drop_take, List.drop_drop, List.take_take, ← Nat.add_mul]
  congr 1
  have := Nat.mul_le_mul_right s hi
  rw [Nat.succ_mul] at this
  omega
theorem take_more (D : List Nat) (x s : Nat) : D.take (x * s) ++ (D.drop (x * s)).take s = D.take ((x + 1) * s) := by
  rw [Nat.succ_mul, List.take_add]
theorem u8s_append (a b : List Nat) : u8s (a ++ b) = u8s a ++ u8s b := by simp [u8s]

/- One packet of Packets' answer. -/
theorem packet_of {I n s m p k i : Nat} {obj L : List Nat} (hobj : obj.length = n) (hL : L = Cut.sizes n s m) (M : Nat) (hM : M = Cut.pieces n s * s) (hk : k < L.length) (hi : i < L[k]?.getD 0 + p) :
    (Pk.packets I obj s m p)[Pk.start L p k + i]? = some (Pk.packet I n s m p k i (Pk.pieceN (Pk.blkAt (Pk.filled obj M) L s k) s (L[k]?.getD 0) i)) := by
  unfold Pk.packets
  rw [hobj, ← hL, ← hM]
  exact Pk.upTo_at _ hk (Nat.le_refl _) hi
theorem packet_8 (I n s m p k i : Nat) (bs : List Nat) : (u8s (Pk.packet I n s m p k i bs))[8]? = some (.int .u8 k) := rfl
theorem packet_9 (I n s m p k i : Nat) (bs : List Nat) : (u8s (Pk.packet I n s m p k i bs))[9]? = some (.int .u8 i) := rfl
theorem packet_tail (I n s m p k i j : Nat) (bs : List Nat) : (u8s (Pk.packet I n s m p k i bs))[10 + j]? = (u8s bs)[j]? := by
  have e : u8s (Pk.packet I n s m p k i bs) = u8s (Pk.head I n s m p k i) ++ u8s bs := by simp [u8s, Pk.packet]
  have h10 : (u8s (Pk.head I n s m p k i)).length = 10 := rfl
  rw [e, List.getElem?_append_right (by omega), h10, Nat.add_sub_cancel_left]
theorem blk_length {D L : List Nat} {s k N M : Nat} (hk : k < L.length) (hN : L.sum = N) (hM : M = N * s) (hD : D.length = M) : (Pk.blkAt D L s k).length = L[k]?.getD 0 * s := by
  unfold Pk.blkAt
  rw [List.length_take, List.length_drop, hD, hM]
  have h1 := sum_take_le L (k + 1)
  rw [sum_take_succ (getD_some hk), hN] at h1
  have h2 := Nat.mul_le_mul_right s h1
  rw [Nat.add_mul] at h2
  omega

theorem conv_obj {w : World} {b off n cap : Nat} {obj : List Nat} (h : ObjAt w (some ⟨b, off, none⟩) n obj) : (convert 27 9 (.slice (some ⟨b, off, none⟩) n cap)).run Tryd.prog w = .ok (.string (strOf obj)) w := by
  refine run_convert_bytes_arg w 27 5 Tryd.underlying27 Tryd.underlying5 b off n cap (obj.map (fun n : Nat => (n : Int))) (by simpa using h.1) ?_ 9 Tryd.underlying9
  intro i hi
  obtain ⟨b', off', e, hc⟩ := h.2.2 (by omega)
  injection e with e
  injection e with e1 e2
  subst e1 e2
  rw [hc i hi]
  simp [List.getD, h.1 ▸ hi]
theorem filled_tail {obj : List Nat} {M j : Nat} (h : obj.length ≤ j) (hj : j < M) : (Pk.filled obj M)[j]? = some 0 := by
  unfold Pk.filled
  rw [List.getElem?_append_right h, List.getElem?_replicate, if_pos (by omega)]
theorem filled_head {obj : List Nat} {M j : Nat} (h : j < obj.length) : (Pk.filled obj M)[j]? = obj[j]? := by
  unfold Pk.filled
  rw [List.getElem?_append_left h]
theorem pieces_less {n s : Nat} (h1 : 1 ≤ s) : Cut.pieces n s * s ≤ n + s ∧ (0 < n → Cut.pieces n s * s < n + s) := by
  have h := Nat.div_mul_le_self (n + s - 1) s
  unfold Cut.pieces
  rcases Nat.lt_or_ge ((n + s - 1) / s) 1 with h2 | h2
  · have e : (n + s - 1) / s = 0 := Nat.lt_one_iff.1 h2
    have hn : n = 0 := by
      rcases Nat.eq_zero_or_pos n with h3 | h3
      · exact h3
      · have : 1 ≤ (n + s - 1) / s := by rw [Nat.le_div_iff_mul_le (by omega)]; omega
        omega
    rw [e]
    have e2 : max 1 0 * s = s := by simp
    rw [e2]
    omega
  · have e : max 1 ((n + s - 1) / s) = (n + s - 1) / s := by omega
    rw [e]
    omega
end Go.Proofs.YtmfpiodlecapiaaDoor
