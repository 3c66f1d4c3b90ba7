/- Pieces add up: the packets of two objects of one length, added byte by byte, are those of their sum. -/
import Derived.Test.YtmfpiodlecapiaaDoorWholeFacts
namespace Go.Proofs.YtmfpiodlecapiaaDoor
open Go.RowKit Go.Deep

def xorL (a b : List Nat) : List Nat := List.zipWith (fun x y => x ^^^ y) a b
theorem xorL_length {a b : List Nat} (h : a.length = b.length) : (xorL a b).length = a.length := by simp [xorL, h]
theorem xorL_take (a b : List Nat) (n : Nat) : (xorL a b).take n = xorL (a.take n) (b.take n) := List.take_zipWith
theorem xorL_drop (a b : List Nat) (n : Nat) : (xorL a b).drop n = xorL (a.drop n) (b.drop n) := List.drop_zipWith
theorem xorL_at {a b : List Nat} {k : Nat} (ha : k < a.length) (hb : k < b.length) : (xorL a b)[k]? = some (a[k]?.getD 0 ^^^ b[k]?.getD 0) := by
  unfold xorL
  rw [List.getElem?_zipWith]
  simp [ha, hb]
theorem xorL_lt {a b : List Nat} (ha : ∀ x ∈ a, x < 256) (hb : ∀ x ∈ b, x < 256) : ∀ x ∈ xorL a b, x < 256 := by
  intro x hx
  obtain ⟨i, hi, rfl⟩ := List.mem_iff_getElem.1 hx
  have hi' : i < a.length ∧ i < b.length := by simp [xorL] at hi; omega
  simp only [xorL, List.getElem_zipWith]
  exact Gf.xor_lt (ha _ (List.getElem_mem _)) (hb _ (List.getElem_mem _))
theorem xorL_zeros (n : Nat) : xorL (List.replicate n 0) (List.replicate n 0) = List.replicate n 0 := by
  simp [xorL]
theorem filled_xor {a b : List Nat} (M : Nat) (h : a.length = b.length) : Pk.filled (xorL a b) M = xorL (Pk.filled a M) (Pk.filled b M) := by
  unfold Pk.filled
  rw [xorL_length h, ← h]
  have e : xorL (a ++ List.replicate (M - a.length) 0) (b ++ List.replicate (M - a.length) 0) = xorL a b ++ xorL (List.replicate (M - a.length) 0) (List.replicate (M - a.length) 0) := by
    unfold xorL
    exact List.zipWith_append h
  rw [e, xorL_zeros]
theorem blkAt_xor (a b L : List Nat) (s k : Nat) : Pk.blkAt (xorL a b) L s k = xorL (Pk.blkAt a L s k) (Pk.blkAt b L s k) := by
  unfold Pk.blkAt
  rw [xorL_drop, xorL_take]
theorem piece_xor (a b : List Nat) (s i : Nat) : Pk.piece (xorL a b) s i = xorL (Pk.piece a s i) (Pk.piece b s i) := by
  unfold Pk.piece
  rw [xorL_drop, xorL_take]
theorem addTimes_xor {t : Nat} (ht : t < 256) : ∀ (S1 S2 b1 b2 : List Nat), (∀ x ∈ b1, x < 256) → (∀ x ∈ b2, x < 256) → Pk.addTimes (xorL S1 S2) (xorL b1 b2) t = xorL (Pk.addTimes S1 b1 t) (Pk.addTimes S2 b2 t) := by
  intro S1
  induction S1 with
  | nil => intro S2 b1 b2 _ _; simp [xorL, Pk.addTimes]
  | cons x1 S1 ih =>
    intro S2 b1 b2 h1 h2
    cases S2 with
    | nil => simp [xorL, Pk.addTimes]
    | cons x2 S2 =>
      cases b1 with
      | nil => simp [xorL, Pk.addTimes]
      | cons y1 b1 =>
        cases b2 with
        | nil => simp [xorL, Pk.addTimes]
        | cons y2 b2 =>
          have h := ih S2 b1 b2 (fun x hx => h1 x (List.mem_cons_of_mem _ hx)) (fun x hx => h2 x (List.mem_cons_of_mem _ hx))
          show (x1 ^^^ x2 ^^^ Gf.mul (y1 ^^^ y2) t) :: Pk.addTimes (xorL S1 S2) (xorL b1 b2) t = ((x1 ^^^ Gf.mul y1 t) ^^^ (x2 ^^^ Gf.mul y2 t)) :: xorL (Pk.addTimes S1 b1 t) (Pk.addTimes S2 b2 t)
          rw [h, Gf.add_mul (h1 y1 (List.mem_cons_self ..)) (h2 y2 (List.mem_cons_self ..)) ht, Gf.xor_swap]
theorem sumTo_xor {a b : List Nat} {s j : Nat} (ha : ∀ x ∈ a, x < 256) (hb : ∀ x ∈ b, x < 256) (hj : j < 32) : ∀ k, k ≤ 32 → Pk.sumTo (xorL a b) s j k = xorL (Pk.sumTo a s j k) (Pk.sumTo b s j k) := by
  intro k
  induction k with
  | zero => intro _; exact (xorL_zeros s).symm
  | succ k ih =>
    intro hk
    rw [Pk.sumTo, Pk.sumTo, Pk.sumTo, ih (by omega), piece_xor]
    exact addTimes_xor (Pk.weight_lt hj (by omega)) _ _ _ _ (Pk.piece_lt ha s k) (Pk.piece_lt hb s k)
theorem pieceN_xor {a b : List Nat} {s K n : Nat} (ha : ∀ x ∈ a, x < 256) (hb : ∀ x ∈ b, x < 256) (hK : K ≤ 32) (hn : n < K + 32) : Pk.pieceN (xorL a b) s K n = xorL (Pk.pieceN a s K n) (Pk.pieceN b s K n) := by
  unfold Pk.pieceN
  split
  · exact piece_xor _ _ _ _
  · exact sumTo_xor ha hb (by omega) K hK

/- Every packet is one of some block. -/
theorem start_split {L : List Nat} {p q : Nat} : ∀ Z, Z ≤ L.length → q < Pk.start L p Z → ∃ k i, k < Z ∧ i < L[k]?.getD 0 + p ∧ q = Pk.start L p k + i := by
  intro Z
  induction Z with
  | zero => intro _ h; simp [Pk.start] at h
  | succ Z ih =>
    intro hZ h
    by_cases hq : q < Pk.start L p Z
    · obtain ⟨k, i, h1, h2, h3⟩ := ih (by omega) hq
      exact ⟨k, i, by omega, h2, h3⟩
    · have := Pk.start_succ (p := p) (show Z < L.length by omega)
      exact ⟨Z, q - Pk.start L p Z, by omega, by omega, by omega⟩

/- The packets number q of two objects and of their sum. -/
theorem three_packets {n s m p q T M : Nat} {A B L : List Nat} (hA : A.length = n) (hB : B.length = n) (hAl : ∀ x ∈ A, x < 256) (hBl : ∀ x ∈ B, x < 256) (h3 : 1 ≤ m) (h4 : m ≤ 20) (h5 : p ≤ 20) (hs : 1 ≤ s) (hL : L = Cut.sizes n s m) (hM : M = Cut.pieces n s * s) (hT : Pk.start L p L.length = T) (hq : q < T) :
    ∃ hd pa pb : List Nat, hd.length = 10 ∧ pa.length = s ∧ pb.length = s ∧ (∀ x ∈ pa, x < 256) ∧ (∀ x ∈ pb, x < 256) ∧
      (Pk.packets 1 A s m p)[q]? = some (hd ++ pa) ∧ (Pk.packets 1 B s m p)[q]? = some (hd ++ pb) ∧ (Pk.packets 1 (xorL A B) s m p)[q]? = some (hd ++ xorL pa pb) := by
  rw [← hT] at hq
  obtain ⟨k, i, hk, hi, rfl⟩ := start_split L.length (Nat.le_refl _) hq
  have hC : (xorL A B).length = n := by rw [xorL_length (by rw [hA, hB]), hA]
  have hfa := Cut.sizes_facts hL h3 hk
  have hcov := Cut.pieces_cover (len := n) (s := s) hs
  have hFA : (Pk.filled A M).length = M := Pk.filled_length (by rw [hA, hM]; exact hcov)
  have hFB : (Pk.filled B M).length = M := Pk.filled_length (by rw [hB, hM]; exact hcov)
  have hsum : L.sum = Cut.pieces n s := by rw [hL]; exact Cut.sizes_sum h3
  have hbA : ∀ x ∈ Pk.blkAt (Pk.filled A M) L s k, x < 256 := fun x hx => Pk.filled_lt (M := M) hAl x (List.mem_of_mem_drop (List.mem_of_mem_take hx))
  have hbB : ∀ x ∈ Pk.blkAt (Pk.filled B M) L s k, x < 256 := fun x hx => Pk.filled_lt (M := M) hBl x (List.mem_of_mem_drop (List.mem_of_mem_take hx))
  refine ⟨Pk.head 1 n s m p k i, Pk.pieceN (Pk.blkAt (Pk.filled A M) L s k) s (L[k]?.getD 0) i, Pk.pieceN (Pk.blkAt (Pk.filled B M) L s k) s (L[k]?.getD 0) i, rfl, ?_, ?_, ?_, ?_, ?_, ?_, ?_⟩
  · exact Pk.pieceN_length (blk_length hk hsum hM hFA)
  · exact Pk.pieceN_length (blk_length hk hsum hM hFB)
  · exact Pk.pieceN_lt hbA (by omega) (by omega)
  · exact Pk.pieceN_lt hbB (by omega) (by omega)
  · exact packet_of hA hL M hM hk hi
  · exact packet_of hB hL M hM hk hi
  · rw [packet_of hC hL M hM hk hi, filled_xor M (by rw [hA, hB]), blkAt_xor, pieceN_xor hbA hbB (by omega) (by omega)]; rfl
end Go.Proofs.YtmfpiodlecapiaaDoor
