/- The document's pieces and packets, as lists of numbers. -/
import Derived.Test.YtmfpiodlecapiaaDoorGf
import Derived.Test.YtmfpiodlecapiaaDoorCutting
namespace Go.Proofs.YtmfpiodlecapiaaDoor.Pk
def weight (j i : Nat) : Nat := Gf.inv ((255 - j) ^^^ i)
/- Bytes, plus other bytes so many times. -/
def addTimes (S bs : List Nat) (t : Nat) : List Nat := List.zipWith (fun x y => x ^^^ Gf.mul y t) S bs
theorem addTimes_length (S bs : List Nat) (t : Nat) (h : bs.length = S.length) : (addTimes S bs t).length = S.length := by simp [addTimes, h]
theorem addTimes_at (S bs : List Nat) (t k : Nat) (h : bs.length = S.length) (hk : k < S.length) : (addTimes S bs t)[k]? = some (S[k]?.getD 0 ^^^ Gf.mul (bs[k]?.getD 0) t) := by
  simp [addTimes, hk, h]

/- The piece i of a block's bytes; the spare piece j of its first k. -/
def piece (blk : List Nat) (s i : Nat) : List Nat := (blk.drop (i * s)).take s
def sumTo (blk : List Nat) (s j : Nat) : Nat → List Nat
  | 0 => List.replicate s 0
  | k + 1 => addTimes (sumTo blk s j k) (piece blk s k) (weight j k)
theorem piece_length {blk : List Nat} {s i K : Nat} (h : blk.length = K * s) (hi : i < K) : (piece blk s i).length = s := by
  have := Nat.mul_le_mul_right s hi
  rw [Nat.succ_mul] at this
  simp [piece]; omega
theorem piece_lt {blk : List Nat} (h : ∀ x ∈ blk, x < 256) (s i : Nat) : ∀ x ∈ piece blk s i, x < 256 := fun x hx => h x (List.mem_of_mem_drop (List.mem_of_mem_take hx))
theorem piece_at {blk : List Nat} {s i c : Nat} (hc : c < s) : (piece blk s i)[c]? = blk[i * s + c]? := by simp [piece, hc]
theorem addTimes_lt {S bs : List Nat} {t : Nat} (hS : ∀ x ∈ S, x < 256) (hb : ∀ x ∈ bs, x < 256) (ht : t < 256) : ∀ x ∈ addTimes S bs t, x < 256 := by
  intro x hx
  unfold addTimes at hx
  rw [List.zipWith_eq_zipWith_take_min] at hx
  simp only [List.mem_iff_getElem, List.getElem_zipWith] at hx
  obtain ⟨i, hi, rfl⟩ := hx
  refine Gf.xor_lt (hS _ ?_) (Gf.mul_lt (hb _ ?_) ht)
  · exact List.mem_of_mem_take (List.getElem_mem _)
  · exact List.mem_of_mem_take (List.getElem_mem _)
theorem weight_ne {j i : Nat} (hj : j < 32) (hi : i < 32) : (255 - j) ^^^ i ≠ 0 := by
  intro h
  have e : (255 - j) = i := by
    have : ((255 - j) ^^^ i) ^^^ i = 0 ^^^ i := by rw [h]
    rw [Nat.xor_assoc, Nat.xor_self, Nat.xor_zero, Nat.zero_xor] at this
    exact this
  omega
theorem weight_lt {j i : Nat} (hj : j < 32) (hi : i < 32) : weight j i < 256 := Gf.inv_lt (Gf.xor_lt (by omega) (by omega)) (weight_ne hj hi)
theorem sumTo_length {blk : List Nat} {s j K : Nat} (h : blk.length = K * s) : ∀ k, k ≤ K → (sumTo blk s j k).length = s := by
  intro k
  induction k with
  | zero => intro _; simp [sumTo]
  | succ k ih =>
    intro hk
    have h1 := ih (by omega)
    rw [sumTo, addTimes_length _ _ _ (by rw [piece_length h hk, h1]), h1]
theorem sumTo_lt {blk : List Nat} {s j : Nat} (hb : ∀ x ∈ blk, x < 256) (hj : j < 32) : ∀ k, k ≤ 32 → ∀ x ∈ sumTo blk s j k, x < 256 := by
  intro k
  induction k with
  | zero => intro _ x hx; simp [sumTo] at hx; omega
  | succ k ih => intro hk; exact addTimes_lt (ih (by omega)) (piece_lt hb s k) (weight_lt hj (by omega))

/- The piece n of a block of K pieces. -/
def pieceN (blk : List Nat) (s K n : Nat) : List Nat := if n < K then piece blk s n else sumTo blk s (n - K) K
theorem pieceN_length {blk : List Nat} {s K n : Nat} (h : blk.length = K * s) : (pieceN blk s K n).length = s := by
  unfold pieceN; split
  · exact piece_length h (by assumption)
  · exact sumTo_length h K (Nat.le_refl _)
theorem pieceN_lt {blk : List Nat} {s K n : Nat} (hb : ∀ x ∈ blk, x < 256) (hK : K ≤ 32) (hn : n < K + 32) : ∀ x ∈ pieceN blk s K n, x < 256 := by
  unfold pieceN; split
  · exact piece_lt hb s n
  · exact sumTo_lt hb (by omega) K hK

def head (id len s m p z q : Nat) : List Nat := [70, id / 256, id % 256, len / 256, len % 256, s, m, p, z, q]
def packet (id len s m p z q : Nat) (bs : List Nat) : List Nat := head id len s m p z q ++ bs

/- All packets of one block. -/
def ofBlock (id len s m p z K : Nat) (blk : List Nat) : List (List Nat) := (List.range (K + p)).map (fun q => packet id len s m p z q (pieceN blk s K q))
theorem ofBlock_length (id len s m p z K : Nat) (blk : List Nat) : (ofBlock id len s m p z K blk).length = K + p := by simp [ofBlock]
theorem ofBlock_at {id len s m p z K q : Nat} {blk : List Nat} (h : q < K + p) : (ofBlock id len s m p z K blk)[q]? = some (packet id len s m p z q (pieceN blk s K q)) := by simp [ofBlock, h]

/- The bytes of the block z, of blocks of these sizes; all packets of an object. -/
def blkAt (D L : List Nat) (s z : Nat) : List Nat := (D.drop ((L.take z).sum * s)).take (L[z]?.getD 0 * s)
def filled (obj : List Nat) (M : Nat) : List Nat := obj ++ List.replicate (M - obj.length) 0
def upTo (id len s m p : Nat) (L D : List Nat) (k : Nat) : List (List Nat) := (List.range k).flatMap (fun z => ofBlock id len s m p z (L[z]?.getD 0) (blkAt D L s z))
theorem upTo_succ (id len s m p : Nat) (L D : List Nat) (k : Nat) : upTo id len s m p L D (k + 1) = upTo id len s m p L D k ++ ofBlock id len s m p k (L[k]?.getD 0) (blkAt D L s k) := by
  simp [upTo, List.range_succ]
def packets (id : Nat) (obj : List Nat) (s m p : Nat) : List (List Nat) :=
  upTo id obj.length s m p (Cut.sizes obj.length s m) (filled obj (Cut.pieces obj.length s * s)) (Cut.sizes obj.length s m).length
theorem upTo_length (id len s m p : Nat) (L D : List Nat) : ∀ k, k ≤ L.length → (upTo id len s m p L D k).length = (L.take k).sum + k * p := by
  intro k
  induction k with
  | zero => intro _; simp [upTo]
  | succ k ih =>
    intro hk
    have e : L[k]? = some (L[k]?.getD 0) := by simp [show k < L.length by omega]
    rw [upTo_succ, List.length_append, ih (by omega), ofBlock_length, List.take_add_one, e, Nat.succ_mul]
    simp; omega

/- Where a block's packets begin. -/
def start (L : List Nat) (p z : Nat) : Nat := (L.take z).sum + z * p
theorem start_succ {L : List Nat} {p z : Nat} (h : z < L.length) : start L p (z + 1) = start L p z + (L[z]?.getD 0 + p) := by
  have e : L[z]? = some (L[z]?.getD 0) := by simp [h]
  unfold start
  rw [List.take_add_one, e, Nat.succ_mul]
  simp; omega
theorem start_mono {L : List Nat} {p z : Nat} : ∀ k, z ≤ k → k ≤ L.length → start L p z ≤ start L p k := by
  intro k hk
  induction hk with
  | refl => intro _; exact Nat.le_refl _
  | @step m hm ih =>
    intro hk
    have h := start_succ (p := p) (show m < L.length from hk)
    have := ih (Nat.le_of_lt hk)
    show start L p z ≤ start L p (m + 1)
    omega
theorem upTo_len {id len s m p : Nat} {L D : List Nat} {k : Nat} (hk : k ≤ L.length) : (upTo id len s m p L D k).length = start L p k := upTo_length _ _ _ _ _ _ _ k hk
theorem upTo_at {id len s m p : Nat} {L D : List Nat} {z i : Nat} : ∀ k, z < k → k ≤ L.length → i < L[z]?.getD 0 + p → (upTo id len s m p L D k)[start L p z + i]? = some (packet id len s m p z i (pieceN (blkAt D L s z) s (L[z]?.getD 0) i)) := by
  intro k
  induction k with
  | zero => intro h; omega
  | succ k ih =>
    intro hz hk hi
    rw [upTo_succ]
    by_cases hzk : z < k
    · have h1 := start_succ (L := L) (p := p) (show z < L.length by omega)
      have h2 := start_mono (L := L) (p := p) (z := z + 1) k hzk (by omega)
      rw [List.getElem?_append_left (by rw [upTo_len (by omega)]; omega)]
      exact ih hzk (by omega) hi
    · have e : z = k := by omega
      subst e
      rw [List.getElem?_append_right (by rw [upTo_len (by omega)]; omega), upTo_len (by omega), Nat.add_sub_cancel_left]
      exact ofBlock_at hi
theorem packet_length {id len s m p z q : Nat} {bs : List Nat} (h : bs.length = s) : (packet id len s m p z q bs).length = 10 + s := by
  simp [packet, head, h]; omega
theorem packet_drop (id len s m p z q : Nat) (bs : List Nat) : (packet id len s m p z q bs).drop 10 = bs := rfl
end Go.Proofs.YtmfpiodlecapiaaDoor.Pk
