/- The document's own bytes: zeros, a number as two bytes, bytes so many times, two texts added byte by byte. -/
import Derived.Test.YtmfpiodlecapiaaDoorKeptWalk
import Derived.Test.YtmfpiodlecapiaaDoorAddsFacts
namespace Go.Proofs.YtmfpiodlecapiaaDoor
open Go.RowKit Go.Deep

theorem strOf_size (bs : List Nat) : (strOf bs).size = bs.length := by
  rw [strOf_eq]; simp [ByteArray.size]
theorem strOf_append (a b : List Nat) : strOf a ++ strOf b = strOf (a ++ b) := by
  rw [strOf_eq, strOf_eq, strOf_eq]
  apply ByteArray.ext
  simp [ByteArray.data_append]
theorem strOf_bytesOf (s : ByteArray) : strOf (bytesOf s) = s := by
  rw [strOf_eq]
  apply ByteArray.ext
  apply Array.ext'
  unfold bytesOf
  rw [List.map_map]
  conv => rhs; rw [← List.map_id s.data.toList]
  apply List.map_congr_left
  intro x _
  simp
theorem bytesOf_strOf {bs : List Nat} (h : ∀ x ∈ bs, x < 256) : bytesOf (strOf bs) = bs := by
  rw [strOf_eq]
  unfold bytesOf
  simp only [List.map_map]
  conv => rhs; rw [← List.map_id bs]
  apply List.map_congr_left
  intro x hx
  have := h x hx
  simp
  omega
theorem bytesRow_strOf {bs : List Nat} (h : ∀ x ∈ bs, x < 256) (cap : Nat) : bytesRow (strOf bs) cap = (u8s bs ++ List.replicate (cap - bs.length) (Value.int .u8 0)).toArray := by
  have e := bytesOf_strOf h
  unfold bytesRow
  rw [strOf_size]
  apply Array.ext'
  simp only [Array.toList_append, Array.toList_map, Array.toList_replicate]
  congr 1
  unfold u8s
  conv => rhs; rw [← e]
  unfold bytesOf
  rw [List.map_map]
  rfl

/- A row with a mark right behind its end. -/
def RowM (w : World) (g : Nat) (t : TypeId) (L : List Value) : Prop := w.heap[g]? = some (.cells L.toArray t (L.length, L.length + 1))
theorem RowM.cell {w : World} {g : Nat} {t : TypeId} {L : List Value} (h : RowM w g t L) (i : Nat) (v : Value) (hv : L[i]? = some v) : w.cell? ⟨g, i, none⟩ = some v := by
  unfold World.cell?
  rw [show w.heap[(⟨g, i, none⟩ : Addr).block]? = _ from h]
  simpa using hv
theorem RowM.frozen {w : World} {g : Nat} {t : TypeId} {L : List Value} (h : RowM w g t L) (i : Nat) (hi : i < L.length) : w.frozen? ⟨g, i, none⟩ = false := by
  unfold World.frozen?
  rw [show w.heap[(⟨g, i, none⟩ : Addr).block]? = _ from h]
  simp; omega
theorem RowM.lt {w : World} {g : Nat} {t : TypeId} {L : List Value} (h : RowM w g t L) : g < w.heap.size := (Array.getElem?_eq_some_iff.1 h).1
theorem RowM.set {w : World} {g : Nat} {t : TypeId} {L : List Value} (h : RowM w g t L) (i : Nat) (v : Value) : RowM (w.setCell ⟨g, i, none⟩ v) g t (L.set i v) := by
  have e : w.heap[g]? = some (.cells L.toArray t (L.length, L.length + 1)) := h
  show (w.heap.modify g _)[g]? = _
  rw [Array.getElem?_modify, if_pos rfl, e]
  simp
theorem RowM.drew {w : World} {g : Nat} {t : TypeId} {L : List Value} (h : RowM w g t L) : RowM w.drew g t L := h
theorem RowM.below {w w' : World} {g B : Nat} {t : TypeId} {L : List Value} (h : RowM w g t L) (hb : Below B w w') (hg : g < B) : RowM w' g t L := (hb.block g hg).trans h
theorem rowM_bytes (w : World) (bs : List Nat) (h : ∀ x ∈ bs, x < 256) (cap : Nat) (t : TypeId) : RowM (w.alloc (.cells (bytesRow (strOf bs) cap) t ((bytesRow (strOf bs) cap).size, (bytesRow (strOf bs) cap).size + 1))) w.heap.size t (u8s bs ++ List.replicate (cap - bs.length) (.int .u8 0)) := by
  have e := bytesRow_strOf h cap
  unfold RowM
  rw [blk_alloc_new, e]
  simp
theorem conv_strM {w : World} {g cap n : Nat} {L : List Value} {bs : List Nat} (hr : RowM w g 5 L) (hl : bs.length = n) (hL : ∀ j, j < n → L[j]? = some (.int .u8 ((bs[j]?.getD 0 : Nat) : Int))) :
    (convert 27 9 (.slice (some ⟨g, 0, none⟩) n cap)).run Tryd.prog w = .ok (.string (strOf bs)) w := by
  refine run_convert_bytes_arg w 27 5 Tryd.underlying27 Tryd.underlying5 g 0 n cap (bs.map (fun n : Nat => (n : Int))) (by simpa using hl) ?_ 9 Tryd.underlying9
  intro i hi
  rw [hr.cell _ _ (by rw [Nat.zero_add]; exact hL i hi)]
  simp [List.getD, hl ▸ hi]

def timesL (bs : List Nat) (t : Nat) : List Nat := bs.map (fun x => Gf.mul x t)
theorem timesL_length (bs : List Nat) (t : Nat) : (timesL bs t).length = bs.length := by simp [timesL]
theorem timesL_at {bs : List Nat} {t k : Nat} (hk : k < bs.length) : (timesL bs t)[k]?.getD 0 = Gf.mul (bs[k]?.getD 0) t := by simp [timesL, hk]

theorem strOf_index {bs : List Nat} {k : Nat} (hk : k < bs.length) (hb : bs[k]?.getD 0 < 256) (h : k < (strOf bs).size) : ((strOf bs)[k]'h).toNat = bs[k]?.getD 0 := by
  have e := strOf_eq bs
  have e2 : (strOf bs)[k] = (strOf bs).data[k]'h := rfl
  rw [e2]
  simp only [e]
  simp [hk] at hb ⊢
  omega
/- What piece i of a block counts in its spare piece j. -/
end Go.Proofs.YtmfpiodlecapiaaDoor
