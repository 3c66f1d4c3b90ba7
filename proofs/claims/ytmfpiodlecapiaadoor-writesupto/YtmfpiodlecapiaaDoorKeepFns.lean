/- What the statements' own helpers answer: a plan out of raw numbers, an object's bytes cut short, whether there would be too many blocks. -/
import Derived.Test.YtmfpiodlecapiaaDoorRingWalk
import Derived.Laws.IdiomStrings
namespace Go.Proofs.YtmfpiodlecapiaaDoor
open Go.RowKit Go.Deep

/- The bytes of a string. -/
def bytesOf (s : ByteArray) : List Nat := s.data.toList.map UInt8.toNat
theorem bytesOf_length (s : ByteArray) : (bytesOf s).length = s.size := by
  unfold bytesOf
  rw [List.length_map, Array.length_toList]; rfl
theorem bytesOf_lt (s : ByteArray) : ∀ x ∈ bytesOf s, x < 256 := by
  intro x hx
  unfold bytesOf at hx
  obtain ⟨b, _, rfl⟩ := List.mem_map.1 hx
  exact b.toNat_lt
theorem bytesOf_take (s : ByteArray) (n : Nat) : bytesOf (s.extract 0 n) = (bytesOf s).take n := by
  unfold bytesOf
  rw [ByteArray.data_extract]
  simp [List.map_take]
theorem objAt_made (w : World) (t : ByteArray) (cap : Nat) (fr : Nat × Nat) : ObjAt (w.alloc (.cells (bytesRow t cap) 5 fr)) (some ⟨w.heap.size, 0, none⟩) t.size (bytesOf t) := by
  refine ⟨bytesOf_length t, bytesOf_lt t, fun _ => ⟨_, _, rfl, fun j hj => ?_⟩⟩
  rw [Nat.zero_add]
  apply cell_alloc_any
  have hj' : j < t.data.size := hj
  unfold bytesRow bytesOf
  rw [Array.getElem?_append_left (by simpa using hj)]
  have e : t.data[j]? = some (t.data[j]'hj') := Array.getElem?_eq_getElem hj'
  simp [e]

/- Would there be too many blocks? -/
def manyN (len s m : Nat) : Bool := decide (256 < ((len + s - 1) / s + m - 1) / m)
theorem manyN_eq {len s m : Nat} (hm : 1 ≤ m) : manyN len s m = !decide (Cut.blocks (Cut.pieces len s) m ≤ 256) := by
  unfold manyN Cut.blocks Cut.pieces
  rcases Nat.lt_or_ge ((len + s - 1) / s) 1 with h | h
  · have e : (len + s - 1) / s = 0 := Nat.lt_one_iff.1 h
    rw [e]
    have e2 : max 1 0 = 1 := rfl
    have h1 : (0 + m - 1) / m = 0 := Nat.div_eq_of_lt (by omega)
    have h2 : (max 1 0 + m - 1) / m = 1 := by rw [e2, show 1 + m - 1 = m by omega]; exact Nat.div_self (by omega)
    rw [h1, h2]; decide
  · have e : max 1 ((len + s - 1) / s) = (len + s - 1) / s := by omega
    rw [e]
    by_cases h : ((len + s - 1) / s + m - 1) / m ≤ 256
    · rw [decide_eq_true h, decide_eq_false (by omega)]; rfl
    · rw [decide_eq_false h, decide_eq_true (by omega)]; rfl

end Go.Proofs.YtmfpiodlecapiaaDoor
