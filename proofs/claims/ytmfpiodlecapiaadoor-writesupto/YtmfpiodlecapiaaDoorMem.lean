/- Small facts on memory: a block that is known whole, as a list of cells; what a store, a new block, a draw and a world that is the same below a block's number do to it. -/
import Derived.WalkKit
import Derived.WalkSpells
import Derived.WalkLawsBesides
import Derived.Deep.OwnRows
namespace Go.Proofs.YtmfpiodlecapiaaDoor
open Go.RowKit Go.Deep

theorem hide {p : Prop} (h : p) : Hid p := h

/- Block g of w is the row of the cells L, of element type t, none of them frozen. -/
def RowL (w : World) (g : Nat) (t : TypeId) (L : List Value) : Prop := w.heap[g]? = some (.cells L.toArray t (0, 0))

theorem RowL.cell {w : World} {g : Nat} {t : TypeId} {L : List Value} (h : RowL w g t L) (i : Nat) (v : Value) (hv : L[i]? = some v) : w.cell? ⟨g, i, none⟩ = some v := by
  unfold RowL at h
  simp [World.cell?, h, hv]
theorem RowL.frozen {w : World} {g : Nat} {t : TypeId} {L : List Value} (h : RowL w g t L) (i : Nat) : w.frozen? ⟨g, i, none⟩ = false := by
  unfold RowL at h
  simp [World.frozen?, h]
theorem RowL.lt {w : World} {g : Nat} {t : TypeId} {L : List Value} (h : RowL w g t L) : g < w.heap.size :=
  (Array.getElem?_eq_some_iff.1 h).1
theorem RowL.of_block {w w' : World} {g : Nat} {t : TypeId} {L : List Value} (h : RowL w g t L) (e : w'.heap[g]? = w.heap[g]?) : RowL w' g t L := e.trans h
theorem RowL.below {w w' : World} {g B : Nat} {t : TypeId} {L : List Value} (h : RowL w g t L) (hb : Below B w w') (hg : g < B) : RowL w' g t L := h.of_block (hb.block g hg)
theorem RowL.later {w w' : World} {g : Nat} {t : TypeId} {L : List Value} (h : RowL w g t L) (hb : Below w.heap.size w w') : RowL w' g t L := h.below hb h.lt
theorem RowL.set {w : World} {g : Nat} {t : TypeId} {L : List Value} (h : RowL w g t L) (i : Nat) (v : Value) : RowL (w.setCell ⟨g, i, none⟩ v) g t (L.set i v) := by
  unfold RowL at *
  simp [World.setCell, Array.getElem?_modify, h]
theorem RowL.other {w : World} {g : Nat} {t : TypeId} {L : List Value} (h : RowL w g t L) {a : Addr} (ha : g ≠ a.block) (v : Value) : RowL (w.setCell a v) g t L :=
  h.of_block (blk_setCell_other _ _ _ _ ha)
theorem RowL.alloc {w : World} {g : Nat} {t : TypeId} {L : List Value} (h : RowL w g t L) (o : Obj) : RowL (w.alloc o) g t L := h.of_block (blk_alloc_lt _ _ _ h.lt)
theorem RowL.drew {w : World} {g : Nat} {t : TypeId} {L : List Value} (h : RowL w g t L) : RowL w.drew g t L := h
theorem RowL.drewN {w : World} {g : Nat} {t : TypeId} {L : List Value} (h : RowL w g t L) (n : Nat) : RowL (w.drewN n) g t L := h
theorem rowL_alloc (w : World) (L : List Value) (t : TypeId) : RowL (w.alloc (.cells L.toArray t)) w.heap.size t L := blk_alloc_new _ _
theorem rowL_alloc' (w : World) (c : Array Value) (t : TypeId) : RowL (w.alloc (.cells c t)) w.heap.size t c.toList := by
  have := blk_alloc_new w (.cells c t)
  unfold RowL; simpa using this
theorem rowL_made (w : World) (z : Value) (n : Nat) (t : TypeId) : RowL (w.alloc (.cells (madeCells #[z] n) t)) w.heap.size t (List.replicate n z) := by
  have := rowL_alloc' w (madeCells #[z] n) t
  rwa [toList_madeCells_one] at this
theorem RowL.unique {w : World} {g : Nat} {t t' : TypeId} {L L' : List Value} (h : RowL w g t L) (h' : RowL w g t' L') : t = t' ∧ L = L' := by
  unfold RowL at h h'
  rw [h] at h'
  simp at h'
  exact ⟨h'.2, h'.1⟩
theorem RowL.ne_of_type {w : World} {g g' : Nat} {t t' : TypeId} {L L' : List Value} (h : RowL w g t L) (h' : RowL w g' t' L') (ht : t ≠ t') : g ≠ g' :=
  fun e => ht ((by subst e; exact h.unique h' : t = t' ∧ L = L').1)

/- The numbers of a list as cells. -/
def i64s (l : List Nat) : List Value := l.map (fun n : Nat => Value.int .i64 (n : Int))
def u8s (l : List Nat) : List Value := l.map (fun n : Nat => Value.int .u8 (n : Int))
theorem i64s_at {l : List Nat} {i : Nat} (h : i < l.length) : (i64s l)[i]? = some (.int .i64 ((l[i]?.getD 0 : Nat) : Int)) := by simp [i64s, h]
theorem u8s_at {l : List Nat} {i : Nat} (h : i < l.length) : (u8s l)[i]? = some (.int .u8 ((l[i]?.getD 0 : Nat) : Int)) := by simp [u8s, h]
theorem i64s_length (l : List Nat) : (i64s l).length = l.length := by simp [i64s]
theorem u8s_length (l : List Nat) : (u8s l).length = l.length := by simp [u8s]

/- A row that is filled from its head on. -/
def fill {α : Type} (L : List α) (d : α) (k : Nat) : List α := L.take k ++ List.replicate (L.length - k) d
theorem fill_length {α : Type} (L : List α) (d : α) (k : Nat) (h : k ≤ L.length) : (fill L d k).length = L.length := by simp [fill]; omega
theorem fill_zero {α : Type} (L : List α) (d : α) : fill L d 0 = List.replicate L.length d := by simp [fill]
theorem fill_all {α : Type} (L : List α) (d : α) : fill L d L.length = L := by simp [fill]
theorem fill_at {α : Type} (L : List α) (d : α) (k : Nat) (h : k < L.length) : (fill L d k)[k]? = some d := by
  unfold fill
  rw [List.getElem?_append_right (by simp; omega), List.getElem?_replicate, if_pos (by simp; omega)]
theorem fill_set {α : Type} (L : List α) (d : α) (k : Nat) (v : α) (h : L[k]? = some v) : (fill L d k).set k v = fill L d (k + 1) := by
  have hk : k < L.length := (List.getElem?_eq_some_iff.1 h).1
  apply List.ext_getElem?
  intro i
  unfold fill
  rw [List.getElem?_set]
  by_cases e : k = i
  · subst e
    rw [if_pos rfl, if_pos (by simp; omega), List.getElem?_append_left (by simp; omega), List.getElem?_take, if_pos (by omega), h]
  · rw [if_neg e]
    by_cases hi : i < k
    · rw [List.getElem?_append_left (by simp; omega), List.getElem?_append_left (by simp; omega), List.getElem?_take, List.getElem?_take, if_pos hi, if_pos (by omega)]
    · rw [List.getElem?_append_right (by simp; omega), List.getElem?_append_right (by simp; omega)]
      simp only [List.length_take, List.getElem?_replicate]
      have e1 : min k L.length = k := by omega
      have e2 : min (k + 1) L.length = k + 1 := by omega
      rw [e1, e2]
      by_cases hl : i < L.length
      · rw [if_pos (by omega), if_pos (by omega)]
      · rw [if_neg (by omega), if_neg (by omega)]

/- The cells of a struct of three that was just boxed. -/
theorem cell3_0 (w : World) (a b c : Value) (t : TypeId) : (w.alloc (.cells #[a, b, c] t)).cell? ⟨w.heap.size, 0, none⟩ = some a := (rowL_alloc' w #[a, b, c] t).cell 0 _ rfl
theorem cell3_1 (w : World) (a b c : Value) (t : TypeId) : (w.alloc (.cells #[a, b, c] t)).cell? ⟨w.heap.size, 1, none⟩ = some b := (rowL_alloc' w #[a, b, c] t).cell 1 _ rfl
theorem cell3_2 (w : World) (a b c : Value) (t : TypeId) : (w.alloc (.cells #[a, b, c] t)).cell? ⟨w.heap.size, 2, none⟩ = some c := (rowL_alloc' w #[a, b, c] t).cell 2 _ rfl

/- A measure that counts up to a bound. -/
def leftOf (m n : Nat) : Nat := m - n
theorem leftOf_lt {b x y : Nat} (h : x < y) (hb : x < b) : leftOf b y < leftOf b x := by unfold leftOf; omega

/- A row that is turned into another from its head on. -/
def mix {α : Type} (P S : List α) (k : Nat) : List α := P.take k ++ S.drop k
theorem mix_zero {α : Type} (P S : List α) : mix P S 0 = S := by simp [mix]
theorem mix_all {α : Type} (P S : List α) (h : P.length = S.length) : mix P S S.length = P := by simp [mix, ← h]
theorem mix_at {α : Type} (P S : List α) (k : Nat) (h : P.length = S.length) (hk : k < S.length) : (mix P S k)[k]? = S[k]? := by
  unfold mix
  rw [List.getElem?_append_right (by simp; omega)]
  simp; congr 1; omega
theorem mix_set {α : Type} (P S : List α) (k : Nat) (v : α) (h : P.length = S.length) (hv : P[k]? = some v) : (mix P S k).set k v = mix P S (k + 1) := by
  have hk : k < P.length := (List.getElem?_eq_some_iff.1 hv).1
  apply List.ext_getElem?
  intro i
  unfold mix
  rw [List.getElem?_set]
  by_cases e : k = i
  · subst e
    rw [if_pos rfl, if_pos (by simp; omega), List.getElem?_append_left (by simp; omega), List.getElem?_take, if_pos (by omega), hv]
  · rw [if_neg e]
    by_cases hi : i < k
    · rw [List.getElem?_append_left (by simp; omega), List.getElem?_append_left (by simp; omega), List.getElem?_take, List.getElem?_take, if_pos hi, if_pos (by omega)]
    · rw [List.getElem?_append_right (by simp; omega), List.getElem?_append_right (by simp; omega)]
      simp only [List.length_take, List.getElem?_drop]
      congr 1; omega
theorem getD_lt {l : List Nat} {k b : Nat} (h : ∀ x ∈ l, x < b) (hk : k < l.length) : l[k]?.getD 0 < b := by
  have : l[k]? = some l[k] := by simp [hk]
  rw [this]; exact h _ (List.getElem_mem hk)
theorem getD_some {l : List Nat} {k : Nat} (hk : k < l.length) : l[k]? = some (l[k]?.getD 0) := by simp [hk]

/- A store into the one row that may turn. -/
theorem grownBy_setCell {w w' : World} {g : Nat} (h : w.grownBy w' (some g)) (i : Nat) (v : Value) : w.grownBy (w'.setCell ⟨g, i, none⟩ v) (some g) :=
  ⟨h.os, h.tape, h.output, by simpa [World.setCell] using h.size, fun k hk hne => by
    rw [blk_setCell_other _ _ _ _ (fun e => hne (by rw [e]))]; exact h.block k hk hne⟩
theorem grownBy_drew {w w' : World} {r : Option Nat} (h : w.grownBy w' r) : w.grownBy w'.drew r := ⟨h.os, h.tape, h.output, h.size, h.block⟩
theorem grownBy_trans {w w' w'' : World} {r : Option Nat} (h : w.grownBy w' r) (h' : w'.grownBy w'' r) : w.grownBy w'' r :=
  ⟨h'.os.trans h.os, h'.tape.trans h.tape, h'.output.trans h.output, Nat.le_trans h.size h'.size, fun k hk hne => (h'.block k (Nat.lt_of_lt_of_le hk h.size) hne).trans (h.block k hk hne)⟩
theorem grownBy_below {w w' : World} {B : Nat} (h : Below B w w') (hB : w.heap.size ≤ B) (r : Option Nat) : w.grownBy w' r :=
  ⟨h.os, h.tape, h.output, h.size, fun k hk _ => h.block k (by omega)⟩

/- The cells of a block that was just laid. -/
theorem news_at (w : World) (L : List Value) (t : TypeId) (n : Nat) (h : n = w.heap.size) : ∀ j u, L[j]? = some u → (w.alloc (.cells L.toArray t)).cell? ((⟨n, 0, none⟩ : Addr).add j) = some u := by
  subst h
  intro j u hu
  rw [Addr.add_lit]
  have := (rowL_alloc w L t).cell j u hu
  simpa using this
end Go.Proofs.YtmfpiodlecapiaaDoor
