/- The caller's own keeping of lists of numbers: each is written over, and grown one by one; what was kept stays as it was. -/
import Derived.Test.YtmfpiodlecapiaaDoorRefBlocks
namespace Go.Proofs.YtmfpiodlecapiaaDoor
open Go.RowKit Go.Deep

theorem Tryd.infoNums : (Tryd.prog.info? 57).map (fun i => (i.zero, i.size, i.bytes)) = some (some (.slice none 0 0), 1, 24) := by kernel_rfl

/- append keeps every slice of another type, and those of its own row that are no longer than what was there. -/
theorem AppTo.keepT {w w' : World} {e e' : TypeId} {v v' u : Value} {xs news ys : List Value} (h : AppTo w w' e v v' xs news) (ho : OwnS w e v xs) (hu : OwnS w e' u ys) (he : e' ≠ e) : OwnS w' e' u ys := by
  rcases hu with hu | ⟨g, cap, cur, rfl, hr, h1, h2, h3, h4⟩
  · exact .inl hu
  · exact .inr ⟨g, cap, cur, rfl, h.other hr (ho.ne_type hr he), h1, h2, h3, h4⟩
theorem AppTo.keeps {w w' : World} {e : TypeId} {v v' u : Value} {xs news ys : List Value} (h : AppTo w w' e v v' xs news) (hu : OwnS w e u ys) (hle : ∀ g, u.ownBlock = some g → v.ownBlock = some g → ys.length ≤ xs.length) : OwnS w' e u ys := by
  rcases hu with hu | ⟨g, cap, cur, rfl, hr, h1, h2, h3, h4⟩
  · exact .inl hu
  · by_cases hv : v.ownBlock = some g
    · have hl := hle g rfl hv
      obtain ⟨cur', hr', hl', ht'⟩ := h.old hv hr
      refine .inr ⟨g, cap, cur', rfl, hr', h1, h2, by omega, ?_⟩
      have e1 : cur'.take ys.length = (cur'.take xs.length).take ys.length := by rw [List.take_take, Nat.min_eq_left hl]
      rw [e1, ht', List.take_take, Nat.min_eq_left hl, h4]
    · exact .inr ⟨g, cap, cur, rfl, h.other hr hv, h1, h2, h3, h4⟩
theorem OwnS.setCell {w : World} {e t : TypeId} {v : Value} {xs L : List Value} {b i : Nat} (h : OwnS w e v xs) (hb : RowL w b t L) (ht : t ≠ e) (u : Value) : OwnS (w.setCell ⟨b, i, none⟩ u) e v xs :=
  h.of_block (fun g hg => blk_setCell_other _ _ _ _ (fun e' => h.ne_type hb ht (by rw [hg]; exact congrArg some e')))

def valOf (i : Nat) : Value := .int .i64 (-1 - ((i / 4 * 4 : Nat) : Int))
/- The struct of the caller, where numbers alone were kept so far. -/
structure Wd where
  sides : Value
  bytes : Value
  lists : Value
  turned : Value
  given : Value
  room : Value
def Wd.row (d : Wd) (vn : Value) : List Value := [d.sides, d.bytes, d.lists, vn, d.turned, d.given, d.room]
structure WN (w : World) (p : Nat) (d : Wd) (vn : Value) (ns : List Value) : Prop where
  row : RowL w p 29 (d.row vn)
  own : OwnS w 57 vn ns
  each : ∀ (i : Nat) (sv : Value), ns[i]? = some sv → ∃ m, m ≤ 70000 ∧ OwnS w 3 sv (List.replicate m (valOf i))
theorem WN.of_kp {w w' : World} {p : Nat} {d : Wd} {vn : Value} {ns : List Value} (h : WN w p d vn ns) (hb : Below w.heap.size w w') : WN w' p d vn ns :=
  ⟨h.row.later hb, h.own.later hb, fun i sv hs => by obtain ⟨m, h1, h2⟩ := h.each i sv hs; exact ⟨m, h1, h2.later hb⟩⟩

end Go.Proofs.YtmfpiodlecapiaaDoor
