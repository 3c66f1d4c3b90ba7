/- What package cut answers on all pieces of a block, package wire on a packet, and Packets on an object. -/
import Derived.Test.YtmfpiodlecapiaaDoorPieceWalks
namespace Go.Proofs.YtmfpiodlecapiaaDoor
open Go.RowKit Go.Deep
attribute [local go_sem ↓] Go.wp_at_zero Go.wp_at_succ

/- A slice that shows these bytes. -/
def PieceAt (w : World) (sv : Value) (s : Nat) (bs : List Nat) : Prop :=
  ∃ b off cap L, sv = .slice (some ⟨b, off, none⟩) s cap ∧ s ≤ cap ∧ cap ≤ 9223372036854775807 ∧ RowL w b 5 L ∧ ∀ j, j < s → L[off + j]? = some (.int .u8 ((bs[j]?.getD 0 : Nat) : Int))
theorem PieceAt.later {w w' : World} {sv : Value} {s : Nat} {bs : List Nat} (h : PieceAt w sv s bs) (hb : Below w.heap.size w w') : PieceAt w' sv s bs := by
  obtain ⟨b, off, cap, L, rfl, h1, h2, h3, h4⟩ := h
  exact ⟨b, off, cap, L, rfl, h1, h2, h3.later hb, h4⟩
theorem PieceAt.app {w w' : World} {e : TypeId} {v v' sv : Value} {xs news : List Value} {s : Nat} {bs : List Nat} (h : PieceAt w sv s bs) (ha : AppTo w w' e v v' xs news) (ho : OwnS w e v xs) (he : (5 : Nat) ≠ e) : PieceAt w' sv s bs := by
  obtain ⟨b, off, cap, L, rfl, h1, h2, h3, h4⟩ := h
  exact ⟨b, off, cap, L, rfl, h1, h2, ha.other h3 (ho.ne_type h3 he), h4⟩
theorem PieceAt.alloc {w : World} {sv : Value} {s : Nat} {bs : List Nat} (h : PieceAt w sv s bs) (o : Obj) : PieceAt (w.alloc o) sv s bs :=
  h.later ((Below.refl _ _).alloc (Nat.le_refl _) _)

theorem ownV_one (b off s c K : Nat) : ∀ u ∈ ownV b off s c K, u.oneCell' = true := by
  intro u hu
  obtain ⟨i, _, rfl⟩ := List.mem_map.1 hu
  rfl

theorem wrap_u8_mod (x : Nat) : IntKind.u8.wrap (x : Int) = ((x % 256 : Nat) : Int) := by
  simp [IntKind.wrap, IntKind.bits, IntKind.signed]

/- The state of Pack: the packet's row, filled so far; the head's box; all else as it was. -/
structure PSt (w : World) (BX L : List Value) (n : Nat) (wk : World) : Prop where
  row : RowL wk (w.heap.size + 1) 5 (fill L (.int .u8 0) n)
  box : RowL wk w.heap.size 52 BX
  below : Below w.heap.size w wk
theorem PSt.alloc {w wk : World} {BX L : List Value} {n : Nat} (h : PSt w BX L n wk) (o : Obj) : PSt w BX L n (wk.alloc o) :=
  ⟨h.row.alloc o, h.box.alloc o, h.below.alloc h.below.size o⟩
theorem PSt.step {w wk w' : World} {BX L : List Value} {n k : Nat} (h : PSt w BX L n wk) (hg : wk.grownBy w' (some (w.heap.size + 1))) (hr : RowL w' (w.heap.size + 1) 5 (fill L (.int .u8 0) k)) : PSt w BX L k w' :=
  ⟨hr, h.box.of_block (hg.block _ h.box.lt (by simp)), h.below.grown hg h.below.size (by intro q hq; simp at hq; omega)⟩

end Go.Proofs.YtmfpiodlecapiaaDoor
