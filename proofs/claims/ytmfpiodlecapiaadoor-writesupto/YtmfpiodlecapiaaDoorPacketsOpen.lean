/- Packets' answer, laid open: the list's row, and of each packet its own. -/
import Derived.Test.YtmfpiodlecapiaaDoorKeepFns
namespace Go.Proofs.YtmfpiodlecapiaaDoor
open Go.RowKit Go.Deep

theorem Cut.sizes_head {n z i : Nat} (hi : i < z) : (Cut.shareL n z)[i]?.getD 0 ≤ (Cut.shareL n z)[0]?.getD 0 ∧ (Cut.shareL n z)[0]?.getD 0 - 1 ≤ (Cut.shareL n z)[i]?.getD 0 ∧ (1 ≤ i → (Cut.shareL n z)[i]?.getD 0 ≤ (Cut.shareL n z)[i - 1]?.getD 0) := by
  rw [Cut.shareL_at hi, Cut.shareL_at (show 0 < z by omega)]
  refine ⟨?_, ?_, fun h1 => ?_⟩
  case' refine_3 => rw [Cut.shareL_at (show i - 1 < z by omega)]
  all_goals
    simp only [Option.getD_some]
    generalize n / z = q
    generalize n % z = r
    split <;> split <;> omega

theorem Cut.sizes_facts {n s m k : Nat} {L : List Nat} (hL : L = Cut.sizes n s m) (h3 : 1 ≤ m) (hk : k < L.length) :
    1 ≤ L[k]?.getD 0 ∧ L[k]?.getD 0 ≤ m ∧ L[k]?.getD 0 ≤ L[0]?.getD 0 ∧ L[0]?.getD 0 - 1 ≤ L[k]?.getD 0 ∧ (1 ≤ k → L[k]?.getD 0 ≤ L[k - 1]?.getD 0) := by
  subst hL
  have e : (Cut.sizes n s m)[k]?.getD 0 = (Cut.sizes n s m)[k] := by simp [hk]
  have hb := Cut.sizes_bounds h3 _ (List.getElem_mem hk)
  rw [← e] at hb
  exact ⟨hb.1, hb.2, Cut.sizes_head (by rw [Cut.sizes_length] at hk; exact hk)⟩

structure PacketsAt (w : World) (gl T c : Nat) (cur : List Value) (ps : List (List Nat)) : Prop where
  row : RowL w gl 27 cur
  len : ps.length = T
  at_ : ∀ (q : Nat) (bs : List Nat), ps[q]? = some bs → ∃ g, cur[q]? = some (packV c g) ∧ RowL w g 5 (u8s bs)
theorem PacketsAt.later {w w' : World} {gl T c : Nat} {cur : List Value} {ps : List (List Nat)} (h : PacketsAt w gl T c cur ps) (hb : Below w.heap.size w w') : PacketsAt w' gl T c cur ps :=
  ⟨h.row.later hb, h.len, fun q bs hq => by obtain ⟨g, h1, h2⟩ := h.at_ q bs hq; exact ⟨g, h1, h2.later hb⟩⟩

theorem Packs.opened {w : World} {B : Nat} {v : Value} {c : Nat} {ps : List (List Nat)} {gs : List Nat} (h : Packs w B v c ps gs) (hp : 0 < ps.length) : ∃ gl cap cur, v = .slice (some ⟨gl, 0, none⟩) ps.length cap ∧ PacketsAt w gl ps.length c cur ps := by
  obtain ⟨g, cap, cur, rfl, hr, h1, h2, h3, h4⟩ := h.own.open' (by rw [List.length_map, h.len]; exact hp)
  refine ⟨g, cap, cur, by rw [List.length_map, h.len], hr, rfl, fun q bs hq => ?_⟩
  have hlt : q < gs.length := by rw [h.len]; exact (List.getElem?_eq_some_iff.1 hq).1
  refine ⟨gs[q], take_at h4 (by simp [hlt]), h.row q _ _ (by simp [hlt]) hq⟩

end Go.Proofs.YtmfpiodlecapiaaDoor
