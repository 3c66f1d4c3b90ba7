/- What Packets answers: the document's packets, each in memory of its own; or a refusal. -/
import Derived.Test.YtmfpiodlecapiaaDoorPackWalks
import Derived.Laws.CopyOwn
namespace Go.Proofs.YtmfpiodlecapiaaDoor
open Go.RowKit Go.Deep
attribute [local go_sem ↓] Go.wp_at_zero Go.wp_at_succ

/- A slice of n bytes, nil or not. -/
def ObjAt (w : World) (ao : Option Addr) (n : Nat) (obj : List Nat) : Prop :=
  obj.length = n ∧ (∀ x ∈ obj, x < 256) ∧ (0 < n → ∃ b off, ao = some ⟨b, off, none⟩ ∧ ∀ j, j < n → w.cell? ⟨b, off + j, none⟩ = some (.int .u8 ((obj[j]?.getD 0 : Nat) : Int)))
theorem ObjAt.later {w w' : World} {ao : Option Addr} {n : Nat} {obj : List Nat} (h : ObjAt w ao n obj) (hb : Below w.heap.size w w') : ObjAt w' ao n obj := by
  refine ⟨h.1, h.2.1, fun hn => ?_⟩
  obtain ⟨b, off, e, hc⟩ := h.2.2 hn
  exact ⟨b, off, e, fun j hj => cell_later hb (hc j hj)⟩

theorem Pk.filled_length {obj : List Nat} {M : Nat} (h : obj.length ≤ M) : (Pk.filled obj M).length = M := by simp [Pk.filled]; omega
theorem Pk.filled_lt {obj : List Nat} {M : Nat} (h : ∀ x ∈ obj, x < 256) : ∀ x ∈ Pk.filled obj M, x < 256 := by
  intro x hx
  simp only [Pk.filled, List.mem_append, List.mem_replicate] at hx
  rcases hx with hx | ⟨_, rfl⟩
  · exact h x hx
  · decide

theorem sum_take_succ {l : List Nat} {k x : Nat} (h : l[k]? = some x) : (l.take (k + 1)).sum = (l.take k).sum + x := by
  rw [← take_snoc h, List.sum_append]; simp
theorem sum_take_le (l : List Nat) (k : Nat) : (l.take k).sum ≤ l.sum := by
  have : (l.take k).sum + (l.drop k).sum = l.sum := by rw [← List.sum_append, List.take_append_drop]
  omega

/- Packets in memory: each a row of its own, shown whole by a slice without spare room. -/
def packV (c g : Nat) : Value := .slice (some ⟨g, 0, none⟩) c c
structure Packs (w : World) (B : Nat) (v : Value) (c : Nat) (ps : List (List Nat)) (gs : List Nat) : Prop where
  own : OwnS w 27 v (gs.map (packV c))
  len : gs.length = ps.length
  row : ∀ (i g : Nat) (bs : List Nat), gs[i]? = some g → ps[i]? = some bs → RowL w g 5 (u8s bs)
  from_ : ∀ g ∈ gs, B ≤ g
  nodup : gs.Nodup
  at_ : ∀ k, v.ownBlock = some k → B ≤ k
theorem Packs.has {w : World} {B : Nat} {v : Value} {c : Nat} {ps : List (List Nat)} {gs : List Nat} (h : Packs w B v c ps gs) {g : Nat} (hg : g ∈ gs) : ∃ bs, RowL w g 5 (u8s bs) := by
  obtain ⟨i, hi, rfl⟩ := List.mem_iff_getElem.1 hg
  have hi' : i < ps.length := by rw [← h.len]; exact hi
  exact ⟨ps[i], h.row i _ _ (by simp [hi]) (by simp [hi'])⟩
theorem Packs.lt {w : World} {B : Nat} {v : Value} {c : Nat} {ps : List (List Nat)} {gs : List Nat} (h : Packs w B v c ps gs) {g : Nat} (hg : g ∈ gs) : g < w.heap.size := by
  obtain ⟨bs, hr⟩ := h.has hg
  exact hr.lt
theorem Packs.of_block {w w' : World} {B : Nat} {v : Value} {c : Nat} {ps : List (List Nat)} {gs : List Nat} (h : Packs w B v c ps gs) (hg : ∀ g ∈ gs, w'.heap[g]? = w.heap[g]?) (hv : ∀ k, v.ownBlock = some k → w'.heap[k]? = w.heap[k]?) : Packs w' B v c ps gs :=
  ⟨h.own.of_block hv, h.len, fun i g bs h1 h2 => (h.row i g bs h1 h2).of_block (hg g (List.mem_of_getElem? h1)), h.from_, h.nodup, h.at_⟩
theorem Packs.later {w w' : World} {B : Nat} {v : Value} {c : Nat} {ps : List (List Nat)} {gs : List Nat} (h : Packs w B v c ps gs) (hb : Below w.heap.size w w') : Packs w' B v c ps gs :=
  h.of_block (fun _ hg => hb.block _ (h.lt hg)) (fun _ hk => hb.block _ (h.own.lt hk))
theorem Packs.mono {w : World} {B B' : Nat} {v : Value} {c : Nat} {ps : List (List Nat)} {gs : List Nat} (h : Packs w B v c ps gs) (hB : B' ≤ B) : Packs w B' v c ps gs :=
  ⟨h.own, h.len, h.row, fun g hg => Nat.le_trans hB (h.from_ g hg), h.nodup, fun k hk => Nat.le_trans hB (h.at_ k hk)⟩
theorem Packs.nil (w : World) (B c : Nat) : Packs w B (.slice none 0 0) c [] [] :=
  ⟨ownS_nil _ _, rfl, by intro i g bs h; simp at h, by simp, List.nodup_nil, by intro k hk; simp [Value.ownBlock] at hk⟩
/- A store into a block of another type. -/
theorem Packs.setCell {w : World} {B : Nat} {v : Value} {c : Nat} {ps : List (List Nat)} {gs : List Nat} (h : Packs w B v c ps gs) {b i : Nat} {t : TypeId} {L : List Value} (hb : RowL w b t L) (h1 : t ≠ (5 : Nat)) (h2 : t ≠ (27 : Nat)) (u : Value) : Packs (w.setCell ⟨b, i, none⟩ u) B v c ps gs := by
  refine h.of_block (fun g hg => ?_) (fun k hk => ?_)
  · obtain ⟨bs, hr⟩ := h.has hg
    exact blk_setCell_other _ _ _ _ (hr.ne_of_type hb (fun e => h1 e.symm))
  · refine blk_setCell_other _ _ _ _ (fun e => ?_)
    have e' : k = b := e
    subst e'
    exact h.own.ne_type hb h2 hk
/- One packet more. -/
theorem Packs.step {w w3 w4 : World} {B : Nat} {v v' : Value} {c g : Nat} {ps : List (List Nat)} {gs bs : List Nat} {o : Obj} (h : Packs w B v c ps gs) (hb : Below w.heap.size w w3) (hg : RowL w3 g 5 (u8s bs)) (hge : w.heap.size ≤ g) (hB : B ≤ w.heap.size)
    (ha : AppTo (w3.alloc o) w4 27 v v' (gs.map (packV c)) [packV c g]) : Packs w4 B v' c (ps ++ [bs]) (gs ++ [g]) := by
  have h3 := (h.later hb).later ((Below.refl _ _).alloc (Nat.le_refl _) o)
  have hB3 : B ≤ (w3.alloc o).heap.size := by have := hb.size; simp; omega
  have hrow : ∀ g' bs', RowL (w3.alloc o) g' 5 (u8s bs') → RowL w4 g' 5 (u8s bs') := fun g' bs' hr => ha.other hr (h3.own.ne_type hr (by decide))
  refine ⟨by have := ha.own; simpa using this, by simp [h.len], ?_, ?_, ?_, ha.from hB3 h.at_⟩
  · intro i g' bs' h1 h2
    by_cases hi : i < gs.length
    · rw [List.getElem?_append_left hi] at h1
      rw [List.getElem?_append_left (by rw [← h.len]; exact hi)] at h2
      exact hrow _ _ (h3.row i g' bs' h1 h2)
    · rw [List.getElem?_append_right (by omega)] at h1
      rw [List.getElem?_append_right (by rw [← h.len]; omega)] at h2
      have hi0 : i - gs.length = 0 := by
        rcases Nat.eq_zero_or_pos (i - gs.length) with h0 | h0
        · exact h0
        · rw [List.getElem?_eq_none (by simp; omega)] at h1; simp at h1
      rw [hi0] at h1
      rw [← h.len, hi0] at h2
      simp at h1 h2
      subst h1 h2
      exact hrow _ _ (hg.alloc o)
  · intro g' hg'
    rcases List.mem_append.1 hg' with h1 | h1
    · exact h.from_ g' h1
    · simp at h1; subst h1; omega
  · rw [List.nodup_append]
    refine ⟨h.nodup, by simp, ?_⟩
    intro a ha' b' hb' e
    simp at hb'
    have := h.lt ha'
    omega

end Go.Proofs.YtmfpiodlecapiaaDoor
