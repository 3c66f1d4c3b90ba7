/- What the caller of Packets holds between the calls; that it is his own. -/
import Derived.Test.YtmfpiodlecapiaaLent
namespace Go.Proofs.Ytmfpiodlecapiaa
open Go.RowKit Go.Deep

abbrev nilS : Value := .slice none 0 0
structure St (w : World) (p : Nat) (d : Wd) (bs ls ts : List Value) : Prop where
  wb : WB w p d nilS bs
  ol : OwnS w 33 d.lists ls
  el : LEach w ls
  ot : OwnS w 36 d.turned ts
  et : ∀ (i : Nat) (sv : Value), ts[i]? = some sv → ∃ m, OwnS w 5 sv (List.replicate m (.int .u8 251))
  bt : ∀ k, d.bytes.ownBlock = some k → d.turned.ownBlock ≠ some k
  lb : ∀ (i : Nat) (sv : Value) (k : Nat), ls[i]? = some sv → sv.ownBlock = some k → d.bytes.ownBlock ≠ some k ∧ d.turned.ownBlock ≠ some k
  dg : d.given = nilS
theorem St.kept {w : World} {p : Nat} {d : Wd} {bs ls ts : List Value} (h : St w p d bs ls ts) : Kept w p d nilS bs ls [] ts [] :=
  { row := h.wb.row, obs := h.wb.own
    ebs := fun i sv hs => by obtain ⟨m, _, h2⟩ := h.wb.each i sv hs; exact ⟨m, h2⟩
    ols := h.ol, els := h.el, ons := ownS_nil _ _, ens := by intro i sv hs; simp at hs
    ots := h.ot, ets := h.et, ogs := by rw [h.dg]; exact ownS_nil _ _, egs := by intro i sv hs; simp at hs }
theorem OwnS.same_len {w : World} {e : TypeId} {v : Value} {xs ys : List Value} (h : OwnS w e v xs) (h' : OwnS w e v ys) : xs.length = ys.length := by
  obtain ⟨a, c, e1⟩ := h.shape
  obtain ⟨a', c', e2⟩ := h'.shape
  rw [e1] at e2
  injection e2
theorem WB.small {w : World} {p : Nat} {d : Wd} {vn : Value} {bs : List Value} (h : WB w p d vn bs) : ∀ (i m : Nat) (sv : Value), bs[i]? = some sv → OwnS w 5 sv (digs (i / 4 * 4) m) → m < 4611686018427387904 := by
  intro i m sv hs ho
  obtain ⟨m', h1, h2⟩ := h.each i sv hs
  have e := ho.same_len h2
  rw [digs_length, digs_length] at e
  omega

/- Behind the call of Packets, and what was lent given back. -/
structure Mid (w w4 : World) (p : Nat) (d : Wd) (v : Value) (c : Nat) (bs ls ts : List Value) (ps : List (List Nat)) (gs : List Nat) : Prop where
  kl : KL w4 p d nilS v c bs ls ps gs
  hlb : ∀ (i : Nat) (sv : Value) (k : Nat), ls[i]? = some sv → sv.ownBlock = some k → d.bytes.ownBlock ≠ some k ∧ v.ownBlock ≠ some k
  hlm : ∀ (i : Nat) (sv : Value), ls[i]? = some sv → ∃ m mv, OwnS w4 36 sv (List.replicate m mv) ∧ OwnS w4 5 mv (digs (i / 4 * 4) 3) ∧ ∀ k, mv.ownBlock = some k → k ∉ gs
  st : St w4 p d bs ls ts
  tv : ∀ k, d.turned.ownBlock = some k → v.ownBlock ≠ some k
  tg : ∀ (i : Nat) (sv : Value) (k : Nat), ts[i]? = some sv → sv.ownBlock = some k → k ∉ gs

theorem St.mid {w w3 w4 : World} {p gi B t c : Nat} {d : Wd} {v vt : Value} {bs ls ts : List Value} {ps : List (List Nat)} {gs : List Nat} {Rg : List Value} (h : St w p d bs ls ts) (hb3 : Below w.heap.size w w3) (hgi1 : w.heap.size ≤ gi) (hgi2 : gi < B) (hgr : RowL w3 gi 5 Rg)
    (hP : Packs w3 B v c ps gs) (hpc : ∀ b ∈ ps, b.length = c) (hkp : Kp (fun k => k = p ∨ k = gi ∨ d.turned.ownBlock = some k) w3 w4) (hrow4 : RowL w4 p 38 ((d.withTurned vt).row nilS))
    (hot4 : OwnS w4 36 vt (ts ++ [.slice (some ⟨gi, 0, none⟩) t t])) (hgi4 : RowL w4 gi 5 (List.replicate t (.int .u8 251))) (ht : t ≤ maxLen) (hvt : ∀ q, vt.ownBlock = some q → d.turned.ownBlock = some q ∨ w3.heap.size ≤ q) :
    Mid w w4 p (d.withTurned vt) v c bs ls (ts ++ [.slice (some ⟨gi, 0, none⟩) t t]) ps gs := by
  have hprow3 : RowL w3 p 38 (d.row nilS) := h.wb.row.later hb3
  have hot3 : OwnS w3 36 d.turned ts := h.ot.later hb3
  -- what is of bytes and lies apart from gi
  have k8 : ∀ (u : Value) (xs : List Value), OwnS w3 5 u xs → (∀ k, u.ownBlock = some k → k ≠ gi) → OwnS w4 5 u xs := fun u xs ho hne =>
    hkp.own ho (fun k hk hx => by
      rcases hx with rfl | hx | hx
      · exact ho.ne_type hprow3 (by decide) hk
      · exact hne k hk hx
      · exact ho.ne_own hot3 (by decide) hk hx)
  have k36 : ∀ (u : Value) (xs : List Value), OwnS w3 36 u xs → (∀ k, u.ownBlock = some k → d.turned.ownBlock ≠ some k) → OwnS w4 36 u xs := fun u xs ho hne =>
    hkp.own ho (fun k hk hx => by
      rcases hx with rfl | hx | hx
      · exact ho.ne_type hprow3 (by decide) hk
      · subst hx; exact ho.ne_type hgr (by decide) hk
      · exact hne k hk hx)
  have hob4 : OwnS w4 36 d.bytes bs := k36 _ _ (h.wb.own.later hb3) h.bt
  have heb4 : ∀ (i : Nat) (sv : Value), bs[i]? = some sv → ∃ m, m ≤ 70000 ∧ OwnS w4 5 sv (digs (i / 4 * 4) m) := fun i sv hs => by
    obtain ⟨m, h1, h2⟩ := h.wb.each i sv hs
    exact ⟨m, h1, k8 _ _ (h2.later hb3) (fun k hk e => by have := h2.lt hk; omega)⟩
  have hol4 : OwnS w4 33 d.lists ls := hkp.own (h.ol.later hb3) (fun k hk hx => by
    have ho := h.ol.later hb3
    rcases hx with rfl | hx | hx
    · exact ho.ne_type hprow3 (by decide) hk
    · subst hx; exact ho.ne_type hgr (by decide) hk
    · exact ho.ne_own hot3 (by decide) hk hx)
  have hlm4 : ∀ (i : Nat) (sv : Value), ls[i]? = some sv → ∃ m mv, OwnS w4 36 sv (List.replicate m mv) ∧ OwnS w4 5 mv (digs (i / 4 * 4) 3) ∧ ∀ k, mv.ownBlock = some k → k ∉ gs := fun i sv hs => by
    obtain ⟨m, mv, h1, h2⟩ := h.el i sv hs
    refine ⟨m, mv, k36 _ _ (h1.later hb3) (fun k hk => (h.lb i sv k hs hk).2), k8 _ _ (h2.later hb3) (fun k hk e => by have := h2.lt hk; omega), fun k hk hg => ?_⟩
    have h3 := h2.lt hk
    have h4 := hP.from_ k hg
    omega
  have hv4 : OwnS w4 36 v (gs.map (packV c)) := k36 _ _ hP.own (fun k hk e => by
    have h3 := hP.at_ k hk
    have h4 := h.ot.lt e
    omega)
  have hpr4 : ∀ (i g : Nat) (b : List Nat), gs[i]? = some g → ps[i]? = some b → RowL w4 g 5 (u8s b) := fun i g b h1 h2 => by
    have hr := hP.row i g b h1 h2
    refine hkp.row hr (fun hx => ?_)
    rcases hx with rfl | hx | hx
    · exact hprow3.ne_of_type hr (by decide) rfl
    · have := hP.from_ g (List.mem_of_getElem? h1); omega
    · exact hot3.ne_type hr (by decide) hx
  have hwb4 : WB w4 p (d.withTurned vt) nilS bs := ⟨hrow4, hob4, heb4⟩
  have hvB : ∀ k, v.ownBlock = some k → w.heap.size ≤ k := fun k hk => by have := hP.at_ k hk; omega
  have hlb4 : ∀ (i : Nat) (sv : Value) (k : Nat), ls[i]? = some sv → sv.ownBlock = some k → k < w.heap.size := fun i sv k hs hk => by
    obtain ⟨m, mv, h1, _⟩ := h.el i sv hs
    exact h1.lt hk
  have hvt2 : ∀ k, vt.ownBlock = some k → k < w.heap.size → d.turned.ownBlock = some k := fun k hk hl => by
    rcases hvt k hk with h1 | h1
    · exact h1
    · have := hb3.size; omega
  refine ⟨⟨hwb4, hol4, fun i sv hs => ?_, hv4, hP.len, hpr4, hP.nodup, hpc, fun i sv hs g hg hb => ?_, fun k hk hb => ?_⟩, fun i sv k hs hk => ⟨(h.lb i sv k hs hk).1, fun hx => ?_⟩, hlm4, ⟨hwb4, hol4, fun i sv hs => ?_, hot4, fun i sv hs => ?_, fun k hk hx => ?_, fun i sv k hs hk => ⟨(h.lb i sv k hs hk).1, fun hx => ?_⟩, h.dg⟩, fun k hk hx => ?_, fun i sv k hs hk hg => ?_⟩
  · obtain ⟨m, mv, h1, h2, _⟩ := hlm4 i sv hs
    exact ⟨m, mv, h1, h2⟩
  · obtain ⟨m, _, h2⟩ := h.wb.each i sv hs
    have h3 := h2.lt hb
    have h4 := hP.from_ g hg
    omega
  · have h3 := h.wb.own.lt hb
    have := hvB k hk
    omega
  · have h3 := hlb4 i sv k hs hk
    have := hvB k hx
    omega
  · obtain ⟨m, mv, h1, h2, _⟩ := hlm4 i sv hs
    exact ⟨m, mv, h1, h2⟩
  · rw [List.getElem?_append] at hs
    split at hs
    · obtain ⟨m, h1⟩ := h.et i sv hs
      exact ⟨m, k8 _ _ (h1.later hb3) (fun k hk e => by have := h1.lt hk; omega)⟩
    · rename_i hni
      by_cases hi' : i - ts.length = 0
      · rw [hi'] at hs
        simp at hs
        subst hs
        have hh := hgi4.own (by rw [List.length_replicate]; exact ht)
        rw [List.length_replicate] at hh
        exact ⟨t, hh⟩
      · rw [List.getElem?_eq_none (by simp; omega)] at hs; cases hs
  · exact h.bt k hk (hvt2 k hx (h.wb.own.lt hk))
  · exact (h.lb i sv k hs hk).2 (hvt2 k hx (hlb4 i sv k hs hk))
  · rcases hvt k hk with h1 | h1
    · have := h.ot.lt h1
      have := hvB k hx
      omega
    · have := hP.own.lt hx
      omega
  · have h4 := hP.from_ k hg
    rw [List.getElem?_append] at hs
    split at hs
    · obtain ⟨m, h1⟩ := h.et i sv hs
      have := h1.lt hk
      omega
    · rename_i hni
      by_cases hi' : i - ts.length = 0
      · rw [hi'] at hs
        simp at hs
        subst hs
        simp [Value.ownBlock] at hk
        omega
      · rw [List.getElem?_eq_none (by simp; omega)] at hs; cases hs

theorem Mid.drewN {w w4 : World} {p : Nat} {d : Wd} {v : Value} {c : Nat} {bs ls ts : List Value} {ps : List (List Nat)} {gs : List Nat} (h : Mid w w4 p d v c bs ls ts ps gs) (n : Nat) : Mid w (w4.drewN n) p d v c bs ls ts ps gs :=
  ⟨⟨⟨h.kl.wb.row, h.kl.wb.own, h.kl.wb.each⟩, h.kl.own, h.kl.each, h.kl.pown, h.kl.plen, h.kl.prow, h.kl.pnd, h.kl.pc, h.kl.fb, h.kl.vb⟩, h.hlb, h.hlm,
    ⟨⟨h.st.wb.row, h.st.wb.own, h.st.wb.each⟩, h.st.ol, h.st.el, h.st.ot, h.st.et, h.st.bt, h.st.lb, h.st.dg⟩, h.tv, h.tg⟩

theorem Mid.after {w w4 w5 : World} {p N M : Nat} {d : Wd} {v vb vl : Value} {c : Nat} {bs ls ts bs' ls' : List Value} {ps : List (List Nat)} {gs : List Nat} (h : Mid w w4 p d v c bs ls ts ps gs) (hk : KD w4 p d nilS v N M bs ls gs vb vl bs' ls' w5) :
    St w5 p ((d.withBytes vb).withLists vl) bs' ls' ts := by
  have hne : ∀ (k : Nat), d.turned.ownBlock = some k → ¬ (k = p ∨ v.ownBlock = some k ∨ k ∈ gs ∨ d.bytes.ownBlock = some k ∨ d.lists.ownBlock = some k) := fun k hq hx => by
    rcases hx with rfl | hx | hx | hx | hx
    · exact h.st.ot.ne_type h.st.wb.row (by decide) hq
    · exact h.tv k hq hx
    · obtain ⟨b, _, hr⟩ := h.kl.grow hx
      exact h.st.ot.ne_type hr (by decide) hq
    · exact h.st.bt k hx hq
    · exact h.st.ot.ne_own h.st.ol (by decide) hq hx
  refine ⟨hk.wb, hk.own, hk.each, hk.kp.own h.st.ot hne, fun i sv hs => ?_, fun k h1 h2 => ?_, fun i sv k hs h1 => ⟨(hk.el i sv k hs h1).2, fun h2 => ?_⟩, h.st.dg⟩
  · obtain ⟨m, h1⟩ := h.st.et i sv hs
    refine ⟨m, hk.kp.own h1 (fun k h2 hx => ?_)⟩
    rcases hx with rfl | hx | hx | hx | hx
    · exact h1.ne_type h.st.wb.row (by decide) h2
    · exact h1.ne_own h.kl.pown (by decide) h2 hx
    · exact h.tg i sv k hs h2 hx
    · exact h1.ne_own h.st.wb.own (by decide) h2 hx
    · exact h1.ne_own h.st.ol (by decide) h2 hx
  · have h3 : d.turned.ownBlock = some k := h2
    rcases hk.vb k h1 with h4 | h4
    · exact h.st.bt k h4 h3
    · have := h.st.ot.lt h3; omega
  · have h3 : d.turned.ownBlock = some k := h2
    rcases (hk.el i sv k hs h1).1 with ⟨j, h4⟩ | h4 | h4
    · exact (h.st.lb j sv k h4 h1).2 h3
    · exact h.tv k h3 h4
    · have := h.st.ot.lt h3; omega
end Go.Proofs.Ytmfpiodlecapiaa
