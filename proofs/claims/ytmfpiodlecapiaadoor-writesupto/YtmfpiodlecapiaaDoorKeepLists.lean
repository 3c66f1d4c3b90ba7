/- The caller's own keeping of lists of bytes: first what is in them, then the list itself. -/
import Derived.Test.YtmfpiodlecapiaaDoorKeepBytes
namespace Go.Proofs.YtmfpiodlecapiaaDoor
open Go.RowKit Go.Deep

theorem Tryd.infoLists : (Tryd.prog.info? 24).map (fun i => (i.zero, i.size, i.bytes)) = some (some (.slice none 0 0), 1, 24) := by kernel_rfl

def Wd.withLists (d : Wd) (v : Value) : Wd := { d with lists := v }
theorem OwnS.setAt {w : World} {e : TypeId} {g n cap k : Nat} {xs : List Value} (h : OwnS w e (.slice (some ⟨g, 0, none⟩) n cap) xs) (u : Value) : OwnS (w.setCell ⟨g, k, none⟩ u) e (.slice (some ⟨g, 0, none⟩) n cap) (xs.set k u) := by
  rcases h with ⟨h, _⟩ | ⟨g', cap', cur, hv, hr, h1, h2, h3, h4⟩
  · cases h
  · injection hv with e1 e2 e3
    injection e1 with e1
    injection e1 with e1
    subst e1 e3
    refine .inr ⟨g, cap, cur.set k u, by rw [List.length_set, e2], hr.set k u, by rw [List.length_set]; exact h1, h2, by rw [List.length_set]; exact h3, ?_⟩
    rw [List.length_set, List.take_set, h4]
theorem OwnS.at_ {w : World} {e : TypeId} {g n cap k : Nat} {xs : List Value} {u : Value} (h : OwnS w e (.slice (some ⟨g, 0, none⟩) n cap) xs) (hk : xs[k]? = some u) : w.cell? ⟨g, k, none⟩ = some u ∧ w.frozen? ⟨g, k, none⟩ = false := by
  rcases h with ⟨h, _⟩ | ⟨g', cap', cur, hv, hr, h1, h2, h3, h4⟩
  · cases h
  · injection hv with e1 e2 e3
    injection e1 with e1
    injection e1 with e1
    subst e1
    exact ⟨hr.cell k _ (take_at h4 hk), hr.frozen k⟩
def LEach (w : World) (ls : List Value) : Prop := ∀ (i : Nat) (sv : Value), ls[i]? = some sv → ∃ m mv, OwnS w 27 sv (List.replicate m mv) ∧ OwnS w 5 mv (digs (i / 4 * 4) 3)

theorem packs_nil (w : World) (B c : Nat) : Packs w B (.slice none 0 0) c [] [] :=
  ⟨ownS_nil _ _, rfl, by intro i g bs h; simp at h, by intro g hg; simp at hg, List.nodup_nil, by intro k hk; simp [Value.ownBlock] at hk⟩

theorem OwnS.ne_own {w : World} {e e' : TypeId} {v v' : Value} {xs ys : List Value} (h : OwnS w e v xs) (h' : OwnS w e' v' ys) (he : e ≠ e') {k : Nat} (hk : v.ownBlock = some k) : v'.ownBlock ≠ some k := by
  rcases h with ⟨rfl, _⟩ | ⟨g, cap, cur, rfl, hr, _⟩
  · simp [Value.ownBlock] at hk
  · simp [Value.ownBlock] at hk
    subst hk
    exact h'.ne_type hr he

/- What keepLists wants of the world ahead of it. -/
structure KL (w : World) (p : Nat) (d : Wd) (vn v : Value) (c : Nat) (bs ls : List Value) (ps : List (List Nat)) (gs : List Nat) : Prop where
  wb : WB w p d vn bs
  own : OwnS w 24 d.lists ls
  each : LEach w ls
  pown : OwnS w 27 v (gs.map (packV c))
  plen : gs.length = ps.length
  prow : ∀ (i g : Nat) (b : List Nat), gs[i]? = some g → ps[i]? = some b → RowL w g 5 (u8s b)
  pnd : gs.Nodup
  pc : ∀ b ∈ ps, b.length = c
  fb : ∀ (i : Nat) (sv : Value), bs[i]? = some sv → ∀ g ∈ gs, sv.ownBlock ≠ some g
  vb : ∀ k, v.ownBlock = some k → d.bytes.ownBlock ≠ some k

theorem KL.grow {w : World} {p : Nat} {d : Wd} {vn v : Value} {c : Nat} {bs ls : List Value} {ps : List (List Nat)} {gs : List Nat} (h : KL w p d vn v c bs ls ps gs) {g : Nat} (hg : g ∈ gs) : ∃ b, b ∈ ps ∧ RowL w g 5 (u8s b) := by
  obtain ⟨i, hi, rfl⟩ := List.mem_iff_getElem.1 hg
  have hi' : i < ps.length := by rw [← h.plen]; exact hi
  exact ⟨ps[i], List.getElem_mem hi', h.prow i _ _ (by simp [hi]) (by simp [hi'])⟩

structure KA (w : World) (p : Nat) (d : Wd) (vn : Value) (N : Nat) (bs : List Value) (gs : List Nat) (i : Nat) (vb' : Value) (bs' : List Value) (w' : World) : Prop where
  len : bs'.length = N + 4 * i
  wb : WB w' p (d.withBytes vb') vn bs'
  kp : Kp (fun k => k = p ∨ k ∈ gs.take i ∨ d.bytes.ownBlock = some k) w w'
  vb : ∀ q, vb'.ownBlock = some q → d.bytes.ownBlock = some q ∨ w.heap.size ≤ q
  el : ∀ (j : Nat) (sv : Value) (k : Nat), bs'[j]? = some sv → sv.ownBlock = some k → (∃ j : Nat, bs[j]? = some sv) ∨ k ∈ gs.take i ∨ w.heap.size ≤ k
theorem KA.start {w : World} {p : Nat} {d : Wd} {vn : Value} {N : Nat} {bs : List Value} {gs : List Nat} (h : WB w p d vn bs) (hN : bs.length = N) : KA w p d vn N bs gs 0 d.bytes bs w :=
  ⟨by omega, h, Kp.refl _ _, fun q hq => Or.inl hq, fun j sv k hs _ => Or.inl ⟨j, hs⟩⟩
/- One more packet is kept. -/
theorem KA.step {w w1 : World} {p : Nat} {d : Wd} {vn v : Value} {c N : Nat} {bs ls : List Value} {ps : List (List Nat)} {gs : List Nat} {i g : Nat} {vb1 : Value} {bs1 : List Value} (h : KL w p d vn v c bs ls ps gs) (ha : KA w p d vn N bs gs i vb1 bs1 w1) (hg : gs[i]? = some g) (hc : c ≤ 4096) (hN4 : N % 4 = 0) (hN2 : N + 4 * gs.length ≤ 1000000) :
    Calls Tryd.prog 12 #[.pointer (some ⟨p, 0, none⟩), packV c g] w1 fun e w' => e = .returned (.tuple #[]) ∧ ∃ vb2 bs2, KA w p d vn N bs gs (i + 1) vb2 bs2 w' := by
  have hil : i < gs.length := (List.getElem?_eq_some_iff.1 hg).1
  have hip : i < ps.length := by rw [← h.plen]; exact hil
  have hrow := h.prow i g _ hg (show ps[i]? = some ps[i] by simp [hip])
  have hgm : g ∈ gs := List.mem_of_getElem? hg
  have hnt : g ∉ gs.take i := by
    intro hm
    obtain ⟨j, hj, e⟩ := List.mem_iff_getElem.1 hm
    have hji : j < i := by rw [List.length_take] at hj; omega
    have hje : gs[j]? = some g := by
      rw [List.getElem_take] at e
      rw [List.getElem?_eq_getElem (by omega), e]
    have hjl : j < gs.length := by omega
    have he := (List.getElem?_inj hjl h.pnd).1 (hje.trans hg.symm)
    omega
  have hrow1 : RowL w1 g 5 (u8s ps[i]) := ha.kp.row hrow (fun hx => by
    rcases hx with rfl | hx | hx
    · exact h.wb.row.ne_of_type hrow (by decide) rfl
    · exact hnt hx
    · exact h.wb.own.ne_type hrow (by decide) hx)
  refine (keep_walk p g c (N + 4 * i) (d.withBytes vb1) vn bs1 ps[i] (h.pc _ (List.getElem_mem hip)) hc ha.len (by omega) (by omega) w1 ha.wb hrow1 (fun j sv hs hb => ?_)).mono ?_
  · rcases ha.el j sv g hs hb with ⟨j', hj'⟩ | hx | hx
    · exact h.fb j' sv hj' g hgm hb
    · exact hnt hx
    · exact absurd hrow.lt (by omega)
  · rintro e w' ⟨rfl, vb2, bs2, hl2, hw2, hk2, hv2, he2⟩
    have htk : gs.take (i + 1) = gs.take i ++ [g] := (take_snoc hg).symm
    refine ⟨rfl, vb2, bs2, ⟨by rw [hl2]; omega, hw2, (ha.kp.mono (fun k hk => ?_)).join hk2 (fun k hk => ?_), fun q hq => ?_, fun j sv k hs hb => ?_⟩⟩
    · rw [htk]
      rcases hk with h1 | h1 | h1
      · exact Or.inl h1
      · exact Or.inr (Or.inl (List.mem_append_left _ h1))
      · exact Or.inr (Or.inr h1)
    · rw [htk]
      rcases hk with h1 | h1 | h1
      · exact Or.inl (Or.inl h1)
      · exact Or.inl (Or.inr (Or.inl (List.mem_append_right _ (by rw [h1]; exact List.mem_singleton.2 rfl))))
      · rcases ha.vb k h1 with h2 | h2
        · exact Or.inl (Or.inr (Or.inr h2))
        · exact Or.inr h2
    · rcases hv2 q hq with h1 | h1
      · exact ha.vb q h1
      · exact Or.inr (Nat.le_trans ha.kp.size h1)
    · rw [htk]
      rcases he2 j sv k hs hb with ⟨j', hj'⟩ | h1 | h1
      · rcases ha.el j' sv k hj' hb with h2 | h2 | h2
        · exact Or.inl h2
        · exact Or.inr (Or.inl (List.mem_append_left _ h2))
        · exact Or.inr (Or.inr h2)
      · exact Or.inr (Or.inl (List.mem_append_right _ (by rw [h1]; exact List.mem_singleton.2 rfl)))
      · exact Or.inr (Or.inr (Nat.le_trans ha.kp.size h1))

/- What keepLists leaves. -/
structure KD (w : World) (p : Nat) (d : Wd) (vn v : Value) (N M : Nat) (bs ls : List Value) (gs : List Nat) (vb' vl' : Value) (bs' ls' : List Value) (w' : World) : Prop where
  lenb : bs'.length = N + 4 * gs.length
  lenl : ls'.length = M + 4
  wb : WB w' p ((d.withBytes vb').withLists vl') vn bs'
  own : OwnS w' 24 vl' ls'
  each : LEach w' ls'
  kp : Kp (fun k => k = p ∨ v.ownBlock = some k ∨ k ∈ gs ∨ d.bytes.ownBlock = some k ∨ d.lists.ownBlock = some k) w w'
  vb : ∀ q, vb'.ownBlock = some q → d.bytes.ownBlock = some q ∨ w.heap.size ≤ q
  vl : ∀ q, vl'.ownBlock = some q → d.lists.ownBlock = some q ∨ w.heap.size ≤ q
  el : ∀ (i : Nat) (sv : Value) (k : Nat), ls'[i]? = some sv → sv.ownBlock = some k → ((∃ j : Nat, ls[j]? = some sv) ∨ v.ownBlock = some k ∨ w.heap.size ≤ k) ∧ vb'.ownBlock ≠ some k

end Go.Proofs.YtmfpiodlecapiaaDoor
