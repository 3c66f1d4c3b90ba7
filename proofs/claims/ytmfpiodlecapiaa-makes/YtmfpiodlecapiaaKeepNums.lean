/- The caller's own keeping of lists of numbers: each is written over, and grown one by one; what was kept stays as it was. -/
import Derived.Test.YtmfpiodlecapiaaRefBlocks
namespace Go.Proofs.Ytmfpiodlecapiaa
open Go.RowKit Go.Deep

theorem Try.infoNums : (Try.prog.info? 42).map (fun i => (i.zero, i.size, i.bytes)) = some (some (.slice none 0 0), 1, 24) := by kernel_rfl

/- append keeps every slice of another type, and those of its own row that are no longer than what was there. -/
theorem AppTo.keepT {w w' : World} {e e' : TypeId} {v v' u : Value} {xs news ys : List Value} (h : AppTo w w' e v v' xs news) (ho : OwnS w e v xs) (hu : OwnS w e' u ys) (he : e' ≠ e) : OwnS w' e' u ys := by
  rcases hu with hu | ⟨g, cap, cur, rfl, hr, h1, h2, h3, h4⟩
  · exact .inl hu
  · exact .inr ⟨g, cap, cur, rfl, h.other hr (ho.ne_type hr he), h1, h2, h3, h4⟩
theorem AppTo.keeps {w w' : World} {e : TypeId} {v v' u : Value} {xs news ys : List Value} (h : AppTo w w' e v v' xs news) (hu : OwnS w e u ys) (hle : ∀ g, u.ownBlock = some g → v.ownBlock = some g → ys.length ≤ xs.length) : OwnS w' e u ys := by
  rcases hu with hu | ⟨g, cap, cur, rfl, hr, h1, h2, h3, h4⟩
  · exact .inl hu
  · by_cases hv : v.ownBlock = some g
    · have hl := hle g rfl hv
      obtain ⟨cur', hr', hl', ht'⟩ := h.old hv hr
      refine .inr ⟨g, cap, cur', rfl, hr', h1, h2, by omega, ?_⟩
      have e1 : cur'.take ys.length = (cur'.take xs.length).take ys.length := by rw [List.take_take, Nat.min_eq_left hl]
      rw [e1, ht', List.take_take, Nat.min_eq_left hl, h4]
    · exact .inr ⟨g, cap, cur, rfl, h.other hr hv, h1, h2, h3, h4⟩
theorem OwnS.setCell {w : World} {e t : TypeId} {v : Value} {xs L : List Value} {b i : Nat} (h : OwnS w e v xs) (hb : RowL w b t L) (ht : t ≠ e) (u : Value) : OwnS (w.setCell ⟨b, i, none⟩ u) e v xs :=
  h.of_block (fun g hg => blk_setCell_other _ _ _ _ (fun e' => h.ne_type hb ht (by rw [hg]; exact congrArg some e')))

def valOf (i : Nat) : Value := .int .i64 (-1 - ((i / 4 * 4 : Nat) : Int))
/- The struct of the caller, where numbers alone were kept so far. -/
structure Wd where
  sides : Value
  bytes : Value
  lists : Value
  turned : Value
  given : Value
  room : Value
def Wd.row (d : Wd) (vn : Value) : List Value := [d.sides, d.bytes, d.lists, vn, d.turned, d.given, d.room]
structure WN (w : World) (p : Nat) (d : Wd) (vn : Value) (ns : List Value) : Prop where
  row : RowL w p 38 (d.row vn)
  own : OwnS w 42 vn ns
  each : ∀ (i : Nat) (sv : Value), ns[i]? = some sv → ∃ m, m ≤ 70000 ∧ OwnS w 3 sv (List.replicate m (valOf i))
theorem WN.of_kp {w w' : World} {p : Nat} {d : Wd} {vn : Value} {ns : List Value} (h : WN w p d vn ns) (hb : Below w.heap.size w w') : WN w' p d vn ns :=
  ⟨h.row.later hb, h.own.later hb, fun i sv hs => by obtain ⟨m, h1, h2⟩ := h.each i sv hs; exact ⟨m, h1, h2.later hb⟩⟩

set_option maxRecDepth 20000 in
set_option maxHeartbeats 1000000 in
theorem keepNums_walk (p gl Z N : Nat) (d : Wd) (vn : Value) (ns : List Value) (L : List Nat) (hZ : Hid (L.length = Z)) (hZ2 : Z ≤ 4096) (hN : Hid (ns.length = N)) (hN4 : N % 4 = 0) (hN2 : N ≤ 1000) (w : World)
    (hw : WN w p d vn ns) (hl : RowL w gl 3 (i64s L)) (hfresh : Hid (∀ (i : Nat) (sv : Value), ns[i]? = some sv → sv.ownBlock ≠ some gl)) :
    Calls Try.prog 36 #[.pointer (some ⟨p, 0, none⟩), .slice (some ⟨gl, 0, none⟩) Z Z] w fun e w' =>
      e = .returned (.tuple #[]) ∧ ∃ vn' ns', ns'.length = N + 4 ∧ WN w' p d vn' ns' ∧ Kp (fun k => k = p ∨ k = gl ∨ vn.ownBlock = some k) w w' ∧ (∀ q, vn'.ownBlock = some q → vn.ownBlock = some q ∨ w.heap.size ≤ q) := by
  obtain ⟨i0, hi, hz0, hz1, hz2⟩ := info_parts Try.infoInt
  obtain ⟨j0, hjn, hy0, hy1, hy2⟩ := info_parts Try.infoNums
  obtain ⟨av, cv, hsh⟩ := hw.own.shape
  have c3 := hw.row.cell 3 _ rfl
  rw [hsh, hN.out] at c3
  have hpg : p ≠ gl := hw.row.ne_of_type hl (by decide)
  have HW := hide hw; have HL := hide hl
  clear hw hl
  go_enter Try.func36, Try.ntmps36
  go_wp2_with fail
  have hval : Hid (valOf N = .int .i64 (-1 - (N : Int))) := by
    show valOf N = _
    unfold valOf
    have : N / 4 * 4 = N := by omega
    rw [this]
  have hRl : Hid ((List.replicate Z (Value.int .i64 (-1 - (N : Int)))).length = (i64s L).length) := by show _ = _; rw [List.length_replicate, i64s_length, hZ.out]
  go_loopw [5] (fun x wr => ∃ k : Nat, k ≤ Z ∧ x = .int .i64 k ∧ Kp (fun q => q = gl) w wr ∧ RowL wr gl 3 (mix (List.replicate Z (.int .i64 (-1 - (N : Int)))) (i64s L) k))
    (fun x _ => leftOf Z (intOf x).toNat)
  case atStart => exact ⟨0, by omega, rfl, Kp.refl _ _, by rw [mix_zero]; exact HL.out⟩
  case round =>
    obtain ⟨k, hk, rfl, hkp, hr⟩ := hrel
    by_cases hkz : k < Z
    · have hkl : k < (i64s L).length := by rw [i64s_length, hZ.out]; exact hkz
      have hm := mix_at (List.replicate Z (Value.int .i64 (-1 - (N : Int)))) (i64s L) k hRl.out hkl
      have hc := hr.cell k _ (hm.trans (i64s_at (by rw [i64s_length] at hkl; exact hkl)))
      have hf := hr.frozen k
      have HK := hide hkp; have HR := hide hr
      clear hkp hr hm hkl
      go_wp2_with fail
      go_roundw
      case rel =>
        refine ⟨k + 1, by omega, by go_num, HK.out.setCell (Or.inl rfl) _, ?_⟩
        have h := HR.out.set k (.int .i64 (-1 - (N : Int)))
        rw [mix_set _ _ _ _ hRl.out (by simp [hkz])] at h
        exact h
      case measure => refine leftOf_lt ?_ ?_ <;> simp only [intOf] <;> omega
    · have ek : k = Z := by omega
      have hr2 : RowL wr gl 3 (List.replicate Z (.int .i64 (-1 - (N : Int)))) := by
        have h := mix_all (List.replicate Z (Value.int .i64 (-1 - (N : Int)))) (i64s L) hRl.out
        rw [i64s_length, hZ.out] at h
        rw [ek, h] at hr; exact hr
      have kz : ¬ (k : Int) < (Z : Int) := by omega
      have own0 : OwnS wr 3 (.slice (some ⟨gl, 0, none⟩) Z Z) (List.replicate (Z + 0) (valOf N)) := by
        rw [hval.out]
        have h := hr2.own (by simp [maxLen]; omega)
        rw [List.length_replicate] at h
        exact h
      have row0 := hkp.row HW.out.row hpg
      have nums0 := hkp.own HW.out.own (fun g hg e => by
        have e' : g = gl := e
        subst e'
        exact HW.out.own.ne_type HL.out (by decide) hg)
      have each0 : ∀ (i : Nat) (sv : Value), ns[i]? = some sv → ∃ m, m ≤ 70000 ∧ OwnS wr 3 sv (List.replicate m (valOf i)) ∧ (∀ g, sv.ownBlock = some g → (Value.slice (some ⟨gl, 0, none⟩) Z Z).ownBlock = some g → m ≤ Z + 0) := by
        intro i sv hs
        obtain ⟨m, h1, h2⟩ := HW.out.each i sv hs
        refine ⟨m, h1, hkp.own h2 (fun g hg e => hfresh.out i sv hs (by rw [hg]; exact congrArg some e)), fun g hg e => ?_⟩
        simp [Value.ownBlock] at e
        subst e
        exact absurd hg (hfresh.out i sv hs)
      have K0 := hide (hkp.mono (Y := fun q => q = p ∨ q = gl ∨ vn.ownBlock = some q) (fun q hq => Or.inr (Or.inl hq)))
      have O0 := hide own0; have R0 := hide row0; have N0 := hide nums0; have E0 := hide each0
      clear hkp hr hr2 own0 row0 nums0 each0 c3
      go_wp2_with fail
      go_loopw [1, 6] (fun v x wr => ∃ (j : Nat) (vj : Value) (nj : List Value), j ≤ 4 ∧ x = .int .i64 j ∧ OwnS wr 3 v (List.replicate (Z + j) (valOf N)) ∧ RowL wr p 38 (d.row vj) ∧ OwnS wr 42 vj nj ∧ Hid (nj.length = N + j) ∧
          (∀ (i : Nat) (sv : Value), nj[i]? = some sv → ∃ m, m ≤ 70000 ∧ OwnS wr 3 sv (List.replicate m (valOf i)) ∧ (∀ g, sv.ownBlock = some g → v.ownBlock = some g → m ≤ Z + j)) ∧
          Kp (fun q => q = p ∨ q = gl ∨ vn.ownBlock = some q) w wr ∧ (∀ q, v.ownBlock = some q → q = gl ∨ w.heap.size ≤ q) ∧ (∀ q, vj.ownBlock = some q → vn.ownBlock = some q ∨ w.heap.size ≤ q))
        (fun _ x _ => leftOf 4 (intOf x).toNat)
      case atStart => exact ⟨0, vn, ns, by omega, rfl, O0.out, R0.out, N0.out, hN, E0.out, K0.out, by intro q hq; simp [Value.ownBlock] at hq; exact Or.inl hq.symm, fun q hq => Or.inl hq⟩
      case round =>
        obtain ⟨j, vj, nj, hj4, rfl, hv, hrow, hnj, hnl, heach, hkp, hvb, hvjb⟩ := hrel
        by_cases hj : j < 4
        · obtain ⟨aj, cj, hshj⟩ := hnj.shape
          rw [hnl.out] at hshj
          subst hshj
          obtain ⟨a1, k1, hsh1⟩ := hv.shape
          rw [List.length_replicate] at hsh1
          subst hsh1
          have d3 := hrow.cell 3 _ rfl
          have f3 := hrow.frozen 3
          have HV := hide hv; have HR := hide hrow; have HNJ := hide hnj; have HE := hide heach; have HK := hide hkp; have HVB := hide hvb; have HVJ := hide hvjb
          clear hv hrow hnj heach hkp hvb hvjb
          go_wp2_with (at_builtin; (refine wpList_app _ rfl (.tmp 32) (.tmp 34) 35 rfl 42 j0 (.slice none 0 0) 24 Try.underlying35 hjn hy0 hy1 hy2 rfl _ nj rfl (HNJ.out.alloc _) ⟨wr.heap.size, 0, none⟩ 1 1 [.slice a1 (Z + j) k1] rfl rfl (news_at _ _ _ _ rfl) (by intro u hu; simp at hu; subst hu; rfl) (by rw [hnl.out]; unfold maxLen; omega) (by rw [hnl.out]; omega) ?_))
          intro vj' w1 happ
          obtain ⟨aj', cj', hs2⟩ := happ.own.shape
          rw [List.length_append, hnl.out] at hs2
          subst hs2
          have hownA := HNJ.out.alloc (.cells #[.slice a1 (Z + j) k1] 42)
          have hrow1 := happ.other (HR.out.alloc _) (hownA.ne_type (HR.out.alloc _) (by decide))
          have d3' := hrow1.cell 3 _ rfl
          have f3' := hrow1.frozen 3
          have HA := hide happ; have HR1 := hide hrow1; have HOA := hide hownA
          clear happ hrow1 hownA d3 f3
          go_wp2_with (at_builtin; (refine wpList_app _ rfl (.tmp 38) (.tmp 40) 42 rfl 3 i0 (.int .i64 0) 8 Try.underlying42 hi hz0 hz1 hz2 rfl _ (List.replicate (Z + j) (valOf N)) rfl (((HA.out.keepT HOA.out (HV.out.alloc _) (by decide)).setCell (i := 3) HR1.out (by decide) _).alloc _) ⟨_, 0, none⟩ 1 1 [.int .i64 (-1 - (N : Int))] rfl rfl (news_at _ _ _ _ (by simp [World.setCell])) (by intro u hu; simp at hu; subst hu; rfl) (by rw [List.length_replicate]; unfold maxLen; omega) (by rw [List.length_replicate]; omega) ?_))
          intro v' w2 happ2
          have hownB := ((HA.out.keepT HOA.out (HV.out.alloc (.cells #[.slice a1 (Z + j) k1] 42)) (by decide)).setCell (i := 3) HR1.out (by decide) (.slice aj' (N + j + 1) cj')).alloc (.cells #[.int .i64 (-1 - (N : Int))] 3)
          have HA2 := hide happ2; have HOB := hide hownB
          clear happ2 hownB
          go_wp2
          go_roundw
          case rel =>
            have hsize1 : wr.heap.size ≤ w1.heap.size := Nat.le_trans (by simp) HA.out.size
            refine ⟨j + 1, .slice aj' (N + j + 1) cj', nj ++ [.slice a1 (Z + j) k1], by omega, by go_num, ?_, ?_, ?_, ?_, ?_, ?_, ?_, ?_⟩
            · have h := HA2.out.own
              rw [← hval.out] at h
              have e : List.replicate (Z + (j + 1)) (valOf N) = List.replicate (Z + j) (valOf N) ++ [valOf N] := List.replicate_succ'
              rw [e]; exact h
            · have h : RowL _ p 38 _ := ((HR1.out.set 3 (.slice aj' (N + j + 1) cj')).alloc (.cells #[.int .i64 (-1 - (N : Int))] 3))
              exact HA2.out.other h (HOB.out.ne_type h (by decide))
            · exact HA2.out.keepT HOB.out ((HA.out.own.setCell (i := 3) HR1.out (by decide) (.slice aj' (N + j + 1) cj')).alloc (.cells #[.int .i64 (-1 - (N : Int))] 3)) (by decide)
            · show _ = _
              rw [List.length_append, hnl.out]; rfl
            · have carry : ∀ (sv : Value) (m : Nat) (i : Nat), OwnS wr 3 sv (List.replicate m (valOf i)) → (∀ g, sv.ownBlock = some g → (Value.slice a1 (Z + j) k1).ownBlock = some g → m ≤ Z + j) → OwnS w2 3 sv (List.replicate m (valOf i)) ∧ (∀ g, sv.ownBlock = some g → v'.ownBlock = some g → m ≤ Z + (j + 1)) := by
                intro sv m i ho hc
                have hC := ((HA.out.keepT HOA.out (ho.alloc (.cells #[.slice a1 (Z + j) k1] 42)) (by decide)).setCell (i := 3) HR1.out (by decide) (.slice aj' (N + j + 1) cj')).alloc (.cells #[.int .i64 (-1 - (N : Int))] 3)
                refine ⟨HA2.out.keeps hC (fun g h1 h2 => by rw [List.length_replicate, List.length_replicate]; exact hc g h1 h2), fun g h1 h2 => ?_⟩
                rcases HA2.out.block with hb | hb
                · have := hc g h1 (hb ▸ h2); omega
                · rw [hb] at h2
                  have := hC.lt h1
                  simp only [Option.some.injEq] at h2
                  omega
              intro i sv hs
              rw [List.getElem?_append] at hs
              split at hs
              · obtain ⟨m, h1, h2, h3⟩ := HE.out i sv hs
                exact ⟨m, h1, carry sv m i h2 h3⟩
              · rename_i hni
                have ei : i = nj.length := by
                  by_cases hi' : i - nj.length = 0
                  · omega
                  · rw [List.getElem?_eq_none (by simp; omega)] at hs; cases hs
                subst ei
                simp at hs
                subst hs
                have ev : valOf nj.length = valOf N := by
                  rw [hnl.out]; unfold valOf
                  have : (N + j) / 4 * 4 = N / 4 * 4 := by omega
                  rw [this]
                rw [ev]
                exact ⟨Z + j, by omega, carry _ _ N HV.out (fun _ _ _ => Nat.le_refl _)⟩
            · refine (((HK.out.alloc _).grown HA.out.grown (fun k hk => ?_)).setCell (Or.inl (Or.inl rfl)) _ |>.alloc _).grown HA2.out.grown (fun k hk => ?_)
              · rcases HVJ.out k hk with h | h
                · exact Or.inl (Or.inr (Or.inr h))
                · exact Or.inr h
              · rcases HVB.out k hk with h | h
                · exact Or.inl (Or.inr (Or.inl h))
                · exact Or.inr h
            · intro q hq
              rcases HA2.out.block with hb | hb
              · exact HVB.out q (hb ▸ hq)
              · rw [hb] at hq
                simp only [Option.some.injEq] at hq
                have := HK.out.size
                right
                rw [← hq]
                refine Nat.le_trans this (Nat.le_trans hsize1 ?_)
                simp
            · intro q hq
              rcases HA.out.block with hb | hb
              · exact HVJ.out q (hb ▸ hq)
              · replace hq := hb.symm.trans hq
                simp only [Option.some.injEq] at hq
                have := HK.out.size
                right
                rw [← hq]
                refine Nat.le_trans this ?_
                simp
          case measure => refine leftOf_lt ?_ ?_ <;> simp only [intOf] <;> omega
        · have hj' : j = 4 := by omega
          subst hj'
          have HV := hide hv; have HR := hide hrow; have HNJ := hide hnj; have HE := hide heach; have HK := hide hkp; have HVJ := hide hvjb
          clear hv hrow hnj heach hkp hvb hvjb
          go_wp2_with fail
          go_end0
          exact ⟨rfl, vj, nj, hnl.out, ⟨HR.out, HNJ.out, fun i sv hs => by obtain ⟨m, h1, h2, _⟩ := HE.out i sv hs; exact ⟨m, h1, h2⟩⟩, HK.out, HVJ.out⟩
end Go.Proofs.Ytmfpiodlecapiaa
