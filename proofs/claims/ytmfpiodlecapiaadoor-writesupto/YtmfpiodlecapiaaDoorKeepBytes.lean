/- The caller's own keeping of bytes: they are written over, and grown one by one; what was kept stays as it was. -/
import Derived.Test.YtmfpiodlecapiaaDoorKeptWalk
namespace Go.Proofs.YtmfpiodlecapiaaDoor
open Go.RowKit Go.Deep

structure WB (w : World) (p : Nat) (d : Wd) (vn : Value) (bs : List Value) : Prop where
  row : RowL w p 29 (d.row vn)
  own : OwnS w 27 d.bytes bs
  each : ∀ (i : Nat) (sv : Value), bs[i]? = some sv → ∃ m, m ≤ 70000 ∧ OwnS w 5 sv (digs (i / 4 * 4) m)
def Wd.withBytes (d : Wd) (v : Value) : Wd := { d with bytes := v }
theorem digs_succ (n m : Nat) : digs n (m + 1) = digs n m ++ [.int .u8 (dig n m : Nat)] := by
  unfold digs
  rw [List.range_succ, List.map_append]
  rfl

set_option maxRecDepth 20000 in
set_option maxHeartbeats 2000000 in
theorem keep_walk (p gl Z N : Nat) (d : Wd) (vn : Value) (ns : List Value) (L : List Nat) (hZ : Hid (L.length = Z)) (hZ2 : Z ≤ 4096) (hN : Hid (ns.length = N)) (hN4 : N % 4 = 0) (hN2 : N ≤ 1000000) (w : World)
    (hw : WB w p d vn ns) (hl : RowL w gl 5 (u8s L)) (hfresh : Hid (∀ (i : Nat) (sv : Value), ns[i]? = some sv → sv.ownBlock ≠ some gl)) :
    Calls Tryd.prog 12 #[.pointer (some ⟨p, 0, none⟩), .slice (some ⟨gl, 0, none⟩) Z Z] w fun e w' =>
      e = .returned (.tuple #[]) ∧ ∃ vb' ns', ns'.length = N + 4 ∧ WB w' p (d.withBytes vb') vn ns' ∧ Kp (fun k => k = p ∨ k = gl ∨ d.bytes.ownBlock = some k) w w' ∧ (∀ q, vb'.ownBlock = some q → d.bytes.ownBlock = some q ∨ w.heap.size ≤ q) ∧
        (∀ (i : Nat) (sv : Value) (k : Nat), ns'[i]? = some sv → sv.ownBlock = some k → (∃ j : Nat, ns[j]? = some sv) ∨ k = gl ∨ w.heap.size ≤ k) := by
  obtain ⟨i0, hi, hz0, hz1, hz2⟩ := info_parts Tryd.infoByte
  obtain ⟨j0, hjn, hy0, hy1, hy2⟩ := info_parts Tryd.infoBytes
  obtain ⟨av, cv, hsh⟩ := hw.own.shape
  have c3 := hw.row.cell 1 _ rfl
  rw [hsh, hN.out] at c3
  have hpg : p ≠ gl := hw.row.ne_of_type hl (by decide)
  have HW := hide hw; have HL := hide hl
  clear hw hl
  have hNm : Hid (N / 4 * 4 = N) := by show _ = _; omega
  have DW := hide (fun (i : Nat) (hi : i < 4611686018427387904) w => digit_walk N i (by omega) hi w)
  have hRl : Hid ((digs N Z).length = (u8s L).length) := by show _ = _; rw [digs_length, u8s_length, hZ.out]
  go_enter Tryd.func12, Tryd.ntmps12
  go_wp2_with fail
  go_loopw [5] (fun x wr => ∃ k : Nat, k ≤ Z ∧ x = .int .i64 k ∧ Kp (fun q => q = gl) w wr ∧ RowL wr gl 5 (mix (digs N Z) (u8s L) k))
    (fun x _ => leftOf Z (intOf x).toNat)
  case atStart => exact ⟨0, by omega, rfl, Kp.refl _ _, by rw [mix_zero]; exact HL.out⟩
  case round =>
    obtain ⟨k, hk, rfl, hkp, hr⟩ := hrel
    by_cases hkz : k < Z
    · have hkl : k < (u8s L).length := by rw [u8s_length, hZ.out]; exact hkz
      have hm := mix_at (digs N Z) (u8s L) k hRl.out hkl
      have hc := hr.cell k _ (hm.trans (u8s_at (by rw [u8s_length] at hkl; exact hkl)))
      have hf := hr.frozen k
      have hdk : Hid ((digs N Z)[k]? = some (.int .u8 (dig N k : Nat))) := digs_at hkz
      have DK := hide (DW.out k (by omega))
      obtain ⟨y, hy⟩ : ∃ y, y = dig N k := ⟨_, rfl⟩
      rw [← hy] at hdk DK
      have HK := hide hkp; have HR := hide hr
      clear hkp hr hm hkl hy
      have k0 : (0 : Int) ≤ (k : Int) := by omega
      have k1 : (k : Int) < (Z : Int) := by omega
      go_wp2_with (go_at_call 25; refine (DK.out _).mono ?_; rintro _ wq ⟨rfl, hq⟩; have hq2 := hq.symm; clear hq; subst hq2)
      go_roundw
      case rel =>
        refine ⟨k + 1, by omega, by go_num, HK.out.setCell (Or.inl rfl) _, ?_⟩
        have h := HR.out.set k (.int .u8 (y : Nat))
        rw [mix_set _ _ _ _ hRl.out hdk.out] at h
        exact h
      case measure => refine leftOf_lt ?_ ?_ <;> simp only [intOf] <;> omega
    · have ek : k = Z := by omega
      have hr2 : RowL wr gl 5 (digs N Z) := by
        have h := mix_all (digs N Z) (u8s L) hRl.out
        rw [u8s_length, hZ.out] at h
        rw [ek, h] at hr; exact hr
      have kz : ¬ (k : Int) < (Z : Int) := by omega
      have own0 : OwnS wr 5 (.slice (some ⟨gl, 0, none⟩) Z Z) (digs N Z) := by
        have h := hr2.own (by rw [digs_length]; simp [maxLen]; omega)
        rw [digs_length] at h
        exact h
      have row0 := hkp.row HW.out.row hpg
      have nums0 := hkp.own HW.out.own (fun g hg e => by
        have e' : g = gl := e
        subst e'
        exact HW.out.own.ne_type HL.out (by decide) hg)
      have each0 : ∀ (i : Nat) (sv : Value), ns[i]? = some sv → (∃ m, m ≤ 70000 ∧ OwnS wr 5 sv (digs (i / 4 * 4) m) ∧ (∀ g, sv.ownBlock = some g → (Value.slice (some ⟨gl, 0, none⟩) Z Z).ownBlock = some g → m ≤ Z)) ∧ (∀ k, sv.ownBlock = some k → (∃ j : Nat, ns[j]? = some sv) ∨ k = gl ∨ w.heap.size ≤ k) := by
        intro i sv hs
        obtain ⟨m, h1, h2⟩ := HW.out.each i sv hs
        refine ⟨⟨m, h1, hkp.own h2 (fun g hg e => hfresh.out i sv hs (by rw [hg]; exact congrArg some e)), fun g hg e => ?_⟩, fun k _ => Or.inl ⟨i, hs⟩⟩
        simp [Value.ownBlock] at e
        subst e
        exact absurd hg (hfresh.out i sv hs)
      have K0 := hide (hkp.mono (Y := fun q => q = p ∨ q = gl ∨ d.bytes.ownBlock = some q) (fun q hq => Or.inr (Or.inl hq)))
      have O0 := hide own0; have R0 := hide row0; have N0 := hide nums0; have E0 := hide each0
      clear hkp hr hr2 own0 row0 nums0 each0 c3
      go_wp2_with fail
      go_loopw [1, 6] (fun v x wr => ∃ (j c : Nat) (vj : Value) (nj : List Value), j ≤ 4 ∧ Hid (c = Z + j) ∧ x = .int .i64 j ∧ OwnS wr 5 v (digs N c) ∧ RowL wr p 29 ((d.withBytes vj).row vn) ∧ OwnS wr 27 vj nj ∧ Hid (nj.length = N + j) ∧
          (∀ (i : Nat) (sv : Value), nj[i]? = some sv → (∃ m, m ≤ 70000 ∧ OwnS wr 5 sv (digs (i / 4 * 4) m) ∧ (∀ g, sv.ownBlock = some g → v.ownBlock = some g → m ≤ c)) ∧ (∀ k, sv.ownBlock = some k → (∃ j : Nat, ns[j]? = some sv) ∨ k = gl ∨ w.heap.size ≤ k)) ∧
          Kp (fun q => q = p ∨ q = gl ∨ d.bytes.ownBlock = some q) w wr ∧ (∀ q, v.ownBlock = some q → q = gl ∨ w.heap.size ≤ q) ∧ (∀ q, vj.ownBlock = some q → d.bytes.ownBlock = some q ∨ w.heap.size ≤ q))
        (fun _ x _ => leftOf 4 (intOf x).toNat)
      case atStart => exact ⟨0, Z, d.bytes, ns, by omega, rfl, rfl, O0.out, R0.out, N0.out, hN, E0.out, K0.out, by intro q hq; simp [Value.ownBlock] at hq; exact Or.inl hq.symm, fun q hq => Or.inl hq⟩
      case round =>
        obtain ⟨j, c, vj, nj, hj4, hcc, rfl, hv, hrow, hnj, hnl, heach, hkp, hvb, hvjb⟩ := hrel
        by_cases hj : j < 4
        · obtain ⟨aj, cj, hshj⟩ := hnj.shape
          rw [hnl.out] at hshj
          subst hshj
          obtain ⟨a1, k1, hsh1⟩ := hv.shape
          rw [digs_length] at hsh1
          subst hsh1
          have hc2 : c ≤ 4100 := by have := hcc.out; omega
          have d3 := hrow.cell 1 _ rfl
          have f3 := hrow.frozen 1
          have DK := hide (DW.out c (by omega))
          have hdg := hide (digs_succ N c)
          obtain ⟨y, hy⟩ : ∃ y, y = dig N c := ⟨_, rfl⟩
          rw [← hy] at DK hdg
          have HV := hide hv; have HR := hide hrow; have HNJ := hide hnj; have HE := hide heach; have HK := hide hkp; have HVB := hide hvb; have HVJ := hide hvjb
          clear hv hrow hnj heach hkp hvb hvjb hy
          go_wp2_with (at_builtin; (refine wpList_app _ rfl (.tmp 33) (.tmp 35) 24 rfl 27 j0 (.slice none 0 0) 24 Tryd.underlying24 hjn hy0 hy1 hy2 rfl _ nj rfl (HNJ.out.alloc _) ⟨wr.heap.size, 0, none⟩ 1 1 [.slice a1 c k1] rfl rfl (news_at _ _ _ _ rfl) (by intro u hu; simp at hu; subst hu; rfl) (by rw [hnl.out]; unfold maxLen; omega) (by rw [hnl.out]; omega) ?_))
          intro vj' w1 happ
          obtain ⟨aj', cj', hs2⟩ := happ.own.shape
          rw [List.length_append, hnl.out] at hs2
          subst hs2
          have hownA := HNJ.out.alloc (.cells #[.slice a1 c k1] 27)
          have hrow1 := happ.other (HR.out.alloc _) (hownA.ne_type (HR.out.alloc _) (by decide))
          have d3' := hrow1.cell 1 _ rfl
          have f3' := hrow1.frozen 1
          have HA := hide happ; have HR1 := hide hrow1; have HOA := hide hownA
          clear happ hrow1 hownA d3 f3
          go_wp2_with (first | (go_at_call 25; refine (DK.out _).mono ?_; rintro _ wq ⟨rfl, hq⟩; have hq2 := hq.symm; clear hq; subst hq2) | (at_builtin; (refine wpList_app _ rfl (.tmp 39) (.tmp 44) 27 rfl 5 i0 (.int .u8 0) 1 Tryd.underlying27 hi hz0 hz1 hz2 rfl _ (digs N c) rfl (((HA.out.keepT HOA.out (HV.out.alloc _) (by decide)).setCell (i := 1) HR1.out (by decide) _).alloc _) ⟨_, 0, none⟩ 1 1 [.int .u8 (y : Nat)] rfl rfl (news_at _ _ _ _ (by simp [World.setCell])) (by intro u hu; simp at hu; subst hu; rfl) (by rw [digs_length]; unfold maxLen; omega) (by rw [digs_length]; omega) ?_)))
          intro v' w2 happ2
          have hownB := ((HA.out.keepT HOA.out (HV.out.alloc (.cells #[.slice a1 c k1] 27)) (by decide)).setCell (i := 1) HR1.out (by decide) (.slice aj' (N + j + 1) cj')).alloc (.cells #[.int .u8 (y : Nat)] 5)
          have HA2 := hide happ2; have HOB := hide hownB
          clear happ2 hownB
          go_wp2
          go_roundw
          case rel =>
            have hsize1 : wr.heap.size ≤ w1.heap.size := Nat.le_trans (by simp) HA.out.size
            refine ⟨j + 1, c + 1, .slice aj' (N + j + 1) cj', nj ++ [.slice a1 c k1], by omega, ?_, by go_num, ?_, ?_, ?_, ?_, ?_, ?_, ?_, ?_⟩
            · show c + 1 = Z + (j + 1)
              rw [hcc.out]; rfl
            · have h := HA2.out.own
              rw [hdg.out]; exact h
            · have h : RowL _ p 29 _ := ((HR1.out.set 1 (.slice aj' (N + j + 1) cj')).alloc (.cells #[.int .u8 (y : Nat)] 5))
              exact HA2.out.other h (HOB.out.ne_type h (by decide))
            · exact HA2.out.keepT HOB.out ((HA.out.own.setCell (i := 1) HR1.out (by decide) (.slice aj' (N + j + 1) cj')).alloc (.cells #[.int .u8 (y : Nat)] 5)) (by decide)
            · show _ = _
              rw [List.length_append, hnl.out]; rfl
            · have carry : ∀ (sv : Value) (m i : Nat), OwnS wr 5 sv (digs i m) → (∀ g, sv.ownBlock = some g → (Value.slice a1 c k1).ownBlock = some g → m ≤ c) → OwnS w2 5 sv (digs i m) ∧ (∀ g, sv.ownBlock = some g → v'.ownBlock = some g → m ≤ c + 1) := by
                intro sv m i ho hc
                have hC := ((HA.out.keepT HOA.out (ho.alloc (.cells #[.slice a1 c k1] 27)) (by decide)).setCell (i := 1) HR1.out (by decide) (.slice aj' (N + j + 1) cj')).alloc (.cells #[.int .u8 (y : Nat)] 5)
                refine ⟨HA2.out.keeps hC (fun g h1 h2 => by rw [digs_length, digs_length]; exact hc g h1 h2), fun g h1 h2 => ?_⟩
                rcases HA2.out.block with hb | hb
                · have := hc g h1 (hb ▸ h2); omega
                · rw [hb] at h2
                  have := hC.lt h1
                  simp only [Option.some.injEq] at h2
                  omega
              intro i sv hs
              rw [List.getElem?_append] at hs
              split at hs
              · obtain ⟨⟨m, h1, h2, h3⟩, h4⟩ := HE.out i sv hs
                exact ⟨⟨m, h1, carry sv m _ h2 h3⟩, h4⟩
              · rename_i hni
                have ei : i = nj.length := by
                  by_cases hi' : i - nj.length = 0
                  · omega
                  · rw [List.getElem?_eq_none (by simp; omega)] at hs; cases hs
                subst ei
                simp at hs
                subst hs
                have ev : nj.length / 4 * 4 = N := by
                  rw [hnl.out]
                  omega
                rw [ev]
                exact ⟨⟨c, by omega, carry _ _ N HV.out (fun _ _ _ => Nat.le_refl _)⟩, fun k hk => Or.inr (HVB.out k hk)⟩
            · refine (((HK.out.alloc _).grown HA.out.grown (fun k hk => ?_)).setCell (Or.inl (Or.inl rfl)) _ |>.alloc _).grown HA2.out.grown (fun k hk => ?_)
              · rcases HVJ.out k hk with h | h
                · exact Or.inl (Or.inr (Or.inr h))
                · exact Or.inr h
              · rcases HVB.out k hk with h | h
                · exact Or.inl (Or.inr (Or.inl h))
                · exact Or.inr h
            · intro q hq
              rcases HA2.out.block with hb | hb
              · exact HVB.out q (hb ▸ hq)
              · rw [hb] at hq
                simp only [Option.some.injEq] at hq
                have := HK.out.size
                right
                rw [← hq]
                refine Nat.le_trans this (Nat.le_trans hsize1 ?_)
                simp
            · intro q hq
              rcases HA.out.block with hb | hb
              · exact HVJ.out q (hb ▸ hq)
              · replace hq := hb.symm.trans hq
                simp only [Option.some.injEq] at hq
                have := HK.out.size
                right
                rw [← hq]
                refine Nat.le_trans this ?_
                simp
          case measure => refine leftOf_lt ?_ ?_ <;> simp only [intOf] <;> omega
        · have hj' : j = 4 := by omega
          subst hj'
          have HV := hide hv; have HR := hide hrow; have HNJ := hide hnj; have HE := hide heach; have HK := hide hkp; have HVJ := hide hvjb
          clear hv hrow hnj heach hkp hvb hvjb
          go_wp2_with fail
          go_end0
          exact ⟨rfl, vj, nj, hnl.out, ⟨HR.out, HNJ.out, fun i sv hs => by obtain ⟨⟨m, h1, h2, _⟩, _⟩ := HE.out i sv hs; exact ⟨m, h1, h2⟩⟩, HK.out, HVJ.out, fun i sv k hs hk => (HE.out i sv hs).2 k hk⟩
end Go.Proofs.YtmfpiodlecapiaaDoor
