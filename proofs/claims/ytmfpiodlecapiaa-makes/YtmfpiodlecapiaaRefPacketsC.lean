/- The document's own packets, walked. -/
import Derived.Test.YtmfpiodlecapiaaRefPacketsW
namespace Go.Proofs.Ytmfpiodlecapiaa
open Go.RowKit Go.Deep

theorem OwnS.drewN {w : World} {e : TypeId} {v : Value} {xs : List Value} (h : OwnS w e v xs) (n : Nat) : OwnS (w.drewN n) e v xs := h
theorem Kp.drewN {X : Nat → Prop} {w w' : World} (h : Kp X w w') (n : Nat) : Kp X w (w'.drewN n) := ⟨h.os, h.tape, h.output, h.size, h.block⟩

set_option maxRecDepth 20000 in
set_option maxHeartbeats 2000000 in
theorem refPackets_core (id n s m p Z N M : Nat) (S : ByteArray) (obj L : List Nat) (hS : Hid (S = strOf obj)) (hSz : S.size = n) (hob : Hid (∀ x ∈ obj, x < 256)) (hon : Hid (obj.length = n)) (hid : id < 65536) (hl : n ≤ 2000)
    (h1 : 1 ≤ s) (h2 : s ≤ 16) (h3 : 1 ≤ m) (h4 : m ≤ 20) (h5 : p ≤ 20) (hL : Hid (Cut.sizes n s m = L)) (hZ : Hid (L.length = Z)) (hZ1 : 1 ≤ Z) (hZ2 : Z ≤ 256) (hLs : Hid (L.sum = N)) (hLb : Hid (∀ k ∈ L, 1 ≤ k ∧ k ≤ m)) (hN : N ≤ 2000) (hM : Hid (M = N * s)) (hnM : Hid (n ≤ M)) (hCB : Hid (Cut.blocks (Cut.pieces n s) m = Z)) (w : World) :
    Calls Try.prog 40 #[.int .i64 id, .string S, .agg #[.int .i64 s, .int .i64 m, .int .i64 p]] w fun e w' =>
      ∃ v, e = .returned (.tuple #[v, .bool true]) ∧ OwnS w' 9 v (strs (Pk.upTo id n s m p L (Pk.filled obj M) Z)) ∧ Below w.heap.size w w' := by
  obtain ⟨i0, hi, hz0, hz1, hz2⟩ := info_parts Try.infoStr
  have hb0 := hide ((Below.refl w.heap.size w).alloc (Nat.le_refl _) (.cells #[.int .i64 s, .int .i64 m, .int .i64 p] 30))
  have hrow := hide (rowL_alloc' w #[.int .i64 s, .int .i64 m, .int .i64 p] 30)
  have e0 := hrow.out.cell 0 _ rfl
  have e1 := hrow.out.cell 1 _ rfl
  have e2 := hrow.out.cell 2 _ rfl
  have PL := hide (fun w => refPlan_walk s m p w)
  rw [planB_true ⟨by omega, by omega, by omega, by omega, by omega, by omega⟩] at PL
  have CW := hide (fun w => refCuts_walk n s m p Z hl h1 h2 h3 h4 hCB w)
  rw [decide_eq_true (show (Z : Int) ≤ 256 by omega)] at CW
  have RB := hide (fun w => refBlocks_walk n s m p hl h1 h2 h3 h4 w)
  rw [hL.out] at RB
  have ZW := hide (fun w => zeros_walk s (by omega) w)
  have hl' : ¬ (2000 : Int) < (n : Int) := by omega
  have hi' : ¬ (65535 : Int) < (id : Int) := by omega
  have hsz := strOf_size
  go_enter Try.func40, Try.ntmps40
  go_wp2_with (first | (go_at_call 34; refine (PL.out _).mono ?_; rintro _ w1 ⟨rfl, hb1⟩; have hr1 := hide (hrow.out.later hb1); have f0 := hr1.out.cell 0 _ rfl; have f1 := hr1.out.cell 1 _ rfl; have f2 := hr1.out.cell 2 _ rfl; replace hb1 := hide hb1) | (go_at_call 56; refine (CW.out _).mono ?_; rintro _ w2 ⟨rfl, hb2⟩; have hr2 := hide (hr1.out.later hb2); have g0 := hr2.out.cell 0 _ rfl; have g1 := hr2.out.cell 1 _ rfl; have g2 := hr2.out.cell 2 _ rfl; replace hb2 := hide hb2) | (go_at_call 35; refine (RB.out _).mono ?_; rintro _ w3 ⟨v3, rfl, ho3, hx3, hb3⟩; clear hx3; obtain ⟨gL, capL, curL, ev3, hrl3, hl3a, hl3b, hl3c, hl3d⟩ := ho3.open' (by rw [i64s_length, hZ.out]; exact hZ1); rw [i64s_length, hZ.out] at ev3; subst ev3; have hr3 := hide (hr2.out.later hb3); have j0 := hr3.out.cell 0 _ rfl; replace hb3 := hide hb3; replace hrl3 := hide hrl3; replace hl3d := hide hl3d; clear ho3 hl3a hl3b hl3c) | (go_at_call 57; refine (ZW.out _).mono ?_; rintro _ w4 ⟨rfl, hb4⟩; replace hb4 := hide hb4))
  have HBA := hide (((hb0.out.trans (hb1.out.mono (by simp))).trans (hb2.out.mono (Nat.le_trans (by simp) hb1.out.size))).trans (hb3.out.mono (Nat.le_trans (by simp) (Nat.le_trans hb1.out.size hb2.out.size))))
  have HB4 := hide (HBA.out.trans (hb4.out.mono HBA.out.size))
  have HP4 := hide (hr3.out.later hb4.out)
  have HL4 := hide (hrl3.out.later hb4.out)
  have hrest : Hid (S ++ strOf (List.replicate s 0) = strOf (restL obj s 0)) := by
    show _ = _
    rw [hS.out, strOf_append, restL_zero]
  have hsum0 : Hid ((L.take 0).sum = 0) := by show _ = _; simp
  have hLK : Hid (∀ z, z < Z → 1 ≤ L[z]?.getD 0 ∧ L[z]?.getD 0 ≤ m) := by
    intro z hz
    have hz' : z < L.length := by rw [hZ.out]; exact hz
    have e : L[z]?.getD 0 = L[z] := by simp [hz']
    rw [e]; exact hLb.out _ (List.getElem_mem hz')
  have hsuc : Hid (∀ z, z < Z → (L.take (z + 1)).sum = (L.take z).sum + L[z]?.getD 0 ∧ (L.take (z + 1)).sum ≤ N) := by
    intro z hz
    have hz' : z < L.length := by rw [hZ.out]; exact hz
    refine ⟨sum_take_succ (getD_some hz'), ?_⟩
    have := sum_take_le L (z + 1)
    rw [hLs.out] at this
    exact this
  have hupl : Hid (∀ z, z ≤ Z → (strs (Pk.upTo id n s m p L (Pk.filled obj M) z)).length ≤ 7120) := by
    intro z hz
    rw [strs_length, Pk.upTo_length _ _ _ _ _ _ _ z (by rw [hZ.out]; exact hz)]
    have h8 := sum_take_le L z
    rw [hLs.out] at h8
    have h9 : z * p ≤ 256 * 20 := Nat.mul_le_mul (by omega) h5
    omega
  have hCl : Hid (∀ z, z < Z → curL[z]? = some (.int .i64 ((L[z]?.getD 0 : Nat) : Int))) := by
    intro z hz
    exact take_at hl3d.out (i64s_at (by rw [hZ.out]; exact hz))
  have hblk : Hid (∀ z, z < Z → (Pk.blkAt (Pk.filled obj M) L s z).length = L[z]?.getD 0 * s) := by
    intro z hz
    exact blk_length (by rw [hZ.out]; exact hz) hLs.out hM.out (Pk.filled_length (by rw [hon.out]; exact hnM.out))
  clear e0 e1 e2 f0 f1 f2 g0 g1 g2 j0 hr1 hr2 hr3 hb0 hb1 hb2 hb3 hb4 hrow PL CW RB ZW HBA hrl3 hl3d hCB hL hLb
  rw [hrest.out]
  go_loopw [9, 11, 12] (fun vo rs x wr => ∃ z : Nat, z ≤ Z ∧ x = .int .i64 z ∧ rs = .string (strOf (restL obj s ((L.take z).sum))) ∧ OwnS wr 9 vo (strs (Pk.upTo id n s m p L (Pk.filled obj M) z)) ∧ (∀ k, vo.ownBlock = some k → w4.heap.size ≤ k) ∧ Below w4.heap.size w4 wr)
    (fun _ _ x _ => leftOf Z (intOf x).toNat)
  case atStart => exact ⟨0, by omega, rfl, by rw [hsum0.out], ownS_nil _ _, by intro k hk; simp [Value.ownBlock] at hk, Below.refl _ _⟩
  case round =>
    obtain ⟨z, hzZ, rfl, rfl, hoo, hok, hbo⟩ := hrel
    by_cases hz : z < Z
    · have z1 : (z : Int) < (Z : Int) := by omega
      have z0 : (0 : Int) ≤ (z : Int) := by omega
      obtain ⟨hK1, hK2⟩ := hLK.out z hz
      obtain ⟨hs1, hs2⟩ := hsuc.out z hz
      have hS1 := hide hs1
      have hbl := hide (hblk.out z hz)
      have hPS := hide (psOf_ok rfl (filled_lt hob.out M) (hblk.out z hz))
      have hcl := hCl.out z hz
      have hpsr : Hid (∀ i, i < L[z]?.getD 0 → (psOf (Pk.filled obj M) L s z)[i]? = some ((restL obj s ((L.take z).sum + i)).take s)) := by
        intro i hi'
        refine psOf_rest hi' ?_
        rw [hM.out]
        exact Nat.mul_le_mul_right s (by omega)
      have hup : Hid (Pk.upTo id n s m p L (Pk.filled obj M) (z + 1) = Pk.upTo id n s m p L (Pk.filled obj M) z ++ Pk.ofBlock id n s m p z (L[z]?.getD 0) (Pk.blkAt (Pk.filled obj M) L s z)) := Pk.upTo_succ _ _ _ _ _ _ _ _
      have hul := hide (hupl.out z hzZ)
      have hOB : Hid (∀ q, q < L[z]?.getD 0 + p → (Pk.ofBlock id n s m p z (L[z]?.getD 0) (Pk.blkAt (Pk.filled obj M) L s z))[q]? = some (Pk.packet id n s m p z q (gather (psOf (Pk.filled obj M) L s z) (rowL (L[z]?.getD 0) q) s (L[z]?.getD 0)))) := by
        intro q hq
        rw [gather_piece (blk := Pk.blkAt (Pk.filled obj M) L s z) hPS.out (fun i hi' => by rw [psOf_at hi']; rfl) (by omega) (by omega)]
        exact Pk.ofBlock_at hq
      have hOl : Hid ((Pk.ofBlock id n s m p z (L[z]?.getD 0) (Pk.blkAt (Pk.filled obj M) L s z)).length = L[z]?.getD 0 + p) := Pk.ofBlock_length _ _ _ _ _ _ _ _
      have hpl : Hid ((psOf (Pk.filled obj M) L s z).length = L[z]?.getD 0) := psOf_length _ _ _ _
      obtain ⟨U, hU⟩ : ∃ U, U = Pk.upTo id n s m p L (Pk.filled obj M) z := ⟨_, rfl⟩
      obtain ⟨OB, hOBe⟩ : ∃ OB, OB = Pk.ofBlock id n s m p z (L[z]?.getD 0) (Pk.blkAt (Pk.filled obj M) L s z) := ⟨_, rfl⟩
      obtain ⟨PS, hPSe⟩ : ∃ PS, PS = psOf (Pk.filled obj M) L s z := ⟨_, rfl⟩
      obtain ⟨x0, hx0⟩ : ∃ x0, x0 = (L.take z).sum := ⟨_, rfl⟩
      rw [← hU] at hup hul hoo
      rw [← hOBe] at hup hOB hOl
      rw [← hPSe] at hPS hpsr hOB hpl
      rw [← hx0] at hS1 hpsr ⊢
      obtain ⟨K, hKK⟩ : ∃ K, K = L[z]?.getD 0 := ⟨_, rfl⟩
      rw [← hKK] at hK1 hK2 hS1 hbl hPS hcl hpsr hOB hOl hpl
      clear hs1 hs2 hU hOBe hPSe hKK hbl hx0
      have HOO := hide hoo; have HOK := hide hok; have HBO := hide hbo
      have HPo := hide (HP4.out.later hbo); have HLo := hide (HL4.out.later hbo)
      clear hoo hok hbo
      go_wp2_with fail
      go_loopw [11, 13, 14] (fun rs vb x wi => ∃ i : Nat, i ≤ K ∧ x = .int .i64 i ∧ rs = .string (strOf (restL obj s (x0 + i))) ∧ OwnS wi 9 vb (strs (PS.take i)) ∧ (∀ k, vb.ownBlock = some k → wr.heap.size ≤ k) ∧ Below wr.heap.size wr wi)
        (fun _ _ x _ => leftOf K (intOf x).toNat)
      case atStart => exact ⟨0, by omega, rfl, by rw [Nat.add_zero], ownS_nil _ _, by intro k hk; simp [Value.ownBlock] at hk, Below.refl _ _⟩
      case round =>
        obtain ⟨i, hiK, rfl, rfl, hvb, hvk, hbi⟩ := hrel
        have HPi := hide (HPo.out.later hbi); have HLi := hide (HLo.out.later hbi)
        have d0 := HPi.out.cell 0 _ rfl
        have dl := HLi.out.cell z _ hcl
        by_cases hii : i < K
        · have i1 : (i : Int) < (K : Int) := by omega
          have hPi : Hid (PS.take (i + 1) = PS.take i ++ [(restL obj s (x0 + i)).take s]) := take_snoc' (hpsr.out i hii)
          have hrl := restL_length obj s (x0 + i)
          rw [hon.out] at hrl
          have hst1 : Hid (s ≤ n - (x0 + i) * s → (restL obj s (x0 + i)).drop s = restL obj s (x0 + (i + 1))) := fun h => by rw [restL_step (by rw [hon.out]; exact h)]; rfl
          have hst2 : Hid (n - (x0 + i) * s < s → (restL obj s (x0 + i)).drop s ++ List.replicate (s - (n - (x0 + i) * s)) 0 = restL obj s (x0 + (i + 1))) := fun h => by
            have e := restL_last (obj := obj) (s := s) (x := x0 + i) (by rw [hon.out]; exact h)
            rw [hon.out] at e
            exact e
          obtain ⟨r2, hr2⟩ : ∃ r2, r2 = n - (x0 + i) * s := ⟨_, rfl⟩
          rw [← hr2] at hrl hst1 hst2
          clear hr2
          obtain ⟨rl, hrle⟩ : ∃ rl, rl = restL obj s (x0 + i) := ⟨_, rfl⟩
          rw [← hrle] at hrl hst1 hst2 hPi ⊢
          clear hrle
          obtain ⟨r, hr⟩ : ∃ r, r = r2 + s := ⟨_, rfl⟩
          rw [← hr] at hrl
          have hRz : (strOf rl).size = r := by rw [strOf_size, hrl]
          have hx1 : (strOf rl).extract 0 s = strOf (rl.take s) := by rw [strOf_extract]; rfl
          have hx2 : (strOf rl).extract s r = strOf (rl.drop s) := by rw [strOf_extract, ← hrl, List.take_length]
          have hR2z : (strOf (rl.drop s)).size = r2 := by rw [strOf_size, List.length_drop, hrl]; omega
          obtain ⟨R, hR⟩ : ∃ R, R = strOf rl := ⟨_, rfl⟩
          obtain ⟨R1, hR1⟩ : ∃ R1, R1 = strOf (rl.take s) := ⟨_, rfl⟩
          obtain ⟨R2, hR2⟩ : ∃ R2, R2 = strOf (rl.drop s) := ⟨_, rfl⟩
          rw [← hR] at hRz hx1 hx2 ⊢
          rw [← hR1] at hx1
          rw [← hR2] at hx2 hR2z
          have HR1 := hide hR1; have HR2 := hide hR2
          have hsr : (s : Int) ≤ (r : Int) := by omega
          have hs0 : (0 : Int) ≤ (s : Int) := by omega
          have hvl : Hid ((strs (PS.take i)).length ≤ 20) := by show _ ≤ _; rw [strs_length, List.length_take]; omega
          have HVB := hide hvb; have HVK := hide hvk; have HBI := hide hbi
          clear hvb hvk hbi hR hR1 hR2 hrl hr
          go_wp2_with (at_builtin; refine wpList_app _ rfl (.tmp 62) (.tmp 67) 56 rfl 9 i0 (.string ⟨#[]⟩) 16 Try.underlying56 hi hz0 hz1 hz2 rfl _ (strs (PS.take i)) rfl (HVB.out.alloc _) ⟨wr.heap.size, 0, none⟩ 1 1 [.string R1] rfl rfl (news_at _ _ _ _ rfl) (by intro u hu; simp at hu; subst hu; rfl) (by have := hvl.out; unfold maxLen; omega) (by have := hvl.out; omega) ?_)
          intro vb' w5 happ
          have HA := hide happ
          have hsz5 := HBI.out.size
          have HB5 := hide (HA.out.below ((HBI.out).alloc (by exact hsz5) _) (by simp; omega) HVK.out)
          have HP5 := hide (HPo.out.later HB5.out)
          have k0 := HP5.out.cell 0 _ rfl
          clear happ
          go_wp2_with fail
          case roundEnd =>
            have hge : s ≤ r2 := by omega
            go_roundw
            case rel =>
              refine ⟨i + 1, by omega, by go_num, ?_, ?_, HA.out.from (by simp; omega) HVK.out, HB5.out⟩
              · rw [HR2.out, hst1.out hge]
              · have h := HA.out.own
                rw [hPi.out, strs_append]
                rw [HR1.out] at h
                exact h
            case measure => refine leftOf_lt ?_ ?_ <;> simp only [intOf] <;> omega
          have hlt : r2 < s := by assumption
          have ZW2 := zeros_walk (s - r2) (by omega) w5
          rw [show ((s - r2 : Nat) : Int) = (s : Int) - (r2 : Int) by omega] at ZW2
          refine ZW2.mono ?_
          rintro _ w6 ⟨rfl, hb6⟩
          have HB6 := hide hb6
          clear hb6 ZW2
          go_wp2_with fail
          go_roundw
          case rel =>
            refine ⟨i + 1, by omega, by go_num, ?_, ?_, HA.out.from (by simp; omega) HVK.out, HB5.out.trans (HB6.out.mono HB5.out.size)⟩
            · rw [HR2.out, strOf_append, hst2.out hlt]
            · have h := HA.out.own
              rw [hPi.out, strs_append]
              rw [HR1.out] at h
              exact h.later HB6.out
          case measure => refine leftOf_lt ?_ ?_ <;> simp only [intOf] <;> omega
        · have i1 : ¬ (i : Int) < (K : Int) := by omega
          have ei : i = K := by omega
          subst ei
          have hPSl : Hid (PS.take i = PS) := List.take_of_length_le (by rw [hpl.out]; exact Nat.le_refl _)
          rw [hPSl.out] at hvb
          have hsl : Hid ((strs PS).length = i) := by show _ = _; rw [strs_length, hpl.out]
          obtain ⟨gb, capb, curb, ev, hrb, hb1, hb2, hb3, hb4⟩ := hvb.open' (by rw [hsl.out]; exact hK1)
          rw [hsl.out] at ev
          subst ev
          have hcb : Hid (∀ k, k < i → curb[k]? = some (.string (strOf (PS[k]?.getD [])))) := fun k hk => take_at hb4 (strs_at (by rw [hpl.out]; exact hk))
          have hgb := hvk gb rfl
          have HGB : Hid (u9.ownBlock ≠ some gb) := fun e => by have := HOO.out.lt e; omega
          have HOI := hide (HOO.out.later hbi)
          have HRB := hide hrb
          have HBI := hide hbi
          have HOK2 : Hid (∀ k, u9.ownBlock = some k → w4.heap.size ≤ k) := HOK.out
          obtain ⟨T, hT⟩ : ∃ T : Nat, (i : Int) + (p : Int) = (T : Int) := ⟨i + p, by omega⟩
          have hT2 : Hid (T = i + p) := by show T = i + p; omega
          clear hvb hvk hbi hrb hb1 hb2 hb3 hb4 hgb hsl
          go_wp2_with fail
          go_loopw [9, 15] (fun vo x wq => ∃ q : Nat, q ≤ T ∧ x = .int .i64 q ∧ OwnS wq 9 vo (strs (U ++ OB.take q)) ∧ Kp (fun k => u9.ownBlock = some k) wr wq ∧ (∀ k, vo.ownBlock = some k → u9.ownBlock = some k ∨ wr.heap.size ≤ k))
            (fun _ x _ => leftOf T (intOf x).toNat)
          case atStart => exact ⟨0, by omega, rfl, by simpa using HOI.out, Kp.refl _ _, fun k hk => Or.inl hk⟩
          case round =>
            obtain ⟨q, hqT, rfl, hvo, hkp, hvk⟩ := hrel
            have HPq := hide (hkp.row HPi.out (HOI.out.ne_type HPi.out (by decide)))
            have HLq := hide (hkp.row HLi.out (HOI.out.ne_type HLi.out (by decide)))
            have HBq := hide (hkp.row HRB.out HGB.out)
            have m0 := HPq.out.cell 0 _ rfl
            have m1 := HPq.out.cell 1 _ rfl
            have m2 := HPq.out.cell 2 _ rfl
            have ml := HLq.out.cell z _ hcl
            by_cases hq : q < T
            · have q1 : (q : Int) < (T : Int) := by omega
              have hqi : q < i + p := by have := hT2.out; omega
              have hOt : Hid (OB.take (q + 1) = OB.take q ++ [Pk.packet id n s m p z q (gather PS (rowL i q) s i)]) := take_snoc' (hOB.out q hqi)
              have HD := hide (fun w => head_walk id n s m p z q hid (by omega) (by omega) (by omega) (by omega) (by omega) (by omega) w)
              have PW := hide (fun w hr => piece_walk gb capb i q s curb PS hPS hK1 (by omega) (by omega) (by omega) w hr hcb)
              have hstr : Hid (strOf (Pk.head id n s m p z q) ++ strOf (gather PS (rowL i q) s i) = strOf (Pk.packet id n s m p z q (gather PS (rowL i q) s i))) := by
                show _ = _
                rw [strOf_append]; rfl
              have hz1' : (strOf (Pk.head id n s m p z q)).size = 10 := by rw [strOf_size]; rfl
              have hz2' : (strOf (gather PS (rowL i q) s i)).size = s := by rw [strOf_size]; exact (gather_ok hPS.out (rowL_lt (by omega) (by omega)) i (Nat.le_refl _)).1
              have hvl : Hid ((strs (U ++ OB.take q)).length ≤ 7200) := by
                show _ ≤ _
                have := hul.out
                rw [strs_length] at this
                rw [strs_length, List.length_append, List.length_take]
                omega
              obtain ⟨G1, hG1⟩ : ∃ G1, G1 = strOf (Pk.head id n s m p z q) := ⟨_, rfl⟩
              obtain ⟨G2, hG2⟩ : ∃ G2, G2 = strOf (gather PS (rowL i q) s i) := ⟨_, rfl⟩
              rw [← hG1] at HD hstr hz1'
              rw [← hG2] at PW hstr hz2'
              have HVO := hide hvo; have HKP := hide hkp; have HVK := hide hvk
              clear hvo hkp hvk hG1 hG2 hsz
              go_wp2_with fail
              go_quiet (fail)
              go_wp2_with (first | (go_at_call 58; refine (HD.out _).mono ?_; rintro _ w6 ⟨rfl, hb6⟩; replace hb6 := hide hb6) | (go_at_call 59; refine (PW.out _ (RowL.later (HBq.out.drewN nq) hb6.out)).mono ?_; rintro _ w7 ⟨rfl, hb7⟩; replace hb7 := hide hb7) | (at_builtin; refine wpList_app _ rfl (.tmp 97) (.tmp 109) 56 rfl 9 i0 (.string ⟨#[]⟩) 16 Try.underlying56 hi hz0 hz1 hz2 rfl _ (strs (U ++ OB.take q)) rfl ((((HVO.out.drewN nq).later hb6.out).later hb7.out).alloc _) ⟨w7.heap.size, 0, none⟩ 1 1 [.string (G1 ++ G2)] rfl rfl (news_at _ _ _ _ rfl) (by intro u hu; simp at hu; subst hu; rfl) (by have := hvl.out; unfold maxLen; omega) (by have := hvl.out; omega) ?_))
              intro vo' w8 happ
              have HA := hide happ
              clear happ
              go_wp2_with fail
              go_roundw
              case rel =>
                have hK7 := ((HKP.out.drewN nq).below hb6.out).below hb7.out
                refine ⟨q + 1, by omega, by go_num, ?_, (hK7.alloc _).grown HA.out.grown (fun k hk => HVK.out k hk), fun k hk => ?_⟩
                · have h := HA.out.own
                  rw [hOt.out, ← List.append_assoc, strs_append]
                  rw [hstr.out] at h
                  exact h
                · rcases HA.out.block with e | e
                  · exact HVK.out k (e ▸ hk)
                  · rw [e] at hk
                    simp only [Option.some.injEq] at hk
                    have := hK7.size
                    right
                    rw [← hk]
                    refine Nat.le_trans this ?_
                    simp
              case measure => refine leftOf_lt ?_ ?_ <;> simp only [intOf] <;> omega
            · have q1 : ¬ (q : Int) < (T : Int) := by omega
              have eq : q = T := by omega
              have hOe : Hid (OB.take q = OB) := List.take_of_length_le (by rw [hOl.out, eq, hT2.out]; exact Nat.le_refl _)
              rw [hOe.out, ← hup.out] at hvo
              have HVO := hide hvo; have HKP := hide hkp; have HVK := hide hvk
              clear hvo hkp hvk
              go_wp2_with fail
              go_quiet (fail)
              go_wp2_with fail
              go_roundw
              case rel =>
                refine ⟨z + 1, by omega, by go_num, by rw [hS1.out], HVO.out, fun k hk => ?_, ?_⟩
                · rcases HVK.out k hk with h | h
                  · exact HOK2.out k h
                  · exact Nat.le_trans HBO.out.size (Nat.le_trans HBI.out.size h)
                · have h := (HBO.out.trans (HBI.out.mono HBO.out.size)).trans (HKP.out.toBelow (B := w4.heap.size) HOK2.out (Nat.le_trans HBO.out.size HBI.out.size))
                  exact ⟨h.os, h.tape, h.output, h.size, h.block⟩
              case measure => refine leftOf_lt ?_ ?_ <;> simp only [intOf] <;> omega
    · have z1 : ¬ (z : Int) < (Z : Int) := by omega
      have ez : z = Z := by omega
      subst ez
      have HOO := hide hoo; have HBO := hide hbo
      clear hoo hok hbo
      go_wp2_with fail
      go_ret2
      exact ⟨_, rfl, HOO.out, HB4.out.trans (HBO.out.mono HB4.out.size)⟩

theorem refPackets_walk (id n s m p : Nat) (obj : List Nat) (S : ByteArray) (hS : S = strOf obj) (hob : ∀ x ∈ obj, x < 256) (hon : obj.length = n) (hid : id < 65536) (hl : n ≤ 2000) (h1 : 1 ≤ s) (h2 : s ≤ 16) (h3 : 1 ≤ m) (h4 : m ≤ 20) (h5 : p ≤ 20) (hc : Cut.blocks (Cut.pieces n s) m ≤ 256) (w : World) :
    Calls Try.prog 40 #[.int .i64 id, .string S, .agg #[.int .i64 s, .int .i64 m, .int .i64 p]] w fun e w' =>
      ∃ v, e = .returned (.tuple #[v, .bool true]) ∧ OwnS w' 9 v (strs (Pk.packets id obj s m p)) ∧ Below w.heap.size w w' := by
  have hP : Pk.packets id obj s m p = Pk.upTo id n s m p (Cut.sizes n s m) (Pk.filled obj (Cut.pieces n s * s)) (Cut.blocks (Cut.pieces n s) m) := by
    unfold Pk.packets
    rw [hon, Cut.sizes_length]
  rw [hP]
  exact refPackets_core id n s m p _ (Cut.pieces n s) _ S obj (Cut.sizes n s m) hS (by rw [hS, strOf_size, hon]) hob hon hid hl h1 h2 h3 h4 h5 rfl (Cut.sizes_length _ _ _) (Cut.blocks_pos (Cut.pieces_pos _ _) h3) hc (Cut.sizes_sum h3) (Cut.sizes_bounds h3) (Cut.pieces_le hl h1) rfl (Cut.pieces_cover h1) rfl w
end Go.Proofs.Ytmfpiodlecapiaa
