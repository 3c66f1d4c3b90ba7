/- The document's own bytes of a text: Untext of any text. -/
import Derived.Test.YtmfpiodlecapiaaDoorRefUntext
import Derived.Test.YtmfpiodlecapiaaDoorUntextSpec
namespace Go.Proofs.YtmfpiodlecapiaaDoor
open Go.RowKit Go.Deep

theorem i64s_append (a b : List Nat) : i64s (a ++ b) = i64s a ++ i64s b := by simp [i64s]
set_option maxRecDepth 20000 in
set_option maxHeartbeats 4000000 in
theorem untext_walk (S : ByteArray) (N : Nat) (hS : Hid (S.size = N)) (hN : N ≤ 10000000) (w : World) :
    Calls Tryd.prog 10 #[.string S] w fun e w' => e = .returned (.tuple #[.string (strOf (Tx.untext (bytesOf S)).1), .int .i64 ((Tx.untext (bytesOf S)).2 : Nat)]) ∧ Below w.heap.size w w' := by
  obtain ⟨i0, hi, hz0, hz1, hz2⟩ := info_parts Tryd.infoInt
  obtain ⟨j0, hj, hy0, hy1, hy2⟩ := info_parts Tryd.infoByte
  have hsz : S.size = N := hS.out
  have hbl : Hid ((bytesOf S).length = N) := by show _ = _; rw [bytesOf_length]; exact hS.out
  obtain ⟨A, hA⟩ : ∃ A, A = Tx.untext (bytesOf S) := ⟨_, rfl⟩
  rw [← hA]
  have HA : Hid (A = Tx.untext (bytesOf S)) := hA
  clear hA
  go_enter Tryd.func10, Tryd.ntmps10
  go_wp2_with fail
  go_loopw [4, 5] (fun v y wr => ∃ (pos : Nat) (t : List Nat), pos ≤ N ∧ t.length ≤ pos ∧ Tx.Upto (bytesOf S) t pos ∧ y = .int .i64 pos ∧ OwnS wr 3 v (i64s (Tx.bitsL t)) ∧ (∀ k, v.ownBlock = some k → w.heap.size ≤ k) ∧ Below w.heap.size w wr) (fun _ y _ => leftOf N (intOf y).toNat)
  case atStart => exact ⟨0, [], by omega, by simp, Tx.upto_zero _, rfl, ownS_nil _ _, fun k hk => by simp [Value.ownBlock] at hk, Below.refl _ _⟩
  case round =>
    obtain ⟨pos, t, hpN, htp, hup, rfl, hown, hvb, hbw⟩ := hrel
    have HO := hide hown; have HV := hide hvb; have HB := hide hbw; have HU := hide hup
    clear hown hvb hbw hup
    by_cases hp : pos < N
    · have p1 : (pos : Int) < (N : Int) := by omega
      have hpl : pos < (bytesOf S).length := by rw [hbl.out]; exact hp
      have RN := hide (refNumber_walk S N pos hsz (by omega) hp)
      have hss := Tx.sizeAt_pos (bytesOf S) pos
      have hsl := Tx.sizeAt_le (bytesOf S) pos hpl
      rw [hbl.out] at hsl
      rcases Tx.numAt_range (bytesOf S) pos with hn | hn | ⟨hn0, hn1⟩
      · have HN := hide (HU.out.none hpl hn)
        rw [hn] at RN
        generalize Tx.sizeAt (bytesOf S) pos = D at RN hss hsl
        clear hn hpl
        go_wp2_with (go_at_call 24; refine (RN.out _).mono ?_; rintro _ wq ⟨rfl, hq⟩; have hq2 := hq.symm; clear hq; subst hq2)
        go_ret2
        refine ⟨?_, HB.out⟩
        rw [HA.out, Tx.untext_none (by unfold Tx.readText; rw [HN.out]; rfl)]
        rfl
      · have HU2 := hide (HU.out.blank hpl hn)
        have hs1 : Tx.sizeAt (bytesOf S) pos = 1 := by
          unfold Tx.sizeAt
          refine if_neg (fun hg => ?_)
          have h1 := hg.1
          unfold Tx.numAt at hn
          rw [if_neg (by omega), if_neg (by omega), if_neg (by omega), if_pos hg] at hn
          have := hg.2.2
          omega
        rw [hn, hs1] at RN
        clear hn hpl hs1 hss hsl
        go_wp2_with (go_at_call 24; refine (RN.out _).mono ?_; rintro _ wq ⟨rfl, hq⟩; have hq2 := hq.symm; clear hq; subst hq2)
        go_loopw [4, 8] (fun v x wq => x = .int .i64 32 ∧ OwnS wq 3 v (i64s (Tx.bitsL t)) ∧ (∀ k, v.ownBlock = some k → w.heap.size ≤ k) ∧ Below w.heap.size w wq) (fun _ _ _ => 0)
        case atStart => exact ⟨rfl, HO.out, HV.out, HB.out⟩
        case round =>
          obtain ⟨rfl, hown, hvb, hbw⟩ := hrel
          have HO := hide hown; have HV := hide hvb; have HB := hide hbw
          clear hown hvb hbw
          go_wp2_with fail
          go_roundw
          case rel => exact ⟨pos + 1, t, by omega, by omega, HU2.out, by go_num, HO.out, HV.out, HB.out⟩
          case measure => refine leftOf_lt ?_ ?_ <;> simp only [intOf] <;> omega
      · obtain ⟨n, hn⟩ : ∃ n : Nat, Tx.numAt (bytesOf S) pos = (n : Int) := ⟨(Tx.numAt (bytesOf S) pos).toNat, by omega⟩
        have HU2 := hide (HU.out.letter hpl hn)
        have hn64 : n < 64 := by omega
        have en2 : ((n : Int) == -2) = false := by simp
        rw [hn] at RN
        generalize Tx.sizeAt (bytesOf S) pos = D at RN hss hsl HU2
        clear hn hpl hn0 hn1
        go_wp2_with (go_at_call 24; refine (RN.out _).mono ?_; rintro _ wq ⟨rfl, hq⟩; have hq2 := hq.symm; clear hq; subst hq2)
        have hn0 : (0 : Int) ≤ (n : Int) := by omega
        go_loopw [4, 8] (fun v x wq => ∃ j K : Nat, j ≤ 6 ∧ Hid (K = 32 / 2 ^ j) ∧ x = .int .i64 K ∧ OwnS wq 3 v (i64s (Tx.bitsL t ++ Tx.six n j)) ∧ (∀ k, v.ownBlock = some k → w.heap.size ≤ k) ∧ Below w.heap.size w wq) (fun _ x _ => (intOf x).toNat)
        case atStart => exact ⟨0, 32, by omega, rfl, rfl, by rw [Tx.six_zero, List.append_nil]; exact HO.out, HV.out, HB.out⟩
        case round =>
          obtain ⟨j, K, hj6, hK, rfl, hown, hvb, hbw⟩ := hrel
          have HO := hide hown; have HV := hide hvb; have HB := hide hbw
          clear hown hvb hbw
          by_cases hj : j < 6
          · have hK2 : K = 2 ^ (5 - j) := by
              rw [hK.out]
              have : j = 0 ∨ j = 1 ∨ j = 2 ∨ j = 3 ∨ j = 4 ∨ j = 5 := by omega
              rcases this with rfl | rfl | rfl | rfl | rfl | rfl <;> rfl
            have hKp : 0 < K := by rw [hK2]; exact Nat.two_pow_pos _
            have hKl : K ≤ 32 := by rw [hK.out]; exact Nat.div_le_self _ _
            have k1 : (0 : Int) < (K : Int) := by omega
            have k2 : ¬ (K : Int) = 0 := by omega
            obtain ⟨Q, hQ⟩ : ∃ Q, Q = n / K := ⟨_, rfl⟩
            obtain ⟨bt, hbt⟩ : ∃ bt, bt = Q % 2 := ⟨_, rfl⟩
            have HBT : Hid (Tx.six n (j + 1) = Tx.six n j ++ [bt]) := by
              show _ = _
              rw [Tx.six_succ, ← hK2, ← hQ, ← hbt]
            have e1 : (n : Int) / (K : Int) = (Q : Int) := by rw [hQ]; simp
            have hQl : Q < 64 := by rw [hQ]; exact Nat.lt_of_le_of_lt (Nat.div_le_self _ _) hn64
            have e2 : (Q : Int) % 2 = (bt : Int) := by omega
            have hbl2 : bt < 2 := by omega
            obtain ⟨K', hK'⟩ : ∃ K', K' = K / 2 := ⟨_, rfl⟩
            have e3 : (K : Int) / 2 = (K' : Int) := by omega
            have HK' : Hid (K' = 32 / 2 ^ (j + 1)) := by
              show _ = _
              rw [hK', hK.out, div_step]
            have hK'l : K' < K := by omega
            clear hQ hbt hK' hK2
            obtain ⟨M, hM⟩ : ∃ M, M = 6 * t.length + j := ⟨_, rfl⟩
            have hml : Hid ((i64s (Tx.bitsL t ++ Tx.six n j)).length = M) := by show _ = _; rw [i64s_length, List.length_append, Tx.bitsL_length, Tx.six_length, hM]
            have hM2 : M ≤ 100000000 := by omega
            clear hM
            obtain ⟨av, cv, hsh⟩ := HO.out.shape
            rw [hml.out] at hsh
            subst hsh
            go_wp2_with (at_builtin; (refine wpList_app _ rfl (.tmp 38) (.tmp 43) 57 rfl 3 i0 (.int .i64 0) 8 Tryd.underlying57 hi hz0 hz1 hz2 rfl _ (i64s (Tx.bitsL t ++ Tx.six n j)) rfl (HO.out.alloc _) ⟨wr.heap.size, 0, none⟩ 1 1 [.int .i64 (bt : Nat)] rfl rfl (news_at _ _ _ _ rfl) (by intro u hu; simp at hu; subst hu; rfl) (by rw [hml.out]; unfold maxLen; omega) (by rw [hml.out]; omega) ?_))
            intro v' w2 happ
            replace happ := hide happ
            go_wp2_with fail
            go_roundw
            case rel =>
              have hws : w.heap.size ≤ wr.heap.size := HB.out.size
              refine ⟨j + 1, K', by omega, HK'.out, by go_num, ?_, ?_, ?_⟩
              · rw [HBT.out, ← List.append_assoc, i64s_append]
                exact happ.out.own
              · exact happ.out.from (by simp; omega) HV.out
              · exact happ.out.below (HB.out.alloc hws _) (by simp; omega) HV.out
            case measure => simp only [intOf]; omega
          · have ej : j = 6 := by omega
            subst ej
            have hK0 : K = 0 := by rw [hK.out]
            subst hK0
            clear hK
            go_wp2_with fail
            go_roundw
            case rel =>
              refine ⟨pos + D, t ++ [n], by omega, by simp; omega, HU2.out, by go_num, ?_, HV.out, HB.out⟩
              rw [Tx.bitsL_snoc]
              exact HO.out
            case measure => refine leftOf_lt ?_ ?_ <;> simp only [intOf] <;> omega
    · have p1 : ¬ (pos : Int) < (N : Int) := by omega
      have HN := hide (HU.out.ends (by rw [hbl.out]; exact hp))
      clear HU
      have HRT : Hid (Tx.readText (bytesOf S) = if Tx.restOk t then some (Tx.bytesN t) else none) := by
        show _ = _
        unfold Tx.readText
        rw [HN.out]
        rfl
      clear HN
      obtain ⟨L, hL⟩ : ∃ L, L = 6 * t.length := ⟨_, rfl⟩
      obtain ⟨m, hm⟩ : ∃ m, m = L / 8 := ⟨_, rfl⟩
      obtain ⟨Wh, hWh⟩ : ∃ Wh, Wh = m * 8 := ⟨_, rfl⟩
      have hLl : L ≤ 60000000 := by omega
      have hWL : Wh ≤ L := by omega
      have hWL8 : L - Wh < 8 := by omega
      have hml : Hid ((i64s (Tx.bitsL t)).length = L) := by show _ = _; rw [i64s_length, Tx.bitsL_length, hL]
      obtain ⟨av, cv, hsh⟩ := HO.out.shape
      rw [hml.out] at hsh
      have e1 : (L : Int) / 8 = (m : Int) := by omega
      have e2 : (m : Int) * 8 = (Wh : Int) := by omega
      have HLL : Hid (L = 6 * t.length) := hL
      have HMM : Hid (m = L / 8) := hm
      have HWW : Hid (Wh = m * 8) := hWh
      have HBT : Hid (∀ k, k < L → ∃ g c cur, Value.slice av L cv = .slice (some ⟨g, 0, none⟩) L c ∧ RowL wr g 3 cur ∧ cur[k]? = some (.int .i64 (Tx.bit6 t k : Nat))) := by
        intro k hk
        obtain ⟨g, cap, cur, hv, hrg, hc1, hc2, hc3, hc4⟩ := HO.out.open' (by rw [hml.out]; omega)
        rw [hml.out] at hv hc4
        refine ⟨g, cap, cur, hsh.symm.trans hv, hrg, take_at (xs := i64s (Tx.bitsL t)) (by rw [hml.out]; exact hc4) ?_⟩
        simp only [i64s, List.getElem?_map, Tx.bitsL_at (show k < 6 * t.length by rw [← hL]; exact hk), Option.map_some]
      clear hL hm hWh
      subst hsh
      go_wp2_with fail
      go_loopw [10] (fun x wq => ∃ k : Nat, Wh ≤ k ∧ k ≤ L ∧ Hid (∀ i, Wh ≤ i → i < k → Tx.bit6 t i = 0) ∧ (Wh < k → L - Wh < 6) ∧ x = .int .i64 k ∧ wq = wr) (fun x _ => leftOf L (intOf x).toNat)
      case atStart => exact ⟨Wh, Nat.le_refl _, hWL, fun i h1 h2 => by omega, fun h => by omega, rfl, rfl⟩
      case round =>
        obtain ⟨k, hk1, hk2, hz, h6, rfl, rfl⟩ := hrel
        by_cases hk : k < L
        · have k1 : (k : Int) < (L : Int) := by omega
          have k0 : (0 : Int) ≤ (k : Int) := by omega
          obtain ⟨g, c, cur, hv, hrg, hcu⟩ := HBT.out k hk
          injection hv with hv1 hv2 hv3
          subst hv1 hv3
          have hc := hrg.cell k _ hcu
          have hbk := Tx.bit6_lt t k
          have hsubi : (L : Int) - (Wh : Int) = ((L - Wh : Nat) : Int) := by omega
          by_cases hb0 : Tx.bit6 t k = 0
          · rw [hb0] at hc
            by_cases hs6 : L - Wh < 6
            · have s6 : ¬ (6 : Int) ≤ ((L - Wh : Nat) : Int) := by omega
              clear hrg hcu
              go_wp2_with fail
              go_roundw
              case rel =>
                refine ⟨k + 1, by omega, by omega, fun i h1 h2 => ?_, fun _ => hs6, by go_num, by simp⟩
                by_cases e : i = k
                · subst e; exact hb0
                · exact hz.out i h1 (by omega)
              case measure => refine leftOf_lt ?_ ?_ <;> simp only [intOf] <;> omega
            · have s6 : (6 : Int) ≤ ((L - Wh : Nat) : Int) := by omega
              clear hrg hcu
              go_wp2_with fail
              go_ret2
              refine ⟨?_, HB.out⟩
              have hno : ¬ Tx.restOk t := fun h => by
                have := h.1
                have := HLL.out; have := HMM.out; have := HWW.out
                omega
              rw [HA.out, Tx.untext_none (by rw [HRT.out, if_neg hno])]
              rfl
          · have b1 : Tx.bit6 t k = 1 := by omega
            rw [b1] at hc
            clear hrg hcu
            go_wp2_with fail
            go_ret2
            refine ⟨?_, HB.out⟩
            have hno : ¬ Tx.restOk t := fun h => by
              have h2 := h.2
              have hl := HLL.out; have hm := HMM.out; have hw := HWW.out
              have := Tx.val_zero_at h2 (k - Wh) (by omega)
              rw [show 8 * (6 * t.length / 8) + (k - Wh) = k by omega, b1] at this
              omega
            rw [HA.out, Tx.untext_none (by rw [HRT.out, if_neg hno])]
            rfl
        · have ek : k = L := by omega
          have k1 : ¬ (k : Int) < (L : Int) := by omega
          have hok : Tx.restOk t := by
            have hl := HLL.out; have hm := HMM.out; have hw := HWW.out
            refine ⟨by omega, Tx.val_zero (fun i hi => hz.out _ (by omega) (by omega))⟩
          rw [if_pos hok] at HRT
          clear hok hz h6 ek
          have e3 : (Wh : Int) / 8 = (m : Int) := by have := HWW.out; omega
          have hm2 : m ≤ 60000000 := by have := HWW.out; omega
          have HR0 := hide (rowL_made wr (.int .u8 0) m 5)
          have HB0 := hide (HB.out.alloc HB.out.size (.cells (madeCells #[.int .u8 0] m) 5))
          have HBU : Hid (∀ o, ∀ k, k < L → ∃ g c cur, Value.slice av L cv = .slice (some ⟨g, 0, none⟩) L c ∧ RowL (wr.alloc o) g 3 cur ∧ cur[k]? = some (.int .i64 (Tx.bit6 t k : Nat))) := fun o k hk => by
            obtain ⟨g, c, cur, hv, hrg, hcu⟩ := HBT.out k hk
            exact ⟨g, c, cur, hv, hrg.alloc o, hcu⟩
          obtain ⟨G, hG⟩ : ∃ G, G = wr.heap.size := ⟨_, rfl⟩
          have HGs : Hid (w.heap.size ≤ G) := by rw [hG]; exact HB.out.size
          have HBV := hide (HBU.out (.cells (madeCells #[.int .u8 0] m) 5))
          go_wp2_with (at_make; refine wpList_mk _ rfl _ _ 27 rfl 5 j0 (.int .u8 0) Tryd.underlying27 hj hy0 hy1 rfl .i64 .i64 m m rfl rfl (by omega) (by rw [hy2]; omega) (by omega) ?_)
          rw [← hG] at HR0 ⊢
          generalize wr.alloc (.cells (madeCells #[.int .u8 0] m) 5) = w0 at HR0 HB0 HBV ⊢
          clear hG HBU HBT HB HO HV
          go_loopw [12] (fun x wq => ∃ k : Nat, k ≤ Wh ∧ x = .int .i64 k ∧ RowL wq G 5 (u8s (Tx.part t m k)) ∧ Kp (fun q => q = G) w0 wq ∧ Below w.heap.size w wq) (fun x _ => leftOf Wh (intOf x).toNat)
          case atStart =>
            refine ⟨0, by omega, rfl, ?_, Kp.refl _ _, HB0.out⟩
            rw [Tx.part_zero]
            have h := HR0.out
            simpa [u8s] using h
          case round =>
            obtain ⟨k, hk, rfl, hr, hkp, hbw⟩ := hrel
            by_cases hkw : k < Wh
            · have k1 : (k : Int) < (Wh : Int) := by omega
              obtain ⟨q, hq⟩ : ∃ q, q = k / 8 := ⟨_, rfl⟩
              obtain ⟨r, hrr⟩ : ∃ r, r = k % 8 := ⟨_, rfl⟩
              have hqm : q < m := by have := HWW.out; omega
              have hk8 : k = 8 * q + r := by omega
              have hr8 : r < 8 := by omega
              have eq1 : (k : Int) / 8 = (q : Int) := by omega
              have q0 : (0 : Int) ≤ (q : Int) := by omega
              have q1 : (q : Int) < (m : Int) := by omega
              have k0 : (0 : Int) ≤ (k : Int) := by omega
              have kL : (k : Int) < (L : Int) := by omega
              obtain ⟨g, c, cur, hv, hrg, hcu⟩ := HBV.out k (by omega)
              injection hv with hv1 hv2 hv3
              have hgG : g ≠ G := hrg.ne_of_type HR0.out (by decide)
              have hrg2 := hkp.row hrg hgG
              have hc := hrg2.cell k _ hcu
              have hbk := Tx.bit6_lt t k
              have hpa : (u8s (Tx.part t m k))[q]? = some (.int .u8 (Tx.val (Tx.bit6 t) (8 * q) r : Nat)) := by
                rw [u8s_at (by rw [Tx.part_length]; exact hqm), Tx.part_at hqm, show min 8 (k - 8 * q) = r by omega]
                rfl
              have hd := hr.cell q _ hpa
              have hf := hr.frozen q
              have hVl : Tx.val (Tx.bit6 t) (8 * q) r < 128 := Nat.lt_of_lt_of_le (Tx.val_lt (Tx.bit6_lt t) _ r) (Nat.pow_le_pow_right (by decide) (by omega : r ≤ 7))
              have HST : Hid ((u8s (Tx.part t m k)).set q (.int .u8 (2 * Tx.val (Tx.bit6 t) (8 * q) r + Tx.bit6 t k : Nat)) = u8s (Tx.part t m (k + 1))) := by
                show _ = _
                rw [← Tx.part_set hk8 hr8 hqm]
                unfold u8s
                rw [List.map_set]
              generalize Tx.val (Tx.bit6 t) (8 * q) r = V at hd hVl HST
              generalize Tx.bit6 t k = bt at hc hbk HST
              obtain ⟨Y, hY⟩ : ∃ Y, Y = 2 * V + bt := ⟨_, rfl⟩
              rw [← hY] at HST
              have hYl : Y < 256 := by omega
              have u1 := wrap_u8_in ((V : Int) * 2) (by omega) (by omega)
              have u2 := wrap_u8_in (bt : Int) (by omega) (by omega)
              have u3 : IntKind.u8.wrap ((V : Int) * 2 + (bt : Int)) = (Y : Int) := by rw [wrap_u8_in _ (by omega) (by omega)]; omega
              have u4 : (V : Int) * 2 + (bt : Int) = (Y : Int) := by omega
              subst hv1 hv3
              have HR := hide hr; have HK := hide hkp; have HBW := hide hbw
              clear hr hkp hbw hrg hrg2 hcu hpa hq hrr hk8 hY
              go_wp2_with fail
              go_region
              go_wp2_with fail
              go_roundw
              case rel =>
                refine ⟨k + 1, by omega, by go_num, ?_, (HK.out.setCell (Or.inl rfl) _).drew, (HBW.out.setCell HGs.out _).drew⟩
                have h := (HR.out.set q (.int .u8 (Y : Nat))).drew
                rw [HST.out] at h
                exact h
              case measure => refine leftOf_lt ?_ ?_ <;> simp only [intOf] <;> omega
            · have ek : k = Wh := by omega
              have k1 : ¬ (k : Int) < (Wh : Int) := by omega
              have hr2 : RowL wr G 5 (u8s (Tx.bytesN t)) := by
                have h := hr
                have e4 : m = 6 * t.length / 8 := by rw [HMM.out, HLL.out]
                have e5 : Wh = 8 * (6 * t.length / 8) := by have := HWW.out; omega
                rw [ek, e5, e4, Tx.part_all] at h
                exact h
              have hbln : (Tx.bytesN t).length = m := by rw [Tx.bytesN_length, HMM.out, HLL.out]
              have hcv := conv_row (cap := m) hr2 hbln
              have hby := bytesOf_strOf (Tx.bytesN_lt t)
              have hssz : (strOf (Tx.bytesN t)).size ≤ 100000000 := by rw [strOf_size, hbln]; omega
              have RR := hide (refRead_walk (strOf (Tx.bytesN t)) hssz wr)
              rw [hby] at RR
              have HBW := hide hbw
              have HBY := hide hby
              have HR2 := hide hr2
              have HBN := hide hbln
              generalize hB' : Tx.bytesN t = l at *
              clear hr hr2 hkp hbw hbln hby hssz HR0 HB0 HBV
              go_wp2_with fail
              go_at_call 7
              refine RR.out.mono ?_
              rintro _ w3 ⟨hres, hb3⟩
              have HB3 : Hid (Below w.heap.size w w3) := by show Below _ _ _; exact HBW.out.trans (hb3.mono HBW.out.size)
              have HB4 : Hid (∀ o, Below w.heap.size w (w3.alloc o)) := fun o => HB3.out.alloc HB3.out.size o
              rcases hres with ⟨hp, rfl⟩ | ⟨hp, rfl⟩
              · unfold saidOf saidV
                rw [Tx.untext_ok HRT.out hp] at HA
                have hcv2 : ∀ o, (convert 27 9 (.slice (some ⟨G, 0, none⟩) m m)).run Tryd.prog (w3.alloc o) = .ok (.string (strOf l)) (w3.alloc o) := fun o => conv_row ((HR2.out.later hb3).alloc o) HBN.out
                go_wp2_with fail
                go_ret2
                exact ⟨by rw [HA.out]; rfl, HB4.out _⟩
              · unfold noSaid saidV
                rw [Tx.untext_bad HRT.out hp] at HA
                go_wp2_with fail
                go_ret2
                exact ⟨by rw [HA.out]; rfl, HB4.out _⟩
end Go.Proofs.YtmfpiodlecapiaaDoor
