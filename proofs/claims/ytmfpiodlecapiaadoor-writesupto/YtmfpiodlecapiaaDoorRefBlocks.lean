/- What the reference's calls on plans and blocks answer. -/
import Derived.Test.YtmfpiodlecapiaaDoorBlocksWalks
import Derived.Test.YtmfpiodlecapiaaDoorApp
namespace Go.Proofs.YtmfpiodlecapiaaDoor
open Go.RowKit

theorem Cut.pieces_eq {len s n : Nat} (hs : 1 ≤ s) (hn : 1 ≤ n) (h1 : len ≤ n * s) (h2 : n = 1 ∨ (n - 1) * s < len) : Cut.pieces len s = n := by
  unfold Cut.pieces
  rcases h2 with rfl | h2
  · have : (len + s - 1) / s ≤ 1 := by rw [Nat.div_le_iff_le_mul (by omega)]; omega
    omega
  · have e : (len + s - 1) / s = n := by
      apply Nat.le_antisymm
      · rw [Nat.div_le_iff_le_mul (by omega)]; omega
      · rw [Nat.le_div_iff_mul_le (by omega)]
        obtain ⟨k, rfl⟩ : ∃ k, n = k + 1 := ⟨n - 1, by omega⟩
        rw [Nat.succ_mul]
        simp at h2
        omega
    omega
theorem Cut.blocks_eq {n m z : Nat} (hm : 1 ≤ m) (hn : 1 ≤ n) (hz : 1 ≤ z) (h1 : n ≤ z * m) (h2 : z = 1 ∨ (z - 1) * m < n) : Cut.blocks n m = z := by
  have h := Cut.pieces_eq (len := n) (s := m) (n := z) hm hz h1 h2
  have hp := Cut.blocks_pos hn hm
  unfold Cut.pieces at h
  unfold Cut.blocks at hp ⊢
  omega

theorem refPlan_walk (s m p : Int) (w : World) :
    Calls Tryd.prog 18 #[.agg #[.int .i64 s, .int .i64 m, .int .i64 p]] w fun e w' => e = .returned (.bool (planB s m p)) ∧ Below w.heap.size w w' := by
  have hb0 := hide ((Below.refl w.heap.size w).alloc (Nat.le_refl _) (.cells #[.int .i64 s, .int .i64 m, .int .i64 p] 36))
  by_cases h : planOk s m p
  · rw [planB_true h]
    obtain ⟨a1, a2, a3, a4, a5, a6⟩ := h
    go_enter Tryd.func18, Tryd.ntmps18
    have e : decide (p < 21) = true := decide_eq_true (by omega)
    go_wp2
    go_ret
    exact ⟨rfl, hb0.out⟩
  · rw [planB_false h]
    unfold planOk at h
    have hH := hide h
    clear h
    go_enter Tryd.func18, Tryd.ntmps18
    go_wp2
    all_goals go_ret
    all_goals first | exact ⟨rfl, hb0.out⟩ | (refine ⟨?_, hb0.out⟩; have e : decide (p < 21) = false := decide_eq_false (fun hp => hH.out (by omega)); show Ending.returned (.bool (decide (p < 21))) = _; rw [e])

set_option maxRecDepth 20000 in
set_option maxHeartbeats 1000000 in
theorem refBlocks_walk (len s m p : Nat) (hl : len ≤ 2000) (h1 : 1 ≤ s) (h2 : s ≤ 16) (h3 : 1 ≤ m) (h4 : m ≤ 20) (w : World) :
    Calls Tryd.prog 19 #[.int .i64 len, .agg #[.int .i64 s, .int .i64 m, .int .i64 p]] w fun e w' =>
      ∃ v, e = .returned v ∧ OwnS w' 3 v (i64s (Cut.sizes len s m)) ∧ (∀ k, v.ownBlock = some k → w.heap.size ≤ k) ∧ Below w.heap.size w w' := by
  obtain ⟨i0, hi, hz0, hz1, hz2⟩ := info_parts Tryd.infoInt
  have hb0 := hide ((Below.refl w.heap.size w).alloc (Nat.le_refl _) (.cells #[.int .i64 s, .int .i64 m, .int .i64 p] 36))
  go_enter Tryd.func19, Tryd.ntmps19
  go_wp2
  go_loop [5] (fun x => ∃ n : Nat, 1 ≤ n ∧ n ≤ 2000 ∧ x = .int .i64 n ∧ (n = 1 ∨ (n - 1) * s < len)) (fun x => leftOf 2000 (intOf x).toNat)
  case atStart => exact ⟨1, by omega, by omega, rfl, Or.inl rfl⟩
  case round =>
    obtain ⟨n, hn1, hn2, rfl, hn3⟩ := hrel
    have hp0 : (0 : Int) ≤ (n : Int) * (s : Int) := Int.mul_nonneg (by omega) (by omega)
    have hp1 : (n : Int) * (s : Int) ≤ 32000 := by
      have : n * s ≤ 2000 * 16 := Nat.mul_le_mul hn2 h2
      rw [← Int.natCast_mul]; omega
    by_cases ht : (n : Int) * (s : Int) < (len : Int)
    · have ht' : n * s < len := by exact_mod_cast ht
      have hT := hide ht'; have hN := hide hn3
      clear ht' hn3
      go_wp2
      go_round
      case rel =>
        refine ⟨n + 1, by omega, ?_, by go_num, Or.inr (by simpa using hT.out)⟩
        have : n * 1 ≤ n * s := Nat.mul_le_mul_left _ h1
        have := hT.out
        omega
      case measure =>
        have : n * 1 ≤ n * s := Nat.mul_le_mul_left _ h1
        have := hT.out
        refine leftOf_lt ?_ ?_ <;> simp only [intOf] <;> omega
    · have ht' : len ≤ n * s := by
        have : ¬ (n * s < len) := fun h => ht (by exact_mod_cast h)
        omega
      have hN := hide (Cut.pieces_eq h1 hn1 ht' hn3)
      clear ht' hn3
      go_wp2
      go_loop [6] (fun x => ∃ z : Nat, 1 ≤ z ∧ z ≤ n ∧ x = .int .i64 z ∧ (z = 1 ∨ (z - 1) * m < n)) (fun x => leftOf 2000 (intOf x).toNat)
      case atStart => exact ⟨1, by omega, by omega, rfl, Or.inl rfl⟩
      case round =>
        obtain ⟨z, hz1', hz2', rfl, hz3'⟩ := hrel
        have hq0 : (0 : Int) ≤ (z : Int) * (m : Int) := Int.mul_nonneg (by omega) (by omega)
        have hq1 : (z : Int) * (m : Int) ≤ 40000 := by
          have : z * m ≤ 2000 * 20 := Nat.mul_le_mul (by omega) h4
          rw [← Int.natCast_mul]; omega
        by_cases ht2 : (z : Int) * (m : Int) < (n : Int)
        · have ht' : z * m < n := by exact_mod_cast ht2
          have hT := hide ht'; have hM := hide hz3'
          clear ht' hz3'
          go_wp2
          go_round
          case rel =>
            refine ⟨z + 1, by omega, ?_, by go_num, Or.inr (by simpa using hT.out)⟩
            have : z * 1 ≤ z * m := Nat.mul_le_mul_left _ h3
            have := hT.out
            omega
          case measure =>
            have : z * 1 ≤ z * m := Nat.mul_le_mul_left _ h3
            have := hT.out
            refine leftOf_lt ?_ ?_ <;> simp only [intOf] <;> omega
        · have ht' : n ≤ z * m := by
            have : ¬ (z * m < n) := fun h => ht2 (by exact_mod_cast h)
            omega
          have hZ := hide (Cut.blocks_eq h3 hn1 hz1' ht' hz3')
          clear ht' hz3'
          go_wp2
          have hs : Hid (Cut.sizes len s m = Cut.shareL n z) := by
            show Cut.sizes len s m = Cut.shareL n z
            unfold Cut.sizes; rw [hN.out, hZ.out]
          go_loopw [7, 8] (fun v x wr => ∃ k : Nat, k ≤ z ∧ x = .int .i64 k ∧ OwnS wr 3 v ((i64s (Cut.shareL n z)).take k) ∧ (∀ k, v.ownBlock = some k → w.heap.size ≤ k) ∧ Below w.heap.size w wr)
            (fun _ x _ => leftOf z (intOf x).toNat)
          case atStart => exact ⟨0, by omega, rfl, by simpa using ownS_nil _ _, by intro k hk; simp [Value.ownBlock] at hk, hb0.out⟩
          case round =>
            obtain ⟨k, hk, rfl, hown, hbk, hb⟩ := hrel
            have hlen : (i64s (Cut.shareL n z)).length = z := by rw [i64s_length, Cut.shareL_length]
            have hzn : 0 < z := by omega
            have eq0 : (n : Int) / (z : Int) = ((n / z : Nat) : Int) := by simp
            have hq0 : 0 ≤ (n : Int) / (z : Int) := by rw [eq0]; exact Int.natCast_nonneg _
            have hq : (n : Int) / (z : Int) ≤ 2000 := by
              have : n / z ≤ n := Nat.div_le_self _ _
              rw [eq0]; omega
            have hmod : (n : Int) - (z : Int) * ((n : Int) / (z : Int)) = ((n % z : Nat) : Int) := by
              rw [eq0]
              have := Nat.div_add_mod n z
              have h5 : (z : Int) * ((n / z : Nat) : Int) = ((z * (n / z) : Nat) : Int) := by simp
              rw [h5]; omega
            have hpr0 : 0 ≤ (z : Int) * ((n : Int) / (z : Int)) := Int.mul_nonneg (by omega) hq0
            have hpr1 : (z : Int) * ((n : Int) / (z : Int)) ≤ 2000 := by
              have := Int.natCast_nonneg (n % z)
              omega
            have hE := hide eq0; have hMo := hide hmod
            clear eq0 hmod
            by_cases hkz : k < z
            · have hv : (i64s (Cut.shareL n z))[k]? = some (.int .i64 ((n / z + if k < n % z then 1 else 0 : Nat) : Int)) := by simp [i64s, Cut.shareL, hkz]
              by_cases hm : k < n % z
              · have hm' : (k : Int) < (n : Int) - (z : Int) * ((n : Int) / (z : Int)) := by rw [hMo.out]; omega
                have hO := hide hown; have hBk := hide hbk; have hB := hide hb
                have hV : Hid ((i64s (Cut.shareL n z))[k]? = some (.int .i64 ((n : Int) / (z : Int) + 1))) := by
                  show _ = _
                  rw [hv, if_pos hm, hE.out]; rfl
                clear hown hbk hb hv
                go_wp2_with (at_builtin; refine wpList_app _ rfl _ _ 57 rfl 3 i0 (.int .i64 0) 8 Tryd.underlying57 hi hz0 hz1 hz2 rfl _ _ rfl (hO.out.alloc _) ⟨wr.heap.size, 0, none⟩ 1 1 [.int .i64 ((n : Int) / (z : Int) + 1)] rfl rfl (cell_one_new _ _ _) (by intro u hu; simp at hu; subst hu; rfl) (by simp [maxLen]; omega) (by simp; omega) ?_)
                intro v' w1 happ
                have hA := hide happ
                clear happ
                go_wp2
                go_roundw
                case rel =>
                  have hsz := hB.out.size
                  have hwr : w.heap.size ≤ (wr.alloc (.cells #[.int .i64 ((n : Int) / (z : Int) + 1)] 3)).heap.size := by simp; omega
                  refine ⟨k + 1, by omega, by go_num, ?_, hA.out.from hwr hBk.out, hA.out.below (hB.out.alloc hsz _) hwr hBk.out⟩
                  have := hA.out.own
                  rwa [take_snoc hV.out] at this
                case measure => refine leftOf_lt ?_ ?_ <;> simp only [intOf] <;> omega
              · have hm' : ¬ (k : Int) < (n : Int) - (z : Int) * ((n : Int) / (z : Int)) := by rw [hMo.out]; omega
                have hO := hide hown; have hBk := hide hbk; have hB := hide hb
                have hV : Hid ((i64s (Cut.shareL n z))[k]? = some (.int .i64 ((n : Int) / (z : Int)))) := by
                  show _ = _
                  rw [hv, if_neg hm, hE.out]; rfl
                clear hown hbk hb hv
                go_wp2_with (at_builtin; refine wpList_app _ rfl _ _ 57 rfl 3 i0 (.int .i64 0) 8 Tryd.underlying57 hi hz0 hz1 hz2 rfl _ _ rfl (hO.out.alloc _) ⟨wr.heap.size, 0, none⟩ 1 1 [.int .i64 ((n : Int) / (z : Int))] rfl rfl (cell_one_new _ _ _) (by intro u hu; simp at hu; subst hu; rfl) (by simp [maxLen]; omega) (by simp; omega) ?_)
                intro v' w1 happ
                have hA := hide happ
                clear happ
                go_wp2
                go_roundw
                case rel =>
                  have hsz := hB.out.size
                  have hwr : w.heap.size ≤ (wr.alloc (.cells #[.int .i64 ((n : Int) / (z : Int))] 3)).heap.size := by simp; omega
                  refine ⟨k + 1, by omega, by go_num, ?_, hA.out.from hwr hBk.out, hA.out.below (hB.out.alloc hsz _) hwr hBk.out⟩
                  have := hA.out.own
                  rwa [take_snoc hV.out] at this
                case measure => refine leftOf_lt ?_ ?_ <;> simp only [intOf] <;> omega
            · have e : k = z := by omega
              subst e
              have hO : Hid (OwnS wr 3 u7 (i64s (Cut.sizes len s m))) := by
                show OwnS _ _ _ _
                rw [hs.out, ← List.take_length (l := i64s (Cut.shareL n k)), hlen]; exact hown
              have hBk := hide hbk; have hB := hide hb
              clear hown hbk hb
              go_wp2
              go_ret
              exact ⟨_, rfl, hO.out, hBk.out, hB.out⟩
end Go.Proofs.YtmfpiodlecapiaaDoor
