/- Package letters: bytes written down as a text. -/
import Derived.Test.YtmfpiodlecapiaaDoorBuilderS
import Derived.Test.YtmfpiodlecapiaaDoorFault
namespace Go.Proofs.YtmfpiodlecapiaaDoor
open Go.RowKit Go.Deep

/- The letters by their numbers, as they stand in the variable. -/
def Alpha (w : World) : Prop := ∀ i, i < 64 → w.cell? ⟨0, i, none⟩ = some (.int .i32 (Tx.rn i : Nat))
theorem Alpha.later {w w' : World} (h : Alpha w) (hb : Below w.heap.size w w') : Alpha w' := fun i hi => cell_later hb (h i hi)
theorem Alpha.size {w : World} (h : Alpha w) : 0 < w.heap.size := World.block_lt_of_cell? w _ (h 0 (by omega))
theorem Alpha.below {w w' : World} {B : Nat} (h : Alpha w) (hb : Below B w w') (hB : 0 < B) : Alpha w' := fun i hi => by
  have e := hb.block 0 hB
  have := h i hi
  unfold World.cell? at this ⊢
  rw [e]
  exact this

theorem low_bits (x c : Nat) (hx : x < 1048576) (hc : c ≤ 13) : bits .and .i64 (x : Int) (wrap64 (wrap64 ((2 : Int) ^ c) - 1)) = ((x % 2 ^ c : Nat) : Int) := by
  have hp : 2 ^ c ≤ 2 ^ 13 := Nat.pow_le_pow_right (by decide) hc
  have hp0 : 0 < 2 ^ c := Nat.two_pow_pos c
  have e1 : wrap64 ((2 : Int) ^ c) = ((2 ^ c : Nat) : Int) := by
    have : ((2 : Int) ^ c) = ((2 ^ c : Nat) : Int) := by simp
    rw [this]
    unfold wrap64
    omega
  have e2 : wrap64 (((2 ^ c : Nat) : Int) - 1) = ((2 ^ c - 1 : Nat) : Int) := by
    rw [show ((2 ^ c : Nat) : Int) - 1 = ((2 ^ c - 1 : Nat) : Int) by omega]
    unfold wrap64
    omega
  rw [e1, e2, i64_and x (2 ^ c - 1) (by omega) (by omega), Nat.and_two_pow_sub_one_eq_mod]
set_option maxRecDepth 20000 in
theorem lowest_walk (x c : Nat) (hx : x < 1048576) (hc : c ≤ 13) (w : World) :
    Calls Tryd.prog 31 #[.int .i64 x, .int .i64 c] w fun e w' => e = .returned (.int .i64 ((x % 2 ^ c : Nat) : Int)) ∧ w' = w := by
  have hb := low_bits x c hx hc
  go_enter Tryd.func31, Tryd.ntmps31
  go_wp2
  go_ret
  exact ⟨by show Ending.returned (.int .i64 ((x : Int) % 2 ^ c)) = _; simp, rfl⟩

set_option maxRecDepth 20000 in
set_option maxHeartbeats 2000000 in
theorem write_walk (b off n cap : Nat) (d : List Nat) (hd : Hid (d.length = n)) (hn : n ≤ 100000000) (hdb : Hid (∀ x ∈ d, x < 256)) (w : World) (ha : Alpha w) (hc : Hid (∀ j, j < n → w.cell? ⟨b, off + j, none⟩ = some (.int .u8 ((d[j]?.getD 0 : Nat) : Int)))) :
    Calls Tryd.prog 17 #[.slice (some ⟨b, off, none⟩) n cap] w fun e w' => e = .returned (.string (strOf (Tx.textN d))) ∧ Below w.heap.size w w' := by
  have HA := hide ha
  have HS := hide ha.size
  clear ha
  have HB0 := hide (bld_new w)
  have HW0 := hide ((Below.refl w.heap.size w).alloc (Nat.le_refl _) (.cells #[.pointer none, .slice none 0 0] 73))
  go_enter Tryd.func17, Tryd.ntmps17
  go_wp2_with fail
  go_loopw [4, 5, 10] (fun x y z wr => ∃ m e c X : Nat, m ≤ n ∧ c < 6 ∧ 6 * e + c = 8 * m ∧ Hid (X = Tx.val (Tx.bit8 d) (6 * e) c) ∧ x = .int .i64 X ∧ y = .int .i64 c ∧ z = .int .i64 m ∧ Bld wr w.heap.size (u8s (Tx.pre d e)) ∧ Below w.heap.size w wr)
    (fun _ _ z _ => leftOf n (intOf z).toNat)
  case atStart => exact ⟨0, 0, 0, 0, by omega, by omega, by omega, rfl, rfl, rfl, rfl, HB0.out, HW0.out⟩
  case round =>
    obtain ⟨m, e, c, X, hm, hc6, hec, hX, rfl, rfl, rfl, hbl, hbw⟩ := hrel
    have HBL := hide hbl; have HBW := hide hbw
    clear hbl hbw
    by_cases hmn : m < n
    · have m0 : (0 : Int) ≤ (m : Int) := by omega
      have m1 : (m : Int) < (n : Int) := by omega
      have hcm := cell_later HBW.out (hc.out m hmn)
      have hD : d[m]?.getD 0 < 256 := getD_lt hdb.out (by rw [hd.out]; exact hmn)
      have hv8 := Tx.val_byte d m hD
      obtain ⟨D, hDD⟩ : ∃ D, D = d[m]?.getD 0 := ⟨_, rfl⟩
      rw [← hDD] at hcm hD hv8
      have hXl : X < 64 := by rw [hX.out]; exact Nat.lt_of_lt_of_le (Tx.val_lt (Tx.bit8_lt d) _ c) (Nat.pow_le_pow_right (by decide) (by omega : c ≤ 6))
      have hY : Hid (X * 256 + D = Tx.val (Tx.bit8 d) (6 * e) (c + 8)) := by
        show _ = _
        rw [Tx.val_add, ← hX.out, hec, hv8]
      have hor : bits .or .i64 ((X : Int) * 256) (D : Int) = ((X * 256 + D : Nat) : Int) := by
        have h1 := i64_or (X * 256) D (by omega) (by omega)
        rw [or_low X (k := 8) hD] at h1
        rw [show ((X * 256 : Nat) : Int) = (X : Int) * 256 by omega] at h1
        exact h1
      obtain ⟨Y, hYY⟩ : ∃ Y, Y = X * 256 + D := ⟨_, rfl⟩
      rw [← hYY] at hY hor
      have hYl : Y < 16640 := by omega
      clear hYY hDD hv8
      go_wp2_with fail
      go_loopw [4, 5] (fun x y wr => ∃ e c X : Nat, c ≤ 13 ∧ 6 * e + c = 8 * (m + 1) ∧ Hid (X = Tx.val (Tx.bit8 d) (6 * e) c) ∧ x = .int .i64 X ∧ y = .int .i64 c ∧ Bld wr w.heap.size (u8s (Tx.pre d e)) ∧ Below w.heap.size w wr)
        (fun _ y _ => (intOf y).toNat)
      case atStart => exact ⟨e, c + 8, Y, by omega, by omega, hY.out, rfl, by go_num, HBL.out, HBW.out⟩
      case round =>
        obtain ⟨e, c, X, hc13, hec, hX, rfl, rfl, hbl, hbw⟩ := hrel
        have HBL := hide hbl; have HBW := hide hbw
        clear hbl hbw
        by_cases h6 : 6 ≤ c
        · have c1 : (6 : Int) ≤ (c : Int) := by omega
          obtain ⟨q, rfl⟩ : ∃ q, c = q + 6 := ⟨c - 6, by omega⟩
          have hX6 : X / 2 ^ q = Tx.val (Tx.bit8 d) (6 * e) 6 := by rw [hX.out, Nat.add_comm q 6, Tx.val_div (Tx.bit8_lt d)]
          have hXm : Hid (X % 2 ^ q = Tx.val (Tx.bit8 d) (6 * e + 6) q) := by show _ = _; rw [hX.out, Nat.add_comm q 6, Tx.val_mod (Tx.bit8_lt d)]
          have hXl : X < 1048576 := by rw [hX.out]; exact Nat.lt_of_lt_of_le (Tx.val_lt (Tx.bit8_lt d) _ _) (Nat.pow_le_pow_right (by decide) (by omega : q + 6 ≤ 20))
          have hL6 : Tx.val (Tx.bit8 d) (6 * e) 6 < 64 := Tx.val_lt (Tx.bit8_lt d) _ 6
          obtain ⟨V, hV⟩ : ∃ V, V = Tx.val (Tx.bit8 d) (6 * e) 6 := ⟨_, rfl⟩
          rw [← hV] at hX6 hL6
          have hq0 : (0 : Int) ≤ (q : Int) := by omega
          have hsub : ((q : Int) + 6) - 6 = (q : Int) := by omega
          have hdiv : (X : Int) / 2 ^ q = (V : Int) := by rw [← hX6]; simp
          have v0 : (0 : Int) ≤ (V : Int) := by omega
          have v1 : (V : Int) < 64 := by omega
          have hav := (HA.out.later HBW.out) V hL6
          have hVh : Hid (V = Tx.val (Tx.bit8 d) (6 * e) 6) := hV
          have c2 : (6 : Int) ≤ (q : Int) + 6 := by omega
          have hpl := Tx.pre_length d e
          have WR := hide (writeRune_walk w.heap.size V (Tx.pre d e).length hL6 (u8s (Tx.pre d e)) (hide (u8s_length _)) (by omega) wr HBL.out)
          generalize (Tx.rn V : Nat) = r at hav WR
          clear hV hX6
          have LW := hide (lowest_walk X q hXl (by omega))
          obtain ⟨X', hX'⟩ : ∃ X', X' = X % 2 ^ q := ⟨_, rfl⟩
          rw [← hX'] at LW hXm
          clear hX'
          go_wp2_with (first | (go_at_call 30; refine WR.out.mono ?_; rintro _ w1 ⟨⟨_, rfl⟩, hbl1, hbw1⟩; replace hbl1 := hide hbl1; replace hbw1 := hide hbw1) | (go_at_call 31; refine (LW.out _).mono ?_; rintro _ wq ⟨rfl, hq⟩; have hq2 := hq.symm; clear hq; subst hq2))
          go_roundw
          case rel =>
            refine ⟨e + 1, q, X', by omega, by omega, ?_, rfl, rfl, ?_, HBW.out.trans hbw1.out⟩
            · show _ = _
              rw [hXm.out]; rfl
            · have h := hbl1.out
              rw [Tx.pre_succ, ← hVh.out]
              unfold u8s at h ⊢
              rw [List.map_append]; exact h
          case measure => simp only [intOf]; omega
        · have c1 : ¬ (6 : Int) ≤ (c : Int) := by omega
          go_wp2_with fail
          go_roundw
          case rel => exact ⟨m + 1, e, c, X, by omega, by omega, hec, hX.out, rfl, rfl, by go_num, HBL.out, HBW.out⟩
          case measure => refine leftOf_lt ?_ ?_ <;> simp only [intOf] <;> omega
    · have em : m = n := by omega
      have m1 : ¬ (m : Int) < (n : Int) := by omega
      by_cases h0 : 0 < c
      · have c1 : (0 : Int) < (c : Int) := by omega
        obtain ⟨q, hq⟩ : ∃ q, c + q = 6 := ⟨6 - c, by omega⟩
        have hv : X * 2 ^ q = Tx.val (Tx.bit8 d) (6 * e) 6 := by
          have h := Tx.val_add (Tx.bit8 d) (6 * e) c q
          rw [hq, ← hX.out, Tx.val_zero (a := 6 * e + c) (fun i _ => Tx.bit8_beyond (by rw [hd.out]; omega)), Nat.add_zero] at h
          exact h.symm
        have hL6 : Tx.val (Tx.bit8 d) (6 * e) 6 < 64 := Tx.val_lt (Tx.bit8_lt d) _ 6
        obtain ⟨V, hV⟩ : ∃ V, V = Tx.val (Tx.bit8 d) (6 * e) 6 := ⟨_, rfl⟩
        rw [← hV] at hv hL6
        have hVh : Hid (V = Tx.val (Tx.bit8 d) (6 * e) 6) := hV
        have hq0 : (0 : Int) ≤ (q : Int) := by omega
        have hsub : (6 : Int) - (c : Int) = (q : Int) := by omega
        have hmul : (X : Int) * 2 ^ q = (V : Int) := by rw [← hv]; simp
        have v0 : (0 : Int) ≤ (V : Int) := by omega
        have v1 : (V : Int) < 64 := by omega
        have hav := (HA.out.later HBW.out) V hL6
        have hpl := Tx.pre_length d e
        have WR := hide (writeRune_walk w.heap.size V (Tx.pre d e).length hL6 (u8s (Tx.pre d e)) (hide (u8s_length _)) (by omega) wr HBL.out)
        generalize (Tx.rn V : Nat) = r at hav WR
        have hT : Hid (Tx.pre d e ++ Tx.lett V = Tx.textN d) := by
          show _ = _
          unfold Tx.textN
          rw [hd.out, show (8 * n + 5) / 6 = e + 1 by omega, Tx.pre_succ, ← hVh.out]
        clear hV hv
        have hbT : ∀ x ∈ Tx.textN d, x < 256 := Tx.pre_lt d _
        go_wp2_with (first | (go_at_call 30; refine WR.out.mono ?_; rintro _ w1 ⟨⟨_, rfl⟩, hbl1, hbw1⟩; replace hbw1 := hide hbw1; rw [← u8s_append, hT.out] at hbl1; replace hbl1 := hide hbl1) | (go_at_call 32; refine (bString_walk w.heap.size (Tx.textN d) hbT _ hbl1.out).mono ?_; rintro _ w2 ⟨rfl, hb2⟩; replace hb2 := hide hb2))
        go_ret
        exact ⟨rfl, (HBW.out.trans hbw1.out).trans hb2.out⟩
      · have c1 : ¬ (0 : Int) < (c : Int) := by omega
        have hT : Tx.pre d e = Tx.textN d := by
          unfold Tx.textN
          rw [hd.out, show (8 * n + 5) / 6 = e by omega]
        rw [hT] at HBL
        clear hT
        have hbT : ∀ x ∈ Tx.textN d, x < 256 := Tx.pre_lt d _
        go_wp2_with (go_at_call 32; refine (bString_walk w.heap.size (Tx.textN d) hbT _ HBL.out).mono ?_; rintro _ w2 ⟨rfl, hb2⟩; replace hb2 := hide hb2)
        go_ret
        exact ⟨rfl, HBW.out.trans hb2.out⟩
end Go.Proofs.YtmfpiodlecapiaaDoor
