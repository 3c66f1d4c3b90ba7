/- The document's own text of bytes: a bit, a letter, all of it. -/
import Derived.Test.YtmfpiodlecapiaaDoorRefPack
import Derived.Test.YtmfpiodlecapiaaDoorTextSpec
import Derived.Test.YtmfpiodlecapiaaDoorDecode
namespace Go.Proofs.YtmfpiodlecapiaaDoor
open Go.RowKit Go.Deep

theorem sIndex (S : ByteArray) (i : Nat) (h : i < S.size) (w : World) : (Instr.index 9 (.string S) (.int .i64 (i : Nat))).run Tryd.prog w = .ok (.int .u8 ((bytesOf S)[i]?.getD 0 : Nat)) w := by
  have hu := run_underlying (P := Tryd.prog) Tryd.underlying9 w
  have hi : i < S.data.size := h
  have e2 : S[i]? = some (S[i]'h) := by simp [h]
  have e4 : S.data[i]? = some S.data[i] := Array.getElem?_eq_getElem hi
  have e3 : (bytesOf S)[i]?.getD 0 = (S[i]'h).toNat := by
    unfold bytesOf
    simp [e4]
    rfl
  unfold Instr.index
  simp only [asIntOf, Sem.run_bind, Sem.run_pure, Result.andThen_ok, hu]
  simp [e2, e3]
theorem div_step (b j : Nat) : b / 2 ^ j / 2 = b / 2 ^ (j + 1) := by rw [Nat.div_div_eq_div_mul, Nat.pow_succ]
set_option maxRecDepth 20000 in
theorem bit_walk (S : ByteArray) (n k : Nat) (hS : Hid (S.size = n)) (hn : n ≤ 100000000) (hk : k < 8 * n) (w : World) :
    Calls Tryd.prog 20 #[.string S, .int .i64 k] w fun e w' => e = .returned (.int .i64 (Tx.bit8 (bytesOf S) k : Nat)) ∧ w' = w := by
  have hbl := bytes_lt S (k / 8)
  have hix := sIndex S (k / 8) (by rw [hS.out]; omega)
  have hbit : Hid (Tx.bit8 (bytesOf S) k = (bytesOf S)[k / 8]?.getD 0 / 2 ^ (7 - k % 8) % 2) := rfl
  generalize (bytesOf S)[k / 8]?.getD 0 = B at hbl hix hbit
  generalize Tx.bit8 (bytesOf S) k = bt at hbit ⊢
  obtain ⟨q, hq⟩ : ∃ q, q = k / 8 := ⟨_, rfl⟩
  obtain ⟨r, hr⟩ : ∃ r, r = k % 8 := ⟨_, rfl⟩
  have e1 : (k : Int) / 8 = (q : Int) := by omega
  have e2 : (k : Int) % 8 = (r : Int) := by omega
  rw [← hq] at hix
  rw [← hr] at hbit
  have hr8 : r < 8 := by omega
  clear hq hr
  go_enter Tryd.func20, Tryd.ntmps20
  go_wp2_with fail
  go_loopw [5, 6] (fun x y wr => ∃ j X : Nat, r ≤ j ∧ j ≤ 7 ∧ X < 256 ∧ Hid (X = B / 2 ^ (j - r)) ∧ x = .int .i64 X ∧ y = .int .i64 j ∧ wr = w) (fun _ y _ => leftOf 7 (intOf y).toNat)
  case atStart => exact ⟨r, B, by omega, by omega, hbl, by show _ = _; simp, rfl, by rw [e2], rfl⟩
  case round =>
    obtain ⟨j, X, hj1, hj2, hXl, hX, rfl, rfl, rfl⟩ := hrel
    by_cases hj : j < 7
    · have j1 : (j : Int) < 7 := by omega
      have hd : Hid (X / 2 = B / 2 ^ (j + 1 - r)) := by
        show _ = _
        rw [hX.out, div_step, show j + 1 - r = j - r + 1 by omega]
      obtain ⟨Y, hY⟩ : ∃ Y, Y = X / 2 := ⟨_, rfl⟩
      have e3 : (X : Int) / 2 = (Y : Int) := by omega
      rw [← hY] at hd
      have hYl : Y < 256 := by omega
      clear hY
      go_wp2_with fail
      go_roundw
      case rel => exact ⟨j + 1, Y, by omega, by omega, hYl, hd.out, by go_num, by go_num, by simp⟩
      case measure => refine leftOf_lt ?_ ?_ <;> simp only [intOf] <;> omega
    · have ej : j = 7 := by omega
      have j1 : ¬ (j : Int) < 7 := by omega
      have hd : Hid (X % 2 = bt) := by
        show _ = _
        rw [hX.out, hbit.out, ej]
      obtain ⟨Y, hY⟩ : ∃ Y, Y = X % 2 := ⟨_, rfl⟩
      have e3 : (X : Int) % 2 = (Y : Int) := by omega
      rw [← hY] at hd
      have hYl : Y < 2 := by omega
      clear hY
      go_wp2_with fail
      go_ret
      exact ⟨by rw [← hd.out]; rfl, rfl⟩

set_option maxRecDepth 20000 in
theorem letter_walk (n : Nat) (hn : n < 64) (w : World) :
    Calls Tryd.prog 21 #[.int .i64 n] w fun e w' => e = .returned (.string (strOf (Tx.lett n))) ∧ Below w.heap.size w w' := by
  unfold Tx.lett
  by_cases h1 : n < 26
  · rw [if_pos h1]
    have k1 : (n : Int) < 26 := by omega
    obtain ⟨a, ha⟩ : ∃ a, a = 65 + n := ⟨_, rfl⟩
    have e1 : (65 : Int) + (n : Int) = (a : Int) := by omega
    have ha1 : a < 256 := by omega
    rw [← ha]
    clear ha
    have hb0 := hide ((Below.refl w.heap.size w).alloc (Nat.le_refl _) (.cells #[.int .u8 a] 5))
    have hcv : (convert 27 9 (.slice (some ⟨w.heap.size, 0, none⟩) 1 1)).run Tryd.prog (w.alloc (.cells #[.int .u8 a] 5)) = .ok (.string (strOf [a])) (w.alloc (.cells #[.int .u8 a] 5)) :=
      conv_row (bs := [a]) (rowL_alloc' w #[.int .u8 a] 5) rfl
    go_enter Tryd.func21, Tryd.ntmps21
    go_wp2
    go_ret
    exact ⟨rfl, hb0.out⟩
  · rw [if_neg h1]
    have k1 : ¬ (n : Int) < 26 := by omega
    by_cases h2 : n < 52
    · rw [if_pos h2]
      have k2 : (n : Int) < 52 := by omega
      obtain ⟨a, ha⟩ : ∃ a, a = 71 + n := ⟨_, rfl⟩
      have e1 : (97 : Int) + (n : Int) - 26 = (a : Int) := by omega
      have ha1 : a < 256 := by omega
      rw [← ha]
      clear ha
      have hb0 := hide ((Below.refl w.heap.size w).alloc (Nat.le_refl _) (.cells #[.int .u8 a] 5))
      have hcv : (convert 27 9 (.slice (some ⟨w.heap.size, 0, none⟩) 1 1)).run Tryd.prog (w.alloc (.cells #[.int .u8 a] 5)) = .ok (.string (strOf [a])) (w.alloc (.cells #[.int .u8 a] 5)) :=
        conv_row (bs := [a]) (rowL_alloc' w #[.int .u8 a] 5) rfl
      go_enter Tryd.func21, Tryd.ntmps21
      go_wp2
      go_ret
      exact ⟨rfl, hb0.out⟩
    · rw [if_neg h2]
      have k2 : ¬ (n : Int) < 52 := by omega
      obtain ⟨a, ha⟩ : ∃ a, a = 125 + n := ⟨_, rfl⟩
      have e1 : (177 : Int) + (n : Int) - 52 = (a : Int) := by omega
      have ha1 : a < 256 := by omega
      rw [← ha]
      clear ha
      have hb0 := hide ((Below.refl w.heap.size w).alloc (Nat.le_refl _) (.cells #[.int .u8 206, .int .u8 a] 5))
      have hcv : (convert 27 9 (.slice (some ⟨w.heap.size, 0, none⟩) 2 2)).run Tryd.prog (w.alloc (.cells #[.int .u8 206, .int .u8 a] 5)) = .ok (.string (strOf [206, a])) (w.alloc (.cells #[.int .u8 206, .int .u8 a] 5)) :=
        conv_row (bs := [206, a]) (rowL_alloc' w #[.int .u8 206, .int .u8 a] 5) rfl
      go_enter Tryd.func21, Tryd.ntmps21
      go_wp2
      go_ret
      exact ⟨rfl, hb0.out⟩

set_option maxRecDepth 20000 in
set_option maxHeartbeats 1000000 in
theorem refText_walk (S : ByteArray) (n : Nat) (hS : Hid (S.size = n)) (hn : n ≤ 10000000) (w : World) :
    Calls Tryd.prog 8 #[.string S] w fun e w' => e = .returned (.string (strOf (Tx.textN (bytesOf S)))) ∧ Below w.heap.size w w' := by
  have hsz : S.size = n := hS.out
  have hbl : Hid ((bytesOf S).length = n) := by show _ = _; rw [bytesOf_length]; exact hS.out
  go_enter Tryd.func8, Tryd.ntmps8
  go_wp2_with fail
  go_loopw [3, 4] (fun x y wr => ∃ e a : Nat, a = 6 * e ∧ e ≤ (8 * n + 5) / 6 ∧ x = .string (strOf (Tx.pre (bytesOf S) e)) ∧ y = .int .i64 a ∧ Below w.heap.size w wr) (fun _ y _ => leftOf (8 * n + 6) (intOf y).toNat)
  case atStart => exact ⟨0, 0, rfl, by omega, rfl, rfl, Below.refl _ _⟩
  case round =>
    obtain ⟨e, a, hae, hen, rfl, rfl, hbw⟩ := hrel
    have HBW := hide hbw
    clear hbw
    by_cases ha : a < 8 * n
    · have a1 : (a : Int) < 8 * (n : Int) := by omega
      have HAE : Hid (a = 6 * e) := hae
      clear hae
      go_wp2_with fail
      go_loopw [5, 6] (fun x y wr => ∃ k X : Nat, a ≤ k ∧ k ≤ a + 6 ∧ X < 2 ^ (k - a) ∧ Hid (X = Tx.val (Tx.bit8 (bytesOf S)) a (k - a)) ∧ x = .int .i64 X ∧ y = .int .i64 k ∧ Below w.heap.size w wr) (fun _ y _ => leftOf (a + 6) (intOf y).toNat)
      case atStart => exact ⟨a, 0, by omega, by omega, by simp, by show _ = _; rw [Nat.sub_self]; rfl, rfl, rfl, HBW.out⟩
      case round =>
        obtain ⟨k, X, hk1, hk2, hXl, hX, rfl, rfl, hbw⟩ := hrel
        have HBW := hide hbw
        clear hbw
        have hXl2 : X < 64 := Nat.lt_of_lt_of_le hXl (Nat.pow_le_pow_right (by decide) (by omega : k - a ≤ 6))
        by_cases hk : k < a + 6
        · have k1 : (k : Int) < (a : Int) + 6 := by omega
          have hbk := Tx.bit8_lt (bytesOf S) k
          have hst : Hid (2 * X + Tx.bit8 (bytesOf S) k = Tx.val (Tx.bit8 (bytesOf S)) a (k + 1 - a)) := by
            show _ = _
            rw [show k + 1 - a = (k - a) + 1 by omega, Tx.val, ← hX.out, show a + (k - a) = k by omega]
          have hpw : 2 ^ (k + 1 - a) = 2 * 2 ^ (k - a) := by rw [show k + 1 - a = (k - a) + 1 by omega, Nat.pow_succ, Nat.mul_comm]
          have hYb : 2 * X + Tx.bit8 (bytesOf S) k < 2 ^ (k + 1 - a) := by rw [hpw]; omega
          have HYB := hide hYb
          clear hpw hYb hXl
          by_cases hk8 : k < 8 * n
          · have k2 : (k : Int) < 8 * (n : Int) := by omega
            have BW := hide (bit_walk S n k hS (by omega) hk8)
            generalize Tx.bit8 (bytesOf S) k = bt at hbk hst HYB BW
            obtain ⟨Y, hY⟩ : ∃ Y, Y = 2 * X + bt := ⟨_, rfl⟩
            rw [← hY] at hst HYB
            have hYi : 2 * (X : Int) + (bt : Int) = (Y : Int) := by omega
            have hYl : Y < 128 := by omega
            clear hY
            go_wp2_with (go_at_call 20; refine (BW.out _).mono ?_; rintro _ wq ⟨rfl, hq⟩; have hq2 := hq.symm; clear hq; subst hq2)
            go_roundw
            case rel => exact ⟨k + 1, Y, by omega, by omega, HYB.out, hst.out, by go_num, by go_num, HBW.out⟩
            case measure => refine leftOf_lt ?_ ?_ <;> simp only [intOf] <;> omega
          · have k2 : ¬ (k : Int) < 8 * (n : Int) := by omega
            have hb0 : Tx.bit8 (bytesOf S) k = 0 := Tx.bit8_beyond (by rw [hbl.out]; omega)
            rw [hb0, Nat.add_zero] at hst HYB
            clear hb0 hbk
            obtain ⟨Y, hY⟩ : ∃ Y, Y = 2 * X := ⟨_, rfl⟩
            rw [← hY] at hst HYB
            have hYi : 2 * (X : Int) = (Y : Int) := by omega
            have hYl : Y < 128 := by omega
            clear hY
            go_wp2_with fail
            go_roundw
            case rel => exact ⟨k + 1, Y, by omega, by omega, HYB.out, hst.out, by go_num, by go_num, HBW.out⟩
            case measure => refine leftOf_lt ?_ ?_ <;> simp only [intOf] <;> omega
        · have ek : k = a + 6 := by omega
          have k1 : ¬ (k : Int) < (a : Int) + 6 := by omega
          have hX6 : Hid (X = Tx.val (Tx.bit8 (bytesOf S)) (6 * e) 6) := by
            show _ = _
            rw [hX.out, ek, show a + 6 - a = 6 by omega, HAE.out]
          have LW := hide (letter_walk X hXl2)
          have hap := hide (strOf_append (Tx.pre (bytesOf S) e) (Tx.lett X))
          have hsum : ¬ 9223372036854775807 < (strOf (Tx.pre (bytesOf S) e)).size + (strOf (Tx.lett X)).size := by
            have h1 := Tx.pre_length (bytesOf S) e
            have h2 := Tx.lett_length X
            rw [strOf_size, strOf_size]
            omega
          go_wp2_with (go_at_call 21; refine (LW.out _).mono ?_; rintro _ w3 ⟨rfl, hb3⟩; replace hb3 := hide hb3)
          go_roundw
          case rel =>
            have hae := HAE.out
            refine ⟨e + 1, a + 6, by omega, by omega, ?_, by go_num, HBW.out.trans (hb3.out.mono HBW.out.size)⟩
            rw [hap.out, Tx.pre_succ, ← hX6.out]
          case measure => refine leftOf_lt ?_ ?_ <;> simp only [intOf] <;> omega
    · have a1 : ¬ (a : Int) < 8 * (n : Int) := by omega
      have hT : Hid (Tx.pre (bytesOf S) e = Tx.textN (bytesOf S)) := by
        show _ = _
        unfold Tx.textN
        rw [hbl.out, show (8 * n + 5) / 6 = e by omega]
      clear hae
      go_wp2_with fail
      go_ret
      exact ⟨by rw [← hT.out]; rfl, HBW.out⟩
end Go.Proofs.YtmfpiodlecapiaaDoor
