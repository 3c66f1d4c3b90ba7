/- What the calls of package field answer: the document's sums, products and inverses, for numbers of the field; and the reference's. -/
import Derived.Test.YtmfpiodlecapiaaRows
import Derived.Test.YtmfpiodlecapiaaBits
import Derived.WalkKit
import Derived.WalkSpells
import Derived.WalkLawsBesides
namespace Go.Proofs.Ytmfpiodlecapiaa
open Go.RowKit

theorem add_walk (a b : Nat) (ha : a < 4294967296) (hb : b < 4294967296) (w : World) :
    Calls Try.prog 54 #[.int .i64 a, .int .i64 b] w fun e w' => e = .returned (.int .i64 ((a ^^^ b : Nat) : Int)) ∧ w' = w := by
  have hx := i64_xor a b ha hb
  go_enter Try.func54, Try.ntmps54
  go_wp2
  go_ret
  exact ⟨rfl, rfl⟩

theorem double_walk (a : Nat) (ha : a < 256) (w : World) :
    Calls Try.prog 55 #[.int .i64 a] w fun e w' => e = .returned (.int .i64 (Gf.dbl a : Nat)) ∧ w' = w := by
  have hd := Gf.dbl_eq a
  by_cases h : 256 ≤ 2 * a
  · have hx : bits .xor .i64 ((a : Int) * 2) 285 = ((Gf.dbl a : Nat) : Int) := by
      rw [hd, if_pos h]
      have := i64_xor (2 * a) 285 (by omega) (by omega)
      rw [← this]; congr 1; omega
    clear hd
    go_enter Try.func55, Try.ntmps55
    go_wp2
    go_ret
    exact ⟨rfl, rfl⟩
  · rw [hd, if_neg h]
    clear hd
    have e2 : ((2 * a : Nat) : Int) = (a : Int) * 2 := by omega
    rw [e2]; clear e2
    go_enter Try.func55, Try.ntmps55
    go_wp2
    go_ret
    exact ⟨rfl, rfl⟩

theorem has_walk (n : Int) (w : World) :
    Calls Try.prog 31 #[.int .i64 n] w fun e w' => e = .returned (.bool (decide (0 ≤ n) && decide (n ≤ 255))) ∧ w' = w := by
  by_cases h : 0 ≤ n
  · go_enter Try.func31, Try.ntmps31
    go_wp2
    go_ret
    exact ⟨by simp [h], rfl⟩
  · go_enter Try.func31, Try.ntmps31
    go_wp2
    go_ret
    exact ⟨by have : ¬ (0 ≤ n) := by omega
              simp [this], rfl⟩

theorem mul_walk (a b : Nat) (ha : a < 256) (hb : b < 256) (w : World) :
    Calls Try.prog 32 #[.int .i64 a, .int .i64 b] w fun e w' => e = .returned (.int .i64 (Gf.mul a b : Nat)) ∧ w' = w := by
  go_enter Try.func32, Try.ntmps32
  go_wp2
  go_loop [0, 1, 5] (fun x y z => ∃ a' b' p : Nat, a' < 256 ∧ b' < 256 ∧ p < 256 ∧ x = .int .i64 a' ∧ y = .int .i64 b' ∧ z = .int .i64 p ∧ Gf.rest a' b' p = Gf.mul a b)
    (fun _ y _ => (intOf y).toNat)
  case atStart => exact ⟨a, b, 0, ha, hb, by decide, rfl, rfl, rfl, rfl⟩
  case round =>
    obtain ⟨a', b', p, ha', hb', hp, rfl, rfl, rfl, hr⟩ := hrel
    have hand := i64_and_one b' (by omega)
    have hR : Hid (Gf.rest a' b' p = Gf.mul a b) := hr
    clear hr
    go_wp2_with first | (go_at_call 54; refine (add_walk _ _ (by omega) (by omega) _).mono ?_; rintro _ _ ⟨rfl, rfl⟩) | (go_at_call 55; refine (double_walk _ (by omega) _).mono ?_; rintro _ _ ⟨rfl, rfl⟩)
    · have hpos : 0 < b' := by assumption
      have h1 : ((b' : Int) % 2 == 1) = true := by assumption
      have h2 : b' % 2 = 1 := by simp at h1; omega
      go_round
      case rel =>
        refine ⟨Gf.dbl a', b' / 2, p ^^^ a', Gf.dbl_lt ha', by omega, Gf.xor_lt hp ha', rfl, by go_num, rfl, ?_⟩
        rw [← hR.out, Gf.rest_step hb', if_pos h2]
      case measure => simp [intOf]; omega
    · have hpos : 0 < b' := by assumption
      have h1 : ((b' : Int) % 2 == 1) = false := by assumption
      have h2 : ¬ b' % 2 = 1 := by simp at h1; omega
      go_round
      case rel =>
        refine ⟨Gf.dbl a', b' / 2, p, Gf.dbl_lt ha', by omega, hp, rfl, by go_num, rfl, ?_⟩
        rw [← hR.out, Gf.rest_step hb', if_neg h2]
      case measure => simp [intOf]; omega
    · have h0 : b' = 0 := by omega
      subst h0
      have e : p = Gf.mul a b := by rw [← hR.out, Gf.rest_zero]
      rw [← e]
      go_ret
      exact ⟨rfl, rfl⟩

theorem inverse_walk (a : Nat) (ha : a < 256) (w : World) :
    Calls Try.prog 33 #[.int .i64 a] w fun e w' => e = .returned (.int .i64 (Gf.inv a : Nat)) ∧ w' = w := by
  go_enter Try.func33, Try.ntmps33
  go_wp2
  go_loop [0, 3, 4] (fun x y z => ∃ a' r i : Nat, a' < 256 ∧ r < 256 ∧ i ≤ 7 ∧ x = .int .i64 a' ∧ y = .int .i64 r ∧ z = .int .i64 i ∧ Gf.invAux (7 - i) a' r = Gf.inv a)
    (fun _ _ z => 7 - (intOf z).toNat)
  case atStart => exact ⟨a, 1, 0, ha, by decide, by decide, rfl, rfl, rfl, rfl⟩
  case round =>
    obtain ⟨a', r, i, ha', hr', hi, rfl, rfl, rfl, hr⟩ := hrel
    have hm := Gf.mul_lt ha' ha'
    have hm2 := Gf.mul_lt hr' hm
    have hR : Hid (Gf.invAux (7 - i) a' r = Gf.inv a) := hr
    clear hr
    go_wp2_with (go_at_call 32; refine (mul_walk _ _ (by omega) (by omega) _).mono ?_; rintro _ _ ⟨rfl, rfl⟩)
    · have hlt : i < 7 := by omega
      go_round
      case rel =>
        refine ⟨Gf.mul a' a', Gf.mul r (Gf.mul a' a'), i + 1, hm, hm2, by omega, rfl, rfl, by go_num, ?_⟩
        rw [← hR.out]
        have : 7 - i = (7 - (i + 1)) + 1 := by omega
        rw [this]; rfl
      case measure => simp [intOf]; omega
    · have h0 : i = 7 := by omega
      subst h0
      have e : r = Gf.inv a := by rw [← hR.out]; rfl
      rw [← e]
      go_ret
      exact ⟨rfl, rfl⟩

theorem refMul_walk (a b : Nat) (ha : a < 256) (hb : b < 256) (w : World) :
    Calls Try.prog 12 #[.int .i64 a, .int .i64 b] w fun e w' => e = .returned (.int .i64 (Gf.mul a b : Nat)) ∧ w' = w := by
  go_enter Try.func12, Try.ntmps12
  go_wp2
  go_loop [0, 1, 5] (fun x y z => ∃ a' b' p : Nat, a' < 256 ∧ b' < 256 ∧ p < 256 ∧ x = .int .i64 a' ∧ y = .int .i64 b' ∧ z = .int .i64 p ∧ Gf.rest a' b' p = Gf.mul a b)
    (fun _ y _ => (intOf y).toNat)
  case atStart => exact ⟨a, b, 0, ha, hb, by decide, rfl, rfl, rfl, rfl⟩
  case round =>
    obtain ⟨a', b', p, ha', hb', hp, rfl, rfl, rfl, hr⟩ := hrel
    have hx := i64_xor p a' (by omega) (by omega)
    have hy := i64_xor (2 * a') 285 (by omega) (by omega)
    have hy' : bits .xor .i64 (2 * (a' : Int)) 285 = (((2 * a') ^^^ 285 : Nat) : Int) := by rw [← hy]; congr 1
    clear hy
    have hd := Gf.dbl_eq a'
    have hR : Hid (Gf.rest a' b' p = Gf.mul a b) := hr
    have hD : Hid (Gf.dbl a' = if 256 ≤ 2 * a' then (2 * a') ^^^ 285 else 2 * a') := hd
    clear hr hd
    go_wp2
    · have h1 : ((b' : Int) % 2 == 1) = true := by assumption
      have h2 : b' % 2 = 1 := by simp at h1; omega
      have h3 : 255 < 2 * (a' : Int) := by assumption
      have h4 : 256 ≤ 2 * a' := by omega
      go_round
      case rel =>
        refine ⟨Gf.dbl a', b' / 2, p ^^^ a', Gf.dbl_lt ha', by omega, Gf.xor_lt hp ha', by rw [hD.out, if_pos h4], by go_num, rfl, ?_⟩
        rw [← hR.out, Gf.rest_step hb', if_pos h2]
      case measure => simp [intOf]; omega
    · have h1 : ((b' : Int) % 2 == 1) = true := by assumption
      have h2 : b' % 2 = 1 := by simp at h1; omega
      have h3 : 2 * (a' : Int) ≤ 255 := by assumption
      have h4 : ¬ 256 ≤ 2 * a' := by omega
      go_round
      case rel =>
        refine ⟨Gf.dbl a', b' / 2, p ^^^ a', Gf.dbl_lt ha', by omega, Gf.xor_lt hp ha', by rw [hD.out, if_neg h4]; rfl, by go_num, rfl, ?_⟩
        rw [← hR.out, Gf.rest_step hb', if_pos h2]
      case measure => simp [intOf]; omega
    · have h1 : ((b' : Int) % 2 == 1) = false := by assumption
      have h2 : ¬ b' % 2 = 1 := by simp at h1; omega
      have h3 : 255 < 2 * (a' : Int) := by assumption
      have h4 : 256 ≤ 2 * a' := by omega
      go_round
      case rel =>
        refine ⟨Gf.dbl a', b' / 2, p, Gf.dbl_lt ha', by omega, hp, by rw [hD.out, if_pos h4], by go_num, rfl, ?_⟩
        rw [← hR.out, Gf.rest_step hb', if_neg h2]
      case measure => simp [intOf]; omega
    · have h1 : ((b' : Int) % 2 == 1) = false := by assumption
      have h2 : ¬ b' % 2 = 1 := by simp at h1; omega
      have h3 : 2 * (a' : Int) ≤ 255 := by assumption
      have h4 : ¬ 256 ≤ 2 * a' := by omega
      go_round
      case rel =>
        refine ⟨Gf.dbl a', b' / 2, p, Gf.dbl_lt ha', by omega, hp, by rw [hD.out, if_neg h4]; rfl, by go_num, rfl, ?_⟩
        rw [← hR.out, Gf.rest_step hb', if_neg h2]
      case measure => simp [intOf]; omega
    · have h0 : b' = 0 := by omega
      subst h0
      have e : p = Gf.mul a b := by rw [← hR.out, Gf.rest_zero]
      rw [← e]
      go_ret
      exact ⟨rfl, rfl⟩

def leftIn (m n : Nat) : Nat := m - n
set_option maxRecDepth 20000 in
theorem refInverse_core (a I : Nat) (ha : a < 256) (hlt : I < 256) (hps : 1 ≤ I) (hI : Hid (∀ n, n < 256 → (Gf.mul a n = 1 ↔ n = I))) (w : World) :
    Calls Try.prog 13 #[.int .i64 a] w fun e w' => e = .returned (.int .i64 (I : Nat)) ∧ w' = w := by
  go_enter Try.func13, Try.ntmps13
  go_wp2
  go_loop [3] (fun x => ∃ n : Nat, 1 ≤ n ∧ n ≤ I ∧ x = .int .i64 n)
    (fun x => leftIn I (intOf x).toNat)
  case atStart => exact ⟨1, by decide, hps, rfl⟩
  case round =>
    obtain ⟨n, hn, hni, rfl⟩ := hrel
    by_cases hm : n < 255
    · have hc : ∀ wx, Calls Try.prog 12 #[.int .i64 a, .int .i64 n] wx fun e w' => e = .returned (.int .i64 (Gf.mul a n : Nat)) ∧ w' = wx := fun wx => refMul_walk a n ha (by omega) wx
      have hC : Hid (∀ wx, Calls Try.prog 12 #[.int .i64 a, .int .i64 n] wx fun e w' => e = .returned (.int .i64 (Gf.mul a n : Nat)) ∧ w' = wx) := hc
      clear hc
      have hq : Gf.mul a n = 1 ↔ n = I := hI.out n (by omega)
      revert hC hq
      generalize Gf.mul a n = m
      intro hC hq
      by_cases h1 : m = 1
      · have hb : (((m : Nat) : Int) != 1) = false := by rw [h1]; rfl
        have e : n = I := hq.mp h1
        clear h1 hq
        subst e
        go_wp2_with (go_at_call 12; refine (hC.out _).mono ?_; rintro _ _ ⟨rfl, rfl⟩)
        go_ret
        exact ⟨rfl, rfl⟩
      · have hb : (((m : Nat) : Int) != 1) = true := by simp; omega
        have e : n ≠ I := fun e => h1 (hq.mpr e)
        have e' : n + 1 ≤ I := by omega
        clear h1 e hq
        go_wp2_with (go_at_call 12; refine (hC.out _).mono ?_; rintro _ _ ⟨rfl, rfl⟩)
        go_round
        case rel => exact ⟨n + 1, by omega, e', by go_num⟩
        case measure => simp [intOf, leftIn]; omega
    · have e : n = I := by omega
      subst e
      go_wp2_with fail
      go_ret
      exact ⟨rfl, rfl⟩

theorem refInverse_walk (a : Nat) (ha : a < 256) (h0 : a ≠ 0) (w : World) :
    Calls Try.prog 13 #[.int .i64 a] w fun e w' => e = .returned (.int .i64 (Gf.inv a : Nat)) ∧ w' = w :=
  refInverse_core a _ ha (Gf.inv_lt ha h0) (Gf.inv_pos ha h0) (show Hid _ from fun _ hn => ⟨fun h => Gf.inv_unique ha h0 hn h, fun h => by rw [h]; exact Gf.mul_inv ha h0⟩) w

theorem fMul_walk (a b : Nat) (ha : a < 256) (hb : b < 256) (w : World) :
    Calls Try.prog 10 #[.int .i64 a, .int .i64 b] w fun e w' => e = .returned (.tuple #[.int .i64 (Gf.mul a b : Nat), .int .i64 0]) ∧ w' = w := by
  have h1 : (decide ((0 : Int) ≤ (a : Int)) && decide ((a : Int) ≤ 255)) = true := by simp; omega
  have h2 : (decide ((0 : Int) ≤ (b : Int)) && decide ((b : Int) ≤ 255)) = true := by simp; omega
  go_enter Try.func10, Try.ntmps10
  go_wp2_with first | (go_at_call 31; refine (has_walk _ _).mono ?_; rintro _ _ ⟨rfl, rfl⟩; simp only [h1, h2]) | (go_at_call 32; refine (mul_walk _ _ (by omega) (by omega) _).mono ?_; rintro _ _ ⟨rfl, rfl⟩)
  go_ret2
  exact ⟨rfl, rfl⟩

theorem fMul_refused (a b : Int) (h : ¬ (0 ≤ a ∧ a ≤ 255) ∨ ¬ (0 ≤ b ∧ b ≤ 255)) (w : World) :
    Calls Try.prog 10 #[.int .i64 a, .int .i64 b] w fun e w' => e = .returned (.tuple #[.int .i64 0, .int .i64 1]) ∧ w' = w := by
  by_cases ha : 0 ≤ a ∧ a ≤ 255
  · have hb : ¬ (0 ≤ b ∧ b ≤ 255) := by omega
    have h1 : (decide (0 ≤ a) && decide (a ≤ 255)) = true := by simp; omega
    have h2 : (decide (0 ≤ b) && decide (b ≤ 255)) = false := by simp; omega
    clear h ha hb
    go_enter Try.func10, Try.ntmps10
    go_wp2_with (go_at_call 31; refine (has_walk _ _).mono ?_; rintro _ _ ⟨rfl, rfl⟩; simp only [h1, h2])
    go_ret2
    exact ⟨rfl, rfl⟩
  · have h1 : (decide (0 ≤ a) && decide (a ≤ 255)) = false := by simp; omega
    clear h ha
    go_enter Try.func10, Try.ntmps10
    go_wp2_with (go_at_call 31; refine (has_walk _ _).mono ?_; rintro _ _ ⟨rfl, rfl⟩; simp only [h1])
    go_ret2
    exact ⟨rfl, rfl⟩

theorem fInverse_walk (a : Nat) (ha : a < 256) (h0 : a ≠ 0) (w : World) :
    Calls Try.prog 11 #[.int .i64 a] w fun e w' => e = .returned (.tuple #[.int .i64 (Gf.inv a : Nat), .int .i64 0]) ∧ w' = w := by
  have h1 : (decide ((0 : Int) ≤ (a : Int)) && decide ((a : Int) ≤ 255)) = true := by simp; omega
  have h2 : ((a : Int) == 0) = false := by simp; omega
  go_enter Try.func11, Try.ntmps11
  go_wp2_with first | (go_at_call 31; refine (has_walk _ _).mono ?_; rintro _ _ ⟨rfl, rfl⟩; simp only [h1]) | (go_at_call 33; refine (inverse_walk _ (by omega) _).mono ?_; rintro _ _ ⟨rfl, rfl⟩)
  go_ret2
  exact ⟨rfl, rfl⟩

theorem fInverse_refused (a : Int) (h : ¬ (1 ≤ a ∧ a ≤ 255)) (w : World) :
    Calls Try.prog 11 #[.int .i64 a] w fun e w' => e = .returned (.tuple #[.int .i64 0, .int .i64 1]) ∧ w' = w := by
  by_cases h0 : a = 0
  · subst h0
    go_enter Try.func11, Try.ntmps11
    go_wp2_with (go_at_call 31; refine (has_walk _ _).mono ?_; rintro _ _ ⟨rfl, rfl⟩)
    go_ret2
    exact ⟨rfl, rfl⟩
  · have h1 : (decide (0 ≤ a) && decide (a ≤ 255)) = false := by simp; omega
    clear h h0
    go_enter Try.func11, Try.ntmps11
    go_wp2_with (go_at_call 31; refine (has_walk _ _).mono ?_; rintro _ _ ⟨rfl, rfl⟩; simp only [h1])
    go_ret2
    exact ⟨rfl, rfl⟩
end Go.Proofs.Ytmfpiodlecapiaa
