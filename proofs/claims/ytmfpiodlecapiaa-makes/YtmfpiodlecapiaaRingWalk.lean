/- The walk of Ring: whatever numbers are picked, the field's laws hold of the program's products and inverses. -/
import Derived.Test.YtmfpiodlecapiaaSure
namespace Go.Proofs.Ytmfpiodlecapiaa
open Go.RowKit

/- Which of n things a raw number speaks of. -/
def pickN (c : Int) (n : Nat) : Nat := if c < 0 then ((-(c + 1)) % n).toNat else (c % n).toNat
theorem pickN_lt (c : Int) {n : Nat} (hn : 0 < n) : pickN c n < n := by
  unfold pickN
  have h1 := Int.emod_lt_of_pos (-(c + 1)) (show (0 : Int) < n by omega)
  have h2 := Int.emod_nonneg (-(c + 1)) (show (n : Int) ≠ 0 by omega)
  have h3 := Int.emod_lt_of_pos c (show (0 : Int) < n by omega)
  have h4 := Int.emod_nonneg c (show (n : Int) ≠ 0 by omega)
  split <;> omega

theorem pick_walk (c : Int) (n : Nat) (hc : (Lit.int .i64 c).wf = true) (hn : 0 < n) (hn2 : n ≤ 65536) (w : World) :
    Calls Try.prog 18 #[.int .i64 c, .int .i64 n] w fun e w' => e = .returned (.int .i64 (pickN c n : Nat)) ∧ w' = w := by
  have hb : -9223372036854775808 ≤ c ∧ c ≤ 9223372036854775807 := by
    simp [Lit.wf, IntKind.min, IntKind.max, IntKind.signed, IntKind.bits] at hc
    omega
  obtain ⟨hb1, hb2⟩ := hb
  clear hc
  by_cases h : c < 0
  · have e : ((pickN c n : Nat) : Int) = (-(c + 1)) % (n : Int) := by
      unfold pickN
      rw [if_pos h]
      have h2 := Int.emod_nonneg (-(c + 1)) (show (n : Int) ≠ 0 by omega)
      omega
    rw [e]; clear e
    go_enter Try.func18, Try.ntmps18
    go_wp2
    go_ret
    refine ⟨?_, rfl⟩
    show Ending.returned (.int .i64 (-(c + 1).tmod n)) = _
    rw [← Int.neg_tmod, Int.tmod_eq_emod_of_nonneg (by omega)]
  · have e : ((pickN c n : Nat) : Int) = c % (n : Int) := by
      unfold pickN
      rw [if_neg h]
      have h2 := Int.emod_nonneg c (show (n : Int) ≠ 0 by omega)
      omega
    rw [e]; clear e
    go_enter Try.func18, Try.ntmps18
    go_wp2
    go_ret
    exact ⟨rfl, rfl⟩

theorem kmul_walk (a b : Nat) (ha : a < 256) (hb : b < 256) (w : World) :
    Calls Try.prog 19 #[.int .i64 a, .int .i64 b] w fun e w' => e = .returned (.int .i64 (Gf.mul a b : Nat)) ∧ w' = w := by
  have C := hide (fun w => fMul_walk a b ha hb w)
  revert C
  generalize Gf.mul a b = m
  intro C
  go_enter Try.func19, Try.ntmps19
  go_wp2_with (go_at_call 10; refine (C.out _).mono ?_; rintro _ _ ⟨rfl, rfl⟩)
  go_ret
  exact ⟨rfl, rfl⟩

theorem kmul_one (a : Nat) (ha : a < 256) (w : World) :
    Calls Try.prog 19 #[.int .i64 a, .int .i64 1] w fun e w' => e = .returned (.int .i64 (a : Nat)) ∧ w' = w := by
  have := kmul_walk a 1 ha (by omega) w
  rw [Gf.mul_one ha] at this
  exact this
theorem kmul_zero (a : Nat) (ha : a < 256) (w : World) :
    Calls Try.prog 19 #[.int .i64 a, .int .i64 0] w fun e w' => e = .returned (.int .i64 0) ∧ w' = w := by
  have := kmul_walk a 0 ha (by omega) w
  rw [Gf.mul_zero ha] at this
  exact this

set_option linter.unusedSimpArgs false in
set_option maxRecDepth 20000 in
set_option maxHeartbeats 1000000 in
theorem ring_core (x y z : Int) (A B C p q r t n ie : Nat) (hA : A < 256) (hB : B < 256) (hC : C < 256) (hp : p < 256) (hq : q < 256) (_hr : r < 256) (hn : n < 256) (_ht : t < 256)
    (w0 : Hid ((Lit.int .i64 x).wf = true)) (w1 : Hid ((Lit.int .i64 y).wf = true)) (w2 : Hid ((Lit.int .i64 z).wf = true))
    (pA : pickN x 256 = A) (pB : pickN y 256 = B) (pC : pickN z 256 = C)
    (e1 : Gf.mul A B = p) (e2 : Gf.mul B C = q) (e3 : Gf.mul B A = p) (e4 : Gf.mul p C = t) (e5 : Gf.mul A q = t) (e8 : Gf.mul A (B ^^^ C) = p ^^^ r) (e9 : Gf.mul A C = r)
    (x1 : bits .xor .i64 (B : Int) (C : Int) = ((B ^^^ C : Nat) : Int)) (x2 : bits .xor .i64 (p : Int) (r : Int) = ((p ^^^ r : Nat) : Int)) (hx : B ^^^ C < 256)
    (I : Hid (∀ w, Calls Try.prog 11 #[.int .i64 A] w fun e w' => e = .returned (.tuple #[.int .i64 n, .int .i64 ie]) ∧ w' = w))
    (h : (A = 0 ∧ p = 0 ∧ n = 0 ∧ ie = 1) ∨ (0 < A ∧ ie = 0 ∧ B = 0 ∧ p = 0 ∧ Gf.mul A n = 1) ∨ (0 < A ∧ ie = 0 ∧ 0 < B ∧ 0 < p ∧ Gf.mul A n = 1 ∧ Gf.mul p n = B)) (w : World) :
    Calls Try.prog 6 #[.int .i64 x, .int .i64 y, .int .i64 z] w fun e w' => e = .returned (.bool true) ∧ Below w.heap.size w w' := by
  have b1 : ((p : Int) != (p : Int)) = false := by simp
  have b2 : ((t : Int) != (t : Int)) = false := by simp
  have b3 : ((A : Int) != (A : Int)) = false := by simp
  have b4 : (((p ^^^ r : Nat) : Int) != ((p ^^^ r : Nat) : Int)) = false := by simp
  rcases h with ⟨a1, a2, a3, a4⟩ | ⟨a1, a2, a3, a4, a5⟩ | ⟨a1, a2, a3, a4, a5, a6⟩
  · have z1 : ((A : Int) == 0) = true := by simp [a1]
    have z2 : ((p : Int) == 0) = true := by simp [a2]
    have z3 : ((n : Int) == 0) = true := by simp [a3]
    have z4 : ((ie : Int) == 1) = true := by simp [a4]
    clear a1 a2 a3 a4
    go_enter Try.func6, Try.ntmps6
    go_wp2_with first | (go_at_call 17; refine (sure_walk _).mono ?_; rintro _ ws ⟨rfl, hbs⟩; replace hbs := hide hbs) | (go_at_call 18; refine (pick_walk _ 256 (by first | exact w0.out | exact w1.out | exact w2.out) (by omega) (by omega) _).mono ?_; rintro _ wq ⟨rfl, hx1⟩; have hx2 := hx1.symm; clear hx1; subst hx2; simp only [pA, pB, pC]) | (go_at_call 19; refine (kmul_walk _ _ (by omega) (by omega) _).mono ?_; rintro _ wq ⟨rfl, hx1⟩; have hx2 := hx1.symm; clear hx1; subst hx2; simp only [e1, e2, e3, e4, e5, e8, e9]) | (go_at_call 11; refine (I.out _).mono ?_; rintro _ wq ⟨rfl, hx1⟩; have hx2 := hx1.symm; clear hx1; subst hx2)
    refine (kmul_one _ (by omega) _).mono ?_
    rintro _ wq ⟨rfl, hx1⟩
    have hx2 := hx1.symm
    clear hx1
    subst hx2
    go_wp2_with first | (go_at_call 17; refine (sure_walk _).mono ?_; rintro _ ws ⟨rfl, hbs⟩; replace hbs := hide hbs) | (go_at_call 18; refine (pick_walk _ 256 (by first | exact w0.out | exact w1.out | exact w2.out) (by omega) (by omega) _).mono ?_; rintro _ wq ⟨rfl, hx1⟩; have hx2 := hx1.symm; clear hx1; subst hx2; simp only [pA, pB, pC]) | (go_at_call 19; refine (kmul_walk _ _ (by omega) (by omega) _).mono ?_; rintro _ wq ⟨rfl, hx1⟩; have hx2 := hx1.symm; clear hx1; subst hx2; simp only [e1, e2, e3, e4, e5, e8, e9]) | (go_at_call 11; refine (I.out _).mono ?_; rintro _ wq ⟨rfl, hx1⟩; have hx2 := hx1.symm; clear hx1; subst hx2)
    refine (kmul_zero _ (by omega) _).mono ?_
    rintro _ wq ⟨rfl, hx1⟩
    have hx2 := hx1.symm
    clear hx1
    subst hx2
    go_wp2_with first | (go_at_call 17; refine (sure_walk _).mono ?_; rintro _ ws ⟨rfl, hbs⟩; replace hbs := hide hbs) | (go_at_call 18; refine (pick_walk _ 256 (by first | exact w0.out | exact w1.out | exact w2.out) (by omega) (by omega) _).mono ?_; rintro _ wq ⟨rfl, hx1⟩; have hx2 := hx1.symm; clear hx1; subst hx2; simp only [pA, pB, pC]) | (go_at_call 19; refine (kmul_walk _ _ (by omega) (by omega) _).mono ?_; rintro _ wq ⟨rfl, hx1⟩; have hx2 := hx1.symm; clear hx1; subst hx2; simp only [e1, e2, e3, e4, e5, e8, e9]) | (go_at_call 11; refine (I.out _).mono ?_; rintro _ wq ⟨rfl, hx1⟩; have hx2 := hx1.symm; clear hx1; subst hx2)
    go_ret
    exact ⟨rfl, hbs.out⟩
  · have z1 : ((A : Int) == 0) = false := by simp; omega
    have z2 : ((p : Int) == 0) = true := by simp [a4]
    have z3 : ((B : Int) == 0) = true := by simp [a3]
    have z4 : ((ie : Int) == 0) = true := by simp [a2]
    clear a1 a2 a3 a4
    go_enter Try.func6, Try.ntmps6
    go_wp2_with first | (go_at_call 17; refine (sure_walk _).mono ?_; rintro _ ws ⟨rfl, hbs⟩; replace hbs := hide hbs) | (go_at_call 18; refine (pick_walk _ 256 (by first | exact w0.out | exact w1.out | exact w2.out) (by omega) (by omega) _).mono ?_; rintro _ wq ⟨rfl, hx1⟩; have hx2 := hx1.symm; clear hx1; subst hx2; simp only [pA, pB, pC]) | (go_at_call 19; refine (kmul_walk _ _ (by omega) (by omega) _).mono ?_; rintro _ wq ⟨rfl, hx1⟩; have hx2 := hx1.symm; clear hx1; subst hx2; simp only [e1, e2, e3, e4, e5, e8, e9, a5]) | (go_at_call 11; refine (I.out _).mono ?_; rintro _ wq ⟨rfl, hx1⟩; have hx2 := hx1.symm; clear hx1; subst hx2)
    refine (kmul_one _ (by omega) _).mono ?_
    rintro _ wq ⟨rfl, hx1⟩
    have hx2 := hx1.symm
    clear hx1
    subst hx2
    go_wp2_with first | (go_at_call 17; refine (sure_walk _).mono ?_; rintro _ ws ⟨rfl, hbs⟩; replace hbs := hide hbs) | (go_at_call 18; refine (pick_walk _ 256 (by first | exact w0.out | exact w1.out | exact w2.out) (by omega) (by omega) _).mono ?_; rintro _ wq ⟨rfl, hx1⟩; have hx2 := hx1.symm; clear hx1; subst hx2; simp only [pA, pB, pC]) | (go_at_call 19; refine (kmul_walk _ _ (by omega) (by omega) _).mono ?_; rintro _ wq ⟨rfl, hx1⟩; have hx2 := hx1.symm; clear hx1; subst hx2; simp only [e1, e2, e3, e4, e5, e8, e9, a5]) | (go_at_call 11; refine (I.out _).mono ?_; rintro _ wq ⟨rfl, hx1⟩; have hx2 := hx1.symm; clear hx1; subst hx2)
    refine (kmul_zero _ (by omega) _).mono ?_
    rintro _ wq ⟨rfl, hx1⟩
    have hx2 := hx1.symm
    clear hx1
    subst hx2
    go_wp2_with first | (go_at_call 17; refine (sure_walk _).mono ?_; rintro _ ws ⟨rfl, hbs⟩; replace hbs := hide hbs) | (go_at_call 18; refine (pick_walk _ 256 (by first | exact w0.out | exact w1.out | exact w2.out) (by omega) (by omega) _).mono ?_; rintro _ wq ⟨rfl, hx1⟩; have hx2 := hx1.symm; clear hx1; subst hx2; simp only [pA, pB, pC]) | (go_at_call 19; refine (kmul_walk _ _ (by omega) (by omega) _).mono ?_; rintro _ wq ⟨rfl, hx1⟩; have hx2 := hx1.symm; clear hx1; subst hx2; simp only [e1, e2, e3, e4, e5, e8, e9, a5]) | (go_at_call 11; refine (I.out _).mono ?_; rintro _ wq ⟨rfl, hx1⟩; have hx2 := hx1.symm; clear hx1; subst hx2)
    go_ret
    exact ⟨rfl, hbs.out⟩
  · have z1 : ((A : Int) == 0) = false := by simp; omega
    have z2 : ((p : Int) == 0) = false := by simp; omega
    have z3 : ((B : Int) == 0) = false := by simp; omega
    have z4 : ((ie : Int) == 0) = true := by simp [a2]
    clear a1 a2 a3 a4
    go_enter Try.func6, Try.ntmps6
    go_wp2_with first | (go_at_call 17; refine (sure_walk _).mono ?_; rintro _ ws ⟨rfl, hbs⟩; replace hbs := hide hbs) | (go_at_call 18; refine (pick_walk _ 256 (by first | exact w0.out | exact w1.out | exact w2.out) (by omega) (by omega) _).mono ?_; rintro _ wq ⟨rfl, hx1⟩; have hx2 := hx1.symm; clear hx1; subst hx2; simp only [pA, pB, pC]) | (go_at_call 19; refine (kmul_walk _ _ (by omega) (by omega) _).mono ?_; rintro _ wq ⟨rfl, hx1⟩; have hx2 := hx1.symm; clear hx1; subst hx2; simp only [e1, e2, e3, e4, e5, e8, e9, a5, a6]) | (go_at_call 11; refine (I.out _).mono ?_; rintro _ wq ⟨rfl, hx1⟩; have hx2 := hx1.symm; clear hx1; subst hx2)
    refine (kmul_one _ (by omega) _).mono ?_
    rintro _ wq ⟨rfl, hx1⟩
    have hx2 := hx1.symm
    clear hx1
    subst hx2
    go_wp2_with first | (go_at_call 17; refine (sure_walk _).mono ?_; rintro _ ws ⟨rfl, hbs⟩; replace hbs := hide hbs) | (go_at_call 18; refine (pick_walk _ 256 (by first | exact w0.out | exact w1.out | exact w2.out) (by omega) (by omega) _).mono ?_; rintro _ wq ⟨rfl, hx1⟩; have hx2 := hx1.symm; clear hx1; subst hx2; simp only [pA, pB, pC]) | (go_at_call 19; refine (kmul_walk _ _ (by omega) (by omega) _).mono ?_; rintro _ wq ⟨rfl, hx1⟩; have hx2 := hx1.symm; clear hx1; subst hx2; simp only [e1, e2, e3, e4, e5, e8, e9, a5, a6]) | (go_at_call 11; refine (I.out _).mono ?_; rintro _ wq ⟨rfl, hx1⟩; have hx2 := hx1.symm; clear hx1; subst hx2)
    refine (kmul_zero _ (by omega) _).mono ?_
    rintro _ wq ⟨rfl, hx1⟩
    have hx2 := hx1.symm
    clear hx1
    subst hx2
    go_wp2_with first | (go_at_call 17; refine (sure_walk _).mono ?_; rintro _ ws ⟨rfl, hbs⟩; replace hbs := hide hbs) | (go_at_call 18; refine (pick_walk _ 256 (by first | exact w0.out | exact w1.out | exact w2.out) (by omega) (by omega) _).mono ?_; rintro _ wq ⟨rfl, hx1⟩; have hx2 := hx1.symm; clear hx1; subst hx2; simp only [pA, pB, pC]) | (go_at_call 19; refine (kmul_walk _ _ (by omega) (by omega) _).mono ?_; rintro _ wq ⟨rfl, hx1⟩; have hx2 := hx1.symm; clear hx1; subst hx2; simp only [e1, e2, e3, e4, e5, e8, e9, a5, a6]) | (go_at_call 11; refine (I.out _).mono ?_; rintro _ wq ⟨rfl, hx1⟩; have hx2 := hx1.symm; clear hx1; subst hx2)
    refine (kmul_one _ (by omega) _).mono ?_
    rintro _ wq ⟨rfl, hx1⟩
    have hx2 := hx1.symm
    clear hx1
    subst hx2
    go_wp2_with first | (go_at_call 17; refine (sure_walk _).mono ?_; rintro _ ws ⟨rfl, hbs⟩; replace hbs := hide hbs) | (go_at_call 18; refine (pick_walk _ 256 (by first | exact w0.out | exact w1.out | exact w2.out) (by omega) (by omega) _).mono ?_; rintro _ wq ⟨rfl, hx1⟩; have hx2 := hx1.symm; clear hx1; subst hx2; simp only [pA, pB, pC]) | (go_at_call 19; refine (kmul_walk _ _ (by omega) (by omega) _).mono ?_; rintro _ wq ⟨rfl, hx1⟩; have hx2 := hx1.symm; clear hx1; subst hx2; simp only [e1, e2, e3, e4, e5, e8, e9, a5, a6]) | (go_at_call 11; refine (I.out _).mono ?_; rintro _ wq ⟨rfl, hx1⟩; have hx2 := hx1.symm; clear hx1; subst hx2)
    go_ret
    exact ⟨rfl, hbs.out⟩

theorem ring_walk (x y z : Int) (w0 : (Lit.int .i64 x).wf = true) (w1 : (Lit.int .i64 y).wf = true) (w2 : (Lit.int .i64 z).wf = true) (w : World) :
    Calls Try.prog 6 #[.int .i64 x, .int .i64 y, .int .i64 z] w fun e w' => e = .returned (.bool true) ∧ Below w.heap.size w w' := by
  have hA := pickN_lt x (n := 256) (by omega)
  have hB := pickN_lt y (n := 256) (by omega)
  have hC := pickN_lt z (n := 256) (by omega)
  have hp := Gf.mul_lt hA hB
  have hq := Gf.mul_lt hB hC
  have hr := Gf.mul_lt hA hC
  have ht := Gf.mul_lt hp hC
  by_cases hA0 : pickN x 256 = 0
  · refine ring_core x y z _ _ _ _ _ _ _ 0 1 hA hB hC hp hq hr (by omega) ht w0 w1 w2 rfl rfl rfl rfl rfl (Gf.mul_comm hB hA) rfl (Gf.mul_assoc hA hB hC).symm (Gf.mul_add _ _ _) rfl (i64_xor _ _ (by omega) (by omega)) (i64_xor _ _ (by omega) (by omega)) (Gf.xor_lt hB hC) ?_ (Or.inl ⟨hA0, ?_, rfl, rfl⟩) w
    · intro w; rw [hA0]; exact fInverse_refused 0 (by omega) w
    · rw [hA0]; exact Gf.zero_mul hB
  · have hn := Gf.inv_lt hA hA0
    refine ring_core x y z _ _ _ _ _ _ _ (Gf.inv (pickN x 256)) 0 hA hB hC hp hq hr hn ht w0 w1 w2 rfl rfl rfl rfl rfl (Gf.mul_comm hB hA) rfl (Gf.mul_assoc hA hB hC).symm (Gf.mul_add _ _ _) rfl (i64_xor _ _ (by omega) (by omega)) (i64_xor _ _ (by omega) (by omega)) (Gf.xor_lt hB hC) (fun w => fInverse_walk _ hA hA0 w) (Or.inr ?_) w
    by_cases hB0 : pickN y 256 = 0
    · exact Or.inl ⟨by omega, rfl, hB0, by rw [hB0]; exact Gf.mul_zero hA, Gf.mul_inv hA hA0⟩
    · refine Or.inr ⟨by omega, rfl, by omega, ?_, Gf.mul_inv hA hA0, ?_⟩
      · have := Gf.mul_ne hA hB hA0 hB0; omega
      · rw [Gf.mul_comm hA hB, Gf.mul_assoc hB hA hn, Gf.mul_inv hA hA0, Gf.mul_one hB]
end Go.Proofs.Ytmfpiodlecapiaa
