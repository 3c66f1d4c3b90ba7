/- The document's own piece, walked. -/
import Derived.Test.YtmfpiodlecapiaaRefPieceN
namespace Go.Proofs.Ytmfpiodlecapiaa
open Go.RowKit Go.Deep

def strs (ps : List (List Nat)) : List Value := ps.map (fun p => .string (strOf p))
theorem strs_length (ps : List (List Nat)) : (strs ps).length = ps.length := by simp [strs]
theorem strs_at {ps : List (List Nat)} {k : Nat} (hk : k < ps.length) : (strs ps)[k]? = some (.string (strOf (ps[k]?.getD []))) := by simp [strs, hk]

set_option maxRecDepth 20000 in
set_option maxHeartbeats 1000000 in
theorem piece_walk (g cap K n s : Nat) (cur : List Value) (ps : List (List Nat)) (hps : Hid (Pcs ps s K)) (hK1 : 1 ≤ K) (hK : K ≤ 20) (hn : n < K + 32) (hs : s ≤ 4096) (w : World)
    (hr : RowL w g 9 cur) (hcur : Hid (∀ k, k < K → cur[k]? = some (.string (strOf (ps[k]?.getD []))))) :
    Calls Try.prog 59 #[.slice (some ⟨g, 0, none⟩) K cap, .int .i64 n] w fun e w' => e = .returned (.string (strOf (gather ps (rowL K n) s K))) ∧ Below w.heap.size w w' := by
  have RW := hide (fun w => row_walk K n hK hn w)
  have ZW := hide (fun w => zeros_walk s hs w)
  have c0 := hr.cell 0 _ (hcur.out 0 (by omega))
  have hz0 : (strOf (ps[0]?.getD [])).size = s := by rw [strOf_size]; exact (hps.out.at_ (by omega)).1
  have hrl : Hid ((rowL K n).length = K) := rowL_length K n
  have hrlt : Hid (∀ x ∈ rowL K n, x < 256) := rowL_lt hK hn
  have hgo : Hid (∀ k, k ≤ K → (gather ps (rowL K n) s k).length = s ∧ ∀ x ∈ gather ps (rowL K n) s k, x < 256) := gather_ok hps.out hrlt.out
  obtain ⟨S0, hS0⟩ : ∃ S0, S0 = strOf (ps[0]?.getD []) := ⟨_, rfl⟩
  have hc0 : Hid (cur[0]? = some (.string S0)) := by rw [hS0]; exact hcur.out 0 (by omega)
  rw [← hS0] at c0 hz0
  have hK0 : (0 : Int) < (K : Int) := by omega
  have HR := hide hr
  clear hr hS0
  go_enter Try.func59, Try.ntmps59
  go_wp2_with (first | (go_at_call 75; refine (RW.out _).mono ?_; rintro _ w1 ⟨rfl, hr1, hb1⟩; have c1 := (HR.out.later hb1).cell 0 _ hc0.out; replace hr1 := hide hr1; replace hb1 := hide hb1) | (go_at_call 57; refine (ZW.out _).mono ?_; rintro _ w2 ⟨rfl, hb2⟩; replace hb2 := hide hb2))
  have HB := hide (hb1.out.trans (hb2.out.mono hb1.out.size))
  have HRr := hide (hr1.out.later hb2.out)
  have HRg := hide (HR.out.later HB.out)
  clear c0 c1 hr1
  go_loopw [6, 7] (fun v x wr => ∃ k : Nat, k ≤ K ∧ x = .int .i64 k ∧ v = .string (strOf (gather ps (rowL K n) s k)) ∧ Below w2.heap.size w2 wr)
    (fun _ x _ => leftOf K (intOf x).toNat)
  case atStart => exact ⟨0, by omega, rfl, by rw [gather_zero], Below.refl _ _⟩
  case round =>
    obtain ⟨k, hk, rfl, rfl, hbw⟩ := hrel
    by_cases hkK : k < K
    · have k1 : (k : Int) < (K : Int) := by omega
      have k0 : (0 : Int) ≤ (k : Int) := by omega
      have d1 := (HRg.out.later hbw).cell k _ (hcur.out k hkK)
      have d2 := (HRr.out.later hbw).cell k _ (i64s_at (by rw [hrl.out]; exact hkK))
      obtain ⟨hpl, hpx⟩ := hps.out.at_ hkK
      obtain ⟨hgl, hgx⟩ := hgo.out k hk
      have ht := getD_lt hrlt.out (show k < (rowL K n).length by rw [hrl.out]; exact hkK)
      have hstep : Hid (if (rowL K n)[k]?.getD 0 = 0 then gather ps (rowL K n) s (k + 1) = gather ps (rowL K n) s k else gather ps (rowL K n) s (k + 1) = xorL (gather ps (rowL K n) s k) (timesL (ps[k]?.getD []) ((rowL K n)[k]?.getD 0))) := by
        split
        · rename_i h; exact gather_skip h
        · rename_i h; exact gather_step h
      obtain ⟨G, hG⟩ : ∃ G, G = gather ps (rowL K n) s k := ⟨_, rfl⟩
      obtain ⟨P, hP⟩ : ∃ P, P = ps[k]?.getD [] := ⟨_, rfl⟩
      obtain ⟨t, hte⟩ : ∃ t, t = (rowL K n)[k]?.getD 0 := ⟨_, rfl⟩
      rw [← hG] at hgl hgx hstep ⊢
      rw [← hP] at hpl hpx hstep d1
      rw [← hte] at ht hstep d2
      have TW := hide (fun w => times_walk P t s hpx ht hpl hs w)
      have PW := hide (fun w => plus_walk G (timesL P t) s hgx (timesL_lt hpx ht) hgl ((timesL_length P t).trans hpl) hs w)
      have HBW := hide hbw
      clear hbw hG hP hte hpl hpx hgl hgx
      by_cases ht0 : t = 0
      · subst ht0
        have hst := hide ((if_pos rfl : _ = _).mp hstep.out)
        clear hstep
        go_wp2_with fail
        go_roundw
        case rel => exact ⟨k + 1, by omega, by go_num, by rw [hst.out], HBW.out⟩
        case measure => refine leftOf_lt ?_ ?_ <;> simp only [intOf] <;> omega
      · have hst : Hid (gather ps (rowL K n) s (k + 1) = xorL G (timesL P t)) := by
          have h := hstep.out
          rw [if_neg ht0] at h
          exact h
        have ht1 : ¬ (t : Int) = 0 := by omega
        clear hstep
        go_wp2_with fail
        go_region_with first | (go_at_call 77; refine (TW.out _).mono ?_; rintro _ w3 ⟨rfl, hb3⟩) | (go_at_call 76; refine (PW.out _).mono ?_; rintro _ w4 ⟨rfl, hb4⟩)
        all_goals
          replace hb3 := hide hb3
          replace hb4 := hide hb4
          go_wp2_with fail
          go_roundw
          case rel => exact ⟨k + 1, by omega, by go_num, by rw [hst.out], (HBW.out.drew).trans ((hb3.out.trans (hb4.out.mono hb3.out.size)).mono HBW.out.size)⟩
          case measure => refine leftOf_lt ?_ ?_ <;> simp only [intOf] <;> omega
    · have ek : k = K := by omega
      have k1 : ¬ (k : Int) < (K : Int) := by omega
      subst ek
      have HBW := hide hbw
      clear hbw
      go_wp2_with fail
      go_ret
      exact ⟨rfl, HB.out.trans (HBW.out.mono HB.out.size)⟩
end Go.Proofs.Ytmfpiodlecapiaa
