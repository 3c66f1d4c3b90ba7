/- The document's own bytes of a text: the letter at a place; all of it. -/
import Derived.Test.YtmfpiodlecapiaaDoorRefText
import Derived.Test.YtmfpiodlecapiaaDoorRefReadW
import Derived.Test.YtmfpiodlecapiaaDoorCallsP
namespace Go.Proofs.YtmfpiodlecapiaaDoor
open Go.RowKit Go.Deep

set_option maxRecDepth 20000 in
set_option maxHeartbeats 1000000 in
theorem refNumber_walk (S : ByteArray) (N i : Nat) (hS : S.size = N) (hN : N ≤ 100000000) (hi : i < N) (w : World) :
    Calls Tryd.prog 24 #[.string S, .int .i64 i] w fun e w' => e = .returned (.tuple #[.int .i64 (Tx.numAt (bytesOf S) i), .int .i64 (Tx.sizeAt (bytesOf S) i : Nat)]) ∧ w' = w := by
  have hc := bytes_lt S i
  have hix := sIndex S i (by omega)
  have hl : (bytesOf S).length = N := by rw [bytesOf_length]; exact hS
  unfold Tx.numAt Tx.sizeAt Tx.greek
  rw [hl]
  have hix2 : i + 1 < N → ∀ w, (Instr.index 9 (.string S) (.int .i64 ((i : Int) + 1))).run Tryd.prog w = .ok (.int .u8 ((bytesOf S)[i + 1]?.getD 0 : Nat)) w := fun h w => sIndex S (i + 1) (by omega) w
  have hd := bytes_lt S (i + 1)
  generalize (bytesOf S)[i]?.getD 0 = c at hc hix ⊢
  generalize (bytesOf S)[i + 1]?.getD 0 = d at hix2 hd ⊢
  clear hl
  by_cases h1 : c = 32
  · subst h1
    rw [if_pos (Or.inl rfl), if_neg (by omega)]
    clear hix2
    go_enter Tryd.func24, Tryd.ntmps24
    go_wp2
    go_ret2
    exact ⟨rfl, rfl⟩
  by_cases h2 : c = 10
  · subst h2
    rw [if_pos (Or.inr rfl), if_neg (by omega)]
    clear hix2
    go_enter Tryd.func24, Tryd.ntmps24
    go_wp2
    go_ret2
    exact ⟨rfl, rfl⟩
  have e1 : ((c : Int) == 32) = false := by simp; omega
  have e2 : ((c : Int) == 10) = false := by simp; omega
  rw [if_neg (by omega)]
  by_cases h3 : 65 ≤ c ∧ c ≤ 90
  · rw [if_pos h3, if_neg (by omega)]
    have k1 : (65 : Int) ≤ (c : Int) := by omega
    have k2 : (c : Int) ≤ 90 := by omega
    clear hix2
    go_enter Tryd.func24, Tryd.ntmps24
    go_wp2
    go_ret2
    exact ⟨rfl, rfl⟩
  rw [if_neg h3]
  by_cases h4 : 97 ≤ c ∧ c ≤ 122
  · rw [if_pos h4, if_neg (by omega)]
    have k1 : (65 : Int) ≤ (c : Int) := by omega
    have k2 : ¬ (c : Int) ≤ 90 := by omega
    have k3 : (97 : Int) ≤ (c : Int) := by omega
    have k4 : (c : Int) ≤ 122 := by omega
    have k5 : (c : Int) - 97 + 26 = (c : Int) - 71 := by omega
    clear hix2
    go_enter Tryd.func24, Tryd.ntmps24
    go_wp2
    go_ret2
    exact ⟨rfl, rfl⟩
  rw [if_neg h4]
  by_cases h5 : c = 206
  · subst h5
    by_cases h6 : i + 1 < N
    · have hx2 := hix2 h6
      have k6 : (i : Int) + 1 < (N : Int) := by omega
      clear hix2
      by_cases h7 : 177 ≤ d
      · have k7 : (177 : Int) ≤ (d : Int) := by omega
        by_cases h8 : d ≤ 188
        · have k8 : (d : Int) ≤ 188 := by omega
          have k9 : (d : Int) - 177 + 52 = (d : Int) - 125 := by omega
          rw [if_pos ⟨rfl, h6, h7, h8⟩, if_pos ⟨rfl, h6, h7, h8⟩]
          go_enter Tryd.func24, Tryd.ntmps24
          go_wp2
          go_ret2
          exact ⟨rfl, rfl⟩
        · have k8 : ¬ (d : Int) ≤ 188 := by omega
          rw [if_neg (fun h => h8 h.2.2.2), if_neg (fun h => h8 h.2.2.2)]
          go_enter Tryd.func24, Tryd.ntmps24
          go_wp2
          go_ret2
          exact ⟨rfl, rfl⟩
      · have k7 : ¬ (177 : Int) ≤ (d : Int) := by omega
        rw [if_neg (fun h => h7 h.2.2.1), if_neg (fun h => h7 h.2.2.1)]
        go_enter Tryd.func24, Tryd.ntmps24
        go_wp2
        go_ret2
        exact ⟨rfl, rfl⟩
    · have k6 : ¬ (i : Int) + 1 < (N : Int) := by omega
      rw [if_neg (fun h => h6 h.2.1), if_neg (fun h => h6 h.2.1)]
      clear hix2
      go_enter Tryd.func24, Tryd.ntmps24
      go_wp2
      go_ret2
      exact ⟨rfl, rfl⟩
  · rw [if_neg (fun h => h5 h.1), if_neg (fun h => h5 h.1)]
    have e3 : ((c : Int) == 206) = false := by simp; omega
    clear hix2
    by_cases g1 : 65 ≤ c
    · have k1 : (65 : Int) ≤ (c : Int) := by omega
      have k2 : ¬ (c : Int) ≤ 90 := by omega
      by_cases g2 : 97 ≤ c
      · have k3 : (97 : Int) ≤ (c : Int) := by omega
        have k4 : ¬ (c : Int) ≤ 122 := by omega
        go_enter Tryd.func24, Tryd.ntmps24
        go_wp2
        go_ret2
        exact ⟨rfl, rfl⟩
      · have k3 : ¬ (97 : Int) ≤ (c : Int) := by omega
        go_enter Tryd.func24, Tryd.ntmps24
        go_wp2
        go_ret2
        exact ⟨rfl, rfl⟩
    · have k1 : ¬ (65 : Int) ≤ (c : Int) := by omega
      have k3 : ¬ (97 : Int) ≤ (c : Int) := by omega
      go_enter Tryd.func24, Tryd.ntmps24
      go_wp2
      go_ret2
      exact ⟨rfl, rfl⟩
end Go.Proofs.YtmfpiodlecapiaaDoor
