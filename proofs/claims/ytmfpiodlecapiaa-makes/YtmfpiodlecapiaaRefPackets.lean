/- The document's own packets: refusals. -/
import Derived.Test.YtmfpiodlecapiaaRefPieceW
namespace Go.Proofs.Ytmfpiodlecapiaa
open Go.RowKit Go.Deep

set_option maxRecDepth 20000 in
theorem refCuts_walk (len s m p Z : Nat) (hl : len ≤ 2000) (h1 : 1 ≤ s) (h2 : s ≤ 16) (h3 : 1 ≤ m) (h4 : m ≤ 20) (hZ : Hid (Cut.blocks (Cut.pieces len s) m = Z)) (w : World) :
    Calls Try.prog 56 #[.int .i64 len, .agg #[.int .i64 s, .int .i64 m, .int .i64 p]] w fun e w' => e = .returned (.bool (decide ((Z : Int) ≤ 256))) ∧ Below w.heap.size w w' := by
  have RB := hide (fun w => refBlocks_walk len s m p hl h1 h2 h3 h4 w)
  have hlen : Hid ((i64s (Cut.sizes len s m)).length = Z) := by show _ = _; rw [i64s_length, Cut.sizes_length, hZ.out]
  have hb0 := hide ((Below.refl w.heap.size w).alloc (Nat.le_refl _) (.cells #[.int .i64 s, .int .i64 m, .int .i64 p] 30))
  go_enter Try.func56, Try.ntmps56
  go_wp2_with (go_at_call 35; refine (RB.out _).mono ?_; rintro _ w3 ⟨v3, rfl, ho3, _, hb3⟩; obtain ⟨a3, c3, e3⟩ := ho3.shape; rw [hlen.out] at e3; subst e3; clear ho3; replace hb3 := hide hb3)
  go_ret
  exact ⟨rfl, hb0.out.trans (hb3.out.mono (by simp))⟩

set_option maxRecDepth 20000 in
set_option maxHeartbeats 1000000 in
theorem refPackets_refused (id s m p : Int) (S : ByteArray) (n : Nat) (hn : S.size = n) (h : ¬ (0 ≤ id ∧ id ≤ 65535 ∧ (n : Int) ≤ 2000 ∧ planOk s m p)) (w : World) :
    Calls Try.prog 40 #[.int .i64 id, .string S, .agg #[.int .i64 s, .int .i64 m, .int .i64 p]] w fun e w' => e = .returned (.tuple #[.slice none 0 0, .bool false]) ∧ Below w.heap.size w w' := by
  have hb0 := hide ((Below.refl w.heap.size w).alloc (Nat.le_refl _) (.cells #[.int .i64 s, .int .i64 m, .int .i64 p] 30))
  have e0 := cell3_0 w (.int .i64 s) (.int .i64 m) (.int .i64 p) 30
  have e1 := cell3_1 w (.int .i64 s) (.int .i64 m) (.int .i64 p) 30
  have e2 := cell3_2 w (.int .i64 s) (.int .i64 m) (.int .i64 p) 30
  have PL := hide (fun w => refPlan_walk s m p w)
  by_cases hp : planOk s m p
  · rw [planB_true hp] at PL
    by_cases hi0 : id < 0
    · clear h hp
      go_enter Try.func40, Try.ntmps40
      go_wp2_with (go_at_call 34; refine (PL.out _).mono ?_; rintro _ w2 ⟨rfl, hb2⟩; replace hb2 := hide hb2)
      go_ret2
      exact ⟨rfl, hb0.out.trans (hb2.out.mono (by simp))⟩
    · by_cases hi1 : 65535 < id
      · clear h hp
        go_enter Try.func40, Try.ntmps40
        go_wp2_with (go_at_call 34; refine (PL.out _).mono ?_; rintro _ w2 ⟨rfl, hb2⟩; replace hb2 := hide hb2)
        go_ret2
        exact ⟨rfl, hb0.out.trans (hb2.out.mono (by simp))⟩
      · have h3 : (2000 : Int) < (n : Int) := by
          rcases Int.lt_or_le 2000 (n : Int) with h3 | h3
          · exact h3
          · exact absurd ⟨by omega, by omega, h3, hp⟩ h
        clear h hp
        go_enter Try.func40, Try.ntmps40
        go_wp2_with (go_at_call 34; refine (PL.out _).mono ?_; rintro _ w2 ⟨rfl, hb2⟩; replace hb2 := hide hb2)
        go_ret2
        exact ⟨rfl, hb0.out.trans (hb2.out.mono (by simp))⟩
  · rw [planB_false hp] at PL
    clear hp h
    go_enter Try.func40, Try.ntmps40
    go_wp2_with (go_at_call 34; refine (PL.out _).mono ?_; rintro _ w2 ⟨rfl, hb2⟩; replace hb2 := hide hb2)
    go_ret2
    exact ⟨rfl, hb0.out.trans (hb2.out.mono (by simp))⟩

set_option maxRecDepth 20000 in
set_option maxHeartbeats 1000000 in
theorem refPackets_many (id s m p n Z : Nat) (S : ByteArray) (hn : S.size = n) (hid : id < 65536) (hl : n ≤ 2000) (h1 : 1 ≤ s) (h2 : s ≤ 16) (h3 : 1 ≤ m) (h4 : m ≤ 20) (h5 : p ≤ 20) (hZ : Hid (Cut.blocks (Cut.pieces n s) m = Z)) (hc : 256 < Z) (w : World) :
    Calls Try.prog 40 #[.int .i64 id, .string S, .agg #[.int .i64 s, .int .i64 m, .int .i64 p]] w fun e w' => e = .returned (.tuple #[.slice none 0 0, .bool false]) ∧ Below w.heap.size w w' := by
  have hb0 := hide ((Below.refl w.heap.size w).alloc (Nat.le_refl _) (.cells #[.int .i64 s, .int .i64 m, .int .i64 p] 30))
  have hrow := hide (rowL_alloc' w #[.int .i64 s, .int .i64 m, .int .i64 p] 30)
  have e0 := hrow.out.cell 0 _ rfl
  have e1 := hrow.out.cell 1 _ rfl
  have e2 := hrow.out.cell 2 _ rfl
  have PL := hide (fun w => refPlan_walk s m p w)
  rw [planB_true ⟨by omega, by omega, by omega, by omega, by omega, by omega⟩] at PL
  have CW := hide (fun w => refCuts_walk n s m p Z hl h1 h2 h3 h4 hZ w)
  have hd : decide ((Z : Int) ≤ 256) = false := decide_eq_false (by omega)
  rw [hd] at CW
  have hl' : ¬ (2000 : Int) < (n : Int) := by omega
  have hi' : ¬ (65535 : Int) < (id : Int) := by omega
  go_enter Try.func40, Try.ntmps40
  go_wp2_with (first | (go_at_call 34; refine (PL.out _).mono ?_; rintro _ w2 ⟨rfl, hb2⟩; have hr2 := hrow.out.later hb2; have g0 := hr2.cell 0 _ rfl; have g1 := hr2.cell 1 _ rfl; have g2 := hr2.cell 2 _ rfl; clear hr2; replace hb2 := hide hb2) | (go_at_call 56; refine (CW.out _).mono ?_; rintro _ w3 ⟨rfl, hb3⟩; replace hb3 := hide hb3))
  go_ret2
  exact ⟨rfl, (hb0.out.trans (hb2.out.mono (by simp))).trans (hb3.out.mono (Nat.le_trans (by simp) hb2.out.size))⟩
end Go.Proofs.Ytmfpiodlecapiaa
