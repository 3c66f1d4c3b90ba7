/- What the program's calls on blocks answer: the document's sizes, or a refusal. -/
import Derived.Test.YtmfpiodlecapiaaDoorRows
import Derived.Test.YtmfpiodlecapiaaDoorMem
import Derived.Test.YtmfpiodlecapiaaDoorCutting
namespace Go.Proofs.YtmfpiodlecapiaaDoor
open Go.RowKit

theorem Tryd.infoInt : (Tryd.prog.info? 3).map (fun i => (i.zero, i.size, i.bytes)) = some (some (.int .i64 0), 1, 8) := by kernel_rfl

theorem within_walk (n l m : Int) (w : World) :
    Calls Tryd.prog 42 #[.int .i64 n, .int .i64 l, .int .i64 m] w fun e w' => e = .returned (.bool (decide (l ≤ n) && decide (n ≤ m))) ∧ w' = w := by
  by_cases h : l ≤ n
  · go_enter Tryd.func42, Tryd.ntmps42
    go_wp2
    go_ret
    exact ⟨by simp [h], rfl⟩
  · go_enter Tryd.func42, Tryd.ntmps42
    go_wp2
    go_ret
    exact ⟨by have : ¬ (l ≤ n) := by omega
              simp [this], rfl⟩

theorem isLength_walk (n : Int) (w : World) :
    Calls Tryd.prog 36 #[.int .i64 n] w fun e w' => e = .returned (.bool (decide (0 ≤ n) && decide (n ≤ 2000))) ∧ w' = w := by
  go_enter Tryd.func36, Tryd.ntmps36
  go_wp2_with (go_at_call 42; refine (within_walk _ _ _ _).mono ?_; rintro _ _ ⟨rfl, rfl⟩)
  go_ret
  exact ⟨rfl, rfl⟩

theorem divideUp_walk (a b : Nat) (ha : a < 4294967296) (hb : b < 4294967296) (hb0 : 0 < b) (w : World) :
    Calls Tryd.prog 38 #[.int .i64 a, .int .i64 b] w fun e w' => e = .returned (.int .i64 (((a + b - 1) / b : Nat) : Int)) ∧ w' = w := by
  have e : (((a + b - 1) / b : Nat) : Int) = ((a : Int) + (b : Int) - 1) / (b : Int) := by
    rw [Int.natCast_ediv]; congr 1; omega
  rw [e]; clear e
  go_enter Tryd.func38, Tryd.ntmps38
  go_wp2
  go_ret
  exact ⟨rfl, rfl⟩

def planOk (s m p : Int) : Prop := 1 ≤ s ∧ s ≤ 16 ∧ 1 ≤ m ∧ m ≤ 20 ∧ 0 ≤ p ∧ p ≤ 20
def planB (s m p : Int) : Bool := decide (1 ≤ s ∧ s ≤ 16 ∧ 1 ≤ m ∧ m ≤ 20 ∧ 0 ≤ p ∧ p ≤ 20)
theorem planB_true {s m p : Int} (h : planOk s m p) : planB s m p = true := decide_eq_true h
theorem planB_false {s m p : Int} (h : ¬ planOk s m p) : planB s m p = false := decide_eq_false h

theorem isPlan_walk (s m p : Int) (w : World) :
    Calls Tryd.prog 37 #[.agg #[.int .i64 s, .int .i64 m, .int .i64 p]] w fun e w' => e = .returned (.bool (planB s m p)) ∧ Below w.heap.size w w' := by
  by_cases h1 : 1 ≤ s ∧ s ≤ 16
  · by_cases h2 : 1 ≤ m ∧ m ≤ 20
    · by_cases h3 : 0 ≤ p ∧ p ≤ 20
      · have e1 : (decide (1 ≤ s) && decide (s ≤ 16)) = true := by simp; omega
        have e2 : (decide (1 ≤ m) && decide (m ≤ 20)) = true := by simp; omega
        have e3 : (decide (0 ≤ p) && decide (p ≤ 20)) = true := by simp; omega
        have e : planB s m p = true := planB_true (by unfold planOk; omega)
        rw [e]; clear e h1 h2 h3
        go_enter Tryd.func37, Tryd.ntmps37
        go_wp2_with (go_at_call 42; refine (within_walk _ _ _ _).mono ?_; rintro _ _ ⟨rfl, rfl⟩; simp only [e1, e2, e3])
        go_ret
        exact ⟨rfl, (Below.refl _ _).alloc (Nat.le_refl _) _⟩
      · have e1 : (decide (1 ≤ s) && decide (s ≤ 16)) = true := by simp; omega
        have e2 : (decide (1 ≤ m) && decide (m ≤ 20)) = true := by simp; omega
        have e3 : (decide (0 ≤ p) && decide (p ≤ 20)) = false := by simp; omega
        have e : planB s m p = false := planB_false (by unfold planOk; omega)
        rw [e]; clear e h1 h2 h3
        go_enter Tryd.func37, Tryd.ntmps37
        go_wp2_with (go_at_call 42; refine (within_walk _ _ _ _).mono ?_; rintro _ _ ⟨rfl, rfl⟩; simp only [e1, e2, e3])
        go_ret
        exact ⟨rfl, (Below.refl _ _).alloc (Nat.le_refl _) _⟩
    · have e1 : (decide (1 ≤ s) && decide (s ≤ 16)) = true := by simp; omega
      have e2 : (decide (1 ≤ m) && decide (m ≤ 20)) = false := by simp; omega
      have e : planB s m p = false := planB_false (by unfold planOk; omega)
      rw [e]; clear e h1 h2
      go_enter Tryd.func37, Tryd.ntmps37
      go_wp2_with (go_at_call 42; refine (within_walk _ _ _ _).mono ?_; rintro _ _ ⟨rfl, rfl⟩; simp only [e1, e2])
      go_ret
      exact ⟨rfl, (Below.refl _ _).alloc (Nat.le_refl _) _⟩
  · have e1 : (decide (1 ≤ s) && decide (s ≤ 16)) = false := by simp; omega
    have e : planB s m p = false := planB_false (by unfold planOk; omega)
    rw [e]; clear e h1
    go_enter Tryd.func37, Tryd.ntmps37
    go_wp2_with (go_at_call 42; refine (within_walk _ _ _ _).mono ?_; rintro _ _ ⟨rfl, rfl⟩; simp only [e1])
    go_ret
    exact ⟨rfl, (Below.refl _ _).alloc (Nat.le_refl _) _⟩

theorem share_walk (n z : Nat) (hn : n ≤ 4096) (hz : z ≤ 4096) (hz0 : 0 < z) (w : World) :
    Calls Tryd.prog 39 #[.int .i64 n, .int .i64 z] w fun e w' => e = .returned (.slice (some ⟨w.heap.size, 0, none⟩) z z) ∧ Below w.heap.size w w' ∧ RowL w' w.heap.size 3 (i64s (Cut.shareL n z)) := by
  obtain ⟨i0, hi, hz0', hz1, hz2⟩ := info_parts Tryd.infoInt
  go_enter Tryd.func39, Tryd.ntmps39
  go_wp2_with (at_make; refine wpList_make_row _ rfl _ _ 57 rfl 3 i0 (.int .i64 0) Tryd.underlying57 hi hz0' hz1 rfl .i64 .i64 z rfl rfl (by rw [hz2]; omega) (by omega) ?_)
  have hb0 : Below w.heap.size w (w.alloc (.cells (madeCells #[.int .i64 0] z) 3)) := (Below.refl _ _).alloc (Nat.le_refl _) _
  have hr0 : RowL (w.alloc (.cells (madeCells #[.int .i64 0] z) 3)) w.heap.size 3 (fill (i64s (Cut.shareL n z)) (.int .i64 0) 0) := by
    rw [fill_zero, i64s_length, Cut.shareL_length]; exact rowL_made _ _ _ _
  go_loopw [11] (fun i wr => ∃ k : Nat, k ≤ z ∧ i = .int .i64 k ∧ Below w.heap.size w wr ∧ RowL wr w.heap.size 3 (fill (i64s (Cut.shareL n z)) (.int .i64 0) k))
    (fun i _ => z - (intOf i).toNat)
  case atStart => exact ⟨0, by omega, rfl, hb0, hr0⟩
  case round =>
    obtain ⟨k, hk, rfl, hb, hr⟩ := hrel
    clear hb0 hr0
    by_cases hkz : k < z
    · have hlen : k < (i64s (Cut.shareL n z)).length := by rw [i64s_length, Cut.shareL_length]; exact hkz
      have hc := hr.cell k _ (fill_at _ _ _ hlen)
      have hf := hr.frozen k
      have hv : (i64s (Cut.shareL n z))[k]? = some (.int .i64 ((n / z + if k < n % z then 1 else 0 : Nat) : Int)) := by
        simp [i64s, Cut.shareL, hkz]
      have eq0 : (n : Int) / (z : Int) = ((n / z : Nat) : Int) := by simp
      have hq0 : 0 ≤ (n : Int) / (z : Int) := by rw [eq0]; exact Int.natCast_nonneg _
      have hq : (n : Int) / (z : Int) ≤ 4096 := by
        have : n / z ≤ n := Nat.div_le_self _ _
        rw [eq0]; omega
      have hE := hide eq0
      clear eq0
      by_cases hm : k < n % z
      · have hm' : (k : Int) < (n : Int) % (z : Int) := by omega
        have hR := hide hr; have hB := hide hb; have hV := hide hv
        clear hr hb hv
        go_wp2
        go_roundw
        case rel =>
          refine ⟨k + 1, by omega, by go_num, (hB.out.setCell (Nat.le_refl _) _).setCell (Nat.le_refl _) _, ?_⟩
          have := (hR.out.set k (.int .i64 ((n : Int) / (z : Int)))).set k (.int .i64 ((n : Int) / (z : Int) + 1))
          rw [List.set_set, fill_set] at this
          · exact this
          · rw [hV.out, if_pos hm, hE.out]; rfl
        case measure => simp [intOf]; omega
      · have hm' : ¬ (k : Int) < (n : Int) % (z : Int) := by omega
        have hR := hide hr; have hB := hide hb; have hV := hide hv
        clear hr hb hv
        go_wp2
        go_roundw
        case rel =>
          refine ⟨k + 1, by omega, by go_num, (hB.out.setCell (Nat.le_refl _) _), ?_⟩
          have := (hR.out.set k (.int .i64 ((n : Int) / (z : Int))))
          rw [fill_set] at this
          · exact this
          · rw [hV.out, if_neg hm, hE.out]; rfl
        case measure => simp [intOf]; omega
    · have e : k = z := by omega
      subst e
      have hr' : RowL wr w.heap.size 3 (i64s (Cut.shareL n k)) := by
        have h2 := fill_all (i64s (Cut.shareL n k)) (Value.int .i64 0)
        rw [i64s_length, Cut.shareL_length] at h2
        rw [h2] at hr; exact hr
      have hR := hide hr'; have hB := hide hb
      clear hr hr' hb
      go_wp2
      go_ret
      exact ⟨rfl, hB.out, hR.out⟩

theorem cutBlocks_refused (len s m p : Int) (h : ¬ (0 ≤ len ∧ len ≤ 2000 ∧ planOk s m p)) (w : World) :
    Calls Tryd.prog 29 #[.int .i64 len, .agg #[.int .i64 s, .int .i64 m, .int .i64 p]] w fun e w' => e = .returned (.tuple #[.slice none 0 0, .bool false]) ∧ Below w.heap.size w w' := by
  have hb0 := hide ((Below.refl w.heap.size w).alloc (Nat.le_refl _) (.cells #[.int .i64 s, .int .i64 m, .int .i64 p] 36))
  by_cases hl : 0 ≤ len ∧ len ≤ 2000
  · have e1 : (decide (0 ≤ len) && decide (len ≤ 2000)) = true := by simp; omega
    have e2 : planB s m p = false := planB_false (fun hp => h ⟨hl.1, hl.2, hp⟩)
    clear h hl
    go_enter Tryd.func29, Tryd.ntmps29
    go_wp2_with first | (go_at_call 36; refine (isLength_walk _ _).mono ?_; rintro _ _ ⟨rfl, rfl⟩; simp only [e1]) | (go_at_call 37; refine (isPlan_walk _ _ _ _).mono ?_; rintro _ w1 ⟨rfl, hb1⟩; replace hb1 := hide hb1; simp only [e2])
    go_ret2
    exact ⟨rfl, hb0.out.trans (hb1.out.mono (by simp))⟩
  · have e1 : (decide (0 ≤ len) && decide (len ≤ 2000)) = false := by simp; omega
    clear h hl
    go_enter Tryd.func29, Tryd.ntmps29
    go_wp2_with (go_at_call 36; refine (isLength_walk _ _).mono ?_; rintro _ _ ⟨rfl, rfl⟩; simp only [e1])
    go_ret2
    exact ⟨rfl, hb0.out⟩


theorem cutBlocks_coreA (len s m p q Z : Nat) (hl : len ≤ 2000) (h1 : 1 ≤ s) (h2 : s ≤ 16) (h3 : 1 ≤ m) (h4 : m ≤ 20) (h5 : p ≤ 20)
    (hq : 1 < q) (hq2 : q ≤ 2000) (hZ1 : 1 ≤ Z) (_hZ2 : Z ≤ q) (d1 : (len + s - 1) / s = q) (d2 : (q + m - 1) / m = Z) (w : World) :
    (Z ≤ 256 → Calls Tryd.prog 29 #[.int .i64 len, .agg #[.int .i64 s, .int .i64 m, .int .i64 p]] w fun e w' =>
        ∃ g, w.heap.size ≤ g ∧ e = .returned (.tuple #[.slice (some ⟨g, 0, none⟩) Z Z, .bool true]) ∧ Below w.heap.size w w' ∧ RowL w' g 3 (i64s (Cut.shareL q Z))) ∧
    (¬ Z ≤ 256 → Calls Tryd.prog 29 #[.int .i64 len, .agg #[.int .i64 s, .int .i64 m, .int .i64 p]] w fun e w' =>
        e = .returned (.tuple #[.slice none 0 0, .bool false]) ∧ Below w.heap.size w w') := by
  have hb0 := hide ((Below.refl w.heap.size w).alloc (Nat.le_refl _) (.cells #[.int .i64 s, .int .i64 m, .int .i64 p] 36))
  have e1 : (decide ((0 : Int) ≤ (len : Int)) && decide ((len : Int) ≤ 2000)) = true := by simp; omega
  have e2 : planB s m p = true := planB_true (by unfold planOk; omega)
  constructor
  · intro hc
    go_enter Tryd.func29, Tryd.ntmps29
    go_wp2_with first | (go_at_call 36; refine (isLength_walk _ _).mono ?_; rintro _ _ ⟨rfl, rfl⟩; simp only [e1]) | (go_at_call 37; refine (isPlan_walk _ _ _ _).mono ?_; rintro _ w1 ⟨rfl, hb1⟩; have c0 := cell_later hb1 (cell3_0 w _ _ _ _); have c1 := cell_later hb1 (cell3_1 w _ _ _ _); replace hb1 := hide hb1; simp only [e2])
    refine (divideUp_walk _ _ (by omega) (by omega) (by omega) _).mono ?_
    rintro _ _ ⟨rfl, rfl⟩
    simp only [d1]
    go_wp2_with first | (go_at_call 38; refine (divideUp_walk _ _ (by omega) (by omega) (by omega) _).mono ?_; rintro _ _ ⟨rfl, rfl⟩; simp only [d2]) | (go_at_call 39; refine (share_walk _ _ (by omega) (by omega) (by omega) _).mono ?_; rintro _ w2 ⟨rfl, hb2, hr2⟩; replace hb2 := hide hb2; replace hr2 := hide hr2)
    go_ret2
    exact ⟨_, Nat.le_trans hb0.out.size hb1.out.size, rfl, (hb0.out.trans (hb1.out.mono (by simp))).trans (hb2.out.mono (Nat.le_trans hb0.out.size hb1.out.size)), hr2.out⟩
  · intro hc
    go_enter Tryd.func29, Tryd.ntmps29
    go_wp2_with first | (go_at_call 36; refine (isLength_walk _ _).mono ?_; rintro _ _ ⟨rfl, rfl⟩; simp only [e1]) | (go_at_call 37; refine (isPlan_walk _ _ _ _).mono ?_; rintro _ w1 ⟨rfl, hb1⟩; have c0 := cell_later hb1 (cell3_0 w _ _ _ _); have c1 := cell_later hb1 (cell3_1 w _ _ _ _); replace hb1 := hide hb1; simp only [e2])
    refine (divideUp_walk _ _ (by omega) (by omega) (by omega) _).mono ?_
    rintro _ _ ⟨rfl, rfl⟩
    simp only [d1]
    go_wp2_with (go_at_call 38; refine (divideUp_walk _ _ (by omega) (by omega) (by omega) _).mono ?_; rintro _ _ ⟨rfl, rfl⟩; simp only [d2])
    go_ret2
    exact ⟨rfl, hb0.out.trans (hb1.out.mono (by simp))⟩

theorem cutBlocks_coreB (len s m p q Z : Nat) (hl : len ≤ 2000) (h1 : 1 ≤ s) (h2 : s ≤ 16) (h3 : 1 ≤ m) (h4 : m ≤ 20) (h5 : p ≤ 20)
    (hq : q ≤ 1) (hZ1 : 1 ≤ Z) (hZ2 : Z ≤ 1) (d1 : (len + s - 1) / s = q) (d2 : (1 + m - 1) / m = Z) (w : World) :
    (Z ≤ 256 → Calls Tryd.prog 29 #[.int .i64 len, .agg #[.int .i64 s, .int .i64 m, .int .i64 p]] w fun e w' =>
        ∃ g, w.heap.size ≤ g ∧ e = .returned (.tuple #[.slice (some ⟨g, 0, none⟩) Z Z, .bool true]) ∧ Below w.heap.size w w' ∧ RowL w' g 3 (i64s (Cut.shareL 1 Z))) ∧
    (¬ Z ≤ 256 → Calls Tryd.prog 29 #[.int .i64 len, .agg #[.int .i64 s, .int .i64 m, .int .i64 p]] w fun e w' =>
        e = .returned (.tuple #[.slice none 0 0, .bool false]) ∧ Below w.heap.size w w') := by
  have hb0 := hide ((Below.refl w.heap.size w).alloc (Nat.le_refl _) (.cells #[.int .i64 s, .int .i64 m, .int .i64 p] 36))
  have e1 : (decide ((0 : Int) ≤ (len : Int)) && decide ((len : Int) ≤ 2000)) = true := by simp; omega
  have e2 : planB s m p = true := planB_true (by unfold planOk; omega)
  have D1 : Hid (∀ w, Calls Tryd.prog 38 #[.int .i64 1, .int .i64 m] w fun e w' => e = .returned (.int .i64 (Z : Int)) ∧ w' = w) := by
    intro w
    have := divideUp_walk 1 m (by omega) (by omega) (by omega) w
    rw [d2] at this
    exact this
  constructor
  · intro hc
    go_enter Tryd.func29, Tryd.ntmps29
    go_wp2_with first | (go_at_call 36; refine (isLength_walk _ _).mono ?_; rintro _ _ ⟨rfl, rfl⟩; simp only [e1]) | (go_at_call 37; refine (isPlan_walk _ _ _ _).mono ?_; rintro _ w1 ⟨rfl, hb1⟩; have c0 := cell_later hb1 (cell3_0 w _ _ _ _); have c1 := cell_later hb1 (cell3_1 w _ _ _ _); replace hb1 := hide hb1; simp only [e2])
    refine (divideUp_walk _ _ (by omega) (by omega) (by omega) _).mono ?_
    rintro _ _ ⟨rfl, rfl⟩
    simp only [d1]
    go_wp2_with first | (go_at_call 38; refine (D1.out _).mono ?_; rintro _ _ ⟨rfl, rfl⟩) | (go_at_call 39; refine (share_walk 1 _ (by omega) (by omega) (by omega) _).mono ?_; rintro _ w2 ⟨rfl, hb2, hr2⟩; replace hb2 := hide hb2; replace hr2 := hide hr2)
    go_ret2
    exact ⟨_, Nat.le_trans hb0.out.size hb1.out.size, rfl, (hb0.out.trans (hb1.out.mono (by simp))).trans (hb2.out.mono (Nat.le_trans hb0.out.size hb1.out.size)), hr2.out⟩
  · intro hc; omega

theorem cutBlocks_walk (len s m p : Nat) (hl : len ≤ 2000) (h1 : 1 ≤ s) (h2 : s ≤ 16) (h3 : 1 ≤ m) (h4 : m ≤ 20) (h5 : p ≤ 20) (w : World) :
    (Cut.blocks (Cut.pieces len s) m ≤ 256 → Calls Tryd.prog 29 #[.int .i64 len, .agg #[.int .i64 s, .int .i64 m, .int .i64 p]] w fun e w' =>
        ∃ g, w.heap.size ≤ g ∧ e = .returned (.tuple #[.slice (some ⟨g, 0, none⟩) (Cut.blocks (Cut.pieces len s) m) (Cut.blocks (Cut.pieces len s) m), .bool true]) ∧ Below w.heap.size w w' ∧ RowL w' g 3 (i64s (Cut.sizes len s m))) ∧
    (¬ Cut.blocks (Cut.pieces len s) m ≤ 256 → Calls Tryd.prog 29 #[.int .i64 len, .agg #[.int .i64 s, .int .i64 m, .int .i64 p]] w fun e w' =>
        e = .returned (.tuple #[.slice none 0 0, .bool false]) ∧ Below w.heap.size w w') := by
  have hN1 := Cut.pieces_pos len s
  have hN2 := Cut.pieces_le hl h1
  have hZ1 := Cut.blocks_pos hN1 h3
  have hZ2 := Cut.blocks_le hN1 h3
  unfold Cut.sizes
  by_cases hq : 1 < (len + s - 1) / s
  · have e : Cut.pieces len s = (len + s - 1) / s := by unfold Cut.pieces; omega
    rw [e] at hN2 hZ1 hZ2 ⊢
    exact cutBlocks_coreA len s m p _ _ hl h1 h2 h3 h4 h5 hq hN2 hZ1 hZ2 rfl rfl w
  · have e : Cut.pieces len s = 1 := by unfold Cut.pieces; omega
    rw [e] at hN2 hZ1 hZ2 ⊢
    exact cutBlocks_coreB len s m p _ _ hl h1 h2 h3 h4 h5 (by omega) hZ1 hZ2 rfl rfl w

end Go.Proofs.YtmfpiodlecapiaaDoor
