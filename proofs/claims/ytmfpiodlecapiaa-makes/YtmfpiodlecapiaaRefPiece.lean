/- The document's own pieces and heads. -/
import Derived.Test.YtmfpiodlecapiaaRefPack
import Derived.Deep.RegionHeld
namespace Go.Proofs.Ytmfpiodlecapiaa
open Go.RowKit Go.Deep

/- What each of a block's K pieces counts in its piece n. -/
def rowL (K n : Nat) : List Nat := if n < K then (List.replicate K 0).set n 1 else (List.range K).map (fun i => Pk.weight (n - K) i)
theorem rowL_length (K n : Nat) : (rowL K n).length = K := by unfold rowL; split <;> simp
theorem i64s_replicate (K x : Nat) : i64s (List.replicate K x) = List.replicate K (.int .i64 (x : Nat)) := by simp [i64s]

set_option maxRecDepth 20000 in
set_option maxHeartbeats 1000000 in
theorem row_walk (K n : Nat) (hK : K ≤ 20) (hn : n < K + 32) (w : World) :
    Calls Try.prog 75 #[.int .i64 K, .int .i64 n] w fun e w' => e = .returned (.slice (some ⟨w.heap.size, 0, none⟩) K K) ∧ RowL w' w.heap.size 3 (i64s (rowL K n)) ∧ Below w.heap.size w w' := by
  obtain ⟨i0, hi, hz0, hz1, hz2⟩ := info_parts Try.infoInt
  have HR0 := hide (rowL_made w (.int .i64 0) K 3)
  have HB0 := hide ((Below.refl w.heap.size w).alloc (Nat.le_refl _) (.cells (madeCells #[.int .i64 0] K) 3))
  by_cases hnK : n < K
  · have hL : Hid (i64s (rowL K n) = (List.replicate K (Value.int .i64 0)).set n (.int .i64 1)) := by
      show _ = _
      unfold rowL
      rw [if_pos hnK]
      simp [i64s, List.map_set]
    have e1 : ¬ (K : Int) ≤ (n : Int) := by omega
    have e2 : (n : Int) < (K : Int) := by omega
    have e3 : (0 : Int) ≤ (n : Int) := by omega
    go_enter Try.func75, Try.ntmps75
    go_wp2_with (at_make; refine wpList_mk _ rfl _ _ 42 rfl 3 i0 (.int .i64 0) Try.underlying42 hi hz0 hz1 rfl .i64 .i64 K K rfl rfl (by omega) (by rw [hz2]; omega) (by omega) ?_)
    go_loopw [6] (fun x wr => ∃ k : Nat, k ≤ K ∧ x = .int .i64 k ∧ Below w.heap.size w wr ∧ RowL wr w.heap.size 3 (List.replicate K (.int .i64 0))) (fun x _ => leftOf K (intOf x).toNat)
    case atStart => exact ⟨0, by omega, rfl, HB0.out, HR0.out⟩
    case round =>
      obtain ⟨k, hk, rfl, hbw, hr⟩ := hrel
      have HBW := hide hbw; have HRW := hide hr
      clear hbw hr
      by_cases hkK : k < K
      · have k1 : (k : Int) < (K : Int) := by omega
        go_wp2_with fail
        go_roundw
        case rel => exact ⟨k + 1, by omega, by go_num, HBW.out, HRW.out⟩
        case measure => refine leftOf_lt ?_ ?_ <;> simp only [intOf] <;> omega
      · have k1 : ¬ (k : Int) < (K : Int) := by omega
        have hc := HRW.out.cell n (.int .i64 0) (by simp [hnK])
        have hf := HRW.out.frozen n
        go_wp2_with fail
        go_ret
        refine ⟨rfl, ?_, HBW.out.setCell (Nat.le_refl _) _⟩
        rw [hL.out]
        exact HRW.out.set n _
  · have hL : Hid (∀ k, k < K → (i64s (rowL K n))[k]? = some (.int .i64 (Pk.weight (n - K) k : Nat))) := by
      intro k hk
      unfold rowL
      rw [if_neg hnK]
      simp [i64s, hk]
    have hLl : Hid ((i64s (rowL K n)).length = (List.replicate K (Value.int .i64 0)).length) := by
      show _ = _
      rw [i64s_length, rowL_length]; simp
    obtain ⟨j, hj⟩ : ∃ j, j = n - K := ⟨_, rfl⟩
    have e1 : (K : Int) ≤ (n : Int) := by omega
    have e2 : ¬ (n : Int) < (K : Int) := by omega
    have e3 : (n : Int) - (K : Int) = (j : Int) := by omega
    have hj2 : j < 32 := by omega
    rw [← hj] at hL
    clear hj
    go_enter Try.func75, Try.ntmps75
    go_wp2_with (at_make; refine wpList_mk _ rfl _ _ 42 rfl 3 i0 (.int .i64 0) Try.underlying42 hi hz0 hz1 rfl .i64 .i64 K K rfl rfl (by omega) (by rw [hz2]; omega) (by omega) ?_)
    go_loopw [6] (fun x wr => ∃ k : Nat, k ≤ K ∧ x = .int .i64 k ∧ Below w.heap.size w wr ∧ RowL wr w.heap.size 3 (mix (i64s (rowL K n)) (List.replicate K (.int .i64 0)) k)) (fun x _ => leftOf K (intOf x).toNat)
    case atStart => exact ⟨0, by omega, rfl, HB0.out, by rw [mix_zero]; exact HR0.out⟩
    case round =>
      obtain ⟨k, hk, rfl, hbw, hr⟩ := hrel
      by_cases hkK : k < K
      · have k1 : (k : Int) < (K : Int) := by omega
        have k0 : (0 : Int) ≤ (k : Int) := by omega
        have hm := mix_at (i64s (rowL K n)) (List.replicate K (Value.int .i64 0)) k hLl.out (by simpa using hkK)
        rw [List.getElem?_replicate, if_pos hkK] at hm
        have hc := hr.cell k _ hm
        have hf := hr.frozen k
        have hv := hide (hL.out k hkK)
        have W := hide (fun w => refWeight_walk j k hj2 (by omega) w)
        obtain ⟨y, hy⟩ : ∃ y, y = Pk.weight j k := ⟨_, rfl⟩
        rw [← hy] at hv W
        have HBW := hide hbw; have HRW := hide hr
        clear hbw hr hm hy
        go_wp2_with (go_at_call 92; refine (W.out _).mono ?_; rintro _ wq ⟨rfl, hq⟩; have hq2 := hq.symm; clear hq; subst hq2)
        go_roundw
        case rel =>
          refine ⟨k + 1, by omega, by go_num, HBW.out.setCell (Nat.le_refl _) _, ?_⟩
          have h := HRW.out.set k (.int .i64 y)
          rw [mix_set _ _ _ _ hLl.out hv.out] at h
          exact h
        case measure => refine leftOf_lt ?_ ?_ <;> simp only [intOf] <;> omega
      · have ek : k = K := by omega
        have k1 : ¬ (k : Int) < (K : Int) := by omega
        have hR : Hid (RowL wr w.heap.size 3 (i64s (rowL K n))) := by
          have h := mix_all (i64s (rowL K n)) (List.replicate K (Value.int .i64 0)) hLl.out
          rw [List.length_replicate] at h
          rw [ek, h] at hr; exact hr
        have HBW := hide hbw
        clear hbw hr
        go_wp2_with fail
        go_ret
        exact ⟨rfl, hR.out, HBW.out⟩

/- A plan's three numbers, in its box, and all that was there. -/
def Sp (W : World) (b : Nat) (x y z : Value) (w' : World) : Prop := w'.cell? ⟨b, 0, none⟩ = some x ∧ w'.cell? ⟨b, 1, none⟩ = some y ∧ w'.cell? ⟨b, 2, none⟩ = some z ∧ Below W.heap.size W w'
theorem Sp.step {W w' w'' : World} {b : Nat} {x y z : Value} (h : Sp W b x y z w') (hb : Below w'.heap.size w' w'') : Sp W b x y z w'' :=
  ⟨cell_later hb h.1, cell_later hb h.2.1, cell_later hb h.2.2.1, h.2.2.2.trans (hb.mono h.2.2.2.size)⟩

set_option linter.unusedSimpArgs false in
set_option maxRecDepth 20000 in
set_option maxHeartbeats 1000000 in
theorem head_walk (id len s m p z q : Nat) (hid : id < 65536) (hlen : len < 65536) (hs : s < 256) (hm : m < 256) (hp : p < 256) (hz : z < 256) (hq : q < 256) (w : World) :
    Calls Try.prog 58 #[.int .i64 id, .int .i64 len, .agg #[.int .i64 s, .int .i64 m, .int .i64 p], .int .i64 z, .int .i64 q] w fun e w' => e = .returned (.string (strOf (Pk.head id len s m p z q))) ∧ Below w.heap.size w w' := by
  have HR0 := rowL_alloc' w #[.int .i64 s, .int .i64 m, .int .i64 p] 30
  have HB0 := hide ((Below.refl w.heap.size w).alloc (Nat.le_refl _) (.cells #[.int .i64 s, .int .i64 m, .int .i64 p] 30))
  obtain ⟨W, hW⟩ : ∃ W, W = w.alloc (.cells #[.int .i64 s, .int .i64 m, .int .i64 p] 30) := ⟨_, rfl⟩
  have HS0 : Hid (Sp W w.heap.size (.int .i64 s) (.int .i64 m) (.int .i64 p) W.drew) := by
    rw [hW]
    exact ⟨HR0.cell 0 _ rfl, HR0.cell 1 _ rfl, HR0.cell 2 _ rfl, (Below.refl _ _).drew⟩
  clear HR0
  go_enter Try.func58, Try.ntmps58
  go_wp2_with fail
  rw [← hW]
  rw [← hW] at HB0
  clear hW
  have hcv : ∀ (X : World) (g : Nat), RowL X g 5 [.int .u8 s, .int .u8 m, .int .u8 p, .int .u8 z, .int .u8 q] → (convert 36 9 (.slice (some ⟨g, 0, none⟩) 5 5)).run Try.prog X = .ok (.string (strOf [s, m, p, z, q])) X :=
    fun X g hr => conv_row (bs := [s, m, p, z, q]) hr rfl
  have hcw : ∀ (X : World), (convert 36 9 (.slice (some ⟨X.heap.size, 0, none⟩) 5 5)).run Try.prog (X.alloc (.cells #[.int .u8 s, .int .u8 m, .int .u8 p, .int .u8 z, .int .u8 q] 5)) = .ok (.string (strOf [s, m, p, z, q])) (X.alloc (.cells #[.int .u8 s, .int .u8 m, .int .u8 p, .int .u8 z, .int .u8 q] 5)) :=
    fun X => hcv _ _ (rowL_alloc' X #[.int .u8 s, .int .u8 m, .int .u8 p, .int .u8 z, .int .u8 q] 5)
  have hcx : ∀ (X : World), (convert 36 9 (.slice (some ⟨X.heap.size, 0, none⟩) 5 5)).run Try.prog (X.alloc (.cells #[.int .u8 s, .int .u8 m, .int .u8 p, .int .u8 z, .int .u8 q] 5)).drew = .ok (.string (strOf [s, m, p, z, q])) (X.alloc (.cells #[.int .u8 s, .int .u8 m, .int .u8 p, .int .u8 z, .int .u8 q] 5)).drew :=
    fun X => hcv _ _ ((rowL_alloc' X #[.int .u8 s, .int .u8 m, .int .u8 p, .int .u8 z, .int .u8 q] 5).drew)
  have hstr : Hid ((({ data := #[70] } : ByteArray) ++ strOf [id / 256, id % 256] ++ strOf [len / 256, len % 256] ++ strOf [s, m, p, z, q]) = strOf (Pk.head id len s m p z q)) := by
    show _ = _
    have e : ({ data := #[70] } : ByteArray) = strOf [70] := by decide +kernel
    rw [e, strOf_append, strOf_append, strOf_append]
    rfl
  have hsz := strOf_size
  have u1 := wrap_u8_in (s : Int) (by omega) (by omega)
  have u2 := wrap_u8_in (m : Int) (by omega) (by omega)
  have u3 := wrap_u8_in (p : Int) (by omega) (by omega)
  have u4 := wrap_u8_in (z : Int) (by omega) (by omega)
  have u5 := wrap_u8_in (q : Int) (by omega) (by omega)
  refine wp_region_held_drew (S := fun w' => w'.cell? ⟨w.heap.size, 0, none⟩ = some (.int .i64 s) ∧ w'.cell? ⟨w.heap.size, 1, none⟩ = some (.int .i64 m) ∧ w'.cell? ⟨w.heap.size, 2, none⟩ = some (.int .i64 p) ∧ Below W.heap.size W w') (by kernel_rfl) HS0.out (fun hS0 => ?_)
  refine wpAnyH_take (i := 0) (v := ?v1) rfl (by kernel_rfl) (by kernel_rfl) (by kernel_rfl) (fun _ _ _ h => h) (Or.inl ⟨by rfl, ?hy1⟩) (by assumption) ?rest1
  case hy1 => (intro wz hSw; (try dsimp only at hSw); go_simp; try (with_reducible rfl))
  try simp only [Act.put, List.getElem_toArray, List.getElem_cons_zero, List.getElem_cons_succ, List.setIfInBounds_toArray, List.set_cons_zero, List.set_cons_succ]
  refine wpAnyH_take (i := 3) (v := ?v2) rfl (by kernel_rfl) (by kernel_rfl) (by kernel_rfl) (fun _ _ _ h => h) (Or.inl ⟨by rfl, ?hy2⟩) (by assumption) ?rest2
  case hy2 => (intro wz hSw; (try dsimp only at hSw); go_simp; try (with_reducible rfl))
  try simp only [Act.put, List.getElem_toArray, List.getElem_cons_zero, List.getElem_cons_succ, List.setIfInBounds_toArray, List.set_cons_zero, List.set_cons_succ]
  refine wpAnyH_take (i := 6) (v := ?v3) rfl (by kernel_rfl) (by kernel_rfl) (by kernel_rfl) (fun _ _ _ h => h) (Or.inl ⟨by rfl, ?hy3⟩) (by assumption) ?rest3
  case hy3 => (intro wz hSw; (try dsimp only at hSw); go_simp; try (with_reducible rfl))
  try simp only [Act.put, List.getElem_toArray, List.getElem_cons_zero, List.getElem_cons_succ, List.setIfInBounds_toArray, List.set_cons_zero, List.set_cons_succ]
  refine wpAnyH_take (i := 7) (v := ?v4) rfl (by kernel_rfl) (by kernel_rfl) (by kernel_rfl) (fun _ _ _ h => h) (Or.inl ⟨by rfl, ?hy4⟩) (by assumption) ?rest4
  case hy4 => (intro wz hSw; (try dsimp only at hSw); go_simp; try (with_reducible rfl))
  try simp only [Act.put, List.getElem_toArray, List.getElem_cons_zero, List.getElem_cons_succ, List.setIfInBounds_toArray, List.set_cons_zero, List.set_cons_succ]
  refine wpAnyH_take (i := 8) (v := ?v5) rfl (by kernel_rfl) (by kernel_rfl) (by kernel_rfl) (fun _ _ _ h => h) (Or.inl ⟨by rfl, ?hy5⟩) (by assumption) ?rest5
  case hy5 => (intro wz hSw; (try dsimp only at hSw); go_simp; try (with_reducible rfl))
  try simp only [Act.put, List.getElem_toArray, List.getElem_cons_zero, List.getElem_cons_succ, List.setIfInBounds_toArray, List.set_cons_zero, List.set_cons_succ]
  refine wpAnyH_take (i := 9) (v := ?v6) rfl (by kernel_rfl) (by kernel_rfl) (by kernel_rfl) (fun _ _ _ h => h) (Or.inl ⟨by rfl, ?hy6⟩) (by assumption) ?rest6
  case hy6 => (intro wz hSw; (try dsimp only at hSw); go_simp; try (with_reducible rfl))
  try simp only [Act.put, List.getElem_toArray, List.getElem_cons_zero, List.getElem_cons_succ, List.setIfInBounds_toArray, List.set_cons_zero, List.set_cons_succ]
  refine wpAnyH_take (i := 10) (v := ?v7) rfl (by kernel_rfl) (by kernel_rfl) (by kernel_rfl) (fun _ _ _ h => h) (Or.inl ⟨by rfl, ?hy7⟩) (by assumption) ?rest7
  case hy7 => (intro wz hSw; (try dsimp only at hSw); go_simp; try (with_reducible rfl))
  try simp only [Act.put, List.getElem_toArray, List.getElem_cons_zero, List.getElem_cons_succ, List.setIfInBounds_toArray, List.set_cons_zero, List.set_cons_succ]
  refine wpAnyH_take (i := 11) (v := ?v8) rfl (by kernel_rfl) (by kernel_rfl) (by kernel_rfl) (fun _ _ _ h => h) (Or.inl ⟨by rfl, ?hy8⟩) (by assumption) ?rest8
  case hy8 => (intro wz hSw; (try dsimp only at hSw); go_simp; try (with_reducible rfl))
  try simp only [Act.put, List.getElem_toArray, List.getElem_cons_zero, List.getElem_cons_succ, List.setIfInBounds_toArray, List.set_cons_zero, List.set_cons_succ]
  refine wpAnyH_take (i := 12) (v := ?v9) rfl (by kernel_rfl) (by kernel_rfl) (by kernel_rfl) (fun _ _ _ h => h) (Or.inl ⟨by rfl, ?hy9⟩) (by assumption) ?rest9
  case hy9 => (intro wz hSw; (try dsimp only at hSw); go_simp; try (with_reducible rfl))
  try simp only [Act.put, List.getElem_toArray, List.getElem_cons_zero, List.getElem_cons_succ, List.setIfInBounds_toArray, List.set_cons_zero, List.set_cons_succ]
  refine wpAnyH_take (i := 13) (v := ?v10) rfl (by kernel_rfl) (by kernel_rfl) (by kernel_rfl) (fun _ _ _ h => h) (Or.inl ⟨by rfl, ?hy10⟩) (by assumption) ?rest10
  case hy10 => (intro wz hSw; (try dsimp only at hSw); go_simp; try (with_reducible rfl))
  try simp only [Act.put, List.getElem_toArray, List.getElem_cons_zero, List.getElem_cons_succ, List.setIfInBounds_toArray, List.set_cons_zero, List.set_cons_succ]
  refine wpAnyH_take (i := 14) (v := ?v11) rfl (by kernel_rfl) (by kernel_rfl) (by kernel_rfl) (fun _ _ _ h => h) (Or.inl ⟨by rfl, ?hy11⟩) (by assumption) ?rest11
  case hy11 => (intro wz hSw; (try dsimp only at hSw); go_simp; try (with_reducible rfl))
  try simp only [Act.put, List.getElem_toArray, List.getElem_cons_zero, List.getElem_cons_succ, List.setIfInBounds_toArray, List.set_cons_zero, List.set_cons_succ]
  refine wpAnyH_take (i := 15) (v := ?v12) rfl (by kernel_rfl) (by kernel_rfl) (by kernel_rfl) (fun _ _ _ h => h) (Or.inl ⟨by rfl, ?hy12⟩) (by assumption) ?rest12
  case hy12 => (intro wz hSw; (try dsimp only at hSw); go_simp; try (with_reducible rfl))
  try simp only [Act.put, List.getElem_toArray, List.getElem_cons_zero, List.getElem_cons_succ, List.setIfInBounds_toArray, List.set_cons_zero, List.set_cons_succ]
  refine wpAnyH_take (i := 16) (v := ?v13) rfl (by kernel_rfl) (by kernel_rfl) (by kernel_rfl) (fun _ _ _ h => h) (Or.inl ⟨by rfl, ?hy13⟩) (by assumption) ?rest13
  case hy13 => (intro wz hSw; (try dsimp only at hSw); go_simp; try (with_reducible rfl))
  try simp only [Act.put, List.getElem_toArray, List.getElem_cons_zero, List.getElem_cons_succ, List.setIfInBounds_toArray, List.set_cons_zero, List.set_cons_succ]
  refine wpAnyH_take (i := 17) (v := ?v14) rfl (by kernel_rfl) (by kernel_rfl) (by kernel_rfl) (fun _ _ _ h => h) (Or.inl ⟨by rfl, ?hy14⟩) (by assumption) ?rest14
  case hy14 => (intro wz hSw; (try dsimp only at hSw); go_simp; try (with_reducible rfl))
  try simp only [Act.put, List.getElem_toArray, List.getElem_cons_zero, List.getElem_cons_succ, List.setIfInBounds_toArray, List.set_cons_zero, List.set_cons_succ]
  refine wpAnyH_take (i := 18) (v := ?v15) rfl (by kernel_rfl) (by kernel_rfl) (by kernel_rfl) (fun _ _ _ h => h) (Or.inl ⟨by rfl, ?hy15⟩) (by assumption) ?rest15
  case hy15 => (intro wz hSw; (try dsimp only at hSw); go_simp; try (with_reducible rfl))
  try simp only [Act.put, List.getElem_toArray, List.getElem_cons_zero, List.getElem_cons_succ, List.setIfInBounds_toArray, List.set_cons_zero, List.set_cons_succ]
  refine wpAnyH_ready (rs := [1, 19]) (by kernel_rfl) (by simp) ?_
  refine AllReadyH.cons rfl (fun K hK => ?_) ?_
  · go_simp
    go_at_call 74
    refine (two_walk _ (by omega) _).mono ?_
    rintro _ w1 ⟨rfl, hb1⟩
    go_wp2_with fail
    refine hK.out _ _ (Sp.step hS0 hb1) (fun hS1 => ?_)
    clear hK K
    try simp only [Act.put, List.getElem_toArray, List.getElem_cons_zero, List.getElem_cons_succ, List.setIfInBounds_toArray, List.set_cons_zero, List.set_cons_succ]
    refine wpAnyH_take (i := 2) (v := ?v16) rfl (by kernel_rfl) (by kernel_rfl) (by kernel_rfl) (fun _ _ _ h => h) (Or.inl ⟨by rfl, ?hy16⟩) (by assumption) ?rest16
    case hy16 => (intro wz hSw; (try dsimp only at hSw); go_simp; try (with_reducible rfl))
    try simp only [Act.put, List.getElem_toArray, List.getElem_cons_zero, List.getElem_cons_succ, List.setIfInBounds_toArray, List.set_cons_zero, List.set_cons_succ]
    refine wpAnyH_ready (rs := [4, 19]) (by kernel_rfl) (by simp) ?_
    refine AllReadyH.cons rfl (fun K hK => ?_) ?_
    · go_simp
      go_at_call 74
      refine (two_walk _ (by omega) _).mono ?_
      rintro _ w2 ⟨rfl, hb2⟩
      go_wp2_with fail
      refine hK.out _ _ (Sp.step hS1 hb2) (fun hS2 => ?_)
      clear hK K
      try simp only [Act.put, List.getElem_toArray, List.getElem_cons_zero, List.getElem_cons_succ, List.setIfInBounds_toArray, List.set_cons_zero, List.set_cons_succ]
      refine wpAnyH_take (i := 5) (v := ?v17) rfl (by kernel_rfl) (by kernel_rfl) (by kernel_rfl) (fun _ _ _ h => h) (Or.inl ⟨by rfl, ?hy17⟩) (by assumption) ?rest17
      case hy17 => (intro wz hSw; (try dsimp only at hSw); go_simp; try (with_reducible rfl))
      try simp only [Act.put, List.getElem_toArray, List.getElem_cons_zero, List.getElem_cons_succ, List.setIfInBounds_toArray, List.set_cons_zero, List.set_cons_succ]
      refine wpAnyH_ready (rs := [19]) (by kernel_rfl) (by simp) ?_
      refine AllReadyH.cons rfl (fun K hK => ?_) ?_
      · go_simp
        refine hK.out _ _ (Sp.step hS2 ((Below.refl _ _).alloc (Nat.le_refl _) _)) (fun hS3 => ?_)
        clear hK K
        try simp only [Act.put, List.getElem_toArray, List.getElem_cons_zero, List.getElem_cons_succ, List.setIfInBounds_toArray, List.set_cons_zero, List.set_cons_succ]
        refine wpAnyH_ready (rs := [20]) (by kernel_rfl) (by simp) ?_
        refine AllReadyH.cons rfl (fun K hK => ?_) ?_
        · go_simp
          refine hK.out _ _ hS3 (fun hS4 => ?_)
          clear hK K
          try simp only [Act.put, List.getElem_toArray, List.getElem_cons_zero, List.getElem_cons_succ, List.setIfInBounds_toArray, List.set_cons_zero, List.set_cons_succ]
          refine wpAnyH_take (i := 21) (v := ?v18) rfl (by kernel_rfl) (by kernel_rfl) (by kernel_rfl) (fun _ _ _ h => h) (Or.inl ⟨by rfl, ?hy18⟩) (by assumption) ?rest18
          case hy18 => (intro wz hSw; (try dsimp only at hSw); go_simp; try (with_reducible rfl))
          try simp only [Act.put, List.getElem_toArray, List.getElem_cons_zero, List.getElem_cons_succ, List.setIfInBounds_toArray, List.set_cons_zero, List.set_cons_succ]
          refine wpAnyH_take (i := 22) (v := ?v19) rfl (by kernel_rfl) (by kernel_rfl) (by kernel_rfl) (fun _ _ _ h => h) (Or.inl ⟨by rfl, ?hy19⟩) (by assumption) ?rest19
          case hy19 => (intro wz hSw; (try dsimp only at hSw); go_simp; try (with_reducible rfl))
          try simp only [Act.put, List.getElem_toArray, List.getElem_cons_zero, List.getElem_cons_succ, List.setIfInBounds_toArray, List.set_cons_zero, List.set_cons_succ]
          refine wpAnyH_done (by kernel_rfl) ?_ _
          go_wp2
          go_ret
          exact ⟨by show Ending.returned (.string _) = _; rw [hstr.out], HB0.out.trans (hS4.2.2.2.mono HB0.out.size)⟩
        exact AllReadyH.nil
      exact AllReadyH.nil
    refine AllReadyH.cons rfl (fun K hK => ?_) ?_
    · go_simp
      refine hK.out _ _ (Sp.step hS1 ((Below.refl _ _).alloc (Nat.le_refl _) _)) (fun hS2 => ?_)
      clear hK K
      try simp only [Act.put, List.getElem_toArray, List.getElem_cons_zero, List.getElem_cons_succ, List.setIfInBounds_toArray, List.set_cons_zero, List.set_cons_succ]
      refine wpAnyH_ready (rs := [4, 20]) (by kernel_rfl) (by simp) ?_
      refine AllReadyH.cons rfl (fun K hK => ?_) ?_
      · go_simp
        go_at_call 74
        refine (two_walk _ (by omega) _).mono ?_
        rintro _ w3 ⟨rfl, hb3⟩
        have hrr3 : RowL w3 _ 5 [.int .u8 s, .int .u8 m, .int .u8 p, .int .u8 z, .int .u8 q] := RowL.later (rowL_alloc' _ #[.int .u8 s, .int .u8 m, .int .u8 p, .int .u8 z, .int .u8 q] 5) hb3
        go_wp2_with fail
        refine hK.out _ _ (Sp.step hS2 hb3) (fun hS3 => ?_)
        clear hK K
        try simp only [Act.put, List.getElem_toArray, List.getElem_cons_zero, List.getElem_cons_succ, List.setIfInBounds_toArray, List.set_cons_zero, List.set_cons_succ]
        refine wpAnyH_take (i := 5) (v := ?v20) rfl (by kernel_rfl) (by kernel_rfl) (by kernel_rfl) (fun _ _ _ h => h) (Or.inl ⟨by rfl, ?hy20⟩) (by assumption) ?rest20
        case hy20 => (intro wz hSw; (try dsimp only at hSw); go_simp; try (with_reducible rfl))
        try simp only [Act.put, List.getElem_toArray, List.getElem_cons_zero, List.getElem_cons_succ, List.setIfInBounds_toArray, List.set_cons_zero, List.set_cons_succ]
        refine wpAnyH_ready (rs := [20]) (by kernel_rfl) (by simp) ?_
        refine AllReadyH.cons rfl (fun K hK => ?_) ?_
        · go_simp
          refine hK.out _ _ hS3 (fun hS4 => ?_)
          clear hK K
          try simp only [Act.put, List.getElem_toArray, List.getElem_cons_zero, List.getElem_cons_succ, List.setIfInBounds_toArray, List.set_cons_zero, List.set_cons_succ]
          refine wpAnyH_take (i := 21) (v := ?v21) rfl (by kernel_rfl) (by kernel_rfl) (by kernel_rfl) (fun _ _ _ h => h) (Or.inl ⟨by rfl, ?hy21⟩) (by assumption) ?rest21
          case hy21 => (intro wz hSw; (try dsimp only at hSw); go_simp; try (with_reducible rfl))
          try simp only [Act.put, List.getElem_toArray, List.getElem_cons_zero, List.getElem_cons_succ, List.setIfInBounds_toArray, List.set_cons_zero, List.set_cons_succ]
          refine wpAnyH_take (i := 22) (v := ?v22) rfl (by kernel_rfl) (by kernel_rfl) (by kernel_rfl) (fun _ _ _ h => h) (Or.inl ⟨by rfl, ?hy22⟩) (by assumption) ?rest22
          case hy22 => (intro wz hSw; (try dsimp only at hSw); go_simp; try (with_reducible rfl))
          try simp only [Act.put, List.getElem_toArray, List.getElem_cons_zero, List.getElem_cons_succ, List.setIfInBounds_toArray, List.set_cons_zero, List.set_cons_succ]
          refine wpAnyH_done (by kernel_rfl) ?_ _
          go_wp2
          go_ret
          exact ⟨by show Ending.returned (.string _) = _; rw [hstr.out], HB0.out.trans (hS4.2.2.2.mono HB0.out.size)⟩
        exact AllReadyH.nil
      refine AllReadyH.cons rfl (fun K hK => ?_) ?_
      · go_simp
        refine hK.out _ _ hS2 (fun hS3 => ?_)
        clear hK K
        try simp only [Act.put, List.getElem_toArray, List.getElem_cons_zero, List.getElem_cons_succ, List.setIfInBounds_toArray, List.set_cons_zero, List.set_cons_succ]
        refine wpAnyH_ready (rs := [4]) (by kernel_rfl) (by simp) ?_
        refine AllReadyH.cons rfl (fun K hK => ?_) ?_
        · go_simp
          go_at_call 74
          refine (two_walk _ (by omega) _).mono ?_
          rintro _ w4 ⟨rfl, hb4⟩
          have hrr4 : RowL w4 _ 5 [.int .u8 s, .int .u8 m, .int .u8 p, .int .u8 z, .int .u8 q] := RowL.later (rowL_alloc' _ #[.int .u8 s, .int .u8 m, .int .u8 p, .int .u8 z, .int .u8 q] 5) hb4
          go_wp2_with fail
          refine hK.out _ _ (Sp.step hS3 hb4) (fun hS4 => ?_)
          clear hK K
          try simp only [Act.put, List.getElem_toArray, List.getElem_cons_zero, List.getElem_cons_succ, List.setIfInBounds_toArray, List.set_cons_zero, List.set_cons_succ]
          refine wpAnyH_take (i := 5) (v := ?v23) rfl (by kernel_rfl) (by kernel_rfl) (by kernel_rfl) (fun _ _ _ h => h) (Or.inl ⟨by rfl, ?hy23⟩) (by assumption) ?rest23
          case hy23 => (intro wz hSw; (try dsimp only at hSw); go_simp; try (with_reducible rfl))
          try simp only [Act.put, List.getElem_toArray, List.getElem_cons_zero, List.getElem_cons_succ, List.setIfInBounds_toArray, List.set_cons_zero, List.set_cons_succ]
          refine wpAnyH_take (i := 21) (v := ?v24) rfl (by kernel_rfl) (by kernel_rfl) (by kernel_rfl) (fun _ _ _ h => h) (Or.inl ⟨by rfl, ?hy24⟩) (by assumption) ?rest24
          case hy24 => (intro wz hSw; (try dsimp only at hSw); go_simp; try (with_reducible rfl))
          try simp only [Act.put, List.getElem_toArray, List.getElem_cons_zero, List.getElem_cons_succ, List.setIfInBounds_toArray, List.set_cons_zero, List.set_cons_succ]
          refine wpAnyH_take (i := 22) (v := ?v25) rfl (by kernel_rfl) (by kernel_rfl) (by kernel_rfl) (fun _ _ _ h => h) (Or.inl ⟨by rfl, ?hy25⟩) (by assumption) ?rest25
          case hy25 => (intro wz hSw; (try dsimp only at hSw); go_simp; try (with_reducible rfl))
          try simp only [Act.put, List.getElem_toArray, List.getElem_cons_zero, List.getElem_cons_succ, List.setIfInBounds_toArray, List.set_cons_zero, List.set_cons_succ]
          refine wpAnyH_done (by kernel_rfl) ?_ _
          go_wp2
          go_ret
          exact ⟨by show Ending.returned (.string _) = _; rw [hstr.out], HB0.out.trans (hS4.2.2.2.mono HB0.out.size)⟩
        exact AllReadyH.nil
      exact AllReadyH.nil
    exact AllReadyH.nil
  refine AllReadyH.cons rfl (fun K hK => ?_) ?_
  · go_simp
    refine hK.out _ _ (Sp.step hS0 ((Below.refl _ _).alloc (Nat.le_refl _) _)) (fun hS1 => ?_)
    clear hK K
    try simp only [Act.put, List.getElem_toArray, List.getElem_cons_zero, List.getElem_cons_succ, List.setIfInBounds_toArray, List.set_cons_zero, List.set_cons_succ]
    refine wpAnyH_ready (rs := [1, 20]) (by kernel_rfl) (by simp) ?_
    refine AllReadyH.cons rfl (fun K hK => ?_) ?_
    · go_simp
      go_at_call 74
      refine (two_walk _ (by omega) _).mono ?_
      rintro _ w2 ⟨rfl, hb2⟩
      have hrr2 : RowL w2 W.heap.size 5 [.int .u8 s, .int .u8 m, .int .u8 p, .int .u8 z, .int .u8 q] := RowL.later ((rowL_alloc' W #[.int .u8 s, .int .u8 m, .int .u8 p, .int .u8 z, .int .u8 q] 5).drew) hb2
      go_wp2_with fail
      refine hK.out _ _ (Sp.step hS1 hb2) (fun hS2 => ?_)
      clear hK K
      try simp only [Act.put, List.getElem_toArray, List.getElem_cons_zero, List.getElem_cons_succ, List.setIfInBounds_toArray, List.set_cons_zero, List.set_cons_succ]
      refine wpAnyH_take (i := 2) (v := ?v26) rfl (by kernel_rfl) (by kernel_rfl) (by kernel_rfl) (fun _ _ _ h => h) (Or.inl ⟨by rfl, ?hy26⟩) (by assumption) ?rest26
      case hy26 => (intro wz hSw; (try dsimp only at hSw); go_simp; try (with_reducible rfl))
      try simp only [Act.put, List.getElem_toArray, List.getElem_cons_zero, List.getElem_cons_succ, List.setIfInBounds_toArray, List.set_cons_zero, List.set_cons_succ]
      refine wpAnyH_ready (rs := [4, 20]) (by kernel_rfl) (by simp) ?_
      refine AllReadyH.cons rfl (fun K hK => ?_) ?_
      · go_simp
        go_at_call 74
        refine (two_walk _ (by omega) _).mono ?_
        rintro _ w3 ⟨rfl, hb3⟩
        have hrr3 : RowL w3 _ 5 [.int .u8 s, .int .u8 m, .int .u8 p, .int .u8 z, .int .u8 q] := RowL.later hrr2 hb3
        go_wp2_with fail
        refine hK.out _ _ (Sp.step hS2 hb3) (fun hS3 => ?_)
        clear hK K
        try simp only [Act.put, List.getElem_toArray, List.getElem_cons_zero, List.getElem_cons_succ, List.setIfInBounds_toArray, List.set_cons_zero, List.set_cons_succ]
        refine wpAnyH_take (i := 5) (v := ?v27) rfl (by kernel_rfl) (by kernel_rfl) (by kernel_rfl) (fun _ _ _ h => h) (Or.inl ⟨by rfl, ?hy27⟩) (by assumption) ?rest27
        case hy27 => (intro wz hSw; (try dsimp only at hSw); go_simp; try (with_reducible rfl))
        try simp only [Act.put, List.getElem_toArray, List.getElem_cons_zero, List.getElem_cons_succ, List.setIfInBounds_toArray, List.set_cons_zero, List.set_cons_succ]
        refine wpAnyH_ready (rs := [20]) (by kernel_rfl) (by simp) ?_
        refine AllReadyH.cons rfl (fun K hK => ?_) ?_
        · go_simp
          refine hK.out _ _ hS3 (fun hS4 => ?_)
          clear hK K
          try simp only [Act.put, List.getElem_toArray, List.getElem_cons_zero, List.getElem_cons_succ, List.setIfInBounds_toArray, List.set_cons_zero, List.set_cons_succ]
          refine wpAnyH_take (i := 21) (v := ?v28) rfl (by kernel_rfl) (by kernel_rfl) (by kernel_rfl) (fun _ _ _ h => h) (Or.inl ⟨by rfl, ?hy28⟩) (by assumption) ?rest28
          case hy28 => (intro wz hSw; (try dsimp only at hSw); go_simp; try (with_reducible rfl))
          try simp only [Act.put, List.getElem_toArray, List.getElem_cons_zero, List.getElem_cons_succ, List.setIfInBounds_toArray, List.set_cons_zero, List.set_cons_succ]
          refine wpAnyH_take (i := 22) (v := ?v29) rfl (by kernel_rfl) (by kernel_rfl) (by kernel_rfl) (fun _ _ _ h => h) (Or.inl ⟨by rfl, ?hy29⟩) (by assumption) ?rest29
          case hy29 => (intro wz hSw; (try dsimp only at hSw); go_simp; try (with_reducible rfl))
          try simp only [Act.put, List.getElem_toArray, List.getElem_cons_zero, List.getElem_cons_succ, List.setIfInBounds_toArray, List.set_cons_zero, List.set_cons_succ]
          refine wpAnyH_done (by kernel_rfl) ?_ _
          go_wp2
          go_ret
          exact ⟨by show Ending.returned (.string _) = _; rw [hstr.out], HB0.out.trans (hS4.2.2.2.mono HB0.out.size)⟩
        exact AllReadyH.nil
      refine AllReadyH.cons rfl (fun K hK => ?_) ?_
      · go_simp
        refine hK.out _ _ hS2 (fun hS3 => ?_)
        clear hK K
        try simp only [Act.put, List.getElem_toArray, List.getElem_cons_zero, List.getElem_cons_succ, List.setIfInBounds_toArray, List.set_cons_zero, List.set_cons_succ]
        refine wpAnyH_ready (rs := [4]) (by kernel_rfl) (by simp) ?_
        refine AllReadyH.cons rfl (fun K hK => ?_) ?_
        · go_simp
          go_at_call 74
          refine (two_walk _ (by omega) _).mono ?_
          rintro _ w4 ⟨rfl, hb4⟩
          have hrr4 : RowL w4 _ 5 [.int .u8 s, .int .u8 m, .int .u8 p, .int .u8 z, .int .u8 q] := RowL.later hrr2 hb4
          go_wp2_with fail
          refine hK.out _ _ (Sp.step hS3 hb4) (fun hS4 => ?_)
          clear hK K
          try simp only [Act.put, List.getElem_toArray, List.getElem_cons_zero, List.getElem_cons_succ, List.setIfInBounds_toArray, List.set_cons_zero, List.set_cons_succ]
          refine wpAnyH_take (i := 5) (v := ?v30) rfl (by kernel_rfl) (by kernel_rfl) (by kernel_rfl) (fun _ _ _ h => h) (Or.inl ⟨by rfl, ?hy30⟩) (by assumption) ?rest30
          case hy30 => (intro wz hSw; (try dsimp only at hSw); go_simp; try (with_reducible rfl))
          try simp only [Act.put, List.getElem_toArray, List.getElem_cons_zero, List.getElem_cons_succ, List.setIfInBounds_toArray, List.set_cons_zero, List.set_cons_succ]
          refine wpAnyH_take (i := 21) (v := ?v31) rfl (by kernel_rfl) (by kernel_rfl) (by kernel_rfl) (fun _ _ _ h => h) (Or.inl ⟨by rfl, ?hy31⟩) (by assumption) ?rest31
          case hy31 => (intro wz hSw; (try dsimp only at hSw); go_simp; try (with_reducible rfl))
          try simp only [Act.put, List.getElem_toArray, List.getElem_cons_zero, List.getElem_cons_succ, List.setIfInBounds_toArray, List.set_cons_zero, List.set_cons_succ]
          refine wpAnyH_take (i := 22) (v := ?v32) rfl (by kernel_rfl) (by kernel_rfl) (by kernel_rfl) (fun _ _ _ h => h) (Or.inl ⟨by rfl, ?hy32⟩) (by assumption) ?rest32
          case hy32 => (intro wz hSw; (try dsimp only at hSw); go_simp; try (with_reducible rfl))
          try simp only [Act.put, List.getElem_toArray, List.getElem_cons_zero, List.getElem_cons_succ, List.setIfInBounds_toArray, List.set_cons_zero, List.set_cons_succ]
          refine wpAnyH_done (by kernel_rfl) ?_ _
          go_wp2
          go_ret
          exact ⟨by show Ending.returned (.string _) = _; rw [hstr.out], HB0.out.trans (hS4.2.2.2.mono HB0.out.size)⟩
        exact AllReadyH.nil
      exact AllReadyH.nil
    refine AllReadyH.cons rfl (fun K hK => ?_) ?_
    · go_simp
      refine hK.out _ _ hS1 (fun hS2 => ?_)
      clear hK K
      try simp only [Act.put, List.getElem_toArray, List.getElem_cons_zero, List.getElem_cons_succ, List.setIfInBounds_toArray, List.set_cons_zero, List.set_cons_succ]
      refine wpAnyH_ready (rs := [1]) (by kernel_rfl) (by simp) ?_
      refine AllReadyH.cons rfl (fun K hK => ?_) ?_
      · go_simp
        go_at_call 74
        refine (two_walk _ (by omega) _).mono ?_
        rintro _ w3 ⟨rfl, hb3⟩
        have hrr3 : RowL w3 W.heap.size 5 [.int .u8 s, .int .u8 m, .int .u8 p, .int .u8 z, .int .u8 q] := RowL.later ((rowL_alloc' W #[.int .u8 s, .int .u8 m, .int .u8 p, .int .u8 z, .int .u8 q] 5).drew) hb3
        go_wp2_with fail
        refine hK.out _ _ (Sp.step hS2 hb3) (fun hS3 => ?_)
        clear hK K
        try simp only [Act.put, List.getElem_toArray, List.getElem_cons_zero, List.getElem_cons_succ, List.setIfInBounds_toArray, List.set_cons_zero, List.set_cons_succ]
        refine wpAnyH_take (i := 2) (v := ?v33) rfl (by kernel_rfl) (by kernel_rfl) (by kernel_rfl) (fun _ _ _ h => h) (Or.inl ⟨by rfl, ?hy33⟩) (by assumption) ?rest33
        case hy33 => (intro wz hSw; (try dsimp only at hSw); go_simp; try (with_reducible rfl))
        try simp only [Act.put, List.getElem_toArray, List.getElem_cons_zero, List.getElem_cons_succ, List.setIfInBounds_toArray, List.set_cons_zero, List.set_cons_succ]
        refine wpAnyH_ready (rs := [4]) (by kernel_rfl) (by simp) ?_
        refine AllReadyH.cons rfl (fun K hK => ?_) ?_
        · go_simp
          go_at_call 74
          refine (two_walk _ (by omega) _).mono ?_
          rintro _ w4 ⟨rfl, hb4⟩
          have hrr4 : RowL w4 _ 5 [.int .u8 s, .int .u8 m, .int .u8 p, .int .u8 z, .int .u8 q] := RowL.later hrr3 hb4
          go_wp2_with fail
          refine hK.out _ _ (Sp.step hS3 hb4) (fun hS4 => ?_)
          clear hK K
          try simp only [Act.put, List.getElem_toArray, List.getElem_cons_zero, List.getElem_cons_succ, List.setIfInBounds_toArray, List.set_cons_zero, List.set_cons_succ]
          refine wpAnyH_take (i := 5) (v := ?v34) rfl (by kernel_rfl) (by kernel_rfl) (by kernel_rfl) (fun _ _ _ h => h) (Or.inl ⟨by rfl, ?hy34⟩) (by assumption) ?rest34
          case hy34 => (intro wz hSw; (try dsimp only at hSw); go_simp; try (with_reducible rfl))
          try simp only [Act.put, List.getElem_toArray, List.getElem_cons_zero, List.getElem_cons_succ, List.setIfInBounds_toArray, List.set_cons_zero, List.set_cons_succ]
          refine wpAnyH_take (i := 21) (v := ?v35) rfl (by kernel_rfl) (by kernel_rfl) (by kernel_rfl) (fun _ _ _ h => h) (Or.inl ⟨by rfl, ?hy35⟩) (by assumption) ?rest35
          case hy35 => (intro wz hSw; (try dsimp only at hSw); go_simp; try (with_reducible rfl))
          try simp only [Act.put, List.getElem_toArray, List.getElem_cons_zero, List.getElem_cons_succ, List.setIfInBounds_toArray, List.set_cons_zero, List.set_cons_succ]
          refine wpAnyH_take (i := 22) (v := ?v36) rfl (by kernel_rfl) (by kernel_rfl) (by kernel_rfl) (fun _ _ _ h => h) (Or.inl ⟨by rfl, ?hy36⟩) (by assumption) ?rest36
          case hy36 => (intro wz hSw; (try dsimp only at hSw); go_simp; try (with_reducible rfl))
          try simp only [Act.put, List.getElem_toArray, List.getElem_cons_zero, List.getElem_cons_succ, List.setIfInBounds_toArray, List.set_cons_zero, List.set_cons_succ]
          refine wpAnyH_done (by kernel_rfl) ?_ _
          go_wp2
          go_ret
          exact ⟨by show Ending.returned (.string _) = _; rw [hstr.out], HB0.out.trans (hS4.2.2.2.mono HB0.out.size)⟩
        exact AllReadyH.nil
      exact AllReadyH.nil
    exact AllReadyH.nil
  exact AllReadyH.nil
end Go.Proofs.Ytmfpiodlecapiaa
