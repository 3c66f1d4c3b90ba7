/- The document's own reading of a packet. -/
import Derived.Test.YtmfpiodlecapiaaDoorRefBlocks
import Derived.Test.YtmfpiodlecapiaaDoorRefPack
import Derived.Test.YtmfpiodlecapiaaDoorUnpackAll
import Derived.Test.YtmfpiodlecapiaaDoorDecode
import Derived.Deep.RegionHeld3
import Derived.BigQuiet
namespace Go.Proofs.YtmfpiodlecapiaaDoor
open Go.RowKit Go.Deep

theorem str_index (S : ByteArray) (i : Nat) (h : i < S.size) (w : World) : (Instr.index 9 (.string S) (.int .i64 (i : Nat))).run Tryd.prog w = .ok (.int .u8 ((bytesOf S)[i]?.getD 0 : Nat)) w := by
  have hu := run_underlying (P := Tryd.prog) Tryd.underlying9 w
  have hi : i < S.data.size := h
  have e2 : S[i]? = some (S[i]'h) := by simp [h]
  have e4 : S.data[i]? = some S.data[i] := Array.getElem?_eq_getElem hi
  have e3 : (bytesOf S)[i]?.getD 0 = (S[i]'h).toNat := by
    unfold bytesOf
    simp [e4]
    rfl
  unfold Instr.index
  simp only [asIntOf, Sem.run_bind, Sem.run_pure, Result.andThen_ok, hu]
  simp [e2, e3]
def saidV (id len s m p z q : Nat) (d : ByteArray) : Value := .agg #[.int .i64 id, .int .i64 len, .int .i64 s, .int .i64 m, .int .i64 p, .int .i64 z, .int .i64 q, .string d]
def noSaid : Value := saidV 0 0 0 0 0 0 0 ⟨#[]⟩
set_option linter.unusedSimpArgs false in
set_option maxRecDepth 1000000 in
set_option maxHeartbeats 4000000 in
theorem refRead_short (S : ByteArray) (n : Nat) (hS : S.size = n) (hn : n < 10) (w : World) :
    Calls Tryd.prog 7 #[.string S] w fun r w' => r = .returned (.tuple #[noSaid, .bool false]) ∧ Below w.heap.size w w' := by
  have k10 : (n : Int) < 10 := by omega
  go_enter Tryd.func7, Tryd.ntmps7
  go_wp2
  refine bodyPost_ret (v := .tuple #[noSaid, .bool false]) (by simp [results, Tryd.results7, go_sem, noSaid, saidV]) rfl ⟨rfl, (Below.refl _ _).alloc (Nat.le_refl _) _⟩
set_option linter.unusedSimpArgs false in
set_option maxRecDepth 1000000 in
set_option maxHeartbeats 4000000 in
theorem refRead_mark (S : ByteArray) (n c0 : Nat) (hS : S.size = n) (hn : 10 ≤ n) (hc : (bytesOf S)[0]?.getD 0 = c0) (h0 : c0 ≠ 70) (w : World) :
    Calls Tryd.prog 7 #[.string S] w fun r w' => r = .returned (.tuple #[noSaid, .bool false]) ∧ Below w.heap.size w w' := by
  have k10 : ¬ (n : Int) < 10 := by omega
  have e0 : ((c0 : Int) != 70) = true := by simp; omega
  have i0 : ∀ w, (Instr.index 9 (.string S) (.int .i64 0)).run Tryd.prog w = .ok (.int .u8 (c0 : Nat)) w := fun w => by rw [← hc]; exact str_index S 0 (by omega) w
  clear hc
  go_enter Tryd.func7, Tryd.ntmps7
  go_wp2
  refine bodyPost_ret (v := .tuple #[noSaid, .bool false]) (by simp [results, Tryd.results7, go_sem, noSaid, saidV]) rfl ⟨rfl, (Below.refl _ _).alloc (Nat.le_refl _) _⟩
set_option linter.unusedSimpArgs false in
set_option maxRecDepth 1000000 in
set_option maxHeartbeats 4000000 in
theorem refRead_main (S : ByteArray) (n c1 c2 c3 c4 c5 c6 c7 c8 c9 L : Nat) (hS : S.size = n) (hn : 10 ≤ n) (h0 : (bytesOf S)[0]?.getD 0 = 70) (h1 : (bytesOf S)[1]?.getD 0 = c1) (h2 : (bytesOf S)[2]?.getD 0 = c2) (h3 : (bytesOf S)[3]?.getD 0 = c3) (h4 : (bytesOf S)[4]?.getD 0 = c4) (h5 : (bytesOf S)[5]?.getD 0 = c5) (h6 : (bytesOf S)[6]?.getD 0 = c6) (h7 : (bytesOf S)[7]?.getD 0 = c7) (h8 : (bytesOf S)[8]?.getD 0 = c8) (h9 : (bytesOf S)[9]?.getD 0 = c9) (hL : Hid (L = 256 * c3 + c4)) (w : World) (hn2 : n ≤ 100000000) :
    Calls Tryd.prog 7 #[.string S] w fun r w' => ((Tx.IsPacket (bytesOf S) ∧ r = .returned (.tuple #[saidV (256 * c1 + c2) L c5 c6 c7 c8 c9 (S.extract 10 n), .bool true])) ∨ (¬ Tx.IsPacket (bytesOf S) ∧ r = .returned (.tuple #[noSaid, .bool false]))) ∧ Below w.heap.size w w' := by
  have HIS : Hid (Tx.IsPacket (bytesOf S) ↔ (11 ≤ n ∧ L ≤ 2000 ∧ (1 ≤ c5 ∧ c5 ≤ 16) ∧ (1 ≤ c6 ∧ c6 ≤ 20) ∧ c7 ≤ 20 ∧ Cut.blocks (Cut.pieces L c5) c6 ≤ 256 ∧ c8 < Cut.blocks (Cut.pieces L c5) c6 ∧ c9 < (Cut.sizes L c5 c6)[c8]?.getD 0 + c7 ∧ n = 10 + c5)) := by
    show _ ↔ _
    unfold Tx.IsPacket
    rw [h0, h3, h4, h5, h6, h7, h8, h9, bytesOf_length, hS, ← hL.out]
    simp
  generalize hPP : Tx.IsPacket (bytesOf S) = PP at HIS
  clear hPP
  have k10 : ¬ (n : Int) < 10 := by omega
  have l1 : c1 < 256 := h1 ▸ bytes_lt S 1
  have l2 : c2 < 256 := h2 ▸ bytes_lt S 2
  have l3 : c3 < 256 := h3 ▸ bytes_lt S 3
  have l4 : c4 < 256 := h4 ▸ bytes_lt S 4
  have l5 : c5 < 256 := h5 ▸ bytes_lt S 5
  have l6 : c6 < 256 := h6 ▸ bytes_lt S 6
  have l7 : c7 < 256 := h7 ▸ bytes_lt S 7
  have l8 : c8 < 256 := h8 ▸ bytes_lt S 8
  have l9 : c9 < 256 := h9 ▸ bytes_lt S 9
  have i0 : ∀ w, (Instr.index 9 (.string S) (.int .i64 0)).run Tryd.prog w = .ok (.int .u8 70) w := fun w => by
    have h := str_index S 0 (by omega) w
    rw [h0] at h
    exact h
  have i1 : ∀ w, (Instr.index 9 (.string S) (.int .i64 1)).run Tryd.prog w = .ok (.int .u8 (c1 : Nat)) w := fun w => by
    have h := str_index S 1 (by omega) w
    rw [h1] at h
    exact h
  have i2 : ∀ w, (Instr.index 9 (.string S) (.int .i64 2)).run Tryd.prog w = .ok (.int .u8 (c2 : Nat)) w := fun w => by
    have h := str_index S 2 (by omega) w
    rw [h2] at h
    exact h
  have i3 : ∀ w, (Instr.index 9 (.string S) (.int .i64 3)).run Tryd.prog w = .ok (.int .u8 (c3 : Nat)) w := fun w => by
    have h := str_index S 3 (by omega) w
    rw [h3] at h
    exact h
  have i4 : ∀ w, (Instr.index 9 (.string S) (.int .i64 4)).run Tryd.prog w = .ok (.int .u8 (c4 : Nat)) w := fun w => by
    have h := str_index S 4 (by omega) w
    rw [h4] at h
    exact h
  have i5 : ∀ w, (Instr.index 9 (.string S) (.int .i64 5)).run Tryd.prog w = .ok (.int .u8 (c5 : Nat)) w := fun w => by
    have h := str_index S 5 (by omega) w
    rw [h5] at h
    exact h
  have i6 : ∀ w, (Instr.index 9 (.string S) (.int .i64 6)).run Tryd.prog w = .ok (.int .u8 (c6 : Nat)) w := fun w => by
    have h := str_index S 6 (by omega) w
    rw [h6] at h
    exact h
  have i7 : ∀ w, (Instr.index 9 (.string S) (.int .i64 7)).run Tryd.prog w = .ok (.int .u8 (c7 : Nat)) w := fun w => by
    have h := str_index S 7 (by omega) w
    rw [h7] at h
    exact h
  have i8 : ∀ w, (Instr.index 9 (.string S) (.int .i64 8)).run Tryd.prog w = .ok (.int .u8 (c8 : Nat)) w := fun w => by
    have h := str_index S 8 (by omega) w
    rw [h8] at h
    exact h
  have i9 : ∀ w, (Instr.index 9 (.string S) (.int .i64 9)).run Tryd.prog w = .ok (.int .u8 (c9 : Nat)) w := fun w => by
    have h := str_index S 9 (by omega) w
    rw [h9] at h
    exact h
  clear h0 h1 h2 h3 h4 h5 h6 h7 h8 h9
  have u1 := wrap_i64_in (c1 : Int) (by omega) (by omega)
  have u2 := wrap_i64_in (c2 : Int) (by omega) (by omega)
  have u3 := wrap_i64_in (c3 : Int) (by omega) (by omega)
  have u4 := wrap_i64_in (c4 : Int) (by omega) (by omega)
  have u5 := wrap_i64_in (c5 : Int) (by omega) (by omega)
  have u6 := wrap_i64_in (c6 : Int) (by omega) (by omega)
  have u7 := wrap_i64_in (c7 : Int) (by omega) (by omega)
  have u8 := wrap_i64_in (c8 : Int) (by omega) (by omega)
  have u9 := wrap_i64_in (c9 : Int) (by omega) (by omega)
  have m1 := wrap_i64_in (256 * (c1 : Int)) (by omega) (by omega)
  have m3 := wrap_i64_in (256 * (c3 : Int)) (by omega) (by omega)
  have a1 := wrap_i64_in (256 * (c1 : Int) + (c2 : Int)) (by omega) (by omega)
  have a3 : IntKind.i64.wrap (256 * (c3 : Int) + (c4 : Int)) = (L : Int) := by have := hL.out; rw [wrap_i64_in _ (by omega) (by omega)]; omega
  have hsz : ∀ a b, (S.extract a b).size = min b n - a := fun a b => by rw [ByteArray.size_extract, hS]
  go_enter Tryd.func7, Tryd.ntmps7
  go_wp2_with fail
  refine wp_region_held_drew (S := fun w' => Below w.heap.size w w') (by kernel_rfl) (((Below.refl _ _).alloc (Nat.le_refl _) _).drew) (fun hS0 => ?_)
  refine wpAnyH_take (i := 0) (v := ?v1) rfl (by kernel_rfl) (by kernel_rfl) (by kernel_rfl) (fun _ _ _ h => h) (Or.inl ⟨by rfl, ?hy1⟩) (by assumption) ?rest1
  case hy1 => (intro wz hSw; go_simp; try (with_reducible rfl))
  try simp only [Act.put, List.getElem_toArray, List.getElem_cons_zero, List.getElem_cons_succ, List.setIfInBounds_toArray, List.set_cons_zero, List.set_cons_succ]
  refine wpAnyH_take (i := 1) (v := ?v2) rfl (by kernel_rfl) (by kernel_rfl) (by kernel_rfl) (fun _ _ _ h => h) (Or.inl ⟨by rfl, ?hy2⟩) (by assumption) ?rest2
  case hy2 => (intro wz hSw; go_simp; try (with_reducible rfl))
  try simp only [Act.put, List.getElem_toArray, List.getElem_cons_zero, List.getElem_cons_succ, List.setIfInBounds_toArray, List.set_cons_zero, List.set_cons_succ]
  refine wpAnyH_take (i := 2) (v := ?v3) rfl (by kernel_rfl) (by kernel_rfl) (by kernel_rfl) (fun _ _ _ h => h) (Or.inl ⟨by rfl, ?hy3⟩) (by assumption) ?rest3
  case hy3 => (intro wz hSw; go_simp; try (with_reducible rfl))
  try simp only [Act.put, List.getElem_toArray, List.getElem_cons_zero, List.getElem_cons_succ, List.setIfInBounds_toArray, List.set_cons_zero, List.set_cons_succ]
  refine wpAnyH_take (i := 3) (v := ?v4) rfl (by kernel_rfl) (by kernel_rfl) (by kernel_rfl) (fun _ _ _ h => h) (Or.inl ⟨by rfl, ?hy4⟩) (by assumption) ?rest4
  case hy4 => (intro wz hSw; go_simp; try (with_reducible rfl))
  try simp only [Act.put, List.getElem_toArray, List.getElem_cons_zero, List.getElem_cons_succ, List.setIfInBounds_toArray, List.set_cons_zero, List.set_cons_succ]
  refine wpAnyH_take (i := 4) (v := ?v5) rfl (by kernel_rfl) (by kernel_rfl) (by kernel_rfl) (fun _ _ _ h => h) (Or.inl ⟨by rfl, ?hy5⟩) (by assumption) ?rest5
  case hy5 => (intro wz hSw; go_simp; try (with_reducible rfl))
  try simp only [Act.put, List.getElem_toArray, List.getElem_cons_zero, List.getElem_cons_succ, List.setIfInBounds_toArray, List.set_cons_zero, List.set_cons_succ]
  refine wpAnyH_take (i := 5) (v := ?v6) rfl (by kernel_rfl) (by kernel_rfl) (by kernel_rfl) (fun _ _ _ h => h) (Or.inl ⟨by rfl, ?hy6⟩) (by assumption) ?rest6
  case hy6 => (intro wz hSw; go_simp; try (with_reducible rfl))
  try simp only [Act.put, List.getElem_toArray, List.getElem_cons_zero, List.getElem_cons_succ, List.setIfInBounds_toArray, List.set_cons_zero, List.set_cons_succ]
  refine wpAnyH_take (i := 6) (v := ?v7) rfl (by kernel_rfl) (by kernel_rfl) (by kernel_rfl) (fun _ _ _ h => h) (Or.inl ⟨by rfl, ?hy7⟩) (by assumption) ?rest7
  case hy7 => (intro wz hSw; go_simp; try (with_reducible rfl))
  try simp only [Act.put, List.getElem_toArray, List.getElem_cons_zero, List.getElem_cons_succ, List.setIfInBounds_toArray, List.set_cons_zero, List.set_cons_succ]
  refine wpAnyH_take (i := 7) (v := ?v8) rfl (by kernel_rfl) (by kernel_rfl) (by kernel_rfl) (fun _ _ _ h => h) (Or.inl ⟨by rfl, ?hy8⟩) (by assumption) ?rest8
  case hy8 => (intro wz hSw; go_simp; try (with_reducible rfl))
  try simp only [Act.put, List.getElem_toArray, List.getElem_cons_zero, List.getElem_cons_succ, List.setIfInBounds_toArray, List.set_cons_zero, List.set_cons_succ]
  refine wpAnyH_take (i := 8) (v := ?v9) rfl (by kernel_rfl) (by kernel_rfl) (by kernel_rfl) (fun _ _ _ h => h) (Or.inl ⟨by rfl, ?hy9⟩) (by assumption) ?rest9
  case hy9 => (intro wz hSw; go_simp; try (with_reducible rfl))
  try simp only [Act.put, List.getElem_toArray, List.getElem_cons_zero, List.getElem_cons_succ, List.setIfInBounds_toArray, List.set_cons_zero, List.set_cons_succ]
  refine wpAnyH_take (i := 9) (v := ?v10) rfl (by kernel_rfl) (by kernel_rfl) (by kernel_rfl) (fun _ _ _ h => h) (Or.inl ⟨by rfl, ?hy10⟩) (by assumption) ?rest10
  case hy10 => (intro wz hSw; go_simp; try (with_reducible rfl))
  try simp only [Act.put, List.getElem_toArray, List.getElem_cons_zero, List.getElem_cons_succ, List.setIfInBounds_toArray, List.set_cons_zero, List.set_cons_succ]
  refine wpAnyH_take (i := 10) (v := ?v11) rfl (by kernel_rfl) (by kernel_rfl) (by kernel_rfl) (fun _ _ _ h => h) (Or.inl ⟨by rfl, ?hy11⟩) (by assumption) ?rest11
  case hy11 => (intro wz hSw; go_simp; try (with_reducible rfl))
  try simp only [Act.put, List.getElem_toArray, List.getElem_cons_zero, List.getElem_cons_succ, List.setIfInBounds_toArray, List.set_cons_zero, List.set_cons_succ]
  refine wpAnyH_take (i := 11) (v := ?v12) rfl (by kernel_rfl) (by kernel_rfl) (by kernel_rfl) (fun _ _ _ h => h) (Or.inl ⟨by rfl, ?hy12⟩) (by assumption) ?rest12
  case hy12 => (intro wz hSw; go_simp; try (with_reducible rfl))
  try simp only [Act.put, List.getElem_toArray, List.getElem_cons_zero, List.getElem_cons_succ, List.setIfInBounds_toArray, List.set_cons_zero, List.set_cons_succ]
  refine wpAnyH_take (i := 12) (v := ?v13) rfl (by kernel_rfl) (by kernel_rfl) (by kernel_rfl) (fun _ _ _ h => h) (Or.inl ⟨by rfl, ?hy13⟩) (by assumption) ?rest13
  case hy13 => (intro wz hSw; go_simp; try (with_reducible rfl))
  try simp only [Act.put, List.getElem_toArray, List.getElem_cons_zero, List.getElem_cons_succ, List.setIfInBounds_toArray, List.set_cons_zero, List.set_cons_succ]
  refine wpAnyH_take (i := 13) (v := ?v14) rfl (by kernel_rfl) (by kernel_rfl) (by kernel_rfl) (fun _ _ _ h => h) (Or.inl ⟨by rfl, ?hy14⟩) (by assumption) ?rest14
  case hy14 => (intro wz hSw; go_simp; try (with_reducible rfl))
  try simp only [Act.put, List.getElem_toArray, List.getElem_cons_zero, List.getElem_cons_succ, List.setIfInBounds_toArray, List.set_cons_zero, List.set_cons_succ]
  refine wpAnyH_take (i := 14) (v := ?v15) rfl (by kernel_rfl) (by kernel_rfl) (by kernel_rfl) (fun _ _ _ h => h) (Or.inl ⟨by rfl, ?hy15⟩) (by assumption) ?rest15
  case hy15 => (intro wz hSw; go_simp; try (with_reducible rfl))
  try simp only [Act.put, List.getElem_toArray, List.getElem_cons_zero, List.getElem_cons_succ, List.setIfInBounds_toArray, List.set_cons_zero, List.set_cons_succ]
  refine wpAnyH_take (i := 15) (v := ?v16) rfl (by kernel_rfl) (by kernel_rfl) (by kernel_rfl) (fun _ _ _ h => h) (Or.inl ⟨by rfl, ?hy16⟩) (by assumption) ?rest16
  case hy16 => (intro wz hSw; go_simp; try (with_reducible rfl))
  try simp only [Act.put, List.getElem_toArray, List.getElem_cons_zero, List.getElem_cons_succ, List.setIfInBounds_toArray, List.set_cons_zero, List.set_cons_succ]
  refine wpAnyH_take (i := 16) (v := ?v17) rfl (by kernel_rfl) (by kernel_rfl) (by kernel_rfl) (fun _ _ _ h => h) (Or.inl ⟨by rfl, ?hy17⟩) (by assumption) ?rest17
  case hy17 => (intro wz hSw; go_simp; try (with_reducible rfl))
  try simp only [Act.put, List.getElem_toArray, List.getElem_cons_zero, List.getElem_cons_succ, List.setIfInBounds_toArray, List.set_cons_zero, List.set_cons_succ]
  refine wpAnyH_take (i := 17) (v := ?v18) rfl (by kernel_rfl) (by kernel_rfl) (by kernel_rfl) (fun _ _ _ h => h) (Or.inl ⟨by rfl, ?hy18⟩) (by assumption) ?rest18
  case hy18 => (intro wz hSw; go_simp; try (with_reducible rfl))
  try simp only [Act.put, List.getElem_toArray, List.getElem_cons_zero, List.getElem_cons_succ, List.setIfInBounds_toArray, List.set_cons_zero, List.set_cons_succ]
  refine wpAnyH_take (i := 18) (v := ?v19) rfl (by kernel_rfl) (by kernel_rfl) (by kernel_rfl) (fun _ _ _ h => h) (Or.inl ⟨by rfl, ?hy19⟩) (by assumption) ?rest19
  case hy19 => (intro wz hSw; go_simp; try (with_reducible rfl))
  try simp only [Act.put, List.getElem_toArray, List.getElem_cons_zero, List.getElem_cons_succ, List.setIfInBounds_toArray, List.set_cons_zero, List.set_cons_succ]
  refine wpAnyH_take (i := 19) (v := ?v20) rfl (by kernel_rfl) (by kernel_rfl) (by kernel_rfl) (fun _ _ _ h => h) (Or.inl ⟨by rfl, ?hy20⟩) (by assumption) ?rest20
  case hy20 => (intro wz hSw; go_simp; try (with_reducible rfl))
  try simp only [Act.put, List.getElem_toArray, List.getElem_cons_zero, List.getElem_cons_succ, List.setIfInBounds_toArray, List.set_cons_zero, List.set_cons_succ]
  refine wpAnyH_take (i := 20) (v := ?v21) rfl (by kernel_rfl) (by kernel_rfl) (by kernel_rfl) (fun _ _ _ h => h) (Or.inl ⟨by rfl, ?hy21⟩) (by assumption) ?rest21
  case hy21 => (intro wz hSw; go_simp; try (with_reducible rfl))
  try simp only [Act.put, List.getElem_toArray, List.getElem_cons_zero, List.getElem_cons_succ, List.setIfInBounds_toArray, List.set_cons_zero, List.set_cons_succ]
  refine wpAnyH_take (i := 21) (v := ?v22) rfl (by kernel_rfl) (by kernel_rfl) (by kernel_rfl) (fun _ _ _ h => h) (Or.inl ⟨by rfl, ?hy22⟩) (by assumption) ?rest22
  case hy22 => (intro wz hSw; go_simp; try (with_reducible rfl))
  try simp only [Act.put, List.getElem_toArray, List.getElem_cons_zero, List.getElem_cons_succ, List.setIfInBounds_toArray, List.set_cons_zero, List.set_cons_succ]
  refine wpAnyH_take (i := 22) (v := ?v23) rfl (by kernel_rfl) (by kernel_rfl) (by kernel_rfl) (fun _ _ _ h => h) (Or.inl ⟨by rfl, ?hy23⟩) (by assumption) ?rest23
  case hy23 => (intro wz hSw; go_simp; try (with_reducible rfl))
  try simp only [Act.put, List.getElem_toArray, List.getElem_cons_zero, List.getElem_cons_succ, List.setIfInBounds_toArray, List.set_cons_zero, List.set_cons_succ]
  refine wpAnyH_take (i := 23) (v := ?v24) rfl (by kernel_rfl) (by kernel_rfl) (by kernel_rfl) (fun _ _ _ h => h) (Or.inl ⟨by rfl, ?hy24⟩) (by assumption) ?rest24
  case hy24 => (intro wz hSw; go_simp; try (with_reducible rfl))
  try simp only [Act.put, List.getElem_toArray, List.getElem_cons_zero, List.getElem_cons_succ, List.setIfInBounds_toArray, List.set_cons_zero, List.set_cons_succ]
  refine wpAnyH_take (i := 24) (v := ?v25) rfl (by kernel_rfl) (by kernel_rfl) (by kernel_rfl) (fun _ _ _ h => h) (Or.inl ⟨by rfl, ?hy25⟩) (by assumption) ?rest25
  case hy25 => (intro wz hSw; go_simp; try (with_reducible rfl))
  try simp only [Act.put, List.getElem_toArray, List.getElem_cons_zero, List.getElem_cons_succ, List.setIfInBounds_toArray, List.set_cons_zero, List.set_cons_succ]
  refine wpAnyH_take (i := 25) (v := ?v26) rfl (by kernel_rfl) (by kernel_rfl) (by kernel_rfl) (fun _ _ _ h => h) (Or.inl ⟨by rfl, ?hy26⟩) (by assumption) ?rest26
  case hy26 => (intro wz hSw; go_simp; try (with_reducible rfl))
  try simp only [Act.put, List.getElem_toArray, List.getElem_cons_zero, List.getElem_cons_succ, List.setIfInBounds_toArray, List.set_cons_zero, List.set_cons_succ]
  refine wpAnyH_take (i := 26) (v := ?v27) rfl (by kernel_rfl) (by kernel_rfl) (by kernel_rfl) (fun _ _ _ h => h) (Or.inl ⟨by rfl, ?hy27⟩) (by assumption) ?rest27
  case hy27 => (intro wz hSw; go_simp; try (with_reducible rfl))
  try simp only [Act.put, List.getElem_toArray, List.getElem_cons_zero, List.getElem_cons_succ, List.setIfInBounds_toArray, List.set_cons_zero, List.set_cons_succ]
  refine wpAnyH_take (i := 27) (v := ?v28) rfl (by kernel_rfl) (by kernel_rfl) (by kernel_rfl) (fun _ _ _ h => h) (Or.inl ⟨by rfl, ?hy28⟩) (by assumption) ?rest28
  case hy28 => (intro wz hSw; go_simp; try (with_reducible rfl))
  try simp only [Act.put, List.getElem_toArray, List.getElem_cons_zero, List.getElem_cons_succ, List.setIfInBounds_toArray, List.set_cons_zero, List.set_cons_succ]
  refine wpAnyH_take (i := 28) (v := ?v29) rfl (by kernel_rfl) (by kernel_rfl) (by kernel_rfl) (fun _ _ _ h => h) (Or.inl ⟨by rfl, ?hy29⟩) (by assumption) ?rest29
  case hy29 => (intro wz hSw; go_simp; try (with_reducible rfl))
  try simp only [Act.put, List.getElem_toArray, List.getElem_cons_zero, List.getElem_cons_succ, List.setIfInBounds_toArray, List.set_cons_zero, List.set_cons_succ]
  refine wpAnyH_take (i := 29) (v := ?v30) rfl (by kernel_rfl) (by kernel_rfl) (by kernel_rfl) (fun _ _ _ h => h) (Or.inl ⟨by rfl, ?hy30⟩) (by assumption) ?rest30
  case hy30 => (intro wz hSw; go_simp; try (with_reducible rfl))
  try simp only [Act.put, List.getElem_toArray, List.getElem_cons_zero, List.getElem_cons_succ, List.setIfInBounds_toArray, List.set_cons_zero, List.set_cons_succ]
  refine wpAnyH_take (i := 30) (v := ?v31) rfl (by kernel_rfl) (by kernel_rfl) (by kernel_rfl) (fun _ _ _ h => h) (Or.inl ⟨by rfl, ?hy31⟩) (by assumption) ?rest31
  case hy31 => (intro wz hSw; go_simp; try (with_reducible rfl))
  try simp only [Act.put, List.getElem_toArray, List.getElem_cons_zero, List.getElem_cons_succ, List.setIfInBounds_toArray, List.set_cons_zero, List.set_cons_succ]
  refine wpAnyH_take (i := 31) (v := ?v32) rfl (by kernel_rfl) (by kernel_rfl) (by kernel_rfl) (fun _ _ _ h => h) (Or.inl ⟨by rfl, ?hy32⟩) (by assumption) ?rest32
  case hy32 => (intro wz hSw; go_simp; try (with_reducible rfl))
  try simp only [Act.put, List.getElem_toArray, List.getElem_cons_zero, List.getElem_cons_succ, List.setIfInBounds_toArray, List.set_cons_zero, List.set_cons_succ]
  refine wpAnyH_take (i := 32) (v := ?v33) rfl (by kernel_rfl) (by kernel_rfl) (by kernel_rfl) (fun _ _ _ h => h) (Or.inl ⟨by rfl, ?hy33⟩) (by assumption) ?rest33
  case hy33 => (intro wz hSw; go_simp; try (with_reducible rfl))
  try simp only [Act.put, List.getElem_toArray, List.getElem_cons_zero, List.getElem_cons_succ, List.setIfInBounds_toArray, List.set_cons_zero, List.set_cons_succ]
  refine wpAnyH_take (i := 33) (v := ?v34) rfl (by kernel_rfl) (by kernel_rfl) (by kernel_rfl) (fun _ _ _ h => h) (Or.inl ⟨by rfl, ?hy34⟩) (by assumption) ?rest34
  case hy34 => (intro wz hSw; go_simp; try (with_reducible rfl))
  try simp only [Act.put, List.getElem_toArray, List.getElem_cons_zero, List.getElem_cons_succ, List.setIfInBounds_toArray, List.set_cons_zero, List.set_cons_succ]
  refine wpAnyH_take (i := 34) (v := ?v35) rfl (by kernel_rfl) (by kernel_rfl) (by kernel_rfl) (fun _ _ _ h => h) (Or.inl ⟨by rfl, ?hy35⟩) (by assumption) ?rest35
  case hy35 => (intro wz hSw; go_simp; try (with_reducible rfl))
  try simp only [Act.put, List.getElem_toArray, List.getElem_cons_zero, List.getElem_cons_succ, List.setIfInBounds_toArray, List.set_cons_zero, List.set_cons_succ]
  refine wpAnyH_ready (rs := [35]) (by kernel_rfl) (by simp) ?_
  refine AllReadyH.cons rfl (fun K hK => ?_) ?_
  · go_simp
    refine hK.out _ _ (((Below.refl _ _).alloc (Nat.le_refl _) _).alloc (by simp) _).drew (fun hS1 => ?_)
    clear hK K
    try simp only [Act.put, List.getElem_toArray, List.getElem_cons_zero, List.getElem_cons_succ, List.setIfInBounds_toArray, List.set_cons_zero, List.set_cons_succ]
    refine wpAnyH_ready (rs := [36]) (by kernel_rfl) (by simp) ?_
    refine AllReadyH.cons rfl (fun K hK => ?_) ?_
    · go_simp
      refine hK.out _ _ (((Below.refl _ _).alloc (Nat.le_refl _) _).alloc (by simp) _).drew (fun hS2 => ?_)
      clear hK K
      try simp only [Act.put, List.getElem_toArray, List.getElem_cons_zero, List.getElem_cons_succ, List.setIfInBounds_toArray, List.set_cons_zero, List.set_cons_succ]
      refine wpAnyH_done (by kernel_rfl) ?_ _
      generalize hWW : World.drew _ = W2
      have R0 : RowL W2 w.heap.size 38 [.int .i64 0, .int .i64 0, .int .i64 0, .int .i64 0, .int .i64 0, .int .i64 0, .int .i64 0, .string ⟨#[]⟩] := by rw [← hWW]; exact ((rowL_alloc' w _ _).alloc _).drew
      have R1 : RowL W2 (w.heap.size + 1) 38 [.int .i64 (256 * (c1 : Int) + (c2 : Int)), .int .i64 L, .int .i64 c5, .int .i64 c6, .int .i64 c7, .int .i64 c8, .int .i64 c9, .string (S.extract 10 n)] := by
        rw [← hWW]
        have h := (rowL_alloc' (w.alloc (.cells #[.int .i64 0, .int .i64 0, .int .i64 0, .int .i64 0, .int .i64 0, .int .i64 0, .int .i64 0, .string ⟨#[]⟩] 38)) #[.int .i64 (256 * (c1 : Int) + (c2 : Int)), .int .i64 L, .int .i64 c5, .int .i64 c6, .int .i64 c7, .int .i64 c8, .int .i64 c9, .string (S.extract 10 n)] 38).drew
        rw [show (w.alloc (.cells #[.int .i64 0, .int .i64 0, .int .i64 0, .int .i64 0, .int .i64 0, .int .i64 0, .int .i64 0, .string ⟨#[]⟩] 38)).heap.size = w.heap.size + 1 by simp] at h
        exact h
      have HB2 : Hid (Below w.heap.size w W2) := by
        rw [← hWW]
        exact hS2
      clear hWW hS0 hS1 hS2 i0 i1 i2 i3 i4 i5 i6 i7 i8 i9 u1 u2 u3 u4 u5 u6 u7 u8 u9 m1 m3 a1 a3
      have hds : (S.extract 10 n).size = n - 10 := by rw [hsz]; omega
      have q2 := R1.cell 2 _ rfl
      have q3 := R1.cell 3 _ rfl
      have q4 := R1.cell 4 _ rfl
      have RP := hide (refPlan_walk (c5 : Int) (c6 : Int) (c7 : Int) W2)
      have HR0 := hide R0; have HR1 := hide R1
      clear R0 R1 hsz
      go_wp2_with fail
      go_at_call 18
      refine RP.out.mono ?_
      rintro _ W3 ⟨rfl, hb3⟩
      have r0 := HR0.out.later hb3
      have r1 := HR1.out.later hb3
      have HB3 : Hid (Below w.heap.size w W3) := by show Below _ _ _; exact HB2.out.trans (hb3.mono HB2.out.size)
      have g0 := r0.cell 0 _ rfl; have g1 := r0.cell 1 _ rfl; have g2 := r0.cell 2 _ rfl; have g3 := r0.cell 3 _ rfl; have g4 := r0.cell 4 _ rfl; have g5 := r0.cell 5 _ rfl; have g6 := r0.cell 6 _ rfl; have g7 := r0.cell 7 _ rfl
      have f0 := r0.frozen 0; have f1 := r0.frozen 1; have f2 := r0.frozen 2; have f3 := r0.frozen 3; have f4 := r0.frozen 4; have f5 := r0.frozen 5; have f6 := r0.frozen 6; have f7 := r0.frozen 7
      have q1 := r1.cell 1 _ rfl; have q2 := r1.cell 2 _ rfl; have q3 := r1.cell 3 _ rfl; have q4 := r1.cell 4 _ rfl; have q7 := r1.cell 7 _ rfl
      have HR0' := hide r0; have HR1' := hide r1
      clear r0 r1 hb3
      by_cases hpl : planOk (c5 : Int) (c6 : Int) (c7 : Int)
      · have hpn := planOk_nat.1 hpl
        rw [planB_true hpl]
        by_cases hl : L ≤ 2000
        · have e1 : ¬ (2000 : Int) < (L : Int) := by omega
          by_cases hd : n - 10 = c5
          · have e2 : (((n - 10 : Nat) : Int) != (c5 : Int)) = false := by simp; omega
            have hZ1 := Cut.blocks_pos (n := Cut.pieces L c5) (m := c6) (Cut.pieces_pos _ _) hpn.2.1.1
            have hZ3 := Cut.blocks_le (n := Cut.pieces L c5) (m := c6) (Cut.pieces_pos _ _) hpn.2.1.1
            have hZ4 := Cut.pieces_le hl hpn.1.1
            obtain ⟨Z, hZ⟩ : ∃ Z, Z = Cut.blocks (Cut.pieces L c5) c6 := ⟨_, rfl⟩
            rw [← hZ] at HIS hZ1 hZ3
            have hSL : Hid ((Cut.sizes L c5 c6).length = Z) := by show _ = _; rw [Cut.sizes_length, hZ]
            have RB := hide (refBlocks_walk L c5 c6 c7 hl hpn.1.1 hpn.1.2 hpn.2.1.1 hpn.2.1.2)
            have HSA : Hid (∀ z, z < Z → ∃ k, (Cut.sizes L c5 c6)[z]? = some k ∧ 1 ≤ k ∧ k ≤ c6) := fun z hz => sizes_at hpn.2.1.1 (by rw [← hZ]; exact hz)
            clear hZ
            go_wp2_with fail
            go_at_call 19
            refine (RB.out _).mono ?_
            rintro _ W4 ⟨v, rfl, hown, hvb, hb4⟩
            obtain ⟨g, cap, cur, hv, hrg, hc1, hc2, hc3, hc4⟩ := hown.open' (by rw [i64s_length, hSL.out]; exact hZ1)
            rw [i64s_length, hSL.out] at hv hc4
            subst hv
            have r0 := HR0'.out.later hb4
            have r1 := HR1'.out.later hb4
            have HB4 : Hid (Below w.heap.size w W4) := by show Below _ _ _; exact HB3.out.trans (hb4.mono HB3.out.size)
            have q4 := r1.cell 4 _ rfl; have q5 := r1.cell 5 _ rfl; have q6 := r1.cell 6 _ rfl
            have HR0' := hide r0; have HR1' := hide r1
            clear r0 r1 hb4 hvb g0 g1 g2 g3 g4 g5 g6 g7 f0 f1 f2 f3 f4 f5 f6 f7 q1 q2 q3 q7 hown hc1 hc2 hc3
            have HC4 := hide hc4
            clear hc4
            by_cases hz2 : Z ≤ 256
            · have d1 : decide ((256 : Int) < (Z : Int)) = false := by simp; omega
              by_cases hz : c8 < Z
              · have d2 : decide ((Z : Int) ≤ (c8 : Int)) = false := by simp; omega
                obtain ⟨s, hs, hs1, hs2⟩ := HSA.out c8 hz
                have qs : W4.cell? ⟨g, c8, none⟩ = some (.int .i64 s) := hrg.cell c8 _ (take_at (xs := i64s (Cut.sizes L c5 c6)) (by rw [i64s_length, hSL.out]; exact HC4.out) (by simp only [i64s, List.getElem?_map, hs]; rfl))
                have z0 : (0 : Int) ≤ (c8 : Int) := by omega
                have z1 : (c8 : Int) < (Z : Int) := by omega
                have w9 := wrap_i64_in ((s : Int) + (c7 : Int)) (by omega) (by omega)
                have HSS := hide hs
                clear hs hrg
                by_cases hq : c9 < s + c7
                · have d3 : decide ((s : Int) + (c7 : Int) ≤ (c9 : Int)) = false := by simp; omega
                  go_wp2_with fail
                  go_quiet (fail)
                  have r0 := HR0'.out.drewN nq
                  have r1 := HR1'.out.drewN nq
                  have HB5 : Hid (Below w.heap.size w (W4.drewN nq)) := by
                    show Below _ _ _
                    exact ⟨HB4.out.os, HB4.out.tape, HB4.out.output, HB4.out.size, HB4.out.block⟩
                  generalize W4.drewN nq = W5 at r0 r1 HB5 ⊢
                  clear q4 q5 q6
                  have g0 := r0.cell 0 _ rfl; have g1 := r0.cell 1 _ rfl; have g2 := r0.cell 2 _ rfl; have g3 := r0.cell 3 _ rfl; have g4 := r0.cell 4 _ rfl; have g5 := r0.cell 5 _ rfl; have g6 := r0.cell 6 _ rfl; have g7 := r0.cell 7 _ rfl
                  have f0 := r0.frozen 0; have f1 := r0.frozen 1; have f2 := r0.frozen 2; have f3 := r0.frozen 3; have f4 := r0.frozen 4; have f5 := r0.frozen 5; have f6 := r0.frozen 6; have f7 := r0.frozen 7
                  have q0 := r1.cell 0 _ rfl; have q1 := r1.cell 1 _ rfl; have q2 := r1.cell 2 _ rfl; have q3 := r1.cell 3 _ rfl; have q4 := r1.cell 4 _ rfl; have q5 := r1.cell 5 _ rfl; have q6 := r1.cell 6 _ rfl; have q7 := r1.cell 7 _ rfl
                  have HR5 := hide r0
                  clear r0 r1 qs
                  go_wp2_with fail
                  have RZ := ((((((((HR5.out.set 0 (.int .i64 (256 * (c1 : Int) + (c2 : Int)))).set 1 (.int .i64 (L : Int))).set 2 (.int .i64 (c5 : Int))).set 3 (.int .i64 (c6 : Int))).set 4 (.int .i64 (c7 : Int))).set 5 (.int .i64 (c8 : Int))).set 6 (.int .i64 (c9 : Int))).set 7 (.string (S.extract 10 n)))
                  have BZ : Hid (Below w.heap.size w ((((((((W5.setCell ⟨w.heap.size, 0, none⟩ (.int .i64 (256 * (c1 : Int) + (c2 : Int)))).setCell ⟨w.heap.size, 1, none⟩ (.int .i64 (L : Int))).setCell ⟨w.heap.size, 2, none⟩ (.int .i64 (c5 : Int))).setCell ⟨w.heap.size, 3, none⟩ (.int .i64 (c6 : Int))).setCell ⟨w.heap.size, 4, none⟩ (.int .i64 (c7 : Int))).setCell ⟨w.heap.size, 5, none⟩ (.int .i64 (c8 : Int))).setCell ⟨w.heap.size, 6, none⟩ (.int .i64 (c9 : Int))).setCell ⟨w.heap.size, 7, none⟩ (.string (S.extract 10 n)))) := by
                    show Below _ _ _
                    exact ((((((((HB5.out.setCell (Nat.le_refl _) _).setCell (Nat.le_refl _) _).setCell (Nat.le_refl _) _).setCell (Nat.le_refl _) _).setCell (Nat.le_refl _) _).setCell (Nat.le_refl _) _).setCell (Nat.le_refl _) _).setCell (Nat.le_refl _) _)
                  generalize ((((((((W5.setCell ⟨w.heap.size, 0, none⟩ _).setCell ⟨w.heap.size, 1, none⟩ _).setCell ⟨w.heap.size, 2, none⟩ _).setCell ⟨w.heap.size, 3, none⟩ _).setCell ⟨w.heap.size, 4, none⟩ _).setCell ⟨w.heap.size, 5, none⟩ _).setCell ⟨w.heap.size, 6, none⟩ _).setCell ⟨w.heap.size, 7, none⟩ _) = W9 at RZ BZ ⊢
                  have z0 := RZ.cell 0 _ rfl
                  have z1 := RZ.cell 1 _ rfl
                  have z2 := RZ.cell 2 _ rfl
                  have z3 := RZ.cell 3 _ rfl
                  have z4 := RZ.cell 4 _ rfl
                  have z5 := RZ.cell 5 _ rfl
                  have z6 := RZ.cell 6 _ rfl
                  have z7 := RZ.cell 7 _ rfl
                  clear RZ
                  go_wp2
                  refine bodyPost_ret (v := .tuple #[saidV (256 * c1 + c2) L c5 c6 c7 c8 c9 (S.extract 10 n), .bool true]) (by simp [results, Tryd.results7, go_sem, saidV, z0, z1, z2, z3, z4, z5, z6, z7]) rfl ⟨Or.inl ⟨HIS.out.2 ⟨by omega, hl, hpn.1, hpn.2.1, hpn.2.2, hz2, hz, ?_, by omega⟩, rfl⟩, BZ.out⟩
                  rw [HSS.out]; exact hq
                · have d3 : decide ((s : Int) + (c7 : Int) ≤ (c9 : Int)) = true := by simp; omega
                  go_wp2_with fail
                  go_quiet (fail)
                  have r0 := HR0'.out.drewN nq
                  have r1 := HR1'.out.drewN nq
                  have HB5 : Hid (Below w.heap.size w (W4.drewN nq)) := by
                    show Below _ _ _
                    exact ⟨HB4.out.os, HB4.out.tape, HB4.out.output, HB4.out.size, HB4.out.block⟩
                  generalize W4.drewN nq = W5 at r0 r1 HB5 ⊢
                  clear q4 q5 q6
                  have g0 := r0.cell 0 _ rfl; have g1 := r0.cell 1 _ rfl; have g2 := r0.cell 2 _ rfl; have g3 := r0.cell 3 _ rfl; have g4 := r0.cell 4 _ rfl; have g5 := r0.cell 5 _ rfl; have g6 := r0.cell 6 _ rfl; have g7 := r0.cell 7 _ rfl
                  have f0 := r0.frozen 0; have f1 := r0.frozen 1; have f2 := r0.frozen 2; have f3 := r0.frozen 3; have f4 := r0.frozen 4; have f5 := r0.frozen 5; have f6 := r0.frozen 6; have f7 := r0.frozen 7
                  have HR5 := hide r0
                  clear r0 r1 qs
                  go_wp2_with fail
                  have RZ := ((((((((HR5.out.set 0 (.int .i64 0)).set 1 (.int .i64 0)).set 2 (.int .i64 0)).set 3 (.int .i64 0)).set 4 (.int .i64 0)).set 5 (.int .i64 0)).set 6 (.int .i64 0)).set 7 (.string ⟨#[]⟩))
                  have BZ : Hid (Below w.heap.size w ((((((((W5.setCell ⟨w.heap.size, 0, none⟩ (.int .i64 0)).setCell ⟨w.heap.size, 1, none⟩ (.int .i64 0)).setCell ⟨w.heap.size, 2, none⟩ (.int .i64 0)).setCell ⟨w.heap.size, 3, none⟩ (.int .i64 0)).setCell ⟨w.heap.size, 4, none⟩ (.int .i64 0)).setCell ⟨w.heap.size, 5, none⟩ (.int .i64 0)).setCell ⟨w.heap.size, 6, none⟩ (.int .i64 0)).setCell ⟨w.heap.size, 7, none⟩ (.string ⟨#[]⟩))) := by
                    show Below _ _ _
                    exact ((((((((HB5.out.setCell (Nat.le_refl _) _).setCell (Nat.le_refl _) _).setCell (Nat.le_refl _) _).setCell (Nat.le_refl _) _).setCell (Nat.le_refl _) _).setCell (Nat.le_refl _) _).setCell (Nat.le_refl _) _).setCell (Nat.le_refl _) _)
                  generalize ((((((((W5.setCell ⟨w.heap.size, 0, none⟩ _).setCell ⟨w.heap.size, 1, none⟩ _).setCell ⟨w.heap.size, 2, none⟩ _).setCell ⟨w.heap.size, 3, none⟩ _).setCell ⟨w.heap.size, 4, none⟩ _).setCell ⟨w.heap.size, 5, none⟩ _).setCell ⟨w.heap.size, 6, none⟩ _).setCell ⟨w.heap.size, 7, none⟩ _) = W9 at RZ BZ ⊢
                  have z0 := RZ.cell 0 _ rfl
                  have z1 := RZ.cell 1 _ rfl
                  have z2 := RZ.cell 2 _ rfl
                  have z3 := RZ.cell 3 _ rfl
                  have z4 := RZ.cell 4 _ rfl
                  have z5 := RZ.cell 5 _ rfl
                  have z6 := RZ.cell 6 _ rfl
                  have z7 := RZ.cell 7 _ rfl
                  clear RZ
                  go_wp2
                  refine bodyPost_ret (v := .tuple #[noSaid, .bool false]) (by simp [results, Tryd.results7, go_sem, noSaid, saidV, z0, z1, z2, z3, z4, z5, z6, z7]) rfl ⟨Or.inr ⟨fun hh => ?_, rfl⟩, BZ.out⟩
                  have hh' := HIS.out.1 hh
                  exact hq (by have := hh'.2.2.2.2.2.2.2.1; rw [HSS.out] at this; exact this)
              · have d2 : decide ((Z : Int) ≤ (c8 : Int)) = true := by simp; omega
                clear hrg
                go_wp2_with fail
                go_quiet (fail)
                have r0 := HR0'.out.drewN nq
                have r1 := HR1'.out.drewN nq
                have HB5 : Hid (Below w.heap.size w (W4.drewN nq)) := by
                  show Below _ _ _
                  exact ⟨HB4.out.os, HB4.out.tape, HB4.out.output, HB4.out.size, HB4.out.block⟩
                generalize W4.drewN nq = W5 at r0 r1 HB5 ⊢
                clear q4 q5 q6
                have g0 := r0.cell 0 _ rfl; have g1 := r0.cell 1 _ rfl; have g2 := r0.cell 2 _ rfl; have g3 := r0.cell 3 _ rfl; have g4 := r0.cell 4 _ rfl; have g5 := r0.cell 5 _ rfl; have g6 := r0.cell 6 _ rfl; have g7 := r0.cell 7 _ rfl
                have f0 := r0.frozen 0; have f1 := r0.frozen 1; have f2 := r0.frozen 2; have f3 := r0.frozen 3; have f4 := r0.frozen 4; have f5 := r0.frozen 5; have f6 := r0.frozen 6; have f7 := r0.frozen 7
                have HR5 := hide r0
                clear r0 r1
                go_wp2_with fail
                have RZ := ((((((((HR5.out.set 0 (.int .i64 0)).set 1 (.int .i64 0)).set 2 (.int .i64 0)).set 3 (.int .i64 0)).set 4 (.int .i64 0)).set 5 (.int .i64 0)).set 6 (.int .i64 0)).set 7 (.string ⟨#[]⟩))
                have BZ : Hid (Below w.heap.size w ((((((((W5.setCell ⟨w.heap.size, 0, none⟩ (.int .i64 0)).setCell ⟨w.heap.size, 1, none⟩ (.int .i64 0)).setCell ⟨w.heap.size, 2, none⟩ (.int .i64 0)).setCell ⟨w.heap.size, 3, none⟩ (.int .i64 0)).setCell ⟨w.heap.size, 4, none⟩ (.int .i64 0)).setCell ⟨w.heap.size, 5, none⟩ (.int .i64 0)).setCell ⟨w.heap.size, 6, none⟩ (.int .i64 0)).setCell ⟨w.heap.size, 7, none⟩ (.string ⟨#[]⟩))) := by
                  show Below _ _ _
                  exact ((((((((HB5.out.setCell (Nat.le_refl _) _).setCell (Nat.le_refl _) _).setCell (Nat.le_refl _) _).setCell (Nat.le_refl _) _).setCell (Nat.le_refl _) _).setCell (Nat.le_refl _) _).setCell (Nat.le_refl _) _).setCell (Nat.le_refl _) _)
                generalize ((((((((W5.setCell ⟨w.heap.size, 0, none⟩ _).setCell ⟨w.heap.size, 1, none⟩ _).setCell ⟨w.heap.size, 2, none⟩ _).setCell ⟨w.heap.size, 3, none⟩ _).setCell ⟨w.heap.size, 4, none⟩ _).setCell ⟨w.heap.size, 5, none⟩ _).setCell ⟨w.heap.size, 6, none⟩ _).setCell ⟨w.heap.size, 7, none⟩ _) = W9 at RZ BZ ⊢
                have z0 := RZ.cell 0 _ rfl
                have z1 := RZ.cell 1 _ rfl
                have z2 := RZ.cell 2 _ rfl
                have z3 := RZ.cell 3 _ rfl
                have z4 := RZ.cell 4 _ rfl
                have z5 := RZ.cell 5 _ rfl
                have z6 := RZ.cell 6 _ rfl
                have z7 := RZ.cell 7 _ rfl
                clear RZ
                go_wp2
                refine bodyPost_ret (v := .tuple #[noSaid, .bool false]) (by simp [results, Tryd.results7, go_sem, noSaid, saidV, z0, z1, z2, z3, z4, z5, z6, z7]) rfl ⟨Or.inr ⟨fun hh => ?_, rfl⟩, BZ.out⟩
                have hh' := HIS.out.1 hh
                omega
            · have d1 : decide ((256 : Int) < (Z : Int)) = true := by simp; omega
              clear hrg
              go_wp2_with fail
              go_quiet (fail)
              have r0 := HR0'.out.drewN nq
              have r1 := HR1'.out.drewN nq
              have HB5 : Hid (Below w.heap.size w (W4.drewN nq)) := by
                show Below _ _ _
                exact ⟨HB4.out.os, HB4.out.tape, HB4.out.output, HB4.out.size, HB4.out.block⟩
              generalize W4.drewN nq = W5 at r0 r1 HB5 ⊢
              clear q4 q5 q6
              have g0 := r0.cell 0 _ rfl; have g1 := r0.cell 1 _ rfl; have g2 := r0.cell 2 _ rfl; have g3 := r0.cell 3 _ rfl; have g4 := r0.cell 4 _ rfl; have g5 := r0.cell 5 _ rfl; have g6 := r0.cell 6 _ rfl; have g7 := r0.cell 7 _ rfl
              have f0 := r0.frozen 0; have f1 := r0.frozen 1; have f2 := r0.frozen 2; have f3 := r0.frozen 3; have f4 := r0.frozen 4; have f5 := r0.frozen 5; have f6 := r0.frozen 6; have f7 := r0.frozen 7
              have HR5 := hide r0
              clear r0 r1
              go_wp2_with fail
              have RZ := ((((((((HR5.out.set 0 (.int .i64 0)).set 1 (.int .i64 0)).set 2 (.int .i64 0)).set 3 (.int .i64 0)).set 4 (.int .i64 0)).set 5 (.int .i64 0)).set 6 (.int .i64 0)).set 7 (.string ⟨#[]⟩))
              have BZ : Hid (Below w.heap.size w ((((((((W5.setCell ⟨w.heap.size, 0, none⟩ (.int .i64 0)).setCell ⟨w.heap.size, 1, none⟩ (.int .i64 0)).setCell ⟨w.heap.size, 2, none⟩ (.int .i64 0)).setCell ⟨w.heap.size, 3, none⟩ (.int .i64 0)).setCell ⟨w.heap.size, 4, none⟩ (.int .i64 0)).setCell ⟨w.heap.size, 5, none⟩ (.int .i64 0)).setCell ⟨w.heap.size, 6, none⟩ (.int .i64 0)).setCell ⟨w.heap.size, 7, none⟩ (.string ⟨#[]⟩))) := by
                show Below _ _ _
                exact ((((((((HB5.out.setCell (Nat.le_refl _) _).setCell (Nat.le_refl _) _).setCell (Nat.le_refl _) _).setCell (Nat.le_refl _) _).setCell (Nat.le_refl _) _).setCell (Nat.le_refl _) _).setCell (Nat.le_refl _) _).setCell (Nat.le_refl _) _)
              generalize ((((((((W5.setCell ⟨w.heap.size, 0, none⟩ _).setCell ⟨w.heap.size, 1, none⟩ _).setCell ⟨w.heap.size, 2, none⟩ _).setCell ⟨w.heap.size, 3, none⟩ _).setCell ⟨w.heap.size, 4, none⟩ _).setCell ⟨w.heap.size, 5, none⟩ _).setCell ⟨w.heap.size, 6, none⟩ _).setCell ⟨w.heap.size, 7, none⟩ _) = W9 at RZ BZ ⊢
              have z0 := RZ.cell 0 _ rfl
              have z1 := RZ.cell 1 _ rfl
              have z2 := RZ.cell 2 _ rfl
              have z3 := RZ.cell 3 _ rfl
              have z4 := RZ.cell 4 _ rfl
              have z5 := RZ.cell 5 _ rfl
              have z6 := RZ.cell 6 _ rfl
              have z7 := RZ.cell 7 _ rfl
              clear RZ
              go_wp2
              refine bodyPost_ret (v := .tuple #[noSaid, .bool false]) (by simp [results, Tryd.results7, go_sem, noSaid, saidV, z0, z1, z2, z3, z4, z5, z6, z7]) rfl ⟨Or.inr ⟨fun hh => ?_, rfl⟩, BZ.out⟩
              have hh' := HIS.out.1 hh
              omega
          · have e2 : (((n - 10 : Nat) : Int) != (c5 : Int)) = true := by simp; omega
            go_wp2_with fail
            have RZ := ((((((((HR0'.out.set 0 (.int .i64 0)).set 1 (.int .i64 0)).set 2 (.int .i64 0)).set 3 (.int .i64 0)).set 4 (.int .i64 0)).set 5 (.int .i64 0)).set 6 (.int .i64 0)).set 7 (.string ⟨#[]⟩))
            have BZ : Hid (Below w.heap.size w ((((((((W3.setCell ⟨w.heap.size, 0, none⟩ (.int .i64 0)).setCell ⟨w.heap.size, 1, none⟩ (.int .i64 0)).setCell ⟨w.heap.size, 2, none⟩ (.int .i64 0)).setCell ⟨w.heap.size, 3, none⟩ (.int .i64 0)).setCell ⟨w.heap.size, 4, none⟩ (.int .i64 0)).setCell ⟨w.heap.size, 5, none⟩ (.int .i64 0)).setCell ⟨w.heap.size, 6, none⟩ (.int .i64 0)).setCell ⟨w.heap.size, 7, none⟩ (.string ⟨#[]⟩))) := by
              show Below _ _ _
              exact ((((((((HB3.out.setCell (Nat.le_refl _) _).setCell (Nat.le_refl _) _).setCell (Nat.le_refl _) _).setCell (Nat.le_refl _) _).setCell (Nat.le_refl _) _).setCell (Nat.le_refl _) _).setCell (Nat.le_refl _) _).setCell (Nat.le_refl _) _)
            generalize ((((((((W3.setCell ⟨w.heap.size, 0, none⟩ _).setCell ⟨w.heap.size, 1, none⟩ _).setCell ⟨w.heap.size, 2, none⟩ _).setCell ⟨w.heap.size, 3, none⟩ _).setCell ⟨w.heap.size, 4, none⟩ _).setCell ⟨w.heap.size, 5, none⟩ _).setCell ⟨w.heap.size, 6, none⟩ _).setCell ⟨w.heap.size, 7, none⟩ _) = W9 at RZ BZ ⊢
            have z0 := RZ.cell 0 _ rfl
            have z1 := RZ.cell 1 _ rfl
            have z2 := RZ.cell 2 _ rfl
            have z3 := RZ.cell 3 _ rfl
            have z4 := RZ.cell 4 _ rfl
            have z5 := RZ.cell 5 _ rfl
            have z6 := RZ.cell 6 _ rfl
            have z7 := RZ.cell 7 _ rfl
            clear RZ
            go_wp2
            refine bodyPost_ret (v := .tuple #[noSaid, .bool false]) (by simp [results, Tryd.results7, go_sem, noSaid, saidV, z0, z1, z2, z3, z4, z5, z6, z7]) rfl ⟨Or.inr ⟨fun hh => ?_, rfl⟩, BZ.out⟩
            have hh' := HIS.out.1 hh
            omega
        · have e1 : (2000 : Int) < (L : Int) := by omega
          go_wp2_with fail
          have RZ := ((((((((HR0'.out.set 0 (.int .i64 0)).set 1 (.int .i64 0)).set 2 (.int .i64 0)).set 3 (.int .i64 0)).set 4 (.int .i64 0)).set 5 (.int .i64 0)).set 6 (.int .i64 0)).set 7 (.string ⟨#[]⟩))
          have BZ : Hid (Below w.heap.size w ((((((((W3.setCell ⟨w.heap.size, 0, none⟩ (.int .i64 0)).setCell ⟨w.heap.size, 1, none⟩ (.int .i64 0)).setCell ⟨w.heap.size, 2, none⟩ (.int .i64 0)).setCell ⟨w.heap.size, 3, none⟩ (.int .i64 0)).setCell ⟨w.heap.size, 4, none⟩ (.int .i64 0)).setCell ⟨w.heap.size, 5, none⟩ (.int .i64 0)).setCell ⟨w.heap.size, 6, none⟩ (.int .i64 0)).setCell ⟨w.heap.size, 7, none⟩ (.string ⟨#[]⟩))) := by
            show Below _ _ _
            exact ((((((((HB3.out.setCell (Nat.le_refl _) _).setCell (Nat.le_refl _) _).setCell (Nat.le_refl _) _).setCell (Nat.le_refl _) _).setCell (Nat.le_refl _) _).setCell (Nat.le_refl _) _).setCell (Nat.le_refl _) _).setCell (Nat.le_refl _) _)
          generalize ((((((((W3.setCell ⟨w.heap.size, 0, none⟩ _).setCell ⟨w.heap.size, 1, none⟩ _).setCell ⟨w.heap.size, 2, none⟩ _).setCell ⟨w.heap.size, 3, none⟩ _).setCell ⟨w.heap.size, 4, none⟩ _).setCell ⟨w.heap.size, 5, none⟩ _).setCell ⟨w.heap.size, 6, none⟩ _).setCell ⟨w.heap.size, 7, none⟩ _) = W9 at RZ BZ ⊢
          have z0 := RZ.cell 0 _ rfl
          have z1 := RZ.cell 1 _ rfl
          have z2 := RZ.cell 2 _ rfl
          have z3 := RZ.cell 3 _ rfl
          have z4 := RZ.cell 4 _ rfl
          have z5 := RZ.cell 5 _ rfl
          have z6 := RZ.cell 6 _ rfl
          have z7 := RZ.cell 7 _ rfl
          clear RZ
          go_wp2
          refine bodyPost_ret (v := .tuple #[noSaid, .bool false]) (by simp [results, Tryd.results7, go_sem, noSaid, saidV, z0, z1, z2, z3, z4, z5, z6, z7]) rfl ⟨Or.inr ⟨fun hh => ?_, rfl⟩, BZ.out⟩
          have hh' := HIS.out.1 hh
          omega
      · rw [planB_false hpl]
        go_wp2_with fail
        have RZ := ((((((((HR0'.out.set 0 (.int .i64 0)).set 1 (.int .i64 0)).set 2 (.int .i64 0)).set 3 (.int .i64 0)).set 4 (.int .i64 0)).set 5 (.int .i64 0)).set 6 (.int .i64 0)).set 7 (.string ⟨#[]⟩))
        have BZ : Hid (Below w.heap.size w ((((((((W3.setCell ⟨w.heap.size, 0, none⟩ (.int .i64 0)).setCell ⟨w.heap.size, 1, none⟩ (.int .i64 0)).setCell ⟨w.heap.size, 2, none⟩ (.int .i64 0)).setCell ⟨w.heap.size, 3, none⟩ (.int .i64 0)).setCell ⟨w.heap.size, 4, none⟩ (.int .i64 0)).setCell ⟨w.heap.size, 5, none⟩ (.int .i64 0)).setCell ⟨w.heap.size, 6, none⟩ (.int .i64 0)).setCell ⟨w.heap.size, 7, none⟩ (.string ⟨#[]⟩))) := by
          show Below _ _ _
          exact ((((((((HB3.out.setCell (Nat.le_refl _) _).setCell (Nat.le_refl _) _).setCell (Nat.le_refl _) _).setCell (Nat.le_refl _) _).setCell (Nat.le_refl _) _).setCell (Nat.le_refl _) _).setCell (Nat.le_refl _) _).setCell (Nat.le_refl _) _)
        generalize ((((((((W3.setCell ⟨w.heap.size, 0, none⟩ _).setCell ⟨w.heap.size, 1, none⟩ _).setCell ⟨w.heap.size, 2, none⟩ _).setCell ⟨w.heap.size, 3, none⟩ _).setCell ⟨w.heap.size, 4, none⟩ _).setCell ⟨w.heap.size, 5, none⟩ _).setCell ⟨w.heap.size, 6, none⟩ _).setCell ⟨w.heap.size, 7, none⟩ _) = W9 at RZ BZ ⊢
        have z0 := RZ.cell 0 _ rfl
        have z1 := RZ.cell 1 _ rfl
        have z2 := RZ.cell 2 _ rfl
        have z3 := RZ.cell 3 _ rfl
        have z4 := RZ.cell 4 _ rfl
        have z5 := RZ.cell 5 _ rfl
        have z6 := RZ.cell 6 _ rfl
        have z7 := RZ.cell 7 _ rfl
        clear RZ
        go_wp2
        refine bodyPost_ret (v := .tuple #[noSaid, .bool false]) (by simp [results, Tryd.results7, go_sem, noSaid, saidV, z0, z1, z2, z3, z4, z5, z6, z7]) rfl ⟨Or.inr ⟨fun hh => ?_, rfl⟩, BZ.out⟩
        have hh' := HIS.out.1 hh
        exact hpl (planOk_nat.2 ⟨hh'.2.2.1, hh'.2.2.2.1, hh'.2.2.2.2.1⟩)
    exact AllReadyH.nil
  exact AllReadyH.nil
end Go.Proofs.YtmfpiodlecapiaaDoor
