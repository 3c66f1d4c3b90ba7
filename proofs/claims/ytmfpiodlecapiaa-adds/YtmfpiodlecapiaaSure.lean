/- The document's first and third examples, as the statements' own head asks for them. -/
import Derived.Test.YtmfpiodlecapiaaPackets
import Derived.Laws.BytesArg
import Derived.Lib.SlBytesConst
namespace Go.Proofs.Ytmfpiodlecapiaa
open Go.RowKit Go.Deep

/- Bytes as a string. -/
def strOf (bs : List Nat) : ByteArray := strOfNums (bs.map (fun n : Nat => (n : Int)))
theorem strOf_eq (bs : List Nat) : strOf bs = ⟨(bs.map (fun n : Nat => UInt8.ofNat n)).toArray⟩ := by
  unfold strOf strOfNums
  congr 2
  simp
theorem conv_str {w : World} {g off cap n : Nat} {L : List Value} {bs : List Nat} (hr : RowL w g 5 L) (hl : bs.length = n) (hL : ∀ j, j < n → L[off + j]? = some (.int .u8 ((bs[j]?.getD 0 : Nat) : Int))) :
    (convert 36 9 (.slice (some ⟨g, off, none⟩) n cap)).run Try.prog w = .ok (.string (strOf bs)) w := by
  refine run_convert_bytes_arg w 36 5 Try.underlying36 Try.underlying5 g off n cap (bs.map (fun n : Nat => (n : Int))) (by simpa using hl) ?_ 9 Try.underlying9
  intro i hi
  rw [hr.cell _ _ (hL i hi)]
  simp [List.getD, hl ▸ hi]
theorem conv_row {w : World} {g cap n : Nat} {bs : List Nat} (hr : RowL w g 5 (u8s bs)) (hl : bs.length = n) : (convert 36 9 (.slice (some ⟨g, 0, none⟩) n cap)).run Try.prog w = .ok (.string (strOf bs)) w :=
  conv_str hr hl (fun j hj => by rw [Nat.zero_add]; exact u8s_at (by omega))

theorem cell_alloc_any (w : World) (C : Array Value) (e : TypeId) (fr : Nat × Nat) (i : Nat) (v : Value) (hv : C[i]? = some v) : (w.alloc (.cells C e fr)).cell? ⟨w.heap.size, i, none⟩ = some v := by
  have h := blk_alloc_new w (.cells C e fr)
  unfold World.cell?
  rw [show (w.alloc (.cells C e fr)).heap[(⟨w.heap.size, i, none⟩ : Addr).block]? = _ from h]
  exact hv

theorem ex1 : Gf.mul 2 128 = 29 := by decide +kernel
theorem ex2 : Gf.inv 2 = 142 := by decide +kernel
theorem ex3 : Pk.packets 5 [97, 98] 2 1 1 = [[70, 0, 5, 0, 2, 2, 1, 1, 0, 0, 97, 98], [70, 0, 5, 0, 2, 2, 1, 1, 0, 1, 154, 128]] := by decide +kernel
theorem ex3' : Cut.blocks (Cut.pieces 2 2) 1 ≤ 256 := by decide +kernel

set_option maxRecDepth 20000 in
theorem sure_walk (w : World) : Calls Try.prog 17 #[] w fun e w' => e = .returned (.bool true) ∧ Below w.heap.size w w' := by
  have C1 : Hid (∀ w, Calls Try.prog 10 #[.int .i64 2, .int .i64 128] w fun e w' => e = .returned (.tuple #[.int .i64 29, .int .i64 0]) ∧ w' = w) := by
    intro w; have := fMul_walk 2 128 (by omega) (by omega) w; rw [ex1] at this; exact this
  have C2 : Hid (∀ w, Calls Try.prog 11 #[.int .i64 2] w fun e w' => e = .returned (.tuple #[.int .i64 142, .int .i64 0]) ∧ w' = w) := by
    intro w; have := fInverse_walk 2 (by omega) (by omega) w; rw [ex2] at this; exact this
  have hb0 := hide ((Below.refl w.heap.size w).alloc (Nat.le_refl _) (.cells #[.int .u8 97, .int .u8 98] 5 (2, 3)))
  have C3 : Hid (Calls Try.prog 22 #[.int .i64 5, .slice (some ⟨w.heap.size, 0, none⟩) 2 2, .agg #[.int .i64 2, .int .i64 1, .int .i64 1]] (w.alloc (.cells #[.int .u8 97, .int .u8 98] 5 (2, 3))) fun e w' =>
      ∃ g0 cap g1, e = .returned (.tuple #[.slice (some ⟨g0, 0, none⟩) 2 cap, .int .i64 0]) ∧ Below (w.alloc (.cells #[.int .u8 97, .int .u8 98] 5 (2, 3))).heap.size (w.alloc (.cells #[.int .u8 97, .int .u8 98] 5 (2, 3))) w' ∧ w'.cell? ⟨g0, 1, none⟩ = some (.slice (some ⟨g1, 0, none⟩) 12 12) ∧
        (convert 36 9 (.slice (some ⟨g1, 0, none⟩) 12 12)).run Try.prog w' = .ok (.string (strOf [70, 0, 5, 0, 2, 2, 1, 1, 0, 1, 154, 128])) w') := by
    refine (fPackets_walk (some ⟨w.heap.size, 0, none⟩) 2 2 5 2 1 1 [97, 98] (by omega) (by omega) (by omega) (by omega) (by omega) (by omega) (by omega) ex3' _ ?_).mono ?_
    · refine ⟨rfl, by decide, fun _ => ⟨_, _, rfl, ?_⟩⟩
      intro j hj
      rw [Nat.zero_add]
      match j, hj with
      | 0, _ => exact cell_alloc_any _ _ _ _ _ _ rfl
      | 1, _ => exact cell_alloc_any _ _ _ _ _ _ rfl
    · rintro e w' ⟨v, gs, rfl, hp, hb⟩
      rw [ex3] at hp
      have hl := hp.len
      match gs, hl with
      | [ga, gb], _ =>
        obtain ⟨g, cap, cur, rfl, hr, h1, h2, h3, h4⟩ := hp.own.open' (by simp)
        refine ⟨g, cap, gb, rfl, hb, ?_, ?_⟩
        · exact hr.cell 1 _ (take_at h4 rfl)
        · exact conv_row (hp.row 1 gb _ rfl rfl) rfl
  have kc := fun (w : World) (C : Array Value) (n c : Nat) => Lib.run_convert_bytes_const (P := Try.prog) w 36 5 C n c Try.underlying36 Try.underlying5
  go_enter Try.func17, Try.ntmps17
  go_wp2_with first | (go_at_call 10; refine (C1.out _).mono ?_; rintro _ wq ⟨rfl, hx⟩; have hx2 := hx.symm; clear hx; subst hx2) | (go_at_call 11; refine (C2.out _).mono ?_; rintro _ wq ⟨rfl, hx⟩; have hx2 := hx.symm; clear hx; subst hx2) | (go_at_call 22; refine C3.out.mono ?_; rintro _ w1 ⟨g0, cap, g1, rfl, hb1, hc1, hcv⟩; replace hb1 := hide hb1)
  go_ret
  refine ⟨?_, hb0.out.trans (hb1.out.mono (by simp))⟩
  have e : ((strOf [70, 0, 5, 0, 2, 2, 1, 1, 0, 1, 154, 128]).toList == [70, 0, 5, 0, 2, 2, 1, 1, 0, 1, 154, 128]) = true := by decide +kernel
  show Ending.returned (.bool ((strOf [70, 0, 5, 0, 2, 2, 1, 1, 0, 1, 154, 128]).toList == [70, 0, 5, 0, 2, 2, 1, 1, 0, 1, 154, 128])) = _
  rw [e]
end Go.Proofs.Ytmfpiodlecapiaa
