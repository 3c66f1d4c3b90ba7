/- Package letters: the bytes that are written down in a text. -/
import Derived.Test.YtmfpiodlecapiaaDoorLettersW
import Derived.Lib.OthersKept
namespace Go.Proofs.YtmfpiodlecapiaaDoor
open Go.RowKit Go.Deep

/- The variable's array, read whole. -/
def alphaL : List Value := (List.range 64).map (fun i => Value.int .i32 (Tx.rn i : Nat))
theorem alphaL_at {i : Nat} (h : i < 64) : alphaL[i]? = some (.int .i32 (Tx.rn i : Nat)) := by simp [alphaL, h]
theorem alpha_load {w : World} (ha : Alpha w) : (Instr.loadAt 79 (.pointer (some ⟨0, 0, none⟩))).run Tryd.prog w = .ok (.agg alphaL.toArray) w := by
  have h := run_loadCells (P := Tryd.prog) w ⟨0, 0, none⟩ 64 (fun i => Value.int .i32 (Tx.rn i : Nat)) (fun j hj => by rw [Addr.add_lit]; simpa using ha j hj)
  unfold Instr.loadAt loadVar
  simp only [Instr.sureAddr, Sem.run_bind, Sem.run_pure, Result.andThen_ok, Tryd.isAgg79, Tryd.sizeOf79, if_true, h]
  rfl
theorem wpList_loadAll {P : Program} {w : World} {ops : Array Oper} {rest : List Oper} {o : Oper} {a : Act} {Q : Exit → Act → World → Prop} (hgd : o.guard = none) (t : TypeId) (x : Operand)
    (ho : o.op = .load t x) (v r : Value) (hv : a.eval x = v) (hr : (Instr.loadAt t v).run P w = .ok r w) (h : wpList P ops Q rest (a.put o.dst r) w) : wpList P ops Q (o :: rest) a w := by
  refine wpList_plain hgd fun K hK => ?_
  unfold Oper.wp execOp
  simp only [ho, hv, Sem.run_bind, hr, Result.andThen_ok]
  exact hK _ _ h
theorem alpha_index (w : World) (k : Nat) (hk : k < 64) : (Instr.index 79 (.agg alphaL.toArray) (.int .i64 (k : Nat))).run Tryd.prog w = .ok (.int .i32 (Tx.rn k : Nat)) w := by
  have h := alphaL_at hk
  have hu := run_underlying (P := Tryd.prog) Tryd.underlying79 w
  have hs := Tryd.sizeOf21 w
  unfold Instr.index
  simp only [asIntOf, Sem.run_bind, Sem.run_pure, Result.andThen_ok, hu]
  rw [if_pos (by omega)]
  simp [Sem.run_bind, hs, part, h]
set_option maxRecDepth 20000 in
set_option maxHeartbeats 1000000 in
theorem number_ok (n : Nat) (hn : n < 64) (w : World) (ha : Alpha w) :
    Calls Tryd.prog 33 #[.int .i32 (Tx.rn n : Nat)] w fun e w' => e = .returned (.int .i64 n) ∧ w' = w := by
  have HA := hide (alpha_load ha)
  have HX := hide (alpha_index w)
  have HI : Hid (∀ k, k < 64 → Tx.rn k = Tx.rn n → k = n) := fun k hk e => Tx.rn_inj hk hn e
  generalize alphaL.toArray = A at HA HX
  clear ha
  go_enter Tryd.func33, Tryd.ntmps33
  go_wp2_with (refine wpList_loadAll rfl 79 (.global 0) rfl _ _ rfl HA.out ?_)
  go_loopw [6] (fun x wr => ∃ k : Nat, k ≤ n ∧ x = .int .i64 k ∧ wr = w) (fun x _ => leftOf 64 (intOf x).toNat)
  case atStart => exact ⟨0, by omega, rfl, rfl⟩
  case round =>
    obtain ⟨k, hk, rfl, rfl⟩ := hrel
    have hx := HX.out k (by omega)
    have k1 : (k : Int) < 64 := by omega
    by_cases hkn : k = n
    · subst hkn
      have e1 : (((Tx.rn k : Nat) : Int) == ((Tx.rn k : Nat) : Int)) = true := by simp
      go_wp2_with fail
      go_ret
      exact ⟨rfl, rfl⟩
    · have hne : (((Tx.rn k : Nat) : Int) == ((Tx.rn n : Nat) : Int)) = false := by
        simp only [beq_eq_false_iff_ne, ne_eq]
        intro e
        exact hkn (HI.out k (by omega) (by omega))
      go_wp2_with fail
      go_roundw
      case rel => exact ⟨k + 1, by omega, by go_num, by simp⟩
      case measure => refine leftOf_lt ?_ ?_ <;> simp only [intOf] <;> omega
set_option maxRecDepth 20000 in
set_option maxHeartbeats 1000000 in
theorem number_no (r : Nat) (hr : ∀ n, n < 64 → Tx.rn n ≠ r) (w : World) (ha : Alpha w) :
    Calls Tryd.prog 33 #[.int .i32 r] w fun e w' => e = .panicked [{ v := faultV 3, recovered := false }] ∧ w' = w := by
  have HA := hide (alpha_load ha)
  have HX := hide (alpha_index w)
  generalize alphaL.toArray = A at HA HX
  clear ha
  have HR := hide hr
  clear hr
  go_enter Tryd.func33, Tryd.ntmps33
  go_wp2_with (refine wpList_loadAll rfl 79 (.global 0) rfl _ _ rfl HA.out ?_)
  go_loopw [6] (fun x wr => ∃ k : Nat, k ≤ 64 ∧ x = .int .i64 k ∧ wr = w) (fun x _ => leftOf 64 (intOf x).toNat)
  case atStart => exact ⟨0, by omega, rfl, rfl⟩
  case round =>
    obtain ⟨k, hk, rfl, rfl⟩ := hrel
    by_cases hk6 : k < 64
    · have hx := HX.out k hk6
      have k1 : (k : Int) < 64 := by omega
      have hne : (((Tx.rn k : Nat) : Int) == (r : Int)) = false := by
        simp only [beq_eq_false_iff_ne, ne_eq]
        intro e
        exact HR.out k hk6 (by omega)
      go_wp2_with fail
      go_roundw
      case rel => exact ⟨k + 1, by omega, by go_num, by simp⟩
      case measure => refine leftOf_lt ?_ ?_ <;> simp only [intOf] <;> omega
    · have k1 : ¬ (k : Int) < 64 := by omega
      go_wp2_with fail
      exact ⟨rfl, rfl, rfl⟩
end Go.Proofs.YtmfpiodlecapiaaDoor
