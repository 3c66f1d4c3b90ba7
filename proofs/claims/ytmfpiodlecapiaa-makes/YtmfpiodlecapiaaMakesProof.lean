/- Packets of any object with any plan answers as the document asks, again too, and what came out is the caller's own: the given statement MakesSaid, for every input, no condition. -/
import Derived.Test.YtmfpiodlecapiaaRows
import Derived.Test.YtmfpiodlecapiaaMakesWalk
import Derived.WalkKit
import Derived.ProofKit
import Derived.OpenShut
import Derived.Lib.SmallJoins
import Derived.SizedLaws
namespace Go.Proofs.Ytmfpiodlecapiaa.makes
open Go.ChangeShapes Go.WideShapes Go.ChangeAt Go.RowKit Go.Joins
open Go.ChangeMaps (open_string shut_string)
set_option linter.unusedVariables false

theorem own : ownKnob Try.prog.godebug = none := by kernel_rfl
theorem cellsPlan : Try.prog.cellsOf 30 = 3 := by kernel_rfl

/-! ### THE ROW's STEP: WRITTEN OUT: LEAVE IT -/
set_option maxRecDepth 100000 in
theorem lifted (os : Os) (started : os.Started) (H : Type) (enc : TypeId × Value → H) :
    ReturnsInHanded {} Try.checked os 5 .any (Rows.makesSpec.pre6 enc Try.prog Try.f5 Rows.makesRow.domain false) (Rows.makesSpec.post enc Try.prog Try.f5 false true false false) := by
  refine returnsInHanded_of_change_sized (C := Try.checked) own started (by kernel_rfl) Try.func5
    (ChangeSpec.witness6 (enc := enc) (C := Try.checked) false ⟨#[], #[.int .i64 0, .string ⟨#[]⟩, .agg #[.int .i64 0, .int .i64 0, .int .i64 0]], []⟩ 8 (by kernel_rfl) (by kernel_rfl) (by kernel_rfl) (by kernel_rfl)) ?_
  intro W base args ds gs before hval0 hW hcnd hsz0 _
  have hval : ∀ (j : Nat) t v, Try.f5.params[j]? = some t → args[j]? = some v → Value.okWide Try.prog W .any base t v := hval0
  have hW' := hW
  obtain ⟨p, q, hA0, hV, rfl, hfz, hnd⟩ := hW
  have hA : DataW.TrodAll enc Try.prog W 0 (fun _ => true) true Try.f5.params.toList args.toList ds p := hA0
  rw [Try.params5] at hA hval
  obtain ⟨v0, vs0, d0, ds0, p0, q0, hargs, rfl, rfl, h0, r0⟩ := trodAll_cons hA
  obtain ⟨v1, vs1, d1, ds1, p1, q1, rfl, rfl, rfl, h1, r1⟩ := trodAll_cons r0
  obtain ⟨v2, vs2, d2, ds2, p2, q2, rfl, rfl, rfl, h2, r2⟩ := trodAll_cons r1
  obtain ⟨rfl, rfl, rfl⟩ := trodAll_nil r2
  obtain rfl : args = #[v0, v1, v2] := by cases args; simp_all
  obtain ⟨rfl, rfl⟩ := trodVars_none hV
  obtain ⟨a0, rfl, rfl, rfl, w0⟩ := open_int Try.underlying3 (hval 0 3 v0 rfl rfl) h0
  obtain ⟨S, rfl, rfl, rfl, wS⟩ := open_string Try.underlying9 (hval 1 9 v1 rfl rfl) h1
  have hsz : S.data.toList.length ≤ reachBytes := sized_string (j := 1) hsz0 (show (Try.f5.params.toList ++ Rows.makesSpec.plain.varTypes Try.prog)[1]? = some 9 by rw [Try.params5]; rfl) rfl
  have hsz2 : S.size ≤ 140737488355328 := by
    have h1 := reachBytes_lt
    rw [Array.length_toList] at hsz
    exact Nat.le_trans hsz (by omega)
  obtain ⟨c0, c1, c2, y0, y1, y2, m, rfl, rfl, rfl, hy0, hy1, hy2⟩ := open_agg3 Try.underlying30 (by kernel_rfl) cellsPlan (hval 2 30 v2 rfl rfl) h2
  obtain ⟨s, e0, rfl, ws⟩ := DataW.trod_int Try.underlying3 hy0
  obtain ⟨mo, e1, rfl, wm⟩ := DataW.trod_int Try.underlying3 hy1
  obtain ⟨sp, e2, rfl, wp⟩ := DataW.trod_int Try.underlying3 hy2
  simp at e0 e1 e2
  subst e0 e1 e2
  clear hA0 hval0
  simp only [List.append_nil] at hW'
  have structReads : ∀ (W' : World) (sq : Nat → Bool), DataW.Trod enc Try.prog W' 0 sq true 30 (.agg #[.int .i64 s, .int .i64 mo, .int .i64 sp]) (.agg [.lit (.int .i64 s), .lit (.int .i64 mo), .lit (.int .i64 sp)]) [] := fun W' sq =>
    shut_agg3 (y0 := (.lit (.int .i64 s), [])) (y1 := (.lit (.int .i64 mo), [])) (y2 := (.lit (.int .i64 sp), [])) Try.underlying30 (by kernel_rfl) cellsPlan ⟨1, by simp [DataW.trod, Try.underlying3, ws]⟩ ⟨1, by simp [DataW.trod, Try.underlying3, wm]⟩ ⟨1, by simp [DataW.trod, Try.underlying3, wp]⟩
  refine (makes_walk a0 s mo sp S _ rfl hsz2 W).mono fun e W' ⟨he, hg⟩ => ?_
  subst he
  refine ⟨_, rfl, _, _, _, [], [], [], hW', trodAll_cons_mk (shut_bool Try.underlying4 _) trodAll_mk0, (trodAll_cons_mk (shut_int Try.underlying3 w0) (trodAll_cons_mk (shut_string Try.underlying9 wS) (trodAll_cons_mk (structReads _ _) trodAll_mk0))), rfl, hg.frame _, fun h => by cases h⟩

theorem over : Rows.makesRow.holds Try.pinned (OpenSpec.ofChange Rows.makesSpec) :=
  OpenClaim.holds_of_wide 5 Try.f5 rfl rfl rfl rfl rfl rfl rfl ⟨rfl, rfl, rfl, rfl, rfl⟩ rfl rfl rfl rfl rfl (by kernel_rfl) Try.func5 (by kernel_rfl)
    (of_decide_eq_true (by kernel_rfl)) (by unfold Func.isWrapper; first | (rw [if_pos (by decide +kernel)]; kernel_rfl) | (rw [if_neg (by decide +kernel)]; exact ⟨rfl, rfl⟩))
    (fun os started H enc _ => lifted os started H enc)

/-- ████ THE STATEMENT ████ -/
theorem proved : Rows.MakesSaid :=
  over
#print axioms proved
end Go.Proofs.Ytmfpiodlecapiaa.makes
