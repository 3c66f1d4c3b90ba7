/- Products and inverses of the program are the document's at every pair of numbers, and refused just outside the field: the given statement FieldSaid, for every input, no condition. -/
import Derived.Test.YtmfpiodlecapiaaRows
import Derived.Test.YtmfpiodlecapiaaFieldWalks
import Derived.WalkKit
import Derived.ProofKit
import Derived.OpenShut
namespace Go.Proofs.Ytmfpiodlecapiaa.field
open Go.ChangeShapes Go.WideShapes Go.ChangeAt Go.RowKit
set_option linter.unusedVariables false      -- a walk need not use every 'w<i>' (that an integer argument fits its kind)

theorem hide {p : Prop} (h : p) : Hid p := h
theorem own : ownKnob Try.prog.godebug = none := by kernel_rfl

/-! ### STEP 1: THE WALK: the Go text returns true. 'Grown w w'': the world has at most new blocks (Derived/RowKit3.lean). Part the cases AHEAD of 'go_enter' where a test parts the walk; take each callee by a contract of your own. -/
theorem walk (a0 : Int) (a1 : Int) (w0 : (Lit.int .i64 a0).wf = true) (w1 : (Lit.int .i64 a1).wf = true) (w : World) :
    Calls Try.prog 3 #[.int .i64 a0, .int .i64 a1] w fun e w' => e = .returned (.bool true) ∧ Grown w w' := by
  clear w0 w1
  by_cases ha : 0 ≤ a0 ∧ a0 ≤ 255
  · obtain ⟨a, rfl⟩ : ∃ a : Nat, a0 = a := ⟨a0.toNat, by omega⟩
    have ha' : a < 256 := by omega
    have hlo : ¬ (a : Int) < 0 := by omega
    have hhi : ¬ (255 : Int) < (a : Int) := by omega
    clear ha
    by_cases hb : 0 ≤ a1 ∧ a1 ≤ 255
    · obtain ⟨b, rfl⟩ : ∃ b : Nat, a1 = b := ⟨a1.toNat, by omega⟩
      have hb' : b < 256 := by omega
      have hlo' : ¬ (b : Int) < 0 := by omega
      have hhi' : ¬ (255 : Int) < (b : Int) := by omega
      clear hb
      have cm := fMul_walk a b ha' hb'
      have cr := refMul_walk a b ha' hb'
      by_cases h0 : a = 0
      · subst h0
        have ci := fInverse_refused 0 (by omega)
        revert cm cr
        generalize Gf.mul 0 b = m
        intro cm cr
        have Cm := hide cm; have Cr := hide cr; have Ci := hide ci
        clear cm cr ci
        go_enter Try.func3, Try.ntmps3
        go_wp2_with first | (go_at_call 10; refine (Cm.out _).mono ?_; rintro _ _ ⟨rfl, rfl⟩) | (go_at_call 11; refine (Ci.out _).mono ?_; rintro _ _ ⟨rfl, rfl⟩) | (go_at_call 12; refine (Cr.out _).mono ?_; rintro _ _ ⟨rfl, rfl⟩)
        go_ret
        exact ⟨rfl, Grown.refl _⟩
      · have ci := fInverse_walk a ha' h0
        have cj := refInverse_walk a ha' h0
        have hz : ((a : Int) == 0) = false := by simp; omega
        revert cm cr ci cj
        generalize Gf.mul a b = m
        generalize Gf.inv a = n
        intro cm cr ci cj
        have Cm := hide cm; have Cr := hide cr; have Ci := hide ci; have Cj := hide cj
        clear cm cr ci cj
        go_enter Try.func3, Try.ntmps3
        go_wp2_with first | (go_at_call 10; refine (Cm.out _).mono ?_; rintro _ _ ⟨rfl, rfl⟩) | (go_at_call 11; refine (Ci.out _).mono ?_; rintro _ _ ⟨rfl, rfl⟩) | (go_at_call 12; refine (Cr.out _).mono ?_; rintro _ _ ⟨rfl, rfl⟩) | (go_at_call 13; refine (Cj.out _).mono ?_; rintro _ _ ⟨rfl, rfl⟩)
        go_ret
        exact ⟨rfl, Grown.refl _⟩
    · have cm := fMul_refused a a1 (Or.inr hb)
      have ci : ∃ v e : Int, ∀ w, Calls Try.prog 11 #[.int .i64 a] w fun e' w' => e' = .returned (.tuple #[.int .i64 v, .int .i64 e]) ∧ w' = w := by
        by_cases h0 : a = 0
        · subst h0; exact ⟨_, _, fInverse_refused 0 (by omega)⟩
        · exact ⟨_, _, fInverse_walk a ha' h0⟩
      obtain ⟨v, e, ci⟩ := ci
      have Cm := hide cm; have Ci := hide ci
      clear cm ci
      by_cases hb1 : a1 < 0
      · clear hb
        go_enter Try.func3, Try.ntmps3
        go_wp2_with first | (go_at_call 10; refine (Cm.out _).mono ?_; rintro _ _ ⟨rfl, rfl⟩) | (go_at_call 11; refine (Ci.out _).mono ?_; rintro _ _ ⟨rfl, rfl⟩)
        go_ret
        exact ⟨rfl, Grown.refl _⟩
      · have hb2 : 255 < a1 := by omega
        clear hb
        go_enter Try.func3, Try.ntmps3
        go_wp2_with first | (go_at_call 10; refine (Cm.out _).mono ?_; rintro _ _ ⟨rfl, rfl⟩) | (go_at_call 11; refine (Ci.out _).mono ?_; rintro _ _ ⟨rfl, rfl⟩)
        go_ret
        exact ⟨rfl, Grown.refl _⟩
  · have Cm := hide (fMul_refused a0 a1 (Or.inl ha))
    have Ci := hide (fInverse_refused a0 (by omega))
    by_cases hb1 : a0 < 0
    · clear ha
      go_enter Try.func3, Try.ntmps3
      go_wp2_with first | (go_at_call 10; refine (Cm.out _).mono ?_; rintro _ _ ⟨rfl, rfl⟩) | (go_at_call 11; refine (Ci.out _).mono ?_; rintro _ _ ⟨rfl, rfl⟩)
      go_ret
      exact ⟨rfl, Grown.refl _⟩
    · have hb2 : 255 < a0 := by omega
      clear ha
      go_enter Try.func3, Try.ntmps3
      go_wp2_with first | (go_at_call 10; refine (Cm.out _).mono ?_; rintro _ _ ⟨rfl, rfl⟩) | (go_at_call 11; refine (Ci.out _).mono ?_; rintro _ _ ⟨rfl, rfl⟩)
      go_ret
      exact ⟨rfl, Grown.refl _⟩

/-! ### THE ROW's STEP: WRITTEN OUT: LEAVE IT -/
set_option maxRecDepth 100000 in
theorem lifted (os : Os) (started : os.Started) (H : Type) (enc : TypeId × Value → H) :
    ReturnsInHanded {} Try.checked os 3 .any (Rows.fieldSpec.pre6 enc Try.prog Try.f3 Rows.fieldRow.domain false) (Rows.fieldSpec.post enc Try.prog Try.f3 false true false false) := by
  refine returnsInHanded_of_change (C := Try.checked) own started (by kernel_rfl) Try.func3
    (ChangeSpec.witness6 (enc := enc) (C := Try.checked) false ⟨#[], #[.int .i64 0, .int .i64 0], []⟩ 8 (by kernel_rfl) (by kernel_rfl) (by kernel_rfl) (by kernel_rfl)) ?_
  intro W base args ds gs before hval0 hW hcnd _
  have hval : ∀ (j : Nat) t v, Try.f3.params[j]? = some t → args[j]? = some v → Value.okWide Try.prog W .any base t v := hval0
  have hW' := hW
  obtain ⟨p, q, hA0, hV, rfl, hfz, hnd⟩ := hW
  have hA : DataW.TrodAll enc Try.prog W 0 (fun _ => true) true Try.f3.params.toList args.toList ds p := hA0
  rw [Try.params3] at hA hval
  obtain ⟨v0, vs0, d0, ds0, p0, q0, hargs, rfl, rfl, h0, r0⟩ := trodAll_cons hA
  obtain ⟨v1, vs1, d1, ds1, p1, q1, rfl, rfl, rfl, h1, r1⟩ := trodAll_cons r0
  obtain ⟨rfl, rfl, rfl⟩ := trodAll_nil r1
  obtain rfl : args = #[v0, v1] := by cases args; simp_all
  obtain ⟨rfl, rfl⟩ := trodVars_none hV
  obtain ⟨a0, rfl, rfl, rfl, w0⟩ := open_int Try.underlying3 (hval 0 3 v0 rfl rfl) h0
  obtain ⟨a1, rfl, rfl, rfl, w1⟩ := open_int Try.underlying3 (hval 1 3 v1 rfl rfl) h1
  clear hA0 hval0
  simp only [List.append_nil] at hW'
  refine (walk a0 a1 w0 w1 W).mono fun e W' ⟨he, hg⟩ => ?_
  subst he
  exact ⟨_, rfl, post_of_same (pa := []) (pv := []) hW' (fun _ _ _ => (trodAll_cons_mk (shut_bool Try.underlying4 _) trodAll_mk0)) (fun sp _ => (trodAll_cons_mk (shut_int Try.underlying3 w0) (trodAll_cons_mk (shut_int Try.underlying3 w1) trodAll_mk0))) (fun _ _ => rfl) rfl
    (hg.frame _) hg.2.1 (ok_one (by kernel_rfl) rfl (okWide_bool_mk Try.underlying4 _))⟩

theorem over : Rows.fieldRow.holds Try.pinned (OpenSpec.ofChange Rows.fieldSpec) :=
  OpenClaim.holds_of_wide 3 Try.f3 rfl rfl rfl rfl rfl rfl rfl ⟨rfl, rfl, rfl, rfl, rfl⟩ rfl rfl rfl rfl rfl (by kernel_rfl) Try.func3 (by kernel_rfl)
    (of_decide_eq_true (by kernel_rfl)) (by unfold Func.isWrapper; first | (rw [if_pos (by decide +kernel)]; kernel_rfl) | (rw [if_neg (by decide +kernel)]; exact ⟨rfl, rfl⟩))
    (fun os started H enc _ => lifted os started H enc)

/-- ████ THE STATEMENT ████ -/
theorem proved : Rows.FieldSaid :=
  over
#print axioms proved
end Go.Proofs.Ytmfpiodlecapiaa.field
