/- The caller's Text and Packet: what is given up by a panic is recovered. -/
import Derived.Test.YtmfpiodlecapiaaDoorReadW
import Derived.Test.YtmfpiodlecapiaaDoorUnpackAll
import Derived.Defers
import Derived.Recover
namespace Go.Proofs.YtmfpiodlecapiaaDoor
open Go.RowKit Go.Deep

set_option maxRecDepth 20000 in
theorem errno_walk (e : Int) (w : World) : Calls Tryd.prog 15 #[faultV e] w fun r w' => r = .returned (.int .i64 e) ∧ w' = w.alloc (.cells #[.int .i64 e] 65) := by
  unfold faultV
  have hta : (Instr.typeAssert (.iface 65 (.agg #[.int .i64 e])) 20 65 true).run Tryd.prog w = .ok (.tuple #[.agg #[.int .i64 e], .bool true]) w := by kernel_rfl
  go_enter Tryd.func15, Tryd.ntmps15
  go_wp2
  go_ret
  exact ⟨rfl, rfl⟩

set_option maxRecDepth 20000 in
theorem textCatch (a b : Nat) (x : Value) (y e : Int) (older : List PanicEntry) (w : World) (hp : RowL w a 9 [x]) (hq : RowL w b 31 [.int .i64 y]) :
    CallsD Tryd.prog 14 #[.pointer (some ⟨a, 0, none⟩), .pointer (some ⟨b, 0, none⟩)] (.panicking ({ v := faultV e, recovered := false } :: older)) w fun r u' w' =>
      r = .returned (.tuple #[]) ∧ u' = .panicking ({ v := faultV e, recovered := true } :: older) ∧ w' = ((w.alloc (.cells #[.int .i64 e] 65)).setCell ⟨a, 0, none⟩ (.string ⟨#[]⟩)).setCell ⟨b, 0, none⟩ (.int .i64 e) := by
  refine callsD_of_wpS Tryd.func14 rfl fun c₀ cs hu => ?_
  apply wpS_seq
  apply wpS_region
  simp [wpOpsS, go_sem, recoverD, hu, Tryd.ntmps14, Exit.thenS]
  have ht : (#[Value.pointer (some (⟨a, 0, none⟩ : Addr)), Value.pointer (some ⟨b, 0, none⟩)] ++ ((Array.replicate 6 undef).setIfInBounds 1 (faultV e)).setIfInBounds 0 (faultV e)) = #[Value.pointer (some ⟨a, 0, none⟩), Value.pointer (some ⟨b, 0, none⟩), faultV e, faultV e, undef, undef, undef, undef] := rfl
  rw [ht]
  clear ht
  have hne : ∀ w, (binOp .neq 20 (faultV e) .nilIface).run Tryd.prog w = .ok (.bool true) w := fun _ => rfl
  have hgd : ∀ w, (eqGuard .neq 20 (.tmp 4) (.const .nilIface) (faultV e) .nilIface).run Tryd.prog w = .ok () w := fun _ => rfl
  have EW := hide (errno_walk e w)
  have hp1 := hp.alloc (.cells #[.int .i64 e] 65)
  have hq1 := hq.alloc (.cells #[.int .i64 e] 65)
  generalize w.alloc (.cells #[.int .i64 e] 65) = w1 at EW hp1 hq1 ⊢
  generalize faultV e = F at hne hgd EW ⊢
  have hab : a ≠ b := hp.ne_of_type hq (by decide)
  have p1 := hp1.cell 0 _ rfl
  have p2 := hp1.frozen 0
  have hq2 := hq1.other (a := ⟨a, 0, none⟩) (fun e => hab e.symm) (.string ⟨#[]⟩)
  have q1 := hq2.cell 0 _ rfl
  have q2 := hq2.frozen 0
  clear hp hq hp1 hq1 hq2 hab hu
  refine wpS_of_wp ?_
  go_wp2_with (go_at_call 15; refine EW.out.mono ?_; rintro _ wq ⟨rfl, hq⟩; have hq2 := hq.symm; clear hq; subst hq2)
  simp [bodyPostS, results, Tryd.results14]
set_option maxRecDepth 20000 in
theorem textIdle (a b : Nat) (w : World) :
    CallsD Tryd.prog 14 #[.pointer (some ⟨a, 0, none⟩), .pointer (some ⟨b, 0, none⟩)] .returning w fun r u' w' => r = .returned (.tuple #[]) ∧ u' = .returning ∧ w' = w := by
  refine callsD_of_wpS Tryd.func14 rfl fun c₀ cs hu => ?_
  apply wpS_seq
  apply wpS_region
  simp [wpOpsS, go_sem, recoverD, hu, Tryd.ntmps14, Exit.thenS]
  apply wpS_seq
  apply wpS_region
  simp [wpOpsS, go_sem, Exit.thenS]
  refine wpS_cond (t := false) (by simp [Act.eval, Array.replicate]) ?_
  simp only [Bool.false_eq_true, if_false]
  refine wpS_of_wp (wp_skip ?_)
  cases c₀
  simp_all [bodyPostS, results, Tryd.results14]
set_option maxRecDepth 20000 in
theorem packetCatch (a b : Nat) (x : Value) (y e : Int) (older : List PanicEntry) (w : World) (hp : RowL w a 27 [x]) (hq : RowL w b 31 [.int .i64 y]) :
    CallsD Tryd.prog 22 #[.pointer (some ⟨a, 0, none⟩), .pointer (some ⟨b, 0, none⟩)] (.panicking ({ v := faultV e, recovered := false } :: older)) w fun r u' w' =>
      r = .returned (.tuple #[]) ∧ u' = .panicking ({ v := faultV e, recovered := true } :: older) ∧ w' = ((w.alloc (.cells #[.int .i64 e] 65)).setCell ⟨a, 0, none⟩ (.slice none 0 0)).setCell ⟨b, 0, none⟩ (.int .i64 e) := by
  refine callsD_of_wpS Tryd.func22 rfl fun c₀ cs hu => ?_
  apply wpS_seq
  apply wpS_region
  simp [wpOpsS, go_sem, recoverD, hu, Tryd.ntmps22, Exit.thenS]
  have ht : (#[Value.pointer (some (⟨a, 0, none⟩ : Addr)), Value.pointer (some ⟨b, 0, none⟩)] ++ ((Array.replicate 6 undef).setIfInBounds 1 (faultV e)).setIfInBounds 0 (faultV e)) = #[Value.pointer (some ⟨a, 0, none⟩), Value.pointer (some ⟨b, 0, none⟩), faultV e, faultV e, undef, undef, undef, undef] := rfl
  rw [ht]
  clear ht
  have hne : ∀ w, (binOp .neq 20 (faultV e) .nilIface).run Tryd.prog w = .ok (.bool true) w := fun _ => rfl
  have hgd : ∀ w, (eqGuard .neq 20 (.tmp 4) (.const .nilIface) (faultV e) .nilIface).run Tryd.prog w = .ok () w := fun _ => rfl
  have EW := hide (errno_walk e w)
  have hp1 := hp.alloc (.cells #[.int .i64 e] 65)
  have hq1 := hq.alloc (.cells #[.int .i64 e] 65)
  generalize w.alloc (.cells #[.int .i64 e] 65) = w1 at EW hp1 hq1 ⊢
  generalize faultV e = F at hne hgd EW ⊢
  have hab : a ≠ b := hp.ne_of_type hq (by decide)
  have p1 := hp1.cell 0 _ rfl
  have p2 := hp1.frozen 0
  have hq2 := hq1.other (a := ⟨a, 0, none⟩) (fun e => hab e.symm) (.slice none 0 0)
  have q1 := hq2.cell 0 _ rfl
  have q2 := hq2.frozen 0
  clear hp hq hp1 hq1 hq2 hab hu
  refine wpS_of_wp ?_
  go_wp2_with (go_at_call 15; refine EW.out.mono ?_; rintro _ wq ⟨rfl, hq⟩; have hq2 := hq.symm; clear hq; subst hq2)
  simp [bodyPostS, results, Tryd.results22]
set_option maxRecDepth 20000 in
theorem packetIdle (a b : Nat) (w : World) :
    CallsD Tryd.prog 22 #[.pointer (some ⟨a, 0, none⟩), .pointer (some ⟨b, 0, none⟩)] .returning w fun r u' w' => r = .returned (.tuple #[]) ∧ u' = .returning ∧ w' = w := by
  refine callsD_of_wpS Tryd.func22 rfl fun c₀ cs hu => ?_
  apply wpS_seq
  apply wpS_region
  simp [wpOpsS, go_sem, recoverD, hu, Tryd.ntmps22, Exit.thenS]
  apply wpS_seq
  apply wpS_region
  simp [wpOpsS, go_sem, Exit.thenS]
  refine wpS_cond (t := false) (by simp [Act.eval, Array.replicate]) ?_
  simp only [Bool.false_eq_true, if_false]
  refine wpS_of_wp (wp_skip ?_)
  cases c₀
  simp_all [bodyPostS, results, Tryd.results22]
end Go.Proofs.YtmfpiodlecapiaaDoor
