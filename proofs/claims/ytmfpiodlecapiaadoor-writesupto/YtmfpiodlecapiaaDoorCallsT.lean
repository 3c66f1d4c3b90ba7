/- The caller's Text of any bytes. -/
import Derived.Test.YtmfpiodlecapiaaDoorCallsTP
namespace Go.Proofs.YtmfpiodlecapiaaDoor
open Go.RowKit Go.Deep

set_option maxRecDepth 20000 in
set_option maxHeartbeats 1000000 in
theorem fText_ok (b off n cap : Nat) (l : List Nat) (hn : n ≤ 100000000) (w : World) (h : ObjAt w (some ⟨b, off, none⟩) n l) (hcap : n ≤ cap) (hp : Tx.IsPacket l) (ha : Alpha w) :
    Calls Tryd.prog 5 #[.slice (some ⟨b, off, none⟩) n cap] w fun e w' => e = .returned (.tuple #[.string (strOf (Tx.textN l)), .int .i64 0]) ∧ Below w.heap.size w w' := by
  have hmf : ∀ (fn : Fn) (first cap : Array Value) (w : World), (Instr.makeFunc fn first cap).run Tryd.prog w = .ok (.func fn first cap) w := fun _ _ _ _ => rfl
  have HB0 := hide (((Below.refl w.heap.size w).alloc (Nat.le_refl _) (.cells #[.string ⟨#[]⟩] 9)).alloc (by simp) (.cells #[.int .i64 0] 31))
  have R1 := (rowL_alloc' w #[.string ⟨#[]⟩] 9).alloc (.cells #[.int .i64 0] 31)
  have R2 := rowL_alloc' (w.alloc (.cells #[.string ⟨#[]⟩] 9)) #[.int .i64 0] 31
  have UP := hide (unpack_packet b off n cap l _ (h.later HB0.out) hcap hp)
  have HLA := hide (ha.later HB0.out)
  have HOB := hide (h.later HB0.out)
  have HR1 := hide R1; have HR2 := hide R2
  clear R1 R2 h ha hp
  go_enter_defers Tryd.func5, Tryd.ntmps5
  go_wp2_with (go_at_call 16; refine UP.out.mono ?_; rintro _ w1 ⟨rfl, hb1⟩; replace hb1 := hide hb1)
  have OB1 := HOB.out.later hb1.out
  have C1 : Hid (∀ j, j < n → w1.cell? ⟨b, off + j, none⟩ = some (.int .u8 ((l[j]?.getD 0 : Nat) : Int))) := fun j hj => by
    obtain ⟨b', off', e, hc⟩ := OB1.2.2 (by omega)
    injection e with e
    injection e with e1 e2
    subst e1 e2
    exact hc j hj
  have WW := hide (write_walk b off n cap l (hide OB1.1) hn (hide OB1.2.1) w1 (HLA.out.later hb1.out) C1)
  go_at_call 17
  refine WW.out.mono ?_
  rintro _ w2 ⟨rfl, hb2⟩
  have r1 := (HR1.out.later hb1.out).later hb2
  have r2 := (HR2.out.later hb1.out).later hb2
  rw [show (w.alloc (.cells #[.string ⟨#[]⟩] 9)).heap.size = w.heap.size + 1 by simp] at r2
  have HB2 : Hid (Below w.heap.size w w2) := by
    show Below _ _ _
    have h1 := HB0.out.trans (hb1.out.mono HB0.out.size)
    exact h1.trans (hb2.mono h1.size)
  have c1 := r1.cell 0 _ rfl
  have f1 := r1.frozen 0
  have r3 := r2.other (a := ⟨w.heap.size, 0, none⟩) (by simp) (.string (strOf (Tx.textN l)))
  have c2 := r3.cell 0 _ rfl
  have f2 := r3.frozen 0
  have r4 := (r1.set 0 (.string (strOf (Tx.textN l)))).other (a := ⟨w.heap.size + 1, 0, none⟩) (by simp) (.int .i64 0)
  have r5 := r3.set 0 (.int .i64 0)
  have d1 := r4.cell 0 _ rfl
  have d2 := r5.cell 0 _ rfl
  clear r1 r2 r3 r4 r5 OB1 C1 hb2
  go_wp2
  refine leaves_cons (f := 14) (args := #[.pointer (some ⟨w.heap.size, 0, none⟩), .pointer (some ⟨w.heap.size + 1, 0, none⟩)]) (by simp) (by simp [go_sem]) ?_
  refine (textIdle w.heap.size (w.heap.size + 1) _).mono ?_
  rintro e u' w'' ⟨rfl, rfl, rfl⟩
  have B4 := (HB2.out.setCell (p := ⟨w.heap.size, 0, none⟩) (Nat.le_refl _) (.string (strOf (Tx.textN l)))).setCell (p := ⟨w.heap.size + 1, 0, none⟩) (Nat.le_succ _) (.int .i64 0)
  generalize (w2.setCell ⟨w.heap.size, 0, none⟩ (.string (strOf (Tx.textN l)))).setCell ⟨w.heap.size + 1, 0, none⟩ (.int .i64 0) = w4 at d1 d2 B4 ⊢
  simp [Leaves, settle, results, Tryd.results5, go_sem, d1, d2]
  exact B4
set_option maxRecDepth 20000 in
set_option maxHeartbeats 1000000 in
theorem fText_none (ao : Option Addr) (n cap : Nat) (l : List Nat) (w : World) (h : ObjAt w ao n l) (hp : ¬ Tx.IsPacket l) :
    Calls Tryd.prog 5 #[.slice ao n cap] w fun e w' => e = .returned (.tuple #[.string ⟨#[]⟩, .int .i64 2]) ∧ Below w.heap.size w w' := by
  have hmf : ∀ (fn : Fn) (first cap : Array Value) (w : World), (Instr.makeFunc fn first cap).run Tryd.prog w = .ok (.func fn first cap) w := fun _ _ _ _ => rfl
  have HB0 := hide (((Below.refl w.heap.size w).alloc (Nat.le_refl _) (.cells #[.string ⟨#[]⟩] 9)).alloc (by simp) (.cells #[.int .i64 0] 31))
  have R1 := (rowL_alloc' w #[.string ⟨#[]⟩] 9).alloc (.cells #[.int .i64 0] 31)
  have R2 := rowL_alloc' (w.alloc (.cells #[.string ⟨#[]⟩] 9)) #[.int .i64 0] 31
  rw [show (w.alloc (.cells #[.string ⟨#[]⟩] 9)).heap.size = w.heap.size + 1 by simp] at R2
  have UP := hide (unpack_none ao n cap l _ (h.later HB0.out) hp)
  have HR1 := hide R1; have HR2 := hide R2
  clear R1 R2 h hp
  go_enter_defers Tryd.func5, Tryd.ntmps5
  go_wp2_with fail
  go_at_call 16
  refine UP.out.mono ?_
  rintro _ w1 ⟨rfl, hb1⟩
  have r1 := HR1.out.later hb1
  have r2 := HR2.out.later hb1
  have HB1 : Hid (Below w.heap.size w w1) := by
    show Below _ _ _
    exact HB0.out.trans (hb1.mono HB0.out.size)
  have r3 := ((r1.alloc (.cells #[.int .i64 2] 65)).set 0 (.string ⟨#[]⟩)).other (a := ⟨w.heap.size + 1, 0, none⟩) (by simp) (.int .i64 2)
  have r4 := ((r2.alloc (.cells #[.int .i64 2] 65)).other (a := ⟨w.heap.size, 0, none⟩) (by simp) (.string ⟨#[]⟩)).set 0 (.int .i64 2)
  have d1 := r3.cell 0 _ rfl
  have d2 := r4.cell 0 _ rfl
  have TC := hide (textCatch w.heap.size (w.heap.size + 1) _ _ 2 [] w1 r1 r2)
  have B4 := ((HB1.out.alloc HB1.out.size (.cells #[.int .i64 2] 65)).setCell (p := ⟨w.heap.size, 0, none⟩) (Nat.le_refl _) (.string ⟨#[]⟩)).setCell (p := ⟨w.heap.size + 1, 0, none⟩) (Nat.le_succ _) (.int .i64 2)
  generalize ((w1.alloc (.cells #[.int .i64 2] 65)).setCell ⟨w.heap.size, 0, none⟩ (.string ⟨#[]⟩)).setCell ⟨w.heap.size + 1, 0, none⟩ (.int .i64 2) = w4 at d1 d2 B4 TC
  clear r1 r2 r3 r4
  go_wp2_with fail
  refine leaves_cons (f := 14) (args := #[.pointer (some ⟨w.heap.size, 0, none⟩), .pointer (some ⟨w.heap.size + 1, 0, none⟩)]) (by simp) (by simp [go_sem]) ?_
  refine TC.out.mono ?_
  rintro e u' w'' ⟨rfl, rfl, hw⟩
  rw [hw]
  simp [Leaves, settle, results, Tryd.results5, go_sem, d1, d2]
  exact B4
end Go.Proofs.YtmfpiodlecapiaaDoor
