/- The caller's Packet of any text. -/
import Derived.Test.YtmfpiodlecapiaaDoorCallsT
namespace Go.Proofs.YtmfpiodlecapiaaDoor
open Go.RowKit Go.Deep

namespace Tx
/- The document's answer to Packet: the bytes, and the error's number. -/
def untext (bs : List Nat) : List Nat × Nat :=
  match readText bs with
  | none => ([], 3)
  | some l => if IsPacket l then (l, 0) else ([], 2)
theorem untext_none {bs : List Nat} (h : readText bs = none) : untext bs = ([], 3) := by unfold untext; rw [h]
theorem untext_ok {bs l : List Nat} (h : readText bs = some l) (hp : IsPacket l) : untext bs = (l, 0) := by unfold untext; rw [h]; exact if_pos hp
theorem untext_bad {bs l : List Nat} (h : readText bs = some l) (hp : ¬ IsPacket l) : untext bs = ([], 2) := by unfold untext; rw [h]; exact if_neg hp
theorem readText_lt {bs l : List Nat} (h : readText bs = some l) : ∀ x ∈ l, x < 256 := by
  unfold readText at h
  cases hp : parseAll bs with
  | none => rw [hp] at h; cases h
  | some t =>
    rw [hp] at h
    replace h : (if restOk t then some (bytesN t) else none) = some l := h
    split at h
    · injection h with h; subst h; exact bytesN_lt t
    · cases h
end Tx
theorem OwnS.asObj {w : World} {v : Value} {bs : List Nat} (h : OwnS w 5 v (u8s bs)) (hb : ∀ x ∈ bs, x < 256) : ∃ ao cap, v = .slice ao bs.length cap ∧ bs.length ≤ cap ∧ ObjAt w ao bs.length bs := by
  rcases h with ⟨h1, h2⟩ | ⟨g, cap, cur, h1, h2, h3, h4, h5, h6⟩
  · have hl : bs.length = 0 := by have := congrArg List.length h2; simpa [u8s] using this
    exact ⟨none, 0, by rw [hl]; exact h1, by omega, rfl, hb, fun h0 => by omega⟩
  · rw [u8s_length] at h1 h3 h6
    refine ⟨_, cap, h1, h3, rfl, hb, fun _ => ⟨g, 0, rfl, fun j hj => ?_⟩⟩
    rw [Nat.zero_add]
    exact h2.cell j _ (take_at (xs := u8s bs) (by rw [u8s_length]; exact h6) (u8s_at hj))
/- What stands when Read has given back bytes, ahead of Unpack. -/
set_option maxRecDepth 20000 in
set_option maxHeartbeats 1000000 in
theorem fPacket_walk (s : ByteArray) (N : Nat) (hN : Hid (s.size = N)) (hN2 : N ≤ 100000000) (w : World) (ha : Alpha w) :
    Calls Tryd.prog 9 #[.string s] w fun e w' => ∃ v, e = .returned (.tuple #[v, .int .i64 ((Tx.untext (bytesOf s)).2 : Nat)]) ∧ OwnS w' 5 v (u8s (Tx.untext (bytesOf s)).1) ∧ (∀ k, v.ownBlock = some k → w.heap.size ≤ k) ∧ Below w.heap.size w w' := by
  have hmf : ∀ (fn : Fn) (first cap : Array Value) (w : World), (Instr.makeFunc fn first cap).run Tryd.prog w = .ok (.func fn first cap) w := fun _ _ _ _ => rfl
  have HB0 := hide (((Below.refl w.heap.size w).alloc (Nat.le_refl _) (.cells #[.slice none 0 0] 27)).alloc (by simp) (.cells #[.int .i64 0] 31))
  have R1 := (rowL_alloc' w #[.slice none 0 0] 27).alloc (.cells #[.int .i64 0] 31)
  have R2 := rowL_alloc' (w.alloc (.cells #[.slice none 0 0] 27)) #[.int .i64 0] 31
  rw [show (w.alloc (.cells #[.slice none 0 0] 27)).heap.size = w.heap.size + 1 by simp] at R2
  have RW := hide (read_walk s N hN hN2 _ (ha.later HB0.out))
  have HR1 := hide R1; have HR2 := hide R2
  clear R1 R2 ha
  obtain ⟨A, hA⟩ : ∃ A, A = Tx.untext (bytesOf s) := ⟨_, rfl⟩
  rw [← hA]
  have HA : Hid (A = Tx.untext (bytesOf s)) := hA
  clear hA
  go_enter_defers Tryd.func9, Tryd.ntmps9
  go_wp2_with fail
  go_at_call 23
  refine RW.out.mono ?_
  rintro _ w1 ⟨hres, hb1⟩
  have r1 := HR1.out.later hb1
  have r2 := HR2.out.later hb1
  have HB1 : Hid (Below w.heap.size w w1) := by
    show Below _ _ _
    exact HB0.out.trans (hb1.mono HB0.out.size)
  rcases hres with ⟨l, v, hrt, rfl, hown, hvb⟩ | ⟨hrt, rfl⟩
  · have hlt := Tx.readText_lt hrt
    have hw2 : Hid (w.heap.size + 2 = ((w.alloc (.cells #[.slice none 0 0] 27)).alloc (.cells #[.int .i64 0] 31)).heap.size) := by show _ = _; simp
    have hvb2 : Hid (∀ k, v.ownBlock = some k → w.heap.size + 2 < k) := fun k hk => by have := hvb k hk; have := hw2.out; omega
    have r3 := r1.set 0 v
    have r4 := r2.other (a := ⟨w.heap.size, 0, none⟩) (by simp) v
    have own2 := hown.setCell (i := 0) r1 (by decide) v
    obtain ⟨ao, cap, hv, hcap, hobj⟩ := own2.asObj hlt
    obtain ⟨n, hn⟩ : ∃ n, n = l.length := ⟨_, rfl⟩
    rw [← hn] at hv hcap hobj
    subst hv
    have c1 := r1.cell 0 _ rfl
    have f1 := r1.frozen 0
    have HB2 := hide (HB1.out.setCell (p := ⟨w.heap.size, 0, none⟩) (Nat.le_refl _) (.slice ao n cap))
    have c2 := r3.cell 0 _ rfl
    have HR3 := hide r3; have HR4 := hide r4; have HO := hide own2
    clear r1 r2 r3 r4 own2 hown hvb hb1 hn
    by_cases hp : Tx.IsPacket l
    · rw [Tx.untext_ok hrt hp] at HA
      obtain ⟨b, off, hao⟩ : ∃ b off, ao = some ⟨b, off, none⟩ := by
        obtain ⟨h1, _, h3⟩ := hobj
        have h4 := hp.1
        obtain ⟨b, off, e, _⟩ := h3 (by omega)
        exact ⟨b, off, e⟩
      subst hao
      have UP := hide (unpack_packet b off n cap l _ hobj hcap hp)
      clear hp hobj hlt hcap
      go_wp2_with fail
      go_at_call 16
      refine UP.out.mono ?_
      rintro _ w3 ⟨rfl, hb3⟩
      have r5 := HR3.out.later hb3
      have r6 := HR4.out.later hb3
      have own3 := HO.out.later hb3
      have HB3 : Hid (Below w.heap.size w w3) := by
        show Below _ _ _
        exact HB2.out.trans (hb3.mono HB2.out.size)
      have e1 := r5.cell 0 _ rfl
      have g1 := r5.frozen 0
      have r7 := r6.other (a := ⟨w.heap.size, 0, none⟩) (by simp) (.slice (some ⟨b, off, none⟩) n cap)
      have e2 := r7.cell 0 _ rfl
      have g2 := r7.frozen 0
      have r8 := (r5.set 0 (.slice (some ⟨b, off, none⟩) n cap)).other (a := ⟨w.heap.size + 1, 0, none⟩) (by simp) (.int .i64 0)
      have r9 := r7.set 0 (.int .i64 0)
      have d1 := r8.cell 0 _ rfl
      have d2 := r9.cell 0 _ rfl
      have OWN4 := hide ((own3.setCell (i := 0) r5 (by decide) (.slice (some ⟨b, off, none⟩) n cap)).setCell (i := 0) r7 (by decide) (.int .i64 0))
      have B4 := hide ((HB3.out.setCell (p := ⟨w.heap.size, 0, none⟩) (Nat.le_refl _) (.slice (some ⟨b, off, none⟩) n cap)).setCell (p := ⟨w.heap.size + 1, 0, none⟩) (Nat.le_succ _) (.int .i64 0))
      clear r5 r6 r7 r8 r9 own3 hb3 c1 f1 c2
      go_wp2
      refine leaves_cons (f := 22) (args := #[.pointer (some ⟨w.heap.size, 0, none⟩), .pointer (some ⟨w.heap.size + 1, 0, none⟩)]) (by simp) (by simp [go_sem]) ?_
      refine (packetIdle w.heap.size (w.heap.size + 1) _).mono ?_
      rintro e u' w'' ⟨rfl, rfl, rfl⟩
      generalize (w3.setCell ⟨w.heap.size, 0, none⟩ (.slice (some ⟨b, off, none⟩) n cap)).setCell ⟨w.heap.size + 1, 0, none⟩ (.int .i64 0) = w4 at d1 d2 B4 OWN4 ⊢
      rw [HA.out]
      simp [Leaves, settle, results, Tryd.results9, go_sem, d1, d2]
      exact ⟨OWN4.out, fun k hk => by have := hvb2.out k hk; omega, B4.out⟩
    · rw [Tx.untext_bad hrt hp] at HA
      have UP := hide (unpack_none ao n cap l _ hobj hp)
      clear hp hobj hlt hcap
      go_wp2_with fail
      go_at_call 16
      refine UP.out.mono ?_
      rintro _ w3 ⟨rfl, hb3⟩
      have r5 := HR3.out.later hb3
      have r6 := HR4.out.later hb3
      have HB3 : Hid (Below w.heap.size w w3) := by
        show Below _ _ _
        exact HB2.out.trans (hb3.mono HB2.out.size)
      have r7 := ((r5.alloc (.cells #[.int .i64 2] 65)).set 0 (.slice none 0 0)).other (a := ⟨w.heap.size + 1, 0, none⟩) (by simp) (.int .i64 2)
      have r8 := ((r6.alloc (.cells #[.int .i64 2] 65)).other (a := ⟨w.heap.size, 0, none⟩) (by simp) (.slice none 0 0)).set 0 (.int .i64 2)
      have d1 := r7.cell 0 _ rfl
      have d2 := r8.cell 0 _ rfl
      have TC := hide (packetCatch w.heap.size (w.heap.size + 1) _ _ 2 [] w3 r5 r6)
      have B4 := ((HB3.out.alloc HB3.out.size (.cells #[.int .i64 2] 65)).setCell (p := ⟨w.heap.size, 0, none⟩) (Nat.le_refl _) (.slice none 0 0)).setCell (p := ⟨w.heap.size + 1, 0, none⟩) (Nat.le_succ _) (.int .i64 2)
      generalize ((w3.alloc (.cells #[.int .i64 2] 65)).setCell ⟨w.heap.size, 0, none⟩ (.slice none 0 0)).setCell ⟨w.heap.size + 1, 0, none⟩ (.int .i64 2) = w4 at d1 d2 B4 TC
      clear r5 r6 r7 r8 hb3 c1 f1 c2
      go_wp2_with fail
      refine leaves_cons (f := 22) (args := #[.pointer (some ⟨w.heap.size, 0, none⟩), .pointer (some ⟨w.heap.size + 1, 0, none⟩)]) (by simp) (by simp [go_sem]) ?_
      refine TC.out.mono ?_
      rintro e u' w'' ⟨rfl, rfl, hw⟩
      rw [hw]
      rw [HA.out]
      simp [Leaves, settle, results, Tryd.results9, go_sem, d1, d2]
      exact ⟨ownS_nil _ _, fun k hk => by simp [Value.ownBlock] at hk, B4⟩
  · have HU := Tx.untext_none hrt
    rw [HU] at HA
    clear HU
    have r3 := ((r1.alloc (.cells #[.int .i64 3] 65)).set 0 (.slice none 0 0)).other (a := ⟨w.heap.size + 1, 0, none⟩) (by simp) (.int .i64 3)
    have r4 := ((r2.alloc (.cells #[.int .i64 3] 65)).other (a := ⟨w.heap.size, 0, none⟩) (by simp) (.slice none 0 0)).set 0 (.int .i64 3)
    have d1 := r3.cell 0 _ rfl
    have d2 := r4.cell 0 _ rfl
    have TC := hide (packetCatch w.heap.size (w.heap.size + 1) _ _ 3 [] w1 r1 r2)
    have B4 := ((HB1.out.alloc HB1.out.size (.cells #[.int .i64 3] 65)).setCell (p := ⟨w.heap.size, 0, none⟩) (Nat.le_refl _) (.slice none 0 0)).setCell (p := ⟨w.heap.size + 1, 0, none⟩) (Nat.le_succ _) (.int .i64 3)
    generalize ((w1.alloc (.cells #[.int .i64 3] 65)).setCell ⟨w.heap.size, 0, none⟩ (.slice none 0 0)).setCell ⟨w.heap.size + 1, 0, none⟩ (.int .i64 3) = w4 at d1 d2 B4 TC
    clear r1 r2 r3 r4
    go_wp2_with fail
    refine leaves_cons (f := 22) (args := #[.pointer (some ⟨w.heap.size, 0, none⟩), .pointer (some ⟨w.heap.size + 1, 0, none⟩)]) (by simp) (by simp [go_sem]) ?_
    refine TC.out.mono ?_
    rintro e u' w'' ⟨rfl, rfl, hw⟩
    rw [hw]
    rw [HA.out]
    simp [Leaves, settle, results, Tryd.results9, go_sem, d1, d2]
    exact ⟨ownS_nil _ _, fun k hk => by simp [Value.ownBlock] at hk, B4⟩
end Go.Proofs.YtmfpiodlecapiaaDoor
