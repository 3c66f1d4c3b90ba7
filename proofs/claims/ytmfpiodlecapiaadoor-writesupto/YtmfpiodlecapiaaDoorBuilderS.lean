/- A strings.Builder of the call's own: its copy check, a letter written behind what it holds, its text. -/
import Derived.Test.YtmfpiodlecapiaaDoorApp
import Derived.Test.YtmfpiodlecapiaaDoorTextSpec
import Derived.Test.YtmfpiodlecapiaaDoorKeptWalk
import Derived.Test.YtmfpiodlecapiaaDoorRefPack
import Derived.Shelf.Strings.Builder1
namespace Go.Proofs.YtmfpiodlecapiaaDoor
open Go.RowKit Go.Deep

/- Block b of w is a Builder that holds these bytes; its row lies behind it. -/
def Bld (w : World) (b : Nat) (bs : List Value) : Prop :=
  ∃ p v, RowL w b 73 [p, v] ∧ (p = .pointer none ∨ p = .pointer (some ⟨b, 0, none⟩)) ∧ OwnS w 5 v bs ∧ ∀ k, v.ownBlock = some k → b < k
theorem bld_new (w : World) : Bld (w.alloc (.cells #[.pointer none, .slice none 0 0] 73)) w.heap.size [] :=
  ⟨_, _, rowL_alloc' w _ _, Or.inl rfl, ownS_nil _ _, fun k hk => by simp [Value.ownBlock] at hk⟩
theorem Bld.lt {w : World} {b : Nat} {bs : List Value} (h : Bld w b bs) : b < w.heap.size := by
  obtain ⟨p, v, hr, _⟩ := h
  exact hr.lt
theorem Bld.is {w : World} {b : Nat} {bs : List Value} (h : Bld w b bs) : Lib.IsBuilder 73 5 b b bs w := by
  obtain ⟨p, v, hr, hp, ho, hk⟩ := h
  have hown : w.ownsRow b 5 1 v bs.length bs := by
    refine ⟨by omega, ?_⟩
    rcases ho with ⟨h1, h2⟩ | ⟨g, cap, cur, h1, h2, h3, h4, h5, h6⟩
    · left; exact ⟨h1, by rw [h2]; rfl⟩
    · right
      refine ⟨g, cap, cur.toArray, h1, ?_, h2, h3, h4, by simp [h5], by simpa using h6⟩
      have := hk g (by rw [h1]; rfl)
      omega
  have hne : v.ownBlock ≠ some b := fun e => by have := hk b e; omega
  rcases hp with rfl | rfl
  · exact Or.inl ⟨Nat.le_refl _, v, hr, hown, hne⟩
  · exact Or.inr ⟨Nat.le_refl _, v, hr, hown, hne⟩

/- The Builder's String, by the library's contract. -/
def bren : Go.Shelf.Ren := ⟨fun | 169 => 32 | n => n, fun | 70 => 71 | 9 => 9 | 0 => 0 | 72 => 73 | 37 => 27 | 127 => 88 | 3 => 3 | 5 => 5 | n => n, fun | n => n⟩
theorem bLays : Go.Proofs.Lays.n169 Tryd.prog bren := {
  mixed := by kernel_rfl
  f169 := Tryd.func32.trans (congrArg some (by kernel_rfl))
  t0 := Tryd.underlying0
  a0 := Tryd.isAgg0
  z0 := Tryd.sizeOf0
  v0 := Tryd.zeroValue0
  t3 := Tryd.underlying3
  a3 := Tryd.isAgg3
  z3 := Tryd.sizeOf3
  v3 := Tryd.zeroValue3
  t9 := Tryd.underlying9
  a9 := Tryd.isAgg9
  z9 := Tryd.sizeOf9
  v9 := Tryd.zeroValue9
  t37 := Tryd.underlying27
  a37 := Tryd.isAgg27
  z37 := Tryd.sizeOf27
  v37 := Tryd.zeroValue27
  t70 := Tryd.underlying71
  a70 := Tryd.isAgg71
  z70 := Tryd.sizeOf71
  v70 := Tryd.zeroValue71
  t72 := Tryd.underlying73
  a72 := Tryd.isAgg73
  z72 := Tryd.sizeOf73
  v72 := Tryd.zeroValue73
  t127 := Tryd.underlying88
  a127 := Tryd.isAgg88
  z127 := Tryd.sizeOf88
  v127 := Tryd.zeroValue88 }
theorem bExtra : Builder.Extra Tryd.prog bren := {
  sizeBuilder := by kernel_rfl
  liesBuilder := by kernel_rfl
  t5 := Tryd.underlying5
  a5 := Tryd.isAgg5
  z5 := Tryd.sizeOf5
  v5 := Tryd.zeroValue5
  infoByte := by kernel_rfl
  cellsByte := by kernel_rfl
  sizeByte := by kernel_rfl
  neB5 := by decide }
theorem u8s_byteCells {bs : List Nat} (h : ∀ x ∈ bs, x < 256) : u8s bs = Lib.byteCells (bs.map UInt8.ofNat) := by
  unfold u8s Lib.byteCells
  rw [List.map_map]
  apply List.map_congr_left
  intro x hx
  have := h x hx
  simp
  omega
theorem bString_walk (b : Nat) (bs : List Nat) (hbs : ∀ x ∈ bs, x < 256) (w : World) (h : Bld w b (u8s bs)) :
    Calls Tryd.prog 32 #[.pointer (some ⟨b, 0, none⟩)] w fun e w' => e = .returned (.string (strOf bs)) ∧ Below b w w' := by
  have h1 := h.is
  rw [u8s_byteCells hbs] at h1
  refine (Any.Builder_String_any bLays bExtra b b (bs.map UInt8.ofNat) w h1 (Nat.le_of_lt h.lt)).mono ?_
  rintro _ w' ⟨rfl, hb⟩
  refine ⟨?_, hb⟩
  rw [strOf_eq]

/- The copy check. -/
theorem builder_size : (Tryd.prog.info? 73).map (·.size) = some 2 := by kernel_rfl
set_option maxHeartbeats 1000000 in
set_option maxRecDepth 100000 in
theorem copyCheck_used (b : Nat) (v : Value) (w : World) (h : RowL w b 73 [.pointer (some ⟨b, 0, none⟩), v]) :
    Calls Tryd.prog 40 #[.pointer (some ⟨b, 0, none⟩)] w fun e w' => e = .returned (.tuple #[]) ∧ w' = w := by
  obtain ⟨j, hj, _⟩ := Option.map_eq_some_iff.1 builder_size
  have h0 := h.cell 0 _ rfl
  clear h
  go_enter Tryd.func40, Tryd.ntmps40
  go_wp2
  rw [Lib.run_neq_ptr_same w _ Tryd.underlying71 hj]
  go_wp2
  go_end0
  exact ⟨rfl, rfl⟩
theorem RowL.shape {w : World} {g : Nat} {t : TypeId} {L : List Value} (h : RowL w g t L) : w.shape? g = some (t, L.length) := by
  unfold RowL at h
  simp [World.shape?, h]
/- A Builder's address as a pointer of no type, and back: the address as it is. -/
set_option maxRecDepth 20000 in
theorem to_bare {w : World} {b : Nat} {L : List Value} (h : RowL w b 73 L) (hL : L.length = 2) : (convert 71 90 (.pointer (some ⟨b, 0, none⟩))).run Tryd.prog w = .ok (.pointer (some ⟨b, 0, none⟩)) w := by
  obtain ⟨j, hj, hjs⟩ := Option.map_eq_some_iff.1 builder_size
  have hsh := h.shape
  rw [hL] at hsh
  have hs := run_underlying (P := Tryd.prog) Tryd.underlying71
  have hd := run_underlying (P := Tryd.prog) Tryd.underlying90
  simp only [convert, Sem.run_bind, hs, hd, Result.andThen_ok]
  refine Eq.trans (b := Sem.run Tryd.prog (bind (underlying 71) _) w) rfl ?_
  simp [hs, hd, Conv.seenAt, viewAt, cellsIn, hsh, sizeOf, typeInfo, hj, hjs]
set_option maxRecDepth 20000 in
theorem of_bare {w : World} {b : Nat} {L : List Value} (h : RowL w b 73 L) (hL : L.length = 2) : (convert 90 71 (.pointer (some ⟨b, 0, none⟩))).run Tryd.prog w = .ok (.pointer (some ⟨b, 0, none⟩)) w := by
  obtain ⟨j, hj, hjs⟩ := Option.map_eq_some_iff.1 builder_size
  have hsh := h.shape
  rw [hL] at hsh
  have hs := run_underlying (P := Tryd.prog) Tryd.underlying90
  have hd := run_underlying (P := Tryd.prog) Tryd.underlying71
  have hl : liesAt Tryd.prog Tryd.prog.depth 73 (2 / Tryd.prog.cellsOf 73) 0 73 1 = true := by kernel_rfl
  simp only [convert, Sem.run_bind, hs, hd, Result.andThen_ok]
  refine Eq.trans (b := Sem.run Tryd.prog (bind (underlying 90) _) w) rfl ?_
  simp [hs, hd, Conv.seenAt, viewAt, hsh, variablesAt, hl, sizeOf, typeInfo, hj]
set_option maxHeartbeats 1000000 in
set_option maxRecDepth 100000 in
theorem copyCheck_fresh (b : Nat) (v : Value) (w : World) (h : RowL w b 73 [.pointer none, v]) :
    Calls Tryd.prog 40 #[.pointer (some ⟨b, 0, none⟩)] w fun e w' => e = .returned (.tuple #[]) ∧ w' = w.setCell ⟨b, 0, none⟩ (.pointer (some ⟨b, 0, none⟩)) := by
  have hto := to_bare h rfl
  have hof := of_bare h rfl
  have h0 := h.cell 0 _ rfl
  have hfz := h.frozen 0
  clear h
  go_enter Tryd.func40, Tryd.ntmps40
  go_wp2
  rw [run_callFunc_extern Tryd.func43 (by kernel_rfl) (by kernel_rfl) (by kernel_rfl) (e := Extern.AbiNoEscape.same) (by kernel_rfl)]
  rw [Lib.run_noEscape]
  simp only [Result.andThen]
  rw [Oper.upon_value]
  go_wp2
  go_end0
  exact ⟨rfl, rfl⟩

set_option maxHeartbeats 1000000 in
set_option maxRecDepth 20000 in
theorem appendRune_one (r N : Nat) (hr : r < 128) (v : Value) (xs : List Value) (hN : Hid (xs.length = N)) (hN2 : N ≤ 1000000000) (w : World) (ho : OwnS w 5 v xs) :
    Calls Tryd.prog 41 #[v, .int .i32 r] w fun e w' => ∃ v' o, e = .returned v' ∧ AppTo (w.alloc o) w' 5 v v' xs [.int .u8 r] := by
  obtain ⟨i0, hi, hz0, hz1, hz2⟩ := info_parts Tryd.infoByte
  have u1 : IntKind.u32.wrap (r : Int) = r := by simp [IntKind.wrap, IntKind.bits, IntKind.signed]; omega
  have u2 := wrap_u8_in (r : Int) (by omega) (by omega)
  have u3 : (r : Int) ≤ 127 := by omega
  have HO := hide ho
  clear ho
  go_enter Tryd.func41, Tryd.ntmps41
  go_wp2_with (at_builtin; (refine wpList_app _ rfl (.tmp 8) (.tmp 11) 27 rfl 5 i0 (.int .u8 0) 1 Tryd.underlying27 hi hz0 hz1 hz2 rfl _ xs rfl (HO.out.alloc _) ⟨w.heap.size, 0, none⟩ 1 1 [.int .u8 r] rfl rfl (news_at _ _ _ _ rfl) (by intro u hu; simp at hu; subst hu; rfl) (by rw [hN.out]; unfold maxLen; omega) (by rw [hN.out]; omega) ?_))
  intro v' w1 happ
  replace happ := hide happ
  go_wp2
  go_ret
  exact ⟨_, _, rfl, happ.out⟩
set_option maxHeartbeats 1000000 in
set_option maxRecDepth 20000 in
theorem appendNon (r N : Nat) (h1 : 945 ≤ r) (h2 : r ≤ 956) (v : Value) (xs : List Value) (hN : Hid (xs.length = N)) (hN2 : N ≤ 1000000000) (w : World) (ho : OwnS w 5 v xs) :
    Calls Tryd.prog 44 #[v, .int .i32 r] w fun e w' => ∃ v' o, e = .returned v' ∧ AppTo (w.alloc o) w' 5 v v' xs [.int .u8 (192 + (r : Int) / 64), .int .u8 (128 + (r : Int) % 64)] := by
  obtain ⟨i0, hi, hz0, hz1, hz2⟩ := info_parts Tryd.infoByte
  have u1 : IntKind.u32.wrap (r : Int) = r := by simp [IntKind.wrap, IntKind.bits, IntKind.signed]; omega
  have u3 : (r : Int) ≤ 2047 := by omega
  have HO := hide ho
  clear ho
  go_enter Tryd.func44, Tryd.ntmps44
  go_wp2_with (at_builtin; (refine wpList_app _ rfl (.tmp 14) (.tmp 23) 27 rfl 5 i0 (.int .u8 0) 1 Tryd.underlying27 hi hz0 hz1 hz2 rfl _ xs rfl (HO.out.alloc _) ⟨w.heap.size, 0, none⟩ 2 2 [.int .u8 (192 + (r : Int) / 64), .int .u8 (128 + (r : Int) % 64)] rfl rfl (news_at _ _ _ _ rfl) (by intro u hu; simp at hu; rcases hu with rfl | rfl <;> rfl) (by rw [hN.out]; unfold maxLen; omega) (by rw [hN.out]; omega) ?_))
  intro v' w1 happ
  replace happ := hide happ
  go_wp2
  go_ret
  exact ⟨_, _, rfl, happ.out⟩
set_option maxHeartbeats 1000000 in
set_option maxRecDepth 20000 in
theorem appendRune_two (r N : Nat) (h1 : 945 ≤ r) (h2 : r ≤ 956) (v : Value) (xs : List Value) (hN : Hid (xs.length = N)) (hN2 : N ≤ 1000000000) (w : World) (ho : OwnS w 5 v xs) :
    Calls Tryd.prog 41 #[v, .int .i32 r] w fun e w' => ∃ v' o, e = .returned v' ∧ AppTo (w.alloc o) w' 5 v v' xs [.int .u8 (192 + (r : Int) / 64), .int .u8 (128 + (r : Int) % 64)] := by
  have u1 : IntKind.u32.wrap (r : Int) = r := by simp [IntKind.wrap, IntKind.bits, IntKind.signed]; omega
  have u3 : ¬ (r : Int) ≤ 127 := by omega
  have HO := hide ho
  clear ho
  go_enter Tryd.func41, Tryd.ntmps41
  go_wp2_with (go_at_call 44; refine (appendNon r N h1 h2 v xs hN hN2 _ HO.out).mono ?_; rintro _ w1 ⟨v', o, rfl, happ⟩; replace happ := hide happ)
  go_ret
  exact ⟨_, _, rfl, happ.out⟩
theorem appendRune_walk (n N : Nat) (hn : n < 64) (v : Value) (xs : List Value) (hN : Hid (xs.length = N)) (hN2 : N ≤ 1000000000) (w : World) (ho : OwnS w 5 v xs) :
    Calls Tryd.prog 41 #[v, .int .i32 (Tx.rn n : Nat)] w fun e w' => ∃ v' o, e = .returned v' ∧ AppTo (w.alloc o) w' 5 v v' xs (u8s (Tx.lett n)) := by
  unfold Tx.rn Tx.lett
  by_cases h1 : n < 26
  · rw [if_pos h1, if_pos h1]
    exact appendRune_one (65 + n) N (by omega) v xs hN hN2 w ho
  · rw [if_neg h1, if_neg h1]
    by_cases h2 : n < 52
    · rw [if_pos h2, if_pos h2]
      exact appendRune_one (71 + n) N (by omega) v xs hN hN2 w ho
    · rw [if_neg h2, if_neg h2]
      have h := appendRune_two (893 + n) N (by omega) (by omega) v xs hN hN2 w ho
      have e1 : (192 : Int) + ((893 + n : Nat) : Int) / 64 = ((206 : Nat) : Int) := by omega
      have e2 : (128 : Int) + ((893 + n : Nat) : Int) % 64 = ((125 + n : Nat) : Int) := by omega
      rw [e1, e2] at h
      exact h

set_option maxHeartbeats 1000000 in
set_option maxRecDepth 20000 in
theorem writeRune_core (b n N : Nat) (hn : n < 64) (v : Value) (bs : List Value) (hN : Hid (bs.length = N)) (hN2 : N ≤ 1000000000) (w : World) (hr : RowL w b 73 [.pointer (some ⟨b, 0, none⟩), v]) (ho : OwnS w 5 v bs) (hk : ∀ k, v.ownBlock = some k → b < k) (w0 : World) (hb : Below b w0 w)
    (hcc : Calls Tryd.prog 40 #[.pointer (some ⟨b, 0, none⟩)] w0 fun e w' => e = .returned (.tuple #[]) ∧ w' = w) :
    Calls Tryd.prog 30 #[.pointer (some ⟨b, 0, none⟩), .int .i32 (Tx.rn n : Nat)] w0 fun e w' => (∃ m, e = .returned (.tuple #[.int .i64 m, .nilIface])) ∧ Bld w' b (bs ++ u8s (Tx.lett n)) ∧ Below b w0 w' := by
  have c1 := hr.cell 1 _ rfl
  obtain ⟨a1, k1, hsh⟩ := ho.shape
  rw [hN.out] at hsh
  subst hsh
  have AR := hide (appendRune_walk n N hn (.slice a1 N k1) bs hN hN2 w ho)
  generalize (Tx.rn n : Nat) = r at AR ⊢
  have HR := hide hr; have HO := hide ho; have HK := hide hk; have HB := hide hb
  clear hr ho hk hb
  go_enter Tryd.func30, Tryd.ntmps30
  go_wp2_with (go_at_call 40; refine hcc.mono ?_; rintro _ wq ⟨rfl, hq⟩; have hq2 := hq.symm; clear hq; subst hq2)
  go_at_call 41
  refine AR.out.mono ?_
  rintro _ w1 ⟨v', o, rfl, happ⟩
  obtain ⟨a2, k2, hs2⟩ := happ.own.shape
  obtain ⟨M, hM⟩ : ∃ M, M = (bs ++ u8s (Tx.lett n)).length := ⟨_, rfl⟩
  have hM2 : M ≤ 1000000002 := by
    have := Tx.lett_length n
    rw [hM, List.length_append, u8s_length, hN.out]
    omega
  rw [← hM] at hs2
  subst hs2
  have hownA := HO.out.alloc o
  have hrow1 := happ.other (HR.out.alloc o) (hownA.ne_type (HR.out.alloc o) (by decide))
  have d1 := hrow1.cell 1 _ rfl
  have f1 := hrow1.frozen 1
  have hrow2 := hrow1.set 1 (.slice a2 M k2)
  have e1 := hrow2.cell 1 _ rfl
  have HR2 := hide hrow2; have HA := hide happ; have HR1 := hide hrow1
  have hM3 : Hid (M = (bs ++ u8s (Tx.lett n)).length) := hM
  clear hrow1 hrow2 hownA happ hM c1
  go_wp2
  go_ret2
  refine ⟨⟨_, rfl⟩, ⟨_, _, HR2.out, Or.inr rfl, HA.out.own.setCell (i := 1) HR1.out (by decide) _, ?_⟩, ?_⟩
  · intro k hk
    have hB : b + 1 ≤ (w.alloc o).heap.size := by have := HR.out.lt; simp; omega
    exact HA.out.from hB (fun k hk => HK.out k hk) k hk
  · have h1 : Below b w0 (w.alloc o) := HB.out.alloc (Nat.le_of_lt HR.out.lt) o
    exact (HA.out.below h1 (by have := HR.out.lt; simp; omega) (fun k hk => Nat.le_of_lt (HK.out k hk))).setCell (Nat.le_refl _) _
theorem writeRune_walk (b n N : Nat) (hn : n < 64) (bs : List Value) (hN : Hid (bs.length = N)) (hN2 : N ≤ 1000000000) (w : World) (h : Bld w b bs) :
    Calls Tryd.prog 30 #[.pointer (some ⟨b, 0, none⟩), .int .i32 (Tx.rn n : Nat)] w fun e w' => (∃ m, e = .returned (.tuple #[.int .i64 m, .nilIface])) ∧ Bld w' b (bs ++ u8s (Tx.lett n)) ∧ Below b w w' := by
  obtain ⟨p, v, hr, hp, ho, hk⟩ := h
  rcases hp with rfl | rfl
  · refine writeRune_core b n N hn v bs hN hN2 _ (hr.set 0 (.pointer (some ⟨b, 0, none⟩))) (ho.setCell (i := 0) hr (by decide) _) hk w ((Below.refl b w).setCell (Nat.le_refl _) _) (copyCheck_fresh b v w hr)
  · exact writeRune_core b n N hn v bs hN hN2 w hr ho hk w (Below.refl b w) (copyCheck_used b v w hr)
end Go.Proofs.YtmfpiodlecapiaaDoor
