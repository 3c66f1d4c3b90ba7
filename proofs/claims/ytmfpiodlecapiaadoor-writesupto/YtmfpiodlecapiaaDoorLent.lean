/- The memory that the caller lends, and gets back. -/
import Derived.Test.YtmfpiodlecapiaaDoorKeepLists
import Derived.Test.YtmfpiodlecapiaaDoorRefPack
import Derived.Lib.BufferWrite
namespace Go.Proofs.YtmfpiodlecapiaaDoor
open Go.RowKit Go.Deep

theorem num_walk (e : Int) (w : World) : Calls Tryd.prog 11 #[.int .i64 e] w fun e' w' => e' = .returned (.int .i64 e) ∧ w' = w := by
  go_enter Tryd.func11, Tryd.ntmps11
  go_wp2
  go_ret
  exact ⟨rfl, rfl⟩

theorem u8s_bytesOf (S : ByteArray) : u8s (bytesOf S) = Lib.byteCells S.data.toList := by
  unfold u8s bytesOf Lib.byteCells
  rw [List.map_map]
  rfl
theorem wpList_copy_str {P : Program} {w : World} {ops : Array Oper} {rest : List Oper} {o : Oper} {a : Act} {Q : Exit → Act → World → Prop} (hgd : o.guard = none) (dd x : Operand) (dT sT : TypeId)
    (ho : o.op = .call { callee := .builtin .copy, args := #[dd, x], argTypes := #[dT, sT] }) (elem : TypeId) (hu : P.underlying dT = some (.slice elem)) (hsz : (P.info? elem).map (·.size) = some 1)
    (g dLen dCap : Nat) (hd : a.eval dd = .slice (some ⟨g, 0, none⟩) dLen dCap) (S : ByteArray) (hx : a.eval x = .string S) (cur : List Value) (t : TypeId) (hr : RowL w g t cur) (hle : S.size ≤ dLen) (hfit : S.size ≤ cur.length)
    (h : ∀ w', RowL w' g t (u8s (bytesOf S) ++ cur.drop S.size) → w.grownBy w' (some g) → wpList P ops Q rest (a.put o.dst (goInt S.size)) w') : wpList P ops Q (o :: rest) a w := by
  refine wpList_plain hgd fun K hK => ?_
  have hrun := Lib.run_copy_row_string (P := P) w dT sT o.type elem g 0 dLen dCap S cur.toArray t hu hsz hr hle (by simpa using hfit)
  unfold Oper.wp execOp
  simp only [ho, resolve, invoke, builtin, Sem.run_bind, Sem.run_pure, Result.andThen_ok, List.map_toArray, List.map_cons, List.map_nil, hd, hx, hrun]
  refine hK _ _ (h _ ?_ ?_)
  · have := rowL_setRow hr (u8s (bytesOf S) ++ cur.drop S.size)
    rw [u8s_bytesOf] at this ⊢
    simpa using this
  · exact ⟨rfl, rfl, rfl, by simp [World.setRow], fun k _ hk => setRow_other w g k _ (fun e => hk (by rw [e]))⟩

set_option maxRecDepth 20000 in
set_option maxHeartbeats 1000000 in
theorem lent_walk (S : ByteArray) (n : Nat) (hn : S.size = n) (hn2 : n ≤ 140737488355328) (w : World) :
    Calls Tryd.prog 4 #[.string S] w fun e w' => e = .returned (.slice (some ⟨w.heap.size, 0, none⟩) (n + 2) (n + 2)) ∧ RowL w' w.heap.size 5 (u8s (bytesOf S) ++ [.int .u8 252, .int .u8 253]) ∧ Below w.heap.size w w' := by
  obtain ⟨i0, hi, hz0, hz1, hz2⟩ := info_parts Tryd.infoByte
  have HR0 := hide (rowL_made w (.int .u8 0) (n + 2) 5)
  have HB0 := hide ((Below.refl w.heap.size w).alloc (Nat.le_refl _) (.cells (madeCells #[.int .u8 0] (n + 2)) 5))
  have hbl : Hid ((u8s (bytesOf S)).length = n) := by show _ = _; rw [u8s_length, bytesOf_length, hn]
  have hdr : Hid ((List.replicate (n + 2) (Value.int .u8 0)).drop n = [.int .u8 0, .int .u8 0]) := by
    show _ = _
    rw [List.drop_replicate, show n + 2 - n = 2 by omega]; rfl
  go_enter Tryd.func4, Tryd.ntmps4
  go_wp2_with first | (at_make; refine wpList_mk _ rfl _ _ 27 rfl 5 i0 (.int .u8 0) Tryd.underlying27 hi hz0 hz1 rfl .i64 .i64 (n + 2) (n + 2) rfl rfl (by omega) (by rw [hz2]; omega) (by omega) ?_) | (refine wpList_copy_str rfl (.tmp 8) (.tmp 9) 27 9 rfl 5 Tryd.underlying27 (by kernel_rfl) w.heap.size (n + 2) (n + 2) rfl S rfl _ 5 HR0.out (by omega) (by rw [List.length_replicate]; omega) ?_)
  intro w1 hr1 hg1
  have hat0 : (u8s (bytesOf S) ++ [Value.int .u8 0, .int .u8 0])[n]? = some (.int .u8 0) := by
    rw [List.getElem?_append_right (by rw [hbl.out]; exact Nat.le_refl _), hbl.out, Nat.sub_self]; rfl
  have c0 := hr1.cell n _ hat0
  have f0 := hr1.frozen n
  have hset1 : (u8s (bytesOf S) ++ [Value.int .u8 0, .int .u8 0]).set n (.int .u8 252) = u8s (bytesOf S) ++ [.int .u8 252, .int .u8 0] := by
    rw [List.set_append_right _ _ (by rw [hbl.out]; exact Nat.le_refl _), hbl.out, Nat.sub_self]; rfl
  have hr2 := hr1.set n (.int .u8 252)
  rw [hset1] at hr2
  have hat1 : (u8s (bytesOf S) ++ [Value.int .u8 252, .int .u8 0])[n + 1]? = some (.int .u8 0) := by
    rw [List.getElem?_append_right (by rw [hbl.out]; omega), hbl.out, show n + 1 - n = 1 by omega]; rfl
  have c1 := hr2.cell (n + 1) _ hat1
  have f1 := hr2.frozen (n + 1)
  have hset2 : (u8s (bytesOf S) ++ [Value.int .u8 252, .int .u8 0]).set (n + 1) (.int .u8 253) = u8s (bytesOf S) ++ [.int .u8 252, .int .u8 253] := by
    rw [List.set_append_right _ _ (by rw [hbl.out]; omega), hbl.out, show n + 1 - n = 1 by omega]; rfl
  have HR3 := hide (hr2.set (n + 1) (.int .u8 253))
  rw [hset2] at HR3
  have HB1 : Hid (Below w.heap.size w w1) := by
    show Below _ _ _
    exact ⟨hg1.os.trans HB0.out.os, hg1.tape.trans HB0.out.tape, hg1.output.trans HB0.out.output, Nat.le_trans HB0.out.size hg1.size, fun k hk => (hg1.block k (Nat.lt_of_lt_of_le hk HB0.out.size) (fun e => by injection e with e; omega)).trans (HB0.out.block k hk)⟩
  clear hr1 hr2 hg1 hat0 hat1 hset1 hset2
  go_wp2_with fail
  go_ret
  exact ⟨rfl, HR3.out, (HB1.out.setCell (Nat.le_refl _) _).setCell (Nat.le_refl _) _⟩

def Wd.withTurned (d : Wd) (v : Value) : Wd := { d with turned := v }
set_option maxRecDepth 20000 in
set_option maxHeartbeats 1000000 in
theorem returned_walk (p g n t Q : Nat) (d : Wd) (vn : Value) (ts : List Value) (S : ByteArray) (hn : S.size = n) (hn2 : n ≤ 140737488355328) (ht : Hid (t = n + 2)) (hQ : Hid (ts.length = Q)) (hQ2 : Q ≤ 1000000) (w : World)
    (hrow : RowL w p 29 (d.row vn)) (hown : OwnS w 27 d.turned ts) (hr : RowL w g 5 (u8s (bytesOf S) ++ [.int .u8 252, .int .u8 253])) :
    Calls Tryd.prog 6 #[.pointer (some ⟨p, 0, none⟩), .slice (some ⟨g, 0, none⟩) t t, .string S] w fun e w' =>
      e = .returned (.bool true) ∧ ∃ vt, RowL w' p 29 ((d.withTurned vt).row vn) ∧ OwnS w' 27 vt (ts ++ [.slice (some ⟨g, 0, none⟩) t t]) ∧ RowL w' g 5 (List.replicate t (.int .u8 251)) ∧
        Kp (fun k => k = p ∨ k = g ∨ d.turned.ownBlock = some k) w w' ∧ (∀ q, vt.ownBlock = some q → d.turned.ownBlock = some q ∨ w.heap.size ≤ q) := by
  obtain ⟨j0, hjn, hy0, hy1, hy2⟩ := info_parts Tryd.infoBytes
  have hbl : Hid ((u8s (bytesOf S)).length = n) := by show _ = _; rw [u8s_length, bytesOf_length, hn]
  have hcv : (convert 27 9 (.slice (some ⟨g, 0, none⟩) n t)).run Tryd.prog w = .ok (.string S) w := by
    have h := conv_str (cap := t) (bs := bytesOf S) hr (by rw [bytesOf_length, hn]) (fun j hj => by
      rw [Nat.zero_add, List.getElem?_append_left (by rw [hbl.out]; exact hj), u8s_at (by rw [bytesOf_length, hn]; exact hj)])
    rw [strOf_bytesOf] at h
    exact h
  have c0 := hr.cell n (.int .u8 252) (by rw [List.getElem?_append_right (by rw [hbl.out]; exact Nat.le_refl _), hbl.out, Nat.sub_self]; rfl)
  have c1 := hr.cell (n + 1) (.int .u8 253) (by rw [List.getElem?_append_right (by rw [hbl.out]; omega), hbl.out, show n + 1 - n = 1 by omega]; rfl)
  have hml : Hid ((List.replicate t (Value.int .u8 251)).length = (u8s (bytesOf S) ++ [Value.int .u8 252, .int .u8 253]).length) := by
    show _ = _
    rw [List.length_replicate, List.length_append, hbl.out, ht.out]; rfl
  have hpg : p ≠ g := hrow.ne_of_type hr (by decide)
  have t0 : (n : Int) ≤ (t : Int) := by have := ht.out; omega
  have t1 : (n : Int) < (t : Int) := by have := ht.out; omega
  have t2 : (n : Int) + 1 < (t : Int) := by have := ht.out; omega
  have t3 : t ≤ 140737488355330 := by have := ht.out; omega
  have HROW := hide hrow; have HOWN := hide hown; have HR := hide hr
  clear hrow hown hr
  go_enter Tryd.func6, Tryd.ntmps6
  go_wp2_with fail
  clear hcv c0 c1
  go_loopw [9] (fun x wr => ∃ k : Nat, k ≤ t ∧ x = .int .i64 k ∧ Kp (fun q => q = g) w wr ∧ RowL wr g 5 (mix (List.replicate t (.int .u8 251)) (u8s (bytesOf S) ++ [.int .u8 252, .int .u8 253]) k))
    (fun x _ => leftOf t (intOf x).toNat)
  case atStart => exact ⟨0, by omega, rfl, Kp.refl _ _, by rw [mix_zero]; exact HR.out⟩
  case round =>
    obtain ⟨k, hk, rfl, hkp, hr⟩ := hrel
    by_cases hkt : k < t
    · have k0 : (0 : Int) ≤ (k : Int) := by omega
      have k1 : (k : Int) < (t : Int) := by omega
      have hlt : k < (u8s (bytesOf S) ++ [Value.int .u8 252, .int .u8 253]).length := by rw [← hml.out, List.length_replicate]; exact hkt
      have hm := mix_at (List.replicate t (Value.int .u8 251)) (u8s (bytesOf S) ++ [Value.int .u8 252, .int .u8 253]) k hml.out hlt
      have hv : ∃ y : Int, (u8s (bytesOf S) ++ [Value.int .u8 252, .int .u8 253])[k]? = some (.int .u8 y) := by
        by_cases hkn : k < n
        · exact ⟨_, by rw [List.getElem?_append_left (by rw [hbl.out]; exact hkn), u8s_at (by rw [bytesOf_length, hn]; exact hkn)]⟩
        · have hk2 : k = n ∨ k = n + 1 := by have := ht.out; omega
          rcases hk2 with rfl | rfl
          · exact ⟨252, by rw [List.getElem?_append_right (by rw [hbl.out]; exact Nat.le_refl _), hbl.out, Nat.sub_self]; rfl⟩
          · exact ⟨253, by rw [List.getElem?_append_right (by rw [hbl.out]; omega), hbl.out, show n + 1 - n = 1 by omega]; rfl⟩
      obtain ⟨y, hy⟩ := hv
      have hc := hr.cell k _ (hm.trans hy)
      have hf := hr.frozen k
      have HK := hide (hkp.setCell (a := ⟨g, k, none⟩) (Or.inl rfl) (.int .u8 251))
      have HS := hide (hr.set k (.int .u8 251))
      rw [mix_set _ _ _ _ hml.out (by simp [hkt])] at HS
      clear hkp hr hm hy hlt
      go_wp2_with fail
      go_roundw
      case rel => exact ⟨k + 1, by omega, by go_num, HK.out, HS.out⟩
      case measure => refine leftOf_lt ?_ ?_ <;> simp only [intOf] <;> omega
    · have ek : k = t := by omega
      have k1 : ¬ (k : Int) < (t : Int) := by omega
      have hr2 : RowL wr g 5 (List.replicate t (.int .u8 251)) := by
        have h := mix_all (List.replicate t (Value.int .u8 251)) (u8s (bytesOf S) ++ [Value.int .u8 252, .int .u8 253]) hml.out
        rw [← hml.out, List.length_replicate] at h
        rw [ek, h] at hr; exact hr
      have row0 := hkp.row HROW.out hpg
      have own0 := hkp.own HOWN.out (fun q hq e => by
        have e' : q = g := e
        subst e'
        exact HOWN.out.ne_type HR.out (by decide) hq)
      obtain ⟨av, cv, hsh⟩ := own0.shape
      rw [hQ.out] at hsh
      have c4 := row0.cell 4 _ rfl
      have f4 := row0.frozen 4
      rw [hsh] at c4
      have HO := hide own0; have HR2 := hide hr2; have HRW := hide row0; have HKP := hide hkp
      rw [hsh] at HO
      clear hkp hr hr2 row0 own0
      go_wp2_with (at_builtin; (refine wpList_app _ rfl (.tmp 46) (.tmp 48) 24 rfl 27 j0 (.slice none 0 0) 24 Tryd.underlying24 hjn hy0 hy1 hy2 rfl _ ts rfl (HO.out.alloc _) ⟨wr.heap.size, 0, none⟩ 1 1 [.slice (some ⟨g, 0, none⟩) t t] rfl rfl (news_at _ _ _ _ rfl) (by intro u hu; simp at hu; subst hu; rfl) (by rw [hQ.out]; unfold maxLen; omega) (by rw [hQ.out]; omega) ?_))
      intro vt w1 happ
      have hownA := HO.out.alloc (.cells #[.slice (some ⟨g, 0, none⟩) t t] 27)
      have hrow1 := happ.other (HRW.out.alloc _) (hownA.ne_type (HRW.out.alloc _) (by decide))
      have hrg1 := happ.other (HR2.out.alloc _) (hownA.ne_type (HR2.out.alloc _) (by decide))
      have c4' := hrow1.cell 4 _ rfl
      have f4' := hrow1.frozen 4
      have HA := hide happ; have HR3 := hide hrow1; have HG3 := hide hrg1
      clear happ hrow1 hownA hrg1 c4 f4
      rw [hsh] at c4'
      obtain ⟨at', ct', hst'⟩ := HA.out.own.shape
      rw [List.length_append, hQ.out] at hst'
      subst hst'
      go_wp2_with fail
      go_ret
      refine ⟨rfl, .slice at' (Q + 1) ct', HR3.out.set 4 (.slice at' (Q + 1) ct'), HA.out.own.setCell (i := 4) HR3.out (by decide) _, HG3.out.other (fun e => hpg e.symm) _, ?_, fun q hq => ?_⟩
      · have h0 : Kp (fun k => k = p ∨ k = g ∨ d.turned.ownBlock = some k) w wr := HKP.out.mono (fun k hk => Or.inr (Or.inl hk))
        refine ((h0.alloc _).grown HA.out.grown (fun k hk => ?_)).setCell (Or.inl (Or.inl rfl)) _
        rw [← hsh] at hk
        exact Or.inl (Or.inr (Or.inr hk))
      · rcases HA.out.block with hb | hb
        · rw [← hsh] at hb
          exact Or.inl (hb ▸ hq)
        · replace hq := hb.symm.trans hq
          simp only [Option.some.injEq] at hq
          have := HKP.out.size
          right
          rw [← hq]
          refine Nat.le_trans this ?_
          simp
end Go.Proofs.YtmfpiodlecapiaaDoor
