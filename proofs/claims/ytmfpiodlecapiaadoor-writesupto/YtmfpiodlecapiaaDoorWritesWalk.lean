/- Text of any bytes, Packet of any text, and the document's own: what came out is the caller's own. -/
import Derived.Test.YtmfpiodlecapiaaDoorUntextW
import Derived.Test.YtmfpiodlecapiaaDoorKeepSlices
import Derived.Test.YtmfpiodlecapiaaDoorLent
namespace Go.Proofs.YtmfpiodlecapiaaDoor
open Go.RowKit Go.Deep

theorem nil_conv (w : World) : (convert 27 9 (.slice none 0 0)).run Tryd.prog w = .ok (.string ⟨#[]⟩) w := by kernel_rfl
theorem conv_own {w : World} {v : Value} {l : List Nat} (h : OwnS w 5 v (u8s l)) : (convert 27 9 v).run Tryd.prog w = .ok (.string (strOf l)) w := by
  rcases h with ⟨h1, h2⟩ | ⟨g, cap, cur, h1, hr, h3, h4, h5, h6⟩
  · have hl : l = [] := by simpa [u8s] using h2
    subst hl h1
    have hs : strOf [] = ⟨#[]⟩ := by rw [strOf_eq]; rfl
    rw [hs]
    exact nil_conv w
  · rw [h1, u8s_length]
    exact conv_str hr rfl (fun j hj => by rw [Nat.zero_add]; exact take_at h6 (u8s_at hj))
def wd0 : Wd := ⟨.slice none 0 0, .slice none 0 0, .slice none 0 0, .slice none 0 0, .slice none 0 0, .slice none 0 0⟩
def ownText : ByteArray := ⟨#[82, 103, 65, 70, 65, 65, 73, 67, 65, 81, 69, 65, 32, 65, 71, 70, 105]⟩
def ownBytes : List Nat := [70, 0, 5, 0, 2, 2, 1, 1, 0, 0, 97, 98]
set_option maxRecDepth 100000 in
theorem own_untext : Tx.untext (bytesOf ownText) = (ownBytes, 0) := by decide +kernel
theorem Tx.untext_len (bs : List Nat) : (Tx.untext bs).1.length ≤ 26 := by
  unfold Tx.untext
  split
  · simp
  · split
    · rename_i l _ hp
      have h1 := hp.2.2.2.1.2
      have h2 := hp.2.2.2.2.2.2.2.2.2
      show l.length ≤ 26
      omega
    · simp
/- What Text answered is what the document asks. -/
theorem objAt_in {w : World} {g n : Nat} {S : ByteArray} {L : List Value} (hn : S.size = n) (hr : RowL w g 5 (u8s (bytesOf S) ++ L)) : ObjAt w (some ⟨g, 0, none⟩) n (bytesOf S) := by
  refine ⟨by rw [bytesOf_length]; exact hn, fun x hx => ?_, fun _ => ⟨g, 0, rfl, fun j hj => ?_⟩⟩
  · obtain ⟨i, hi, rfl⟩ := List.getElem_of_mem hx
    have := bytes_lt S i
    rw [List.getElem?_eq_getElem hi] at this
    exact this
  · rw [Nat.zero_add]
    refine hr.cell j _ ?_
    have hl : j < (bytesOf S).length := by rw [bytesOf_length]; omega
    rw [List.getElem?_append_left (by rw [u8s_length]; exact hl), u8s_at hl]
theorem fText_any (g n cap : Nat) (l : List Nat) (hn : n ≤ 100000000) (w : World) (h : ObjAt w (some ⟨g, 0, none⟩) n l) (hcap : n ≤ cap) (ha : Alpha w) :
    Calls Tryd.prog 5 #[.slice (some ⟨g, 0, none⟩) n cap] w fun e w' => e = .returned (.tuple #[.string (if Tx.IsPacket l then strOf (Tx.textN l) else ⟨#[]⟩), .int .i64 (if Tx.IsPacket l then 0 else 2)]) ∧ Below w.heap.size w w' := by
  by_cases hp : Tx.IsPacket l
  · rw [if_pos hp, if_pos hp]; exact fText_ok g 0 n cap l hn w h hcap hp ha
  · rw [if_neg hp, if_neg hp]; exact fText_none _ n cap l w h hp

set_option maxRecDepth 20000 in
set_option maxHeartbeats 4000000 in
theorem writes_walk (P T : ByteArray) (n N : Nat) (hP : Hid (P.size = n)) (hT : Hid (T.size = N)) (hn : n ≤ 2000000) (hN : N ≤ 2000000) (w : World) (ha : Alpha w) :
    Calls Tryd.prog 3 #[.string P, .string T] w fun e w' => e = .returned (.bool true) ∧ Below w.heap.size w w' := by
  have hPs : P.size = n := hP.out
  have hTs : T.size = N := hT.out
  have HA := hide ha
  clear ha
  have HB1 := hide ((Below.refl w.heap.size w).alloc (Nat.le_refl _) (.cells #[.slice none 0 0, .slice none 0 0, .slice none 0 0, .slice none 0 0, .slice none 0 0, .slice none 0 0, .slice none 0 0] 29))
  have HR1 := hide (rowL_alloc' w #[.slice none 0 0, .slice none 0 0, .slice none 0 0, .slice none 0 0, .slice none 0 0, .slice none 0 0, .slice none 0 0] 29)
  obtain ⟨t, ht⟩ : ∃ t, t = n + 2 := ⟨_, rfl⟩
  have HTT : Hid (t = n + 2) := ht
  have hnt : n ≤ t := by omega
  have htm : t ≤ 3000000 := by omega
  have LW := hide (lent_walk P n hPs (by omega) (w.alloc (.cells #[.slice none 0 0, .slice none 0 0, .slice none 0 0, .slice none 0 0, .slice none 0 0, .slice none 0 0, .slice none 0 0] 29)))
  rw [show (w.alloc (.cells #[.slice none 0 0, .slice none 0 0, .slice none 0 0, .slice none 0 0, .slice none 0 0, .slice none 0 0, .slice none 0 0] 29)).heap.size = w.heap.size + 1 by simp, ← ht] at LW
  clear ht
  go_enter Tryd.func3, Tryd.ntmps3
  go_wp2_with fail
  go_at_call 4
  refine LW.out.mono ?_
  rintro _ w2 ⟨rfl, hr2, hb2⟩
  have HB2 : Hid (Below w.heap.size w w2) := by show Below _ _ _; exact HB1.out.trans (hb2.mono (by simp))
  have HRP2 := hide (HR1.out.below hb2 (by simp))
  have TX := hide (fText_any (w.heap.size + 1) n t (bytesOf P) (by omega) w2 (objAt_in hPs hr2) hnt (HA.out.later HB2.out))
  have HG2 := hide hr2
  clear hr2 hb2
  by_cases hp : Tx.IsPacket (bytesOf P)
  · rw [if_pos hp, if_pos hp] at TX
    go_wp2_with fail
    go_at_call 5
    refine TX.out.mono ?_
    rintro _ w3 ⟨rfl, hb3⟩
    have HB3 : Hid (Below w.heap.size w w3) := by show Below _ _ _; exact HB2.out.trans (hb3.mono HB2.out.size)
    have RT := hide (returned_walk w.heap.size (w.heap.size + 1) n t 0 wd0 (.slice none 0 0) [] P hPs (by omega) HTT (hide rfl) (by omega) w3 (HRP2.out.later hb3) (ownS_nil _ _) (HG2.out.later hb3))
    clear hb3
    go_wp2_with fail
    go_at_call 6
    refine RT.out.mono ?_
    rintro _ w4 ⟨rfl, vt, hrow4, hot4, hg4, hkp4, hvt4⟩
    have HB4 : Hid (Below w.heap.size w w4) := by
      show Below _ _ _
      refine HB3.out.trans (hkp4.toBelow (fun k hk => ?_) HB3.out.size)
      rcases hk with h | h | h
      · omega
      · omega
      · simp [wd0, Value.ownBlock] at h
    have HVT : Hid (∀ q, vt.ownBlock = some q → w.heap.size ≤ q) := fun q hq => by
      rcases hvt4 q hq with h | h
      · simp [wd0, Value.ownBlock] at h
      · exact Nat.le_trans HB3.out.size h
    have RR := hide (refRead_walk P (by rw [hPs]; omega) w4)
    have HRW := hide hrow4; have HOT := hide hot4; have HG4 := hide hg4
    clear hrow4 hot4 hg4 hkp4 hvt4
    go_wp2_with fail
    go_at_call 7
    refine RR.out.mono ?_
    rintro _ w5 ⟨hres, hb5⟩
    obtain rfl := (hres.resolve_right (fun h => h.1 hp)).2
    unfold saidOf saidV
    generalize P.extract 10 P.size = X0
    clear hres
    have HRT := hide (refText_walk P n hP (by omega))
    go_wp2_with fail
    go_at_call 8
    refine (HRT.out _).mono ?_
    rintro _ w6 ⟨rfl, hb6⟩
    have HB46 : Hid (Below w4.heap.size w4 w6) := by
      show Below _ _ _
      have h1 := hb5.alloc hb5.size (.cells #[.int .i64 (256 * (((bytesOf P)[1]?.getD 0 : Nat) : Int) + (((bytesOf P)[2]?.getD 0 : Nat) : Int)), .int .i64 (256 * (((bytesOf P)[3]?.getD 0 : Nat) : Int) + (((bytesOf P)[4]?.getD 0 : Nat) : Int)), .int .i64 (((bytesOf P)[5]?.getD 0 : Nat) : Int), .int .i64 (((bytesOf P)[6]?.getD 0 : Nat) : Int), .int .i64 (((bytesOf P)[7]?.getD 0 : Nat) : Int), .int .i64 (((bytesOf P)[8]?.getD 0 : Nat) : Int), .int .i64 (((bytesOf P)[9]?.getD 0 : Nat) : Int), .string X0] 38)
      exact h1.trans (hb6.mono h1.size)
    clear hb5 hb6
    go_wp2_with fail
    have HB6 : Hid (Below w.heap.size w w6) := by show Below _ _ _; exact HB4.out.trans (HB46.out.mono HB4.out.size)
    have PW := hide (fPacket_walk T N hT (by omega) w6 (HA.out.later HB6.out))
    have UW := hide (untext_walk T N hT (by omega))
    have hlen := Tx.untext_len (bytesOf T)
    generalize Tx.untext (bytesOf T) = A at PW UW hlen
    go_at_call 9
    refine PW.out.mono ?_
    rintro _ w7 ⟨b, rfl, hob, hbb, hb7⟩
    obtain ⟨ab, cb, hsh⟩ := hob.shape
    obtain ⟨Z, hZ⟩ : ∃ Z, Z = A.1.length := ⟨_, rfl⟩
    rw [u8s_length, ← hZ] at hsh
    have HZ : Hid (A.1.length = Z) := hZ.symm
    have hZ2 : Z ≤ 26 := by rw [hZ]; exact hlen
    subst hsh
    clear hZ hlen
    have HB7 : Hid (Below w.heap.size w w7) := by show Below _ _ _; exact HB6.out.trans (hb7.mono HB6.out.size)
    go_wp2_with fail
    go_at_call 10
    refine (UW.out _).mono ?_
    rintro _ w8 ⟨rfl, hb8⟩
    have hob8 := hob.later hb8
    have hcv := conv_own hob8
    have HB8 : Hid (Below w.heap.size w w8) := by show Below _ _ _; exact HB7.out.trans (hb8.mono HB7.out.size)
    have HB48 : Hid (Below w4.heap.size w4 w8) := by
      show Below _ _ _
      have h1 := HB46.out.trans (hb7.mono HB46.out.size)
      exact h1.trans (hb8.mono h1.size)
    have HS46 : Hid (w4.heap.size ≤ w6.heap.size) := HB46.out.size
    have HOB := hide hob8; have HBB := hide hbb
    have e2 : (((A.2 : Nat) : Int) == ((A.2 : Nat) : Int)) = true := by simp
    have KW := hide (keepS_walk w.heap.size Z 0 ab cb (wd0.withTurned vt) (.slice none 0 0) [] A.1 HZ (by omega) (hide rfl) (by omega) (by omega) w8 ⟨HRW.out.later HB48.out, ownS_nil _ _, fun i sv hs => by simp at hs⟩ hob8 (fun i sv k hs => by simp at hs))
    clear hob hob8 hbb hb7 hb8
    go_wp2_with (go_at_call 11; refine (num_walk _ _).mono ?_; rintro _ wq ⟨rfl, hq⟩; have hq2 := hq.symm; clear hq; subst hq2)
    go_at_call 12
    refine KW.out.mono ?_
    rintro _ w9 ⟨rfl, vb, ns, hnsl, hwb9, hkp9, hvb9, hns9⟩
    have hX : ∀ k, (k = w.heap.size ∨ (Value.slice ab Z cb).ownBlock = some k ∨ (wd0.withTurned vt).bytes.ownBlock = some k) → w.heap.size ≤ k := fun k hk => by
      rcases hk with h | h | h
      · omega
      · exact Nat.le_trans HB6.out.size (HBB.out k h)
      · simp [wd0, Wd.withTurned, Value.ownBlock] at h
    have HB9 : Hid (Below w.heap.size w w9) := by show Below _ _ _; exact HB8.out.trans (hkp9.toBelow hX HB8.out.size)
    have hot8 := HOT.out.later HB48.out
    have hot9 : OwnS w9 27 vt [.slice (some ⟨w.heap.size + 1, 0, none⟩) t t] := hkp9.own hot8 (fun k hk hx => by
      rcases hx with h | h | h
      · subst h; exact hot8.ne_type (HRW.out.later HB48.out) (by decide) hk
      · exact hot8.ne_own HOB.out (by decide) hk h
      · simp [wd0, Wd.withTurned, Value.ownBlock] at h)
    have hg8 := HG4.out.later HB48.out
    have hg9 : RowL w9 (w.heap.size + 1) 5 (List.replicate t (.int .u8 251)) := hkp9.row hg8 (fun hx => by
      rcases hx with h | h | h
      · omega
      · have h1 := HBB.out _ h
        have h2 := HG4.out.lt
        have h3 := HS46.out
        omega
      · simp [wd0, Wd.withTurned, Value.ownBlock] at h)
    have PW2 := hide (fPacket_walk ownText 17 (hide rfl) (by omega) w9 (HA.out.later HB9.out))
    rw [own_untext] at PW2
    have HWB := hide hwb9; have HOT9 := hide hot9; have HG9 := hide hg9
    have HNL : Hid (ns.length = 4) := hnsl
    clear hot8 hot9 hg8 hg9 hwb9 hkp9 hvb9 hns9 hX hnsl
    go_wp2_with fail
    go_at_call 9
    refine PW2.out.mono ?_
    rintro _ w10 ⟨c, rfl, hoc, hcb, hb10⟩
    have hcv2 := conv_own hoc
    have hsb : strOf ownBytes = ⟨#[70, 0, 5, 0, 2, 2, 1, 1, 0, 0, 97, 98]⟩ := by rw [strOf_eq]; rfl
    rw [hsb] at hcv2
    obtain ⟨ac, cc, hsc⟩ := hoc.shape
    rw [u8s_length, show ownBytes.length = 12 from rfl] at hsc
    subst hsc
    have HB10 : Hid (Below w.heap.size w w10) := by show Below _ _ _; exact HB9.out.trans (hb10.mono HB9.out.size)
    have hown1 := HG9.out.own (by rw [List.length_replicate]; unfold maxLen; omega)
    rw [List.length_replicate] at hown1
    have hkept : Kept w10 w.heap.size ((wd0.withTurned vt).withBytes vb) (.slice none 0 0) ns [] [] [.slice (some ⟨w.heap.size + 1, 0, none⟩) t t] [] :=
      { row := HWB.out.row.later hb10, obs := HWB.out.own.later hb10
        ebs := fun i sv hs => by obtain ⟨m, _, h2⟩ := HWB.out.each i sv hs; exact ⟨m, h2.later hb10⟩
        ols := ownS_nil _ _, els := by intro i sv hs; simp at hs
        ons := ownS_nil _ _, ens := by intro i sv hs; simp at hs
        ots := HOT9.out.later hb10
        ets := fun i sv hs => by
          by_cases hi : i = 0
          · subst hi
            simp at hs
            subst hs
            exact ⟨t, hown1.later hb10⟩
          · rw [List.getElem?_eq_none (by simp; omega)] at hs; cases hs
        ogs := ownS_nil _ _, egs := by intro i sv hs; simp at hs }
    have hsm : ∀ (i m : Nat) (sv : Value), ns[i]? = some sv → OwnS w10 5 sv (digs (i / 4 * 4) m) → m < 4611686018427387904 := fun i m sv hs ho => by
      obtain ⟨m', h1, h2⟩ := HWB.out.each i sv hs
      obtain ⟨a1, c1, e1⟩ := ho.shape
      obtain ⟨a2, c2, e2⟩ := h2.shape
      rw [e1] at e2
      injection e2 with _ e3 _
      rw [digs_length, digs_length] at e3
      omega
    have KP := hide (kept_walk w.heap.size _ _ ns [] [] _ [] w10 hkept (by rw [HNL.out]; omega) (by simp) (by simp) hsm)
    clear hkept hsm hown1 hoc hcb hb10
    go_wp2_with fail
    go_at_call 13
    refine KP.out.mono ?_
    rintro _ w11 ⟨rfl, nq, hw11⟩
    have HB11 : Hid (Below w.heap.size w w11) := by
      rw [hw11]
      show Below _ _ _
      exact ⟨HB10.out.os, HB10.out.tape, HB10.out.output, HB10.out.size, HB10.out.block⟩
    clear hw11
    go_wp2
    go_ret
    exact ⟨rfl, HB11.out⟩
  · rw [if_neg hp, if_neg hp] at TX
    go_wp2_with fail
    go_at_call 5
    refine TX.out.mono ?_
    rintro _ w3 ⟨rfl, hb3⟩
    have HB3 : Hid (Below w.heap.size w w3) := by show Below _ _ _; exact HB2.out.trans (hb3.mono HB2.out.size)
    have RT := hide (returned_walk w.heap.size (w.heap.size + 1) n t 0 wd0 (.slice none 0 0) [] P hPs (by omega) HTT (hide rfl) (by omega) w3 (HRP2.out.later hb3) (ownS_nil _ _) (HG2.out.later hb3))
    clear hb3
    go_wp2_with fail
    go_at_call 6
    refine RT.out.mono ?_
    rintro _ w4 ⟨rfl, vt, hrow4, hot4, hg4, hkp4, hvt4⟩
    have HB4 : Hid (Below w.heap.size w w4) := by
      show Below _ _ _
      refine HB3.out.trans (hkp4.toBelow (fun k hk => ?_) HB3.out.size)
      rcases hk with h | h | h
      · omega
      · omega
      · simp [wd0, Value.ownBlock] at h
    have HVT : Hid (∀ q, vt.ownBlock = some q → w.heap.size ≤ q) := fun q hq => by
      rcases hvt4 q hq with h | h
      · simp [wd0, Value.ownBlock] at h
      · exact Nat.le_trans HB3.out.size h
    have RR := hide (refRead_walk P (by rw [hPs]; omega) w4)
    have HRW := hide hrow4; have HOT := hide hot4; have HG4 := hide hg4
    clear hrow4 hot4 hg4 hkp4 hvt4
    go_wp2_with fail
    go_at_call 7
    refine RR.out.mono ?_
    rintro _ w5 ⟨hres, hb5⟩
    obtain rfl := (hres.resolve_left (fun h => hp h.1)).2
    unfold noSaid saidV
    clear hres
    go_wp2_with fail
    generalize hw6 : w5.alloc _ = w6
    have HB46 : Hid (Below w4.heap.size w4 w6) := by
      rw [← hw6]
      exact hb5.alloc hb5.size _
    clear hw6 hb5
    have HB6 : Hid (Below w.heap.size w w6) := by show Below _ _ _; exact HB4.out.trans (HB46.out.mono HB4.out.size)
    have PW := hide (fPacket_walk T N hT (by omega) w6 (HA.out.later HB6.out))
    have UW := hide (untext_walk T N hT (by omega))
    have hlen := Tx.untext_len (bytesOf T)
    generalize Tx.untext (bytesOf T) = A at PW UW hlen
    go_at_call 9
    refine PW.out.mono ?_
    rintro _ w7 ⟨b, rfl, hob, hbb, hb7⟩
    obtain ⟨ab, cb, hsh⟩ := hob.shape
    obtain ⟨Z, hZ⟩ : ∃ Z, Z = A.1.length := ⟨_, rfl⟩
    rw [u8s_length, ← hZ] at hsh
    have HZ : Hid (A.1.length = Z) := hZ.symm
    have hZ2 : Z ≤ 26 := by rw [hZ]; exact hlen
    subst hsh
    clear hZ hlen
    have HB7 : Hid (Below w.heap.size w w7) := by show Below _ _ _; exact HB6.out.trans (hb7.mono HB6.out.size)
    go_wp2_with fail
    go_at_call 10
    refine (UW.out _).mono ?_
    rintro _ w8 ⟨rfl, hb8⟩
    have hob8 := hob.later hb8
    have hcv := conv_own hob8
    have HB8 : Hid (Below w.heap.size w w8) := by show Below _ _ _; exact HB7.out.trans (hb8.mono HB7.out.size)
    have HB48 : Hid (Below w4.heap.size w4 w8) := by
      show Below _ _ _
      have h1 := HB46.out.trans (hb7.mono HB46.out.size)
      exact h1.trans (hb8.mono h1.size)
    have HS46 : Hid (w4.heap.size ≤ w6.heap.size) := HB46.out.size
    have HOB := hide hob8; have HBB := hide hbb
    have e2 : (((A.2 : Nat) : Int) == ((A.2 : Nat) : Int)) = true := by simp
    have KW := hide (keepS_walk w.heap.size Z 0 ab cb (wd0.withTurned vt) (.slice none 0 0) [] A.1 HZ (by omega) (hide rfl) (by omega) (by omega) w8 ⟨HRW.out.later HB48.out, ownS_nil _ _, fun i sv hs => by simp at hs⟩ hob8 (fun i sv k hs => by simp at hs))
    clear hob hob8 hbb hb7 hb8
    go_wp2_with (go_at_call 11; refine (num_walk _ _).mono ?_; rintro _ wq ⟨rfl, hq⟩; have hq2 := hq.symm; clear hq; subst hq2)
    go_at_call 12
    refine KW.out.mono ?_
    rintro _ w9 ⟨rfl, vb, ns, hnsl, hwb9, hkp9, hvb9, hns9⟩
    have hX : ∀ k, (k = w.heap.size ∨ (Value.slice ab Z cb).ownBlock = some k ∨ (wd0.withTurned vt).bytes.ownBlock = some k) → w.heap.size ≤ k := fun k hk => by
      rcases hk with h | h | h
      · omega
      · exact Nat.le_trans HB6.out.size (HBB.out k h)
      · simp [wd0, Wd.withTurned, Value.ownBlock] at h
    have HB9 : Hid (Below w.heap.size w w9) := by show Below _ _ _; exact HB8.out.trans (hkp9.toBelow hX HB8.out.size)
    have hot8 := HOT.out.later HB48.out
    have hot9 : OwnS w9 27 vt [.slice (some ⟨w.heap.size + 1, 0, none⟩) t t] := hkp9.own hot8 (fun k hk hx => by
      rcases hx with h | h | h
      · subst h; exact hot8.ne_type (HRW.out.later HB48.out) (by decide) hk
      · exact hot8.ne_own HOB.out (by decide) hk h
      · simp [wd0, Wd.withTurned, Value.ownBlock] at h)
    have hg8 := HG4.out.later HB48.out
    have hg9 : RowL w9 (w.heap.size + 1) 5 (List.replicate t (.int .u8 251)) := hkp9.row hg8 (fun hx => by
      rcases hx with h | h | h
      · omega
      · have h1 := HBB.out _ h
        have h2 := HG4.out.lt
        have h3 := HS46.out
        omega
      · simp [wd0, Wd.withTurned, Value.ownBlock] at h)
    have PW2 := hide (fPacket_walk ownText 17 (hide rfl) (by omega) w9 (HA.out.later HB9.out))
    rw [own_untext] at PW2
    have HWB := hide hwb9; have HOT9 := hide hot9; have HG9 := hide hg9
    have HNL : Hid (ns.length = 4) := hnsl
    clear hot8 hot9 hg8 hg9 hwb9 hkp9 hvb9 hns9 hX hnsl
    go_wp2_with fail
    go_at_call 9
    refine PW2.out.mono ?_
    rintro _ w10 ⟨c, rfl, hoc, hcb, hb10⟩
    have hcv2 := conv_own hoc
    have hsb : strOf ownBytes = ⟨#[70, 0, 5, 0, 2, 2, 1, 1, 0, 0, 97, 98]⟩ := by rw [strOf_eq]; rfl
    rw [hsb] at hcv2
    obtain ⟨ac, cc, hsc⟩ := hoc.shape
    rw [u8s_length, show ownBytes.length = 12 from rfl] at hsc
    subst hsc
    have HB10 : Hid (Below w.heap.size w w10) := by show Below _ _ _; exact HB9.out.trans (hb10.mono HB9.out.size)
    have hown1 := HG9.out.own (by rw [List.length_replicate]; unfold maxLen; omega)
    rw [List.length_replicate] at hown1
    have hkept : Kept w10 w.heap.size ((wd0.withTurned vt).withBytes vb) (.slice none 0 0) ns [] [] [.slice (some ⟨w.heap.size + 1, 0, none⟩) t t] [] :=
      { row := HWB.out.row.later hb10, obs := HWB.out.own.later hb10
        ebs := fun i sv hs => by obtain ⟨m, _, h2⟩ := HWB.out.each i sv hs; exact ⟨m, h2.later hb10⟩
        ols := ownS_nil _ _, els := by intro i sv hs; simp at hs
        ons := ownS_nil _ _, ens := by intro i sv hs; simp at hs
        ots := HOT9.out.later hb10
        ets := fun i sv hs => by
          by_cases hi : i = 0
          · subst hi
            simp at hs
            subst hs
            exact ⟨t, hown1.later hb10⟩
          · rw [List.getElem?_eq_none (by simp; omega)] at hs; cases hs
        ogs := ownS_nil _ _, egs := by intro i sv hs; simp at hs }
    have hsm : ∀ (i m : Nat) (sv : Value), ns[i]? = some sv → OwnS w10 5 sv (digs (i / 4 * 4) m) → m < 4611686018427387904 := fun i m sv hs ho => by
      obtain ⟨m', h1, h2⟩ := HWB.out.each i sv hs
      obtain ⟨a1, c1, e1⟩ := ho.shape
      obtain ⟨a2, c2, e2⟩ := h2.shape
      rw [e1] at e2
      injection e2 with _ e3 _
      rw [digs_length, digs_length] at e3
      omega
    have KP := hide (kept_walk w.heap.size _ _ ns [] [] _ [] w10 hkept (by rw [HNL.out]; omega) (by simp) (by simp) hsm)
    clear hkept hsm hown1 hoc hcb hb10
    go_wp2_with fail
    go_at_call 13
    refine KP.out.mono ?_
    rintro _ w11 ⟨rfl, nq, hw11⟩
    have HB11 : Hid (Below w.heap.size w w11) := by
      rw [hw11]
      show Below _ _ _
      exact ⟨HB10.out.os, HB10.out.tape, HB10.out.output, HB10.out.size, HB10.out.block⟩
    clear hw11
    go_wp2
    go_ret
    exact ⟨rfl, HB11.out⟩
end Go.Proofs.YtmfpiodlecapiaaDoor
